/-
  The parser takes a token that is one of those asked for.
-/
import Derived.Test.YtadogobdlcionaaDoorRb
namespace Go.Proofs.YtadogobdlcionaaDoor
open Go.ChangeShapes Go.WideShapes Go.ChangeAt Go.RowKit
set_option linter.unusedVariables false
/-- A function that tells of a token what a predicate tells. -/
def Tells (f : Nat) (s : ByteArray) (pr : (Nat × Tok) → Bool) : Prop := (∀ args w, (callFunc f args).run Tryd.prog w = .ok (.enter f args) w) ∧ ∀ w x, Calls Tryd.prog f #[.agg (tokC s x).toArray] w fun y w' => y = .returned (.bool (pr x)) ∧ Turn (fun _ => False) w w'
theorem ParAt.turnS {W W' : World} {S : Nat → Prop} {p base : Nat} {s : ByteArray} {L : List (Nat × Tok)} {v : Value} {i e nest : Nat} (h : ParAt W p base s L v i e nest) (T : Turn S W W') (hp : ¬ S p) (ho : ∀ k, v.ownBlock = some k → ¬ S k) : ParAt W' p base s L v i e nest :=
  ⟨h.bl.turn T hp, T.cell hp h.c0, T.cell hp h.c1, T.cell hp h.c2, T.cell hp h.c3, own_turn h.row T ho, h.le⟩
/-- A token is written to the result. -/
theorem take_end {W : World} {b : Nat} {a : Act} {Q : Ending → World → Prop} (R : W.rangeAt b 0 ztok) (B : Blk W b 67) (k i n : Int) (t : ByteArray) (hd : a.defers = []) (hp : a.tmps.getD 4 undef = .pointer (some ⟨b, 0, none⟩))
    (hq : Q (.returned (.agg (tokL k i n t).toArray)) ((((W.setCell ⟨b, 0, none⟩ (.int .i64 k)).setCell ⟨b, 1, none⟩ (.int .i64 i)).setCell ⟨b, 2, none⟩ (.string t)).setCell ⟨b, 3, none⟩ (.int .i64 n))) :
    bodyPost Tryd.prog Tryd.f22 Q Exit.ret a ((((W.setCell ⟨b, 0, none⟩ (.int .i64 k)).setCell ⟨b, 1, none⟩ (.int .i64 i)).setCell ⟨b, 2, none⟩ (.string t)).setCell ⟨b, 3, none⟩ (.int .i64 n)) :=
  have R2 := World.rangeAt_setCells_same W b 0 (tokL k i n t) (range_there R rfl B)
  bodyPost_ret (v := .agg (tokL k i n t).toArray) (res_cell (a := 4) rfl hp (run_loadVar_mid _ b 0 67 _ _ R2 Tryd.underlying67 rfl size67)) hd hq
set_option maxRecDepth 100000 in
set_option maxHeartbeats 4000000 in
theorem take_none (w : World) {p base : Nat} {s : ByteArray} {L : List (Nat × Tok)} {v : Value} {i e nest : Nat} (h : ParAt w p base s L v i e nest) (hi : L.length ≤ i) (f : Nat) :
    Calls Tryd.prog 22 #[.pointer (some ⟨p, 0, none⟩), .func (.func f) #[] #[]] w fun y w' => y = stopE e 11 ∧ Turn (fun _ => False) w w' := by
  have T0 : Turn (fun _ => False) w (w.alloc (.cells #[.int .i64 0, .int .i64 0, .string ⟨#[]⟩, .int .i64 0] 67)) := (Turn.refl _ _).alloc _
  have PK := Lib.hid (peek_none _ (h.turn T0) hi)
  have RF := Lib.hid (fun (w' : World) (T : Turn (fun _ => False) w w') => refuse_is w' (h.turn T))
  have hp : placeE L e i = e := by unfold placeE; rw [List.getElem?_eq_none hi]
  rw [hp] at RF
  have HT := Lib.hid T0
  clear h hi hp T0
  unfold ztok at PK
  go_enter Tryd.func22, Tryd.ntmps22
  go_wp2_with fail
  with_reducible refine PK.out.mono ?_
  rintro y w1 ⟨rfl, T1⟩
  have F := Lib.hid ((HT.out.trans T1).trans (show Turn (fun _ => False) w1 (w1.alloc (.cells #[.int .i64 0, .int .i64 0, .string ⟨#[]⟩, .int .i64 0] 67)) from (Turn.refl _ _).alloc _))
  have R1 := Lib.hid (RF.out _ F.out)
  clear T1
  go_wp2_with fail
  with_reducible refine R1.out.mono ?_
  rintro y w2 ⟨rfl, T2⟩
  have G := Lib.hid (F.out.trans T2)
  clear T2
  unfold stopE
  go_wp2_with fail
  exact ⟨rfl, rfl, G.out⟩
set_option maxRecDepth 100000 in
set_option maxHeartbeats 4000000 in
theorem take_some (w : World) {p base : Nat} {s : ByteArray} {L : List (Nat × Tok)} {v : Value} {i e nest : Nat} (h : ParAt w p base s L v i e nest) {x : Nat × Tok} (hx : L[i]? = some x) {f : Nat} {pr : (Nat × Tok) → Bool} (hf : Tells f s pr) :
    Calls Tryd.prog 22 #[.pointer (some ⟨p, 0, none⟩), .func (.func f) #[] #[]] w fun y w' => (pr x = true ∧ y = .returned (.agg (tokC s x).toArray) ∧ Turn (fun k => k = p) w w' ∧ ParAt w' p base s L v (i + 1) e nest) ∨ (pr x = false ∧ y = stopE x.1 11 ∧ Turn (fun k => k = p) w w') := by
  obtain ⟨ent, hf⟩ := hf
  have T0 : Turn (fun _ => False) w (w.alloc (.cells #[.int .i64 0, .int .i64 0, .string ⟨#[]⟩, .int .i64 0] 67)) := (Turn.refl _ _).alloc _
  have R0 := range_new w ztok 67
  have B0 := Blk.new w ztok 67
  have PK := Lib.hid (peek_some _ (h.turn T0) hx)
  have RF := Lib.hid (fun (w' : World) (T : Turn (fun _ => False) w w') => refuse_is w' (h.turn T))
  have hp : placeE L e i = x.1 := by unfold placeE; rw [hx]
  rw [hp] at RF
  have hi := (List.getElem?_eq_some_iff.1 hx).1
  have hw : wrap64 ((i : Int) + 1) = ((i + 1 : Nat) : Int) := by have := h.le; unfold wrap64; omega
  have hlt := h.bl.lt
  have FX := Lib.hid (fun w => hf w x)
  have HT := Lib.hid (And.intro T0 (And.intro R0 B0))
  have HP := Lib.hid (And.intro h hlt)
  clear h hx hp T0 R0 B0 hf hi hlt
  unfold tokC tokL at PK FX
  obtain ⟨tx, htx⟩ : ∃ tx, tx = s.extract x.1 (x.1 + x.2.len) := ⟨_, rfl⟩
  rw [← htx] at PK
  simp only [← htx] at FX
  have HX := Lib.hid htx
  clear htx
  go_enter Tryd.func22, Tryd.ntmps22
  go_wp2_with fail
  with_reducible refine PK.out.mono ?_
  rintro y w1 ⟨rfl, T1⟩
  obtain ⟨W, hW⟩ : ∃ W, W = w1.alloc (.cells #[.int .i64 (x.2.kind : Int), .int .i64 (x.1 : Int), .string tx, .int .i64 (x.2.n : Int)] 67) := ⟨_, rfl⟩
  have T2 : Turn (fun _ => False) w1 W := by rw [hW]; exact (Turn.refl _ _).alloc _
  have d0 : W.cell? ⟨w1.heap.size, 0, none⟩ = some (.int .i64 (x.2.kind : Int)) := by rw [hW]; exact cell_new rfl rfl
  have d1 : W.cell? ⟨w1.heap.size, 1, none⟩ = some (.int .i64 (x.1 : Int)) := by rw [hW]; exact cell_new rfl rfl
  have d2 : W.cell? ⟨w1.heap.size, 2, none⟩ = some (.string tx) := by rw [hW]; exact cell_new rfl rfl
  have d3 : W.cell? ⟨w1.heap.size, 3, none⟩ = some (.int .i64 (x.2.n : Int)) := by rw [hW]; exact cell_new rfl rfl
  have hs1 := T1.size
  rw [World.size_alloc] at hs1
  have F := Lib.hid (And.intro ((HT.out.1.trans T1).trans T2) (And.intro (range_turn HT.out.2.1 (T1.trans T2) id) (And.intro (HT.out.2.2.turn (T1.trans T2) id) hs1)))
  have HW := Lib.hid hW
  have FW := Lib.hid (FX.out W)
  clear T1 T2 hW hs1
  go_upto_region 2 with fail
  rw [← HW.out]
  go_wp2_with fail
  with_reducible refine FW.out.mono ?_
  rintro y w3 ⟨rfl, T3⟩
  replace d0 := T3.cell id d0
  replace d1 := T3.cell id d1
  replace d2 := T3.cell id d2
  replace d3 := T3.cell id d3
  have F3 := Lib.hid (And.intro (F.out.1.trans T3) (And.intro (range_turn F.out.2.1 T3 id) (F.out.2.2.1.turn T3 id)))
  clear T3
  cases hb : pr x with
  | true =>
    have P3 := HP.out.1.turn F3.out.1
    have c1 := P3.c1
    have f1 := P3.bl.fz
    have P4 := P3.go (i + 1)
    have TP := Turn.put w3 p 1 (.int .i64 ((i + 1 : Nat) : Int))
    have n1 : p ≠ w1.heap.size := by have := HP.out.2; have := F.out.2.2.2; omega
    have n2 : p ≠ w.heap.size := by have := HP.out.2; omega
    have n3 : w1.heap.size ≠ w.heap.size := by have := F.out.2.2.2; omega
    have e0 := TP.cell (show ¬ w1.heap.size = p by omega) d0
    have e1 := TP.cell (show ¬ w1.heap.size = p by omega) d1
    have e2 := TP.cell (show ¬ w1.heap.size = p by omega) d2
    have e3 := TP.cell (show ¬ w1.heap.size = p by omega) d3
    have R4 := range_turn F3.out.2.1 TP (by omega)
    have B4 := F3.out.2.2.turn TP (by omega)
    have y0 : (w3.setCell ⟨p, 1, none⟩ (.int .i64 ((i + 1 : Nat) : Int))).cell? ⟨w.heap.size, 0, none⟩ = some (.int .i64 0) := R4 0 _ rfl
    have y1 : (w3.setCell ⟨p, 1, none⟩ (.int .i64 ((i + 1 : Nat) : Int))).cell? ⟨w.heap.size, 1, none⟩ = some (.int .i64 0) := R4 1 _ rfl
    have y2 : (w3.setCell ⟨p, 1, none⟩ (.int .i64 ((i + 1 : Nat) : Int))).cell? ⟨w.heap.size, 2, none⟩ = some (.string ⟨#[]⟩) := R4 2 _ rfl
    have y3 : (w3.setCell ⟨p, 1, none⟩ (.int .i64 ((i + 1 : Nat) : Int))).cell? ⟨w.heap.size, 3, none⟩ = some (.int .i64 0) := R4 3 _ rfl
    have ff := B4.fz
    have TE : Turn (fun k => k = w.heap.size) (w3.setCell ⟨p, 1, none⟩ (.int .i64 ((i + 1 : Nat) : Int))) ((w3.setCell ⟨p, 1, none⟩ (.int .i64 ((i + 1 : Nat) : Int))).setCells w.heap.size 0 (tokL x.2.kind x.1 x.2.n tx)) := Turn.setCells _ 0 (Turn.refl _ _) (.inl rfl)
    have G := Lib.hid (And.intro R4 (And.intro B4 (And.intro (((F3.out.1.more (fun _ _ f => f.elim)).trans TP).comp TE (fun k hk q => by omega)) (show ParAt ((w3.setCell ⟨p, 1, none⟩ (.int .i64 ((i + 1 : Nat) : Int))).setCells w.heap.size 0 (tokL x.2.kind x.1 x.2.n tx)) p base s L v (i + 1) e nest from P4.turnS TE (by omega) (fun k hk q => by have := (own_blk HP.out.1.row hk).1.lt; omega)))))
    obtain ⟨W4, hW4⟩ : ∃ W, W = w3.setCell ⟨p, 1, none⟩ (.int .i64 ((i + 1 : Nat) : Int)) := ⟨_, rfl⟩
    rw [← hW4] at e0 e1 e2 e3 y0 y1 y2 y3 ff G
    obtain ⟨z, hz⟩ : ∃ z : Int, z = ((i + 1 : Nat) : Int) := ⟨_, rfl⟩
    rw [← hz] at hw hW4
    have HW4 := Lib.hid hW4
    clear hW4 hz TP R4 B4 P3 P4 TE d0 d1 d2 d3
    go_upto_region 5 with fail
    rw [← HW4.out]
    go_wp2_with fail
    have hxx := HX.out
    refine take_end G.out.1 G.out.2.1 x.2.kind x.1 x.2.n tx rfl rfl (.inl ⟨hb, ?_, G.out.2.2.1, G.out.2.2.2⟩)
    rw [hxx]
    rfl
  | false =>
    have R1 := Lib.hid (RF.out _ F3.out.1)
    go_wp2_with fail
    with_reducible refine R1.out.mono ?_
    rintro y w4 ⟨rfl, T4⟩
    have G := Lib.hid ((F3.out.1.trans T4).more (S' := fun k => k = p) (fun _ _ f => f.elim))
    clear T4
    unfold stopE
    go_wp2_with fail
    exact ⟨rfl, .inr ⟨hb, rfl, G.out⟩⟩
end Go.Proofs.YtadogobdlcionaaDoor
