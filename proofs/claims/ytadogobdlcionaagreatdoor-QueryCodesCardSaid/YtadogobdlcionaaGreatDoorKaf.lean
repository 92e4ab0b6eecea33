/-
  What the parser asks of the next token.
  The parser takes a token that is one of those asked for.
  What kinds of tokens are asked for.
  The parser reads an element.
-/
import Derived.Test.YtadogobdlcionaaGreatDoorKae
set_option linter.unusedSimpArgs false
namespace Go.Proofs.YtadogobdlcionaaGreatDoor
open Go.ChangeShapes Go.WideShapes Go.ChangeAt Go.RowKit
set_option linter.unusedVariables false
/-- The text of a token. -/
def textOf (s : ByteArray) (x : Nat × Tok) : ByteArray := s.extract x.1 (x.1 + x.2.len)
theorem text_beq (a b : ByteArray) : (a.toList == b.toList) = decide (a = b) := by
  rw [ByteArray.toList_eq, ByteArray.toList_eq, Bool.eq_iff_iff]
  simp only [beq_iff_eq, decide_eq_true_eq]
  constructor
  · intro h
    cases a
    cases b
    congr
    exact Array.toList_inj.1 h
  · rintro rfl
    rfl
set_option maxRecDepth 100000 in
set_option maxHeartbeats 2000000 in
theorem has_none (w : World) {p base : Nat} {s : ByteArray} {L : List (Nat × Tok)} {v : Value} {i e nest : Nat} (h : ParAt w p base s L v i e nest) (hi : L.length ≤ i) (t : ByteArray) :
    Calls Tryz.prog 53 #[.pointer (some ⟨p, 0, none⟩), .string t] w fun y w' => y = .returned (.bool false) ∧ Turn (fun _ => False) w w' := by
  have PK := Lib.hid (peek_none w h hi)
  clear h hi
  unfold ztok at PK
  go_enter Tryz.func53, Tryz.ntmps53
  go_wp2_with fail
  with_reducible refine PK.out.mono ?_
  rintro y w1 ⟨rfl, T1⟩
  have F := Lib.hid (T1.trans (show Turn (fun _ => False) w1 (w1.alloc (.cells #[.int .i64 0, .int .i64 0, .string ⟨#[]⟩, .int .i64 0] 65)) from (Turn.refl _ _).alloc _))
  clear T1
  go_wp2_with fail
  go_ret
  exact ⟨rfl, F.out⟩
set_option maxRecDepth 100000 in
set_option maxHeartbeats 2000000 in
theorem has_some (w : World) {p base : Nat} {s : ByteArray} {L : List (Nat × Tok)} {v : Value} {i e nest : Nat} (h : ParAt w p base s L v i e nest) {x : Nat × Tok} (hx : L[i]? = some x) (t : ByteArray) :
    Calls Tryz.prog 53 #[.pointer (some ⟨p, 0, none⟩), .string t] w fun y w' => (textOf s x = t ∧ y = .returned (.bool true) ∧ Turn (fun k => k = p) w w' ∧ ParAt w' p base s L v (i + 1) e nest) ∨ (textOf s x ≠ t ∧ y = .returned (.bool false) ∧ Turn (fun _ => False) w w') := by
  have PK := Lib.hid (peek_some w h hx)
  have HP := Lib.hid h
  have hi := (List.getElem?_eq_some_iff.1 hx).1
  have hw : wrap64 ((i : Int) + 1) = ((i + 1 : Nat) : Int) := by have := h.le; unfold wrap64; omega
  have hlt := h.bl.lt
  have HL := Lib.hid hlt
  clear h hx hi hlt
  unfold tokC tokL at PK
  obtain ⟨tx, htx⟩ : ∃ tx, tx = textOf s x := ⟨_, rfl⟩
  rw [show s.extract x.1 (x.1 + x.2.len) = tx from htx.symm] at PK
  rw [← htx]
  clear htx
  go_enter Tryz.func53, Tryz.ntmps53
  go_wp2_with fail
  with_reducible refine PK.out.mono ?_
  rintro y w1 ⟨rfl, T1⟩
  obtain ⟨W, hW⟩ : ∃ W, W = w1.alloc (.cells #[.int .i64 (x.2.kind : Int), .int .i64 (x.1 : Int), .string tx, .int .i64 (x.2.n : Int)] 65) := ⟨_, rfl⟩
  have T2 : Turn (fun _ => False) w1 W := by rw [hW]; exact (Turn.refl _ _).alloc _
  have d2 : W.cell? ⟨w1.heap.size, 2, none⟩ = some (.string tx) := by rw [hW]; exact cell_new rfl rfl
  have P2 := (HP.out.turn T1).turn T2
  have c1 := P2.c1
  have f1 := P2.bl.fz
  have F := Lib.hid (And.intro (T1.trans T2) P2)
  have HW := Lib.hid hW
  clear T1 T2 P2 hW
  go_upto_region 2 with fail
  rw [← HW.out]
  by_cases ht : tx = t
  · have u1 : (tx.toList == t.toList) = true := by rw [text_beq]; exact decide_eq_true ht
    have H := Lib.hid ht
    clear ht
    have TP := Turn.put W p 1 (.int .i64 ((i + 1 : Nat) : Int))
    have G := Lib.hid (And.intro ((F.out.1.more (fun _ _ f => f.elim)).trans TP) (F.out.2.go (i + 1)))
    obtain ⟨z, hz⟩ : ∃ z : Int, z = ((i + 1 : Nat) : Int) := ⟨_, rfl⟩
    rw [← hz] at hw G
    clear hz TP
    go_wp2_with fail
    go_ret
    exact .inl ⟨H.out, rfl, G.out⟩
  · have u1 : (tx.toList == t.toList) = false := by rw [text_beq]; exact decide_eq_false ht
    have H := Lib.hid ht
    clear ht
    go_wp2_with fail
    go_ret
    exact .inr ⟨H.out, rfl, F.out.1⟩
/-- What the parser panics with. -/
def stopE (a r : Nat) : Ending := .panicked [{ v := .iface 83 (.agg #[.int .i64 (a : Int), .int .i64 (r : Int)]), recovered := false }]
/-- Where the parser stands, in the text. -/
def placeE (L : List (Nat × Tok)) (e i : Nat) : Nat := match L[i]? with
  | some x => x.1
  | none => e
set_option maxRecDepth 100000 in
set_option maxHeartbeats 2000000 in
theorem refuse_is (w : World) {p base : Nat} {s : ByteArray} {L : List (Nat × Tok)} {v : Value} {i e nest : Nat} (h : ParAt w p base s L v i e nest) :
    Calls Tryz.prog 58 #[.pointer (some ⟨p, 0, none⟩)] w fun y w' => y = stopE (placeE L e i) 11 ∧ Turn (fun _ => False) w w' := by
  have c2 := h.c2
  cases hx : L[i]? with
  | none =>
    have PK := Lib.hid (peek_none w h (by rw [List.getElem?_eq_none_iff] at hx; exact hx))
    have hp : placeE L e i = e := by unfold placeE; rw [hx]
    rw [hp]
    clear h hx hp
    unfold ztok at PK
    go_enter Tryz.func58, Tryz.ntmps58
    go_wp2_with fail
    with_reducible refine PK.out.mono ?_
    rintro y w1 ⟨rfl, T1⟩
    have F := Lib.hid (T1.trans (show Turn (fun _ => False) w1 (w1.alloc (.cells #[.int .i64 0, .int .i64 0, .string ⟨#[]⟩, .int .i64 0] 65)) from (Turn.refl _ _).alloc _))
    clear T1
    go_wp2_with fail
    exact ⟨rfl, rfl, F.out⟩
  | some x =>
    have PK := Lib.hid (peek_some w h hx)
    have hp : placeE L e i = x.1 := by unfold placeE; rw [hx]
    rw [hp]
    clear h hx hp
    unfold tokC tokL at PK
    generalize s.extract x.1 (x.1 + x.2.len) = tx at *
    go_enter Tryz.func58, Tryz.ntmps58
    go_wp2_with fail
    with_reducible refine PK.out.mono ?_
    rintro y w1 ⟨rfl, T1⟩
    have F := Lib.hid (T1.trans (show Turn (fun _ => False) w1 (w1.alloc (.cells #[.int .i64 (x.2.kind : Int), .int .i64 (x.1 : Int), .string tx, .int .i64 (x.2.n : Int)] 65)) from (Turn.refl _ _).alloc _))
    clear T1
    go_wp2_with fail
    exact ⟨rfl, rfl, F.out⟩
/-- Does a token of that text stand there? -/
def hasB (s : ByteArray) (L : List (Nat × Tok)) (t : ByteArray) (i : Nat) : Bool := match L[i]? with
  | some x => decide (textOf s x = t)
  | none => false
/-- Both at once. -/
theorem has_is (w : World) {p base : Nat} {s : ByteArray} {L : List (Nat × Tok)} {v : Value} {i e nest : Nat} (h : ParAt w p base s L v i e nest) (t : ByteArray) :
    Calls Tryz.prog 53 #[.pointer (some ⟨p, 0, none⟩), .string t] w fun y w' => y = .returned (.bool (hasB s L t i)) ∧ Turn (fun k => k = p) w w' ∧ ParAt w' p base s L v (if hasB s L t i then i + 1 else i) e nest := by
  cases hx : L[i]? with
  | none =>
    have hb : hasB s L t i = false := by unfold hasB; rw [hx]
    rw [hb]
    refine (has_none w h (by rw [List.getElem?_eq_none_iff] at hx; exact hx) t).mono ?_
    rintro y w' ⟨rfl, T⟩
    exact ⟨rfl, T.more (fun _ _ f => f.elim), h.turn T⟩
  | some x =>
    have hb : hasB s L t i = decide (textOf s x = t) := by unfold hasB; rw [hx]
    rw [hb]
    refine (has_some w h hx t).mono ?_
    rintro y w' (⟨ht, rfl, T, P⟩ | ⟨ht, rfl, T⟩)
    · rw [decide_eq_true ht]
      exact ⟨rfl, T, P⟩
    · rw [decide_eq_false ht]
      exact ⟨rfl, T.more (fun _ _ f => f.elim), h.turn T⟩
set_option maxRecDepth 100000 in
set_option maxHeartbeats 2000000 in
theorem want_is (w : World) {p base : Nat} {s : ByteArray} {L : List (Nat × Tok)} {v : Value} {i e nest : Nat} (h : ParAt w p base s L v i e nest) (t : ByteArray) :
    Calls Tryz.prog 51 #[.pointer (some ⟨p, 0, none⟩), .string t] w fun y w' => (hasB s L t i = true ∧ y = .returned (.tuple #[]) ∧ Turn (fun k => k = p) w w' ∧ ParAt w' p base s L v (i + 1) e nest) ∨ (hasB s L t i = false ∧ y = stopE (placeE L e i) 11 ∧ Turn (fun k => k = p) w w') := by
  have HS := Lib.hid (has_is w h t)
  have RF := Lib.hid (fun (w' : World) (h : ParAt w' p base s L v i e nest) => refuse_is w' h)
  clear h
  go_enter Tryz.func51, Tryz.ntmps51
  go_wp2_with fail
  with_reducible refine HS.out.mono ?_
  rintro y w1 ⟨rfl, T1, P1⟩
  cases hb : hasB s L t i with
  | true =>
    rw [hb] at P1
    have F := Lib.hid (And.intro T1 P1)
    clear T1 P1
    go_wp2_with fail
    go_end0
    exact .inl ⟨hb, rfl, F.out⟩
  | false =>
    rw [hb] at P1
    have R1 := Lib.hid (RF.out w1 P1)
    have F := Lib.hid T1
    clear T1 P1
    go_wp2_with fail
    with_reducible refine R1.out.mono ?_
    rintro y w2 ⟨rfl, T2⟩
    have G := Lib.hid (F.out.trans (T2.more (fun _ _ f => f.elim)))
    clear T2
    unfold stopE
    go_wp2_with fail
    exact ⟨rfl, .inr ⟨hb, rfl, G.out⟩⟩
end Go.Proofs.YtadogobdlcionaaGreatDoor
namespace Go.Proofs.YtadogobdlcionaaGreatDoor
open Go.ChangeShapes Go.WideShapes Go.ChangeAt Go.RowKit
set_option linter.unusedVariables false
/-- A function that tells of a token what a predicate tells. -/
def Tells (f : Nat) (s : ByteArray) (pr : (Nat × Tok) → Bool) : Prop := (∀ args w, (callFunc f args).run Tryz.prog w = .ok (.enter f args) w) ∧ ∀ w x, Calls Tryz.prog f #[.agg (tokC s x).toArray] w fun y w' => y = .returned (.bool (pr x)) ∧ Turn (fun _ => False) w w'
theorem ParAt.turnS {W W' : World} {S : Nat → Prop} {p base : Nat} {s : ByteArray} {L : List (Nat × Tok)} {v : Value} {i e nest : Nat} (h : ParAt W p base s L v i e nest) (T : Turn S W W') (hp : ¬ S p) (ho : ∀ k, v.ownBlock = some k → ¬ S k) : ParAt W' p base s L v i e nest :=
  ⟨h.bl.turn T hp, T.cell hp h.c0, T.cell hp h.c1, T.cell hp h.c2, T.cell hp h.c3, own_turn h.row T ho, h.le⟩
/-- A token is written to the result. -/
theorem take_end {W : World} {b : Nat} {a : Act} {Q : Ending → World → Prop} (R : W.rangeAt b 0 ztok) (B : Blk W b 65) (k i n : Int) (t : ByteArray) (hd : a.defers = []) (hp : a.tmps.getD 4 undef = .pointer (some ⟨b, 0, none⟩))
    (hq : Q (.returned (.agg (tokL k i n t).toArray)) ((((W.setCell ⟨b, 0, none⟩ (.int .i64 k)).setCell ⟨b, 1, none⟩ (.int .i64 i)).setCell ⟨b, 2, none⟩ (.string t)).setCell ⟨b, 3, none⟩ (.int .i64 n))) :
    bodyPost Tryz.prog Tryz.f55 Q Exit.ret a ((((W.setCell ⟨b, 0, none⟩ (.int .i64 k)).setCell ⟨b, 1, none⟩ (.int .i64 i)).setCell ⟨b, 2, none⟩ (.string t)).setCell ⟨b, 3, none⟩ (.int .i64 n)) :=
  have R2 := World.rangeAt_setCells_same W b 0 (tokL k i n t) (range_there R rfl B)
  bodyPost_ret (v := .agg (tokL k i n t).toArray) (res_cell (a := 4) rfl hp (run_loadVar_mid _ b 0 65 _ _ R2 Tryz.underlying65 rfl size67)) hd hq
set_option maxRecDepth 100000 in
set_option maxHeartbeats 4000000 in
theorem take_none (w : World) {p base : Nat} {s : ByteArray} {L : List (Nat × Tok)} {v : Value} {i e nest : Nat} (h : ParAt w p base s L v i e nest) (hi : L.length ≤ i) (f : Nat) :
    Calls Tryz.prog 55 #[.pointer (some ⟨p, 0, none⟩), .func (.func f) #[] #[]] w fun y w' => y = stopE e 11 ∧ Turn (fun _ => False) w w' := by
  have T0 : Turn (fun _ => False) w (w.alloc (.cells #[.int .i64 0, .int .i64 0, .string ⟨#[]⟩, .int .i64 0] 65)) := (Turn.refl _ _).alloc _
  have PK := Lib.hid (peek_none _ (h.turn T0) hi)
  have RF := Lib.hid (fun (w' : World) (T : Turn (fun _ => False) w w') => refuse_is w' (h.turn T))
  have hp : placeE L e i = e := by unfold placeE; rw [List.getElem?_eq_none hi]
  rw [hp] at RF
  have HT := Lib.hid T0
  clear h hi hp T0
  unfold ztok at PK
  go_enter Tryz.func55, Tryz.ntmps55
  go_wp2_with fail
  with_reducible refine PK.out.mono ?_
  rintro y w1 ⟨rfl, T1⟩
  have F := Lib.hid ((HT.out.trans T1).trans (show Turn (fun _ => False) w1 (w1.alloc (.cells #[.int .i64 0, .int .i64 0, .string ⟨#[]⟩, .int .i64 0] 65)) from (Turn.refl _ _).alloc _))
  have R1 := Lib.hid (RF.out _ F.out)
  clear T1
  go_wp2_with fail
  with_reducible refine R1.out.mono ?_
  rintro y w2 ⟨rfl, T2⟩
  have G := Lib.hid (F.out.trans T2)
  clear T2
  unfold stopE
  go_wp2_with fail
  exact ⟨rfl, rfl, G.out⟩
set_option maxRecDepth 100000 in
set_option maxHeartbeats 4000000 in
theorem take_some (w : World) {p base : Nat} {s : ByteArray} {L : List (Nat × Tok)} {v : Value} {i e nest : Nat} (h : ParAt w p base s L v i e nest) {x : Nat × Tok} (hx : L[i]? = some x) {f : Nat} {pr : (Nat × Tok) → Bool} (hf : Tells f s pr) :
    Calls Tryz.prog 55 #[.pointer (some ⟨p, 0, none⟩), .func (.func f) #[] #[]] w fun y w' => (pr x = true ∧ y = .returned (.agg (tokC s x).toArray) ∧ Turn (fun k => k = p) w w' ∧ ParAt w' p base s L v (i + 1) e nest) ∨ (pr x = false ∧ y = stopE x.1 11 ∧ Turn (fun k => k = p) w w') := by
  obtain ⟨ent, hf⟩ := hf
  have T0 : Turn (fun _ => False) w (w.alloc (.cells #[.int .i64 0, .int .i64 0, .string ⟨#[]⟩, .int .i64 0] 65)) := (Turn.refl _ _).alloc _
  have R0 := range_new w ztok 65
  have B0 := Blk.new w ztok 65
  have PK := Lib.hid (peek_some _ (h.turn T0) hx)
  have RF := Lib.hid (fun (w' : World) (T : Turn (fun _ => False) w w') => refuse_is w' (h.turn T))
  have hp : placeE L e i = x.1 := by unfold placeE; rw [hx]
  rw [hp] at RF
  have hi := (List.getElem?_eq_some_iff.1 hx).1
  have hw : wrap64 ((i : Int) + 1) = ((i + 1 : Nat) : Int) := by have := h.le; unfold wrap64; omega
  have hlt := h.bl.lt
  have FX := Lib.hid (fun w => hf w x)
  have HT := Lib.hid (And.intro T0 (And.intro R0 B0))
  have HP := Lib.hid (And.intro h hlt)
  clear h hx hp T0 R0 B0 hf hi hlt
  unfold tokC tokL at PK FX
  obtain ⟨tx, htx⟩ : ∃ tx, tx = s.extract x.1 (x.1 + x.2.len) := ⟨_, rfl⟩
  rw [← htx] at PK
  simp only [← htx] at FX
  have HX := Lib.hid htx
  clear htx
  go_enter Tryz.func55, Tryz.ntmps55
  go_wp2_with fail
  with_reducible refine PK.out.mono ?_
  rintro y w1 ⟨rfl, T1⟩
  obtain ⟨W, hW⟩ : ∃ W, W = w1.alloc (.cells #[.int .i64 (x.2.kind : Int), .int .i64 (x.1 : Int), .string tx, .int .i64 (x.2.n : Int)] 65) := ⟨_, rfl⟩
  have T2 : Turn (fun _ => False) w1 W := by rw [hW]; exact (Turn.refl _ _).alloc _
  have d0 : W.cell? ⟨w1.heap.size, 0, none⟩ = some (.int .i64 (x.2.kind : Int)) := by rw [hW]; exact cell_new rfl rfl
  have d1 : W.cell? ⟨w1.heap.size, 1, none⟩ = some (.int .i64 (x.1 : Int)) := by rw [hW]; exact cell_new rfl rfl
  have d2 : W.cell? ⟨w1.heap.size, 2, none⟩ = some (.string tx) := by rw [hW]; exact cell_new rfl rfl
  have d3 : W.cell? ⟨w1.heap.size, 3, none⟩ = some (.int .i64 (x.2.n : Int)) := by rw [hW]; exact cell_new rfl rfl
  have hs1 := T1.size
  rw [World.size_alloc] at hs1
  have F := Lib.hid (And.intro ((HT.out.1.trans T1).trans T2) (And.intro (range_turn HT.out.2.1 (T1.trans T2) id) (And.intro (HT.out.2.2.turn (T1.trans T2) id) hs1)))
  have HW := Lib.hid hW
  have FW := Lib.hid (FX.out W)
  clear T1 T2 hW hs1
  go_upto_region 2 with fail
  rw [← HW.out]
  go_wp2_with fail
  with_reducible refine FW.out.mono ?_
  rintro y w3 ⟨rfl, T3⟩
  replace d0 := T3.cell id d0
  replace d1 := T3.cell id d1
  replace d2 := T3.cell id d2
  replace d3 := T3.cell id d3
  have F3 := Lib.hid (And.intro (F.out.1.trans T3) (And.intro (range_turn F.out.2.1 T3 id) (F.out.2.2.1.turn T3 id)))
  clear T3
  cases hb : pr x with
  | true =>
    have P3 := HP.out.1.turn F3.out.1
    have c1 := P3.c1
    have f1 := P3.bl.fz
    have P4 := P3.go (i + 1)
    have TP := Turn.put w3 p 1 (.int .i64 ((i + 1 : Nat) : Int))
    have n1 : p ≠ w1.heap.size := by have := HP.out.2; have := F.out.2.2.2; omega
    have n2 : p ≠ w.heap.size := by have := HP.out.2; omega
    have n3 : w1.heap.size ≠ w.heap.size := by have := F.out.2.2.2; omega
    have e0 := TP.cell (show ¬ w1.heap.size = p by omega) d0
    have e1 := TP.cell (show ¬ w1.heap.size = p by omega) d1
    have e2 := TP.cell (show ¬ w1.heap.size = p by omega) d2
    have e3 := TP.cell (show ¬ w1.heap.size = p by omega) d3
    have R4 := range_turn F3.out.2.1 TP (by omega)
    have B4 := F3.out.2.2.turn TP (by omega)
    have y0 : (w3.setCell ⟨p, 1, none⟩ (.int .i64 ((i + 1 : Nat) : Int))).cell? ⟨w.heap.size, 0, none⟩ = some (.int .i64 0) := R4 0 _ rfl
    have y1 : (w3.setCell ⟨p, 1, none⟩ (.int .i64 ((i + 1 : Nat) : Int))).cell? ⟨w.heap.size, 1, none⟩ = some (.int .i64 0) := R4 1 _ rfl
    have y2 : (w3.setCell ⟨p, 1, none⟩ (.int .i64 ((i + 1 : Nat) : Int))).cell? ⟨w.heap.size, 2, none⟩ = some (.string ⟨#[]⟩) := R4 2 _ rfl
    have y3 : (w3.setCell ⟨p, 1, none⟩ (.int .i64 ((i + 1 : Nat) : Int))).cell? ⟨w.heap.size, 3, none⟩ = some (.int .i64 0) := R4 3 _ rfl
    have ff := B4.fz
    have TE : Turn (fun k => k = w.heap.size) (w3.setCell ⟨p, 1, none⟩ (.int .i64 ((i + 1 : Nat) : Int))) ((w3.setCell ⟨p, 1, none⟩ (.int .i64 ((i + 1 : Nat) : Int))).setCells w.heap.size 0 (tokL x.2.kind x.1 x.2.n tx)) := Turn.setCells _ 0 (Turn.refl _ _) (.inl rfl)
    have G := Lib.hid (And.intro R4 (And.intro B4 (And.intro (((F3.out.1.more (fun _ _ f => f.elim)).trans TP).comp TE (fun k hk q => by omega)) (show ParAt ((w3.setCell ⟨p, 1, none⟩ (.int .i64 ((i + 1 : Nat) : Int))).setCells w.heap.size 0 (tokL x.2.kind x.1 x.2.n tx)) p base s L v (i + 1) e nest from P4.turnS TE (by omega) (fun k hk q => by have := (own_blk HP.out.1.row hk).1.lt; omega)))))
    obtain ⟨W4, hW4⟩ : ∃ W, W = w3.setCell ⟨p, 1, none⟩ (.int .i64 ((i + 1 : Nat) : Int)) := ⟨_, rfl⟩
    rw [← hW4] at e0 e1 e2 e3 y0 y1 y2 y3 ff G
    obtain ⟨z, hz⟩ : ∃ z : Int, z = ((i + 1 : Nat) : Int) := ⟨_, rfl⟩
    rw [← hz] at hw hW4
    have HW4 := Lib.hid hW4
    clear hW4 hz TP R4 B4 P3 P4 TE d0 d1 d2 d3
    go_upto_region 5 with fail
    rw [← HW4.out]
    go_wp2_with fail
    have hxx := HX.out
    refine take_end G.out.1 G.out.2.1 x.2.kind x.1 x.2.n tx rfl rfl (.inl ⟨hb, ?_, G.out.2.2.1, G.out.2.2.2⟩)
    rw [hxx]
    rfl
  | false =>
    have R1 := Lib.hid (RF.out _ F3.out.1)
    go_wp2_with fail
    with_reducible refine R1.out.mono ?_
    rintro y w4 ⟨rfl, T4⟩
    have G := Lib.hid ((F3.out.1.trans T4).more (S' := fun k => k = p) (fun _ _ f => f.elim))
    clear T4
    unfold stopE
    go_wp2_with fail
    exact ⟨rfl, .inr ⟨hb, rfl, G.out⟩⟩
end Go.Proofs.YtadogobdlcionaaGreatDoor
namespace Go.Proofs.YtadogobdlcionaaGreatDoor
open Go.ChangeShapes Go.WideShapes Go.ChangeAt Go.RowKit Go.Shelf
set_option linter.unusedVariables false
/-- Is a text a keyword? -/
def keyB (t : ByteArray) : Bool := (t.toList == [115, 101, 113]) || (t.toList == [119, 104, 101, 114, 101]) || (t.toList == [97, 110, 100]) || (t.toList == [119, 105, 116, 104, 105, 110]) || (t.toList == [98, 121]) || (t.toList == [107, 101, 121])
set_option maxRecDepth 100000 in
set_option maxHeartbeats 2000000 in
theorem keyword_is (w : World) (t : ByteArray) : Calls Tryz.prog 59 #[.string t] w fun y w' => y = .returned (.bool (keyB t)) ∧ w' = w := by
  unfold keyB
  cases h1 : (t.toList == [115, 101, 113]) with
  | true =>
    go_enter Tryz.func59, Tryz.ntmps59
    go_wp2_with fail
    go_ret
    exact ⟨rfl, rfl⟩
  | false =>
    cases h2 : (t.toList == [119, 104, 101, 114, 101]) with
    | true =>
      go_enter Tryz.func59, Tryz.ntmps59
      go_wp2_with fail
      go_ret
      exact ⟨rfl, rfl⟩
    | false =>
      cases h3 : (t.toList == [97, 110, 100]) with
      | true =>
        go_enter Tryz.func59, Tryz.ntmps59
        go_wp2_with fail
        go_ret
        exact ⟨rfl, rfl⟩
      | false =>
        cases h4 : (t.toList == [119, 105, 116, 104, 105, 110]) with
        | true =>
          go_enter Tryz.func59, Tryz.ntmps59
          go_wp2_with fail
          go_ret
          exact ⟨rfl, rfl⟩
        | false =>
          cases h5 : (t.toList == [98, 121]) with
          | true =>
            go_enter Tryz.func59, Tryz.ntmps59
            go_wp2_with fail
            go_ret
            exact ⟨rfl, rfl⟩
          | false =>
            cases h6 : (t.toList == [107, 101, 121])
            all_goals
              go_enter Tryz.func59, Tryz.ntmps59
              go_wp2_with fail
              go_ret
              exact ⟨rfl, rfl⟩
def nameB (s : ByteArray) (x : Nat × Tok) : Bool := decide (x.2.kind = 1) && !keyB (textOf s x)
theorem enters (f : Nat) {fn : Func} (hf : Tryz.prog.funcs[f]? = some fn) (hn : (fn.name == "runtime.NumGoroutine") = false) {c : Code} (hb : fn.body = some c) : ∀ args w, (callFunc f args).run Tryz.prog w = .ok (.enter f args) w := enters_of hf hn hb
theorem dec_int (a b : Nat) : ((a : Int) == (b : Int)) = decide (a = b) := by rw [Bool.eq_iff_iff]; simp; omega
set_option maxRecDepth 100000 in
theorem int_tells (s : ByteArray) : Tells 56 s (fun x => decide (x.2.kind = 3)) := by
  refine ⟨enters 56 Tryz.func56 (by kernel_rfl) rfl, fun w x => ?_⟩
  unfold tokC tokL
  dsimp only
  rw [← dec_int]
  go_enter Tryz.func56, Tryz.ntmps56
  go_wp2_with fail
  go_ret
  exact ⟨rfl, (Turn.refl _ _).alloc _⟩
set_option maxRecDepth 100000 in
theorem type_tells (s : ByteArray) : Tells 77 s (fun x => decide (x.2.kind = 2)) := by
  refine ⟨enters 77 Tryz.func77 (by kernel_rfl) rfl, fun w x => ?_⟩
  unfold tokC tokL
  dsimp only
  rw [← dec_int]
  go_enter Tryz.func77, Tryz.ntmps77
  go_wp2_with fail
  go_ret
  exact ⟨rfl, (Turn.refl _ _).alloc _⟩
set_option maxRecDepth 100000 in
theorem name_tells (s : ByteArray) : Tells 36 s (nameB s) := by
  refine ⟨enters 36 Tryz.func36 (by kernel_rfl) rfl, fun w x => ?_⟩
  have K := Lib.hid (fun w => keyword_is w (textOf s x))
  unfold tokC tokL nameB
  rw [← dec_int]
  rw [show s.extract x.1 (x.1 + x.2.len) = textOf s x from rfl]
  generalize keyB (textOf s x) = kb at *
  generalize textOf s x = tx at *
  cases h1 : ((x.2.kind : Int) == ((1 : Nat) : Int)) with
  | false =>
    have h1 : ((x.2.kind : Int) == 1) = false := h1
    go_enter Tryz.func36, Tryz.ntmps36
    go_wp2_with fail
    go_ret
    exact ⟨rfl, (Turn.refl _ _).alloc _⟩
  | true =>
    have h1 : ((x.2.kind : Int) == 1) = true := h1
    go_enter Tryz.func36, Tryz.ntmps36
    go_wp2_with fail
    with_reducible refine (K.out _).mono ?_
    rintro y w1 ⟨rfl, rfl⟩
    go_wp2_with fail
    go_ret
    exact ⟨rfl, (Turn.refl _ _).alloc _⟩
end Go.Proofs.YtadogobdlcionaaGreatDoor
namespace Go.Proofs.YtadogobdlcionaaGreatDoor
open Go.ChangeShapes Go.WideShapes Go.ChangeAt Go.RowKit Go.Shelf
set_option linter.unusedVariables false
/-- The token that is taken, if one of those asked for stands there. -/
def takeB (pr : (Nat × Tok) → Bool) (L : List (Nat × Tok)) (i : Nat) : Option (Nat × Tok) := match L[i]? with
  | some x => if pr x then some x else none
  | none => none
theorem take_is (w : World) {p base : Nat} {s : ByteArray} {L : List (Nat × Tok)} {v : Value} {i e nest : Nat} (h : ParAt w p base s L v i e nest) {f : Nat} {pr : (Nat × Tok) → Bool} (hf : Tells f s pr) :
    Calls Tryz.prog 55 #[.pointer (some ⟨p, 0, none⟩), .func (.func f) #[] #[]] w fun y w' => (∃ x, takeB pr L i = some x ∧ y = .returned (.agg (tokC s x).toArray) ∧ Turn (fun k => k = p) w w' ∧ ParAt w' p base s L v (i + 1) e nest) ∨ (takeB pr L i = none ∧ y = stopE (placeE L e i) 11 ∧ Turn (fun k => k = p) w w') := by
  cases hx : L[i]? with
  | none =>
    have hb : takeB pr L i = none := by unfold takeB; rw [hx]
    have hp : placeE L e i = e := by unfold placeE; rw [hx]
    refine (take_none w h (by rw [List.getElem?_eq_none_iff] at hx; exact hx) f).mono ?_
    rintro y w' ⟨rfl, T⟩
    exact .inr ⟨hb, by rw [hp], T.more (fun _ _ f => f.elim)⟩
  | some x =>
    have hp : placeE L e i = x.1 := by unfold placeE; rw [hx]
    refine (take_some w h hx hf).mono ?_
    rintro y w' (⟨ht, rfl, T, P⟩ | ⟨ht, rfl, T⟩)
    · exact .inl ⟨x, by unfold takeB; rw [hx]; simp [ht], rfl, T, P⟩
    · exact .inr ⟨by unfold takeB; rw [hx]; simp [ht], by rw [hp], T⟩
theorem tok_text (k i n : Int) (t : ByteArray) (w : World) : (Instr.field 65 (.agg #[.int .i64 k, .int .i64 i, .string t, .int .i64 n]) 2).run Tryz.prog w = .ok (.string t) w := by kernel_rfl
theorem tok_n (k i n : Int) (t : ByteArray) (w : World) : (Instr.field 65 (.agg #[.int .i64 k, .int .i64 i, .string t, .int .i64 n]) 3).run Tryz.prog w = .ok (.int .i64 n) w := by kernel_rfl
/-- An element's cells. -/
def elL (ty : Int) (v : ByteArray) (pl nt : Bool) : List Value := [.int .i64 ty, .string v, .bool pl, .bool nt]
theorem size50 : (Tryz.prog.info? 43).map (fun i => i.size) = some 4 := by kernel_rfl
/-- Where the parser stands behind an element's sign. -/
def skipB' (s : ByteArray) (L : List (Nat × Tok)) (t : ByteArray) (i : Nat) : Nat := if hasB s L t i then i + 1 else i
abbrev bang : ByteArray := ⟨#[33]⟩
abbrev plus : ByteArray := ⟨#[43]⟩
/-- What the program's parser makes of an element: a part read, or a place and a reason. -/
inductive PA (α : Type) where
  | ok (a : α) (i : Nat)
  | stop (at_ err : Nat)
  | out
structure EL where
  type : Nat
  var : ByteArray
  plus : Bool
  not : Bool
def elemB (s : ByteArray) (L : List (Nat × Tok)) (e i : Nat) : PA EL :=
  match takeB (fun x => decide (x.2.kind = 2)) L (skipB' s L bang i) with
  | none => .stop (placeE L e (skipB' s L bang i)) 11
  | some x => match takeB (nameB s) L (skipB' s L plus (skipB' s L bang i + 1)) with
    | none => .stop (placeE L e (skipB' s L plus (skipB' s L bang i + 1))) 11
    | some y => .ok ⟨x.2.n, textOf s y, hasB s L plus (skipB' s L bang i + 1), hasB s L bang i⟩ (skipB' s L plus (skipB' s L bang i + 1) + 1)
/-- What a part's reading answers. -/
def PaPost {α : Type} (p base : Nat) (s : ByteArray) (L : List (Nat × Tok)) (v : Value) (e nest : Nat) (w : World) (V : α → World → Value → Prop) (r : PA α) (y : Ending) (w' : World) : Prop :=
  match r with
  | .ok a j => ∃ x, y = .returned x ∧ V a w' x ∧ Turn (fun k => k = p) w w' ∧ ParAt w' p base s L v j e nest
  | .stop a r => y = stopE a r ∧ Turn (fun k => k = p) w w'
  | .out => False
def elV (a : EL) (w : World) (x : Value) : Prop := x = .agg (elL a.type a.var a.plus a.not).toArray
theorem range_set {W : World} {b k : Nat} {l : List Value} (R : W.rangeAt b 0 l) (hk : k < l.length) (x : Value) : (W.setCell ⟨b, k, none⟩ x).rangeAt b 0 (l.set k x) := by
  intro j z hz
  rw [Nat.zero_add]
  by_cases h : k = j
  · subst h
    rw [List.getElem?_set_self hk] at hz
    have r := R k _ (List.getElem?_eq_getElem hk)
    rw [Nat.zero_add] at r
    rw [← Option.some.inj hz]
    exact World.cell?_setCell_same _ _ _ r
  · rw [List.getElem?_set_ne h] at hz
    have r := R j _ hz
    rw [Nat.zero_add] at r
    exact (cell_off _ _ _ _ _ h).trans r
theorem range_far {W : World} {b c k : Nat} {l : List Value} (R : W.rangeAt b 0 l) (h : c ≠ b) (x : Value) : (W.setCell ⟨c, k, none⟩ x).rangeAt b 0 l := fun j z hz => (cell_far _ _ _ _ _ _ h).trans (R j z hz)
/-- An element under way: the parser, the result's block, the element's. -/
structure ES (w : World) (p base : Nat) (s : ByteArray) (L : List (Nat × Tok)) (v : Value) (e nest : Nat) (W : World) (ty : Int) (va : ByteArray) (pl nt : Bool) (i : Nat) : Prop where
  par : ParAt W p base s L v i e nest
  rr : W.rangeAt w.heap.size 0 (elL 0 ⟨#[]⟩ false false)
  br : Blk W w.heap.size 43
  re : W.rangeAt (w.heap.size + 1) 0 (elL ty va pl nt)
  be : Blk W (w.heap.size + 1) 43
  tu : Turn (fun k => k = p) w W
  lt : p < w.heap.size
  low : ∀ k, v.ownBlock = some k → k < w.heap.size
section
variable {w W W' : World} {p base : Nat} {s : ByteArray} {L : List (Nat × Tok)} {v : Value} {e nest : Nat} {ty : Int} {va : ByteArray} {pl nt : Bool} {i j : Nat}
theorem ES.go (h : ES w p base s L v e nest W ty va pl nt i) (T : Turn (fun k => k = p) W W') (P : ParAt W' p base s L v j e nest) : ES w p base s L v e nest W' ty va pl nt j :=
  have hlt := h.lt
  ⟨P, range_turn h.rr T (by omega), h.br.turn T (by omega), range_turn h.re T (by omega), h.be.turn T (by omega), h.tu.trans T, h.lt, h.low⟩
theorem ES.put (h : ES w p base s L v e nest W ty va pl nt i) {k : Nat} {x : Value} {ty' : Int} {va' : ByteArray} {pl' nt' : Bool} (hk : k < 4) (hx : (elL ty va pl nt).set k x = elL ty' va' pl' nt') : ES w p base s L v e nest (W.setCell ⟨w.heap.size + 1, k, none⟩ x) ty' va' pl' nt' i :=
  have hlt := h.lt
  have TP := Turn.put W (w.heap.size + 1) k x
  ⟨h.par.turnS TP (by omega) (fun k hk q => by have := h.low k hk; omega), range_far h.rr (by omega) x, h.br.turn TP (by omega), by rw [← hx]; exact range_set h.re hk x, h.be.set _ _, h.tu.comp TP (fun k hk q => by omega), h.lt, h.low⟩
theorem ES.c (h : ES w p base s L v e nest W ty va pl nt i) : W.cell? ⟨w.heap.size + 1, 0, none⟩ = some (.int .i64 ty) ∧ W.cell? ⟨w.heap.size + 1, 1, none⟩ = some (.string va) ∧ W.cell? ⟨w.heap.size + 1, 2, none⟩ = some (.bool pl) ∧ W.cell? ⟨w.heap.size + 1, 3, none⟩ = some (.bool nt) :=
  ⟨h.re 0 _ rfl, h.re 1 _ rfl, h.re 2 _ rfl, h.re 3 _ rfl⟩
theorem ES.end_ (h : ES w p base s L v e nest W ty va pl nt i) {a : Act} {Q : Ending → World → Prop} (hd : a.defers = []) (hp : a.tmps.getD 2 undef = .pointer (some ⟨w.heap.size, 0, none⟩))
    (hq : ∀ W', Turn (fun k => k = p) w W' → ParAt W' p base s L v i e nest → Q (.returned (.agg (elL ty va pl nt).toArray)) W') :
    bodyPost Tryz.prog Tryz.f52 Q Exit.ret a ((((W.setCell ⟨w.heap.size, 0, none⟩ (.int .i64 ty)).setCell ⟨w.heap.size, 1, none⟩ (.string va)).setCell ⟨w.heap.size, 2, none⟩ (.bool pl)).setCell ⟨w.heap.size, 3, none⟩ (.bool nt)) :=
  have R2 := World.rangeAt_setCells_same W w.heap.size 0 (elL ty va pl nt) (range_there h.rr rfl h.br)
  have hlt := h.lt
  have TE : Turn (fun k => k = w.heap.size) W (W.setCells w.heap.size 0 (elL ty va pl nt)) := Turn.setCells _ 0 (Turn.refl _ _) (.inl rfl)
  bodyPost_ret (v := .agg (elL ty va pl nt).toArray) (res_cell (a := 2) rfl hp (run_loadVar_mid _ w.heap.size 0 43 _ _ R2 Tryz.underlying43 rfl size50)) hd (hq _ (h.tu.comp TE (fun k hk q => by omega)) (h.par.turnS TE (by omega) (fun k hk q => by have := h.low k hk; omega)))
end
set_option maxRecDepth 100000 in
set_option maxHeartbeats 4000000 in
theorem element_is (w : World) {p base : Nat} {s : ByteArray} {L : List (Nat × Tok)} {v : Value} {i e nest : Nat} (h : ParAt w p base s L v i e nest) :
    Calls Tryz.prog 52 #[.pointer (some ⟨p, 0, none⟩)] w (PaPost p base s L v e nest w elV (elemB s L e i)) := by
  have HS := Lib.hid (fun (W : World) (i : Nat) (t : ByteArray) (h : ParAt W p base s L v i e nest) => has_is W h t)
  have TY := Lib.hid (fun (W : World) (i : Nat) (h : ParAt W p base s L v i e nest) => take_is W h (type_tells s))
  have NM := Lib.hid (fun (W : World) (i : Nat) (h : ParAt W p base s L v i e nest) => take_is W h (name_tells s))
  obtain ⟨W, hW⟩ : ∃ W, W = (w.alloc (.cells #[.int .i64 0, .string ⟨#[]⟩, .bool false, .bool false] 43)).alloc (.cells #[.int .i64 0, .string ⟨#[]⟩, .bool false, .bool false] 43) := ⟨_, rfl⟩
  have T0 : Turn (fun _ => False) w W := by rw [hW]; exact ((Turn.refl _ _).alloc _).alloc _
  have RR : W.rangeAt w.heap.size 0 (elL 0 ⟨#[]⟩ false false) := by rw [hW]; exact range_turn (range_new w (elL 0 ⟨#[]⟩ false false) 43) ((Turn.refl (fun _ => False) _).alloc _) id
  have BR : Blk W w.heap.size 43 := by rw [hW]; exact (Blk.new w (elL 0 ⟨#[]⟩ false false) 43).turn ((Turn.refl (fun _ => False) _).alloc _) id
  have RE : W.rangeAt (w.heap.size + 1) 0 (elL 0 ⟨#[]⟩ false false) := by rw [hW]; have := range_new (w.alloc (.cells #[.int .i64 0, .string ⟨#[]⟩, .bool false, .bool false] 43)) (elL 0 ⟨#[]⟩ false false) 43; rw [World.size_alloc] at this; exact this
  have BE : Blk W (w.heap.size + 1) 43 := by rw [hW]; have := Blk.new (w.alloc (.cells #[.int .i64 0, .string ⟨#[]⟩, .bool false, .bool false] 43)) (elL 0 ⟨#[]⟩ false false) 43; rw [World.size_alloc] at this; exact this
  have E0 := Lib.hid (show ES w p base s L v e nest W 0 ⟨#[]⟩ false false i from ⟨h.turn T0, RR, BR, RE, BE, T0.more (fun _ _ f => f.elim), h.bl.lt, fun k hk => (own_blk h.row hk).1.lt⟩)
  obtain ⟨ou, hou⟩ : ∃ o, o = elemB s L e i := ⟨_, rfl⟩
  rw [← hou]
  have HO := Lib.hid hou
  have HW := Lib.hid hW
  clear hW RR BR RE BE h T0 hou
  go_enter Tryz.func52, Tryz.ntmps52
  go_upto_region 2 with fail
  rw [← HW.out]
  go_wp2_with fail
  with_reducible refine (HS.out W i bang E0.out.par).mono ?_
  rintro y w1 ⟨rfl, T1, P1⟩
  have P1 : ParAt w1 p base s L v (skipB' s L bang i) e nest := P1
  have E1 := E0.out.go T1 P1
  have c3 := E1.c.2.2.2
  have f3 := E1.be.fz
  have E2 := Lib.hid (E1.put (k := 3) (x := .bool (hasB s L bang i)) (nt' := hasB s L bang i) (by decide) rfl)
  clear E1 T1 P1
  obtain ⟨w2, hw2⟩ : ∃ W, W = w1.setCell ⟨w.heap.size + 1, 3, none⟩ (.bool (hasB s L bang i)) := ⟨_, rfl⟩
  rw [← hw2] at E2
  have H2 := Lib.hid hw2
  clear hw2
  go_upto_region 3 with fail
  rw [← H2.out]
  clear c3 f3 H2
  go_wp2_with fail
  with_reducible refine (TY.out w2 _ E2.out.par).mono ?_
  rintro y w3 (⟨x, hx, rfl, T3, P3⟩ | ⟨hx, rfl, T3⟩)
  case inr =>
    have G := Lib.hid (E2.out.tu.trans T3)
    have HX := Lib.hid hx
    clear T3 hx
    unfold stopE
    go_wp2_with fail
    refine ⟨rfl, ?_⟩
    have ho := HO.out
    unfold elemB at ho
    rw [HX.out] at ho
    rw [ho]
    exact ⟨rfl, G.out⟩
  have E3 := E2.out.go T3 P3
  have c0 := E3.c.1
  have f3 := E3.be.fz
  have E4 := Lib.hid (E3.put (k := 0) (x := .int .i64 x.2.n) (ty' := x.2.n) (by decide) rfl)
  have HX := Lib.hid hx
  clear E3 T3 P3 hx
  have g3 := tok_n x.2.kind x.1 x.2.n (s.extract x.1 (x.1 + x.2.len)) w3
  unfold tokC tokL
  obtain ⟨w4, hw4⟩ : ∃ W, W = w3.setCell ⟨w.heap.size + 1, 0, none⟩ (.int .i64 x.2.n) := ⟨_, rfl⟩
  rw [← hw4] at E4
  have H4 := Lib.hid hw4
  clear hw4
  go_upto_region 4 with fail
  rw [← H4.out]
  clear c0 f3 g3 H4
  go_wp2_with fail
  with_reducible refine (HS.out w4 _ plus E4.out.par).mono ?_
  rintro y w5 ⟨rfl, T5, P5⟩
  have P5 : ParAt w5 p base s L v (skipB' s L plus (skipB' s L bang i + 1)) e nest := P5
  have E5 := E4.out.go T5 P5
  have c2 := E5.c.2.2.1
  have f5 := E5.be.fz
  have E6 := Lib.hid (E5.put (k := 2) (x := .bool (hasB s L plus (skipB' s L bang i + 1))) (pl' := hasB s L plus (skipB' s L bang i + 1)) (by decide) rfl)
  clear E5 T5 P5
  obtain ⟨w6, hw6⟩ : ∃ W, W = w5.setCell ⟨w.heap.size + 1, 2, none⟩ (.bool (hasB s L plus (skipB' s L bang i + 1))) := ⟨_, rfl⟩
  rw [← hw6] at E6
  have H6 := Lib.hid hw6
  clear hw6
  go_upto_region 5 with fail
  rw [← H6.out]
  clear c2 f5 H6
  go_wp2_with fail
  with_reducible refine (NM.out w6 _ E6.out.par).mono ?_
  rintro y w7 (⟨z, hz, rfl, T7, P7⟩ | ⟨hz, rfl, T7⟩)
  case inr =>
    have G := Lib.hid (E6.out.tu.trans T7)
    have HZ := Lib.hid hz
    clear T7 hz
    unfold stopE
    go_wp2_with fail
    refine ⟨rfl, ?_⟩
    have ho := HO.out
    unfold elemB at ho
    rw [HX.out] at ho
    dsimp only at ho
    rw [HZ.out] at ho
    rw [ho]
    exact ⟨rfl, G.out⟩
  have E7 := E6.out.go T7 P7
  have c1 := E7.c.2.1
  have f7 := E7.be.fz
  have E8 := E7.put (k := 1) (x := .string (textOf s z)) (va' := textOf s z) (by decide) rfl
  have HZ := Lib.hid hz
  clear E7 T7 P7 hz
  have g7 := tok_text z.2.kind z.1 z.2.n (textOf s z) w7
  rw [show tokC s z = tokL z.2.kind z.1 z.2.n (textOf s z) from rfl]
  unfold tokL
  obtain ⟨w8, hw8⟩ : ∃ W, W = w7.setCell ⟨w.heap.size + 1, 1, none⟩ (.string (textOf s z)) := ⟨_, rfl⟩
  rw [← hw8] at E8
  have H8 := Lib.hid hw8
  obtain ⟨d0, d1, d2, d3⟩ := E8.c
  have y0 := E8.rr 0 _ rfl
  have y1 := E8.rr 1 _ rfl
  have y2 := E8.rr 2 _ rfl
  have y3 := E8.rr 3 _ rfl
  have f8 := E8.br.fz
  have F8 := Lib.hid E8
  clear hw8 E8
  go_upto_region 6 with fail
  rw [← H8.out]
  clear c1 f7 g7 H8
  go_wp2_with fail
  refine F8.out.end_ rfl rfl (fun W' T P => ?_)
  have ho := HO.out
  unfold elemB at ho
  rw [HX.out] at ho
  dsimp only at ho
  rw [HZ.out] at ho
  rw [ho]
  exact ⟨_, rfl, rfl, T, P⟩
end Go.Proofs.YtadogobdlcionaaGreatDoor
