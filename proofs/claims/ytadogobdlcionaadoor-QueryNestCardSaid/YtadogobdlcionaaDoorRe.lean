/-
  The parser reads an element.
-/
import Derived.Test.YtadogobdlcionaaDoorRd
namespace Go.Proofs.YtadogobdlcionaaDoor
open Go.ChangeShapes Go.WideShapes Go.ChangeAt Go.RowKit Go.Shelf
set_option linter.unusedVariables false
/-- The token that is taken, if one of those asked for stands there. -/
def takeB (pr : (Nat × Tok) → Bool) (L : List (Nat × Tok)) (i : Nat) : Option (Nat × Tok) := match L[i]? with
  | some x => if pr x then some x else none
  | none => none
theorem take_is (w : World) {p base : Nat} {s : ByteArray} {L : List (Nat × Tok)} {v : Value} {i e nest : Nat} (h : ParAt w p base s L v i e nest) {f : Nat} {pr : (Nat × Tok) → Bool} (hf : Tells f s pr) :
    Calls Tryd.prog 22 #[.pointer (some ⟨p, 0, none⟩), .func (.func f) #[] #[]] w fun y w' => (∃ x, takeB pr L i = some x ∧ y = .returned (.agg (tokC s x).toArray) ∧ Turn (fun k => k = p) w w' ∧ ParAt w' p base s L v (i + 1) e nest) ∨ (takeB pr L i = none ∧ y = stopE (placeE L e i) 11 ∧ Turn (fun k => k = p) w w') := by
  cases hx : L[i]? with
  | none =>
    have hb : takeB pr L i = none := by unfold takeB; rw [hx]
    have hp : placeE L e i = e := by unfold placeE; rw [hx]
    refine (take_none w h (by rw [List.getElem?_eq_none_iff] at hx; exact hx) f).mono ?_
    rintro y w' ⟨rfl, T⟩
    exact .inr ⟨hb, by rw [hp], T.more (fun _ _ f => f.elim)⟩
  | some x =>
    have hp : placeE L e i = x.1 := by unfold placeE; rw [hx]
    refine (take_some w h hx hf).mono ?_
    rintro y w' (⟨ht, rfl, T, P⟩ | ⟨ht, rfl, T⟩)
    · exact .inl ⟨x, by unfold takeB; rw [hx]; simp [ht], rfl, T, P⟩
    · exact .inr ⟨by unfold takeB; rw [hx]; simp [ht], by rw [hp], T⟩
theorem tok_text (k i n : Int) (t : ByteArray) (w : World) : (Instr.field 67 (.agg #[.int .i64 k, .int .i64 i, .string t, .int .i64 n]) 2).run Tryd.prog w = .ok (.string t) w := by kernel_rfl
theorem tok_n (k i n : Int) (t : ByteArray) (w : World) : (Instr.field 67 (.agg #[.int .i64 k, .int .i64 i, .string t, .int .i64 n]) 3).run Tryd.prog w = .ok (.int .i64 n) w := by kernel_rfl
/-- An element's cells. -/
def elL (ty : Int) (v : ByteArray) (pl nt : Bool) : List Value := [.int .i64 ty, .string v, .bool pl, .bool nt]
theorem size50 : (Tryd.prog.info? 50).map (fun i => i.size) = some 4 := by kernel_rfl
/-- Where the parser stands behind an element's sign. -/
def skipB' (s : ByteArray) (L : List (Nat × Tok)) (t : ByteArray) (i : Nat) : Nat := if hasB s L t i then i + 1 else i
abbrev bang : ByteArray := ⟨#[33]⟩
abbrev plus : ByteArray := ⟨#[43]⟩
/-- What the program's parser makes of an element: a part read, or a place and a reason. -/
inductive PA (α : Type) where
  | ok (a : α) (i : Nat)
  | stop (at_ err : Nat)
  | out
structure EL where
  type : Nat
  var : ByteArray
  plus : Bool
  not : Bool
def elemB (s : ByteArray) (L : List (Nat × Tok)) (e i : Nat) : PA EL :=
  match takeB (fun x => decide (x.2.kind = 2)) L (skipB' s L bang i) with
  | none => .stop (placeE L e (skipB' s L bang i)) 11
  | some x => match takeB (nameB s) L (skipB' s L plus (skipB' s L bang i + 1)) with
    | none => .stop (placeE L e (skipB' s L plus (skipB' s L bang i + 1))) 11
    | some y => .ok ⟨x.2.n, textOf s y, hasB s L plus (skipB' s L bang i + 1), hasB s L bang i⟩ (skipB' s L plus (skipB' s L bang i + 1) + 1)
/-- What a part's reading answers. -/
def PaPost {α : Type} (p base : Nat) (s : ByteArray) (L : List (Nat × Tok)) (v : Value) (e nest : Nat) (w : World) (V : α → World → Value → Prop) (r : PA α) (y : Ending) (w' : World) : Prop :=
  match r with
  | .ok a j => ∃ x, y = .returned x ∧ V a w' x ∧ Turn (fun k => k = p) w w' ∧ ParAt w' p base s L v j e nest
  | .stop a r => y = stopE a r ∧ Turn (fun k => k = p) w w'
  | .out => False
def elV (a : EL) (w : World) (x : Value) : Prop := x = .agg (elL a.type a.var a.plus a.not).toArray
theorem range_set {W : World} {b k : Nat} {l : List Value} (R : W.rangeAt b 0 l) (hk : k < l.length) (x : Value) : (W.setCell ⟨b, k, none⟩ x).rangeAt b 0 (l.set k x) := by
  intro j z hz
  rw [Nat.zero_add]
  by_cases h : k = j
  · subst h
    rw [List.getElem?_set_self hk] at hz
    have r := R k _ (List.getElem?_eq_getElem hk)
    rw [Nat.zero_add] at r
    rw [← Option.some.inj hz]
    exact World.cell?_setCell_same _ _ _ r
  · rw [List.getElem?_set_ne h] at hz
    have r := R j _ hz
    rw [Nat.zero_add] at r
    exact (cell_off _ _ _ _ _ h).trans r
theorem range_far {W : World} {b c k : Nat} {l : List Value} (R : W.rangeAt b 0 l) (h : c ≠ b) (x : Value) : (W.setCell ⟨c, k, none⟩ x).rangeAt b 0 l := fun j z hz => (cell_far _ _ _ _ _ _ h).trans (R j z hz)
/-- An element under way: the parser, the result's block, the element's. -/
structure ES (w : World) (p base : Nat) (s : ByteArray) (L : List (Nat × Tok)) (v : Value) (e nest : Nat) (W : World) (ty : Int) (va : ByteArray) (pl nt : Bool) (i : Nat) : Prop where
  par : ParAt W p base s L v i e nest
  rr : W.rangeAt w.heap.size 0 (elL 0 ⟨#[]⟩ false false)
  br : Blk W w.heap.size 50
  re : W.rangeAt (w.heap.size + 1) 0 (elL ty va pl nt)
  be : Blk W (w.heap.size + 1) 50
  tu : Turn (fun k => k = p) w W
  lt : p < w.heap.size
  low : ∀ k, v.ownBlock = some k → k < w.heap.size
section
variable {w W W' : World} {p base : Nat} {s : ByteArray} {L : List (Nat × Tok)} {v : Value} {e nest : Nat} {ty : Int} {va : ByteArray} {pl nt : Bool} {i j : Nat}
theorem ES.go (h : ES w p base s L v e nest W ty va pl nt i) (T : Turn (fun k => k = p) W W') (P : ParAt W' p base s L v j e nest) : ES w p base s L v e nest W' ty va pl nt j :=
  have hlt := h.lt
  ⟨P, range_turn h.rr T (by omega), h.br.turn T (by omega), range_turn h.re T (by omega), h.be.turn T (by omega), h.tu.trans T, h.lt, h.low⟩
theorem ES.put (h : ES w p base s L v e nest W ty va pl nt i) {k : Nat} {x : Value} {ty' : Int} {va' : ByteArray} {pl' nt' : Bool} (hk : k < 4) (hx : (elL ty va pl nt).set k x = elL ty' va' pl' nt') : ES w p base s L v e nest (W.setCell ⟨w.heap.size + 1, k, none⟩ x) ty' va' pl' nt' i :=
  have hlt := h.lt
  have TP := Turn.put W (w.heap.size + 1) k x
  ⟨h.par.turnS TP (by omega) (fun k hk q => by have := h.low k hk; omega), range_far h.rr (by omega) x, h.br.turn TP (by omega), by rw [← hx]; exact range_set h.re hk x, h.be.set _ _, h.tu.comp TP (fun k hk q => by omega), h.lt, h.low⟩
theorem ES.c (h : ES w p base s L v e nest W ty va pl nt i) : W.cell? ⟨w.heap.size + 1, 0, none⟩ = some (.int .i64 ty) ∧ W.cell? ⟨w.heap.size + 1, 1, none⟩ = some (.string va) ∧ W.cell? ⟨w.heap.size + 1, 2, none⟩ = some (.bool pl) ∧ W.cell? ⟨w.heap.size + 1, 3, none⟩ = some (.bool nt) :=
  ⟨h.re 0 _ rfl, h.re 1 _ rfl, h.re 2 _ rfl, h.re 3 _ rfl⟩
theorem ES.end_ (h : ES w p base s L v e nest W ty va pl nt i) {a : Act} {Q : Ending → World → Prop} (hd : a.defers = []) (hp : a.tmps.getD 2 undef = .pointer (some ⟨w.heap.size, 0, none⟩))
    (hq : ∀ W', Turn (fun k => k = p) w W' → ParAt W' p base s L v i e nest → Q (.returned (.agg (elL ty va pl nt).toArray)) W') :
    bodyPost Tryd.prog Tryd.f19 Q Exit.ret a ((((W.setCell ⟨w.heap.size, 0, none⟩ (.int .i64 ty)).setCell ⟨w.heap.size, 1, none⟩ (.string va)).setCell ⟨w.heap.size, 2, none⟩ (.bool pl)).setCell ⟨w.heap.size, 3, none⟩ (.bool nt)) :=
  have R2 := World.rangeAt_setCells_same W w.heap.size 0 (elL ty va pl nt) (range_there h.rr rfl h.br)
  have hlt := h.lt
  have TE : Turn (fun k => k = w.heap.size) W (W.setCells w.heap.size 0 (elL ty va pl nt)) := Turn.setCells _ 0 (Turn.refl _ _) (.inl rfl)
  bodyPost_ret (v := .agg (elL ty va pl nt).toArray) (res_cell (a := 2) rfl hp (run_loadVar_mid _ w.heap.size 0 50 _ _ R2 Tryd.underlying50 rfl size50)) hd (hq _ (h.tu.comp TE (fun k hk q => by omega)) (h.par.turnS TE (by omega) (fun k hk q => by have := h.low k hk; omega)))
end
set_option maxRecDepth 100000 in
set_option maxHeartbeats 4000000 in
theorem element_is (w : World) {p base : Nat} {s : ByteArray} {L : List (Nat × Tok)} {v : Value} {i e nest : Nat} (h : ParAt w p base s L v i e nest) :
    Calls Tryd.prog 19 #[.pointer (some ⟨p, 0, none⟩)] w (PaPost p base s L v e nest w elV (elemB s L e i)) := by
  have HS := Lib.hid (fun (W : World) (i : Nat) (t : ByteArray) (h : ParAt W p base s L v i e nest) => has_is W h t)
  have TY := Lib.hid (fun (W : World) (i : Nat) (h : ParAt W p base s L v i e nest) => take_is W h (type_tells s))
  have NM := Lib.hid (fun (W : World) (i : Nat) (h : ParAt W p base s L v i e nest) => take_is W h (name_tells s))
  obtain ⟨W, hW⟩ : ∃ W, W = (w.alloc (.cells #[.int .i64 0, .string ⟨#[]⟩, .bool false, .bool false] 50)).alloc (.cells #[.int .i64 0, .string ⟨#[]⟩, .bool false, .bool false] 50) := ⟨_, rfl⟩
  have T0 : Turn (fun _ => False) w W := by rw [hW]; exact ((Turn.refl _ _).alloc _).alloc _
  have RR : W.rangeAt w.heap.size 0 (elL 0 ⟨#[]⟩ false false) := by rw [hW]; exact range_turn (range_new w (elL 0 ⟨#[]⟩ false false) 50) ((Turn.refl (fun _ => False) _).alloc _) id
  have BR : Blk W w.heap.size 50 := by rw [hW]; exact (Blk.new w (elL 0 ⟨#[]⟩ false false) 50).turn ((Turn.refl (fun _ => False) _).alloc _) id
  have RE : W.rangeAt (w.heap.size + 1) 0 (elL 0 ⟨#[]⟩ false false) := by rw [hW]; have := range_new (w.alloc (.cells #[.int .i64 0, .string ⟨#[]⟩, .bool false, .bool false] 50)) (elL 0 ⟨#[]⟩ false false) 50; rw [World.size_alloc] at this; exact this
  have BE : Blk W (w.heap.size + 1) 50 := by rw [hW]; have := Blk.new (w.alloc (.cells #[.int .i64 0, .string ⟨#[]⟩, .bool false, .bool false] 50)) (elL 0 ⟨#[]⟩ false false) 50; rw [World.size_alloc] at this; exact this
  have E0 := Lib.hid (show ES w p base s L v e nest W 0 ⟨#[]⟩ false false i from ⟨h.turn T0, RR, BR, RE, BE, T0.more (fun _ _ f => f.elim), h.bl.lt, fun k hk => (own_blk h.row hk).1.lt⟩)
  obtain ⟨ou, hou⟩ : ∃ o, o = elemB s L e i := ⟨_, rfl⟩
  rw [← hou]
  have HO := Lib.hid hou
  have HW := Lib.hid hW
  clear hW RR BR RE BE h T0 hou
  go_enter Tryd.func19, Tryd.ntmps19
  go_upto_region 2 with fail
  rw [← HW.out]
  go_wp2_with fail
  with_reducible refine (HS.out W i bang E0.out.par).mono ?_
  rintro y w1 ⟨rfl, T1, P1⟩
  have P1 : ParAt w1 p base s L v (skipB' s L bang i) e nest := P1
  have E1 := E0.out.go T1 P1
  have c3 := E1.c.2.2.2
  have f3 := E1.be.fz
  have E2 := Lib.hid (E1.put (k := 3) (x := .bool (hasB s L bang i)) (nt' := hasB s L bang i) (by decide) rfl)
  clear E1 T1 P1
  obtain ⟨w2, hw2⟩ : ∃ W, W = w1.setCell ⟨w.heap.size + 1, 3, none⟩ (.bool (hasB s L bang i)) := ⟨_, rfl⟩
  rw [← hw2] at E2
  have H2 := Lib.hid hw2
  clear hw2
  go_upto_region 3 with fail
  rw [← H2.out]
  clear c3 f3 H2
  go_wp2_with fail
  with_reducible refine (TY.out w2 _ E2.out.par).mono ?_
  rintro y w3 (⟨x, hx, rfl, T3, P3⟩ | ⟨hx, rfl, T3⟩)
  case inr =>
    have G := Lib.hid (E2.out.tu.trans T3)
    have HX := Lib.hid hx
    clear T3 hx
    unfold stopE
    go_wp2_with fail
    refine ⟨rfl, ?_⟩
    have ho := HO.out
    unfold elemB at ho
    rw [HX.out] at ho
    rw [ho]
    exact ⟨rfl, G.out⟩
  have E3 := E2.out.go T3 P3
  have c0 := E3.c.1
  have f3 := E3.be.fz
  have E4 := Lib.hid (E3.put (k := 0) (x := .int .i64 x.2.n) (ty' := x.2.n) (by decide) rfl)
  have HX := Lib.hid hx
  clear E3 T3 P3 hx
  have g3 := tok_n x.2.kind x.1 x.2.n (s.extract x.1 (x.1 + x.2.len)) w3
  unfold tokC tokL
  obtain ⟨w4, hw4⟩ : ∃ W, W = w3.setCell ⟨w.heap.size + 1, 0, none⟩ (.int .i64 x.2.n) := ⟨_, rfl⟩
  rw [← hw4] at E4
  have H4 := Lib.hid hw4
  clear hw4
  go_upto_region 4 with fail
  rw [← H4.out]
  clear c0 f3 g3 H4
  go_wp2_with fail
  with_reducible refine (HS.out w4 _ plus E4.out.par).mono ?_
  rintro y w5 ⟨rfl, T5, P5⟩
  have P5 : ParAt w5 p base s L v (skipB' s L plus (skipB' s L bang i + 1)) e nest := P5
  have E5 := E4.out.go T5 P5
  have c2 := E5.c.2.2.1
  have f5 := E5.be.fz
  have E6 := Lib.hid (E5.put (k := 2) (x := .bool (hasB s L plus (skipB' s L bang i + 1))) (pl' := hasB s L plus (skipB' s L bang i + 1)) (by decide) rfl)
  clear E5 T5 P5
  obtain ⟨w6, hw6⟩ : ∃ W, W = w5.setCell ⟨w.heap.size + 1, 2, none⟩ (.bool (hasB s L plus (skipB' s L bang i + 1))) := ⟨_, rfl⟩
  rw [← hw6] at E6
  have H6 := Lib.hid hw6
  clear hw6
  go_upto_region 5 with fail
  rw [← H6.out]
  clear c2 f5 H6
  go_wp2_with fail
  with_reducible refine (NM.out w6 _ E6.out.par).mono ?_
  rintro y w7 (⟨z, hz, rfl, T7, P7⟩ | ⟨hz, rfl, T7⟩)
  case inr =>
    have G := Lib.hid (E6.out.tu.trans T7)
    have HZ := Lib.hid hz
    clear T7 hz
    unfold stopE
    go_wp2_with fail
    refine ⟨rfl, ?_⟩
    have ho := HO.out
    unfold elemB at ho
    rw [HX.out] at ho
    dsimp only at ho
    rw [HZ.out] at ho
    rw [ho]
    exact ⟨rfl, G.out⟩
  have E7 := E6.out.go T7 P7
  have c1 := E7.c.2.1
  have f7 := E7.be.fz
  have E8 := E7.put (k := 1) (x := .string (textOf s z)) (va' := textOf s z) (by decide) rfl
  have HZ := Lib.hid hz
  clear E7 T7 P7 hz
  have g7 := tok_text z.2.kind z.1 z.2.n (textOf s z) w7
  rw [show tokC s z = tokL z.2.kind z.1 z.2.n (textOf s z) from rfl]
  unfold tokL
  obtain ⟨w8, hw8⟩ : ∃ W, W = w7.setCell ⟨w.heap.size + 1, 1, none⟩ (.string (textOf s z)) := ⟨_, rfl⟩
  rw [← hw8] at E8
  have H8 := Lib.hid hw8
  obtain ⟨d0, d1, d2, d3⟩ := E8.c
  have y0 := E8.rr 0 _ rfl
  have y1 := E8.rr 1 _ rfl
  have y2 := E8.rr 2 _ rfl
  have y3 := E8.rr 3 _ rfl
  have f8 := E8.br.fz
  have F8 := Lib.hid E8
  clear hw8 E8
  go_upto_region 6 with fail
  rw [← H8.out]
  clear c1 f7 g7 H8
  go_wp2_with fail
  refine F8.out.end_ rfl rfl (fun W' T P => ?_)
  have ho := HO.out
  unfold elemB at ho
  rw [HX.out] at ho
  dsimp only at ho
  rw [HZ.out] at ho
  rw [ho]
  exact ⟨_, rfl, rfl, T, P⟩
end Go.Proofs.YtadogobdlcionaaDoor
