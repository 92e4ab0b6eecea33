/-
  A product and a sum.
  A part that stands alone.
  A part that stands alone: how many there are.
  A part that stands alone: a name's field.
  A part that stands alone: a sign before a part.
  A part that stands alone: a sum in a bracket.
  A part that stands alone: too deep.
  A part that stands alone, a product, a sum: all of them.
  How much fuel is enough.
-/
import Derived.Test.YtadogobdlcionaaDoorRk
namespace Go.Proofs.YtadogobdlcionaaDoor
open Go.ChangeShapes Go.WideShapes Go.ChangeAt Go.RowKit Go.Shelf
set_option linter.unusedVariables false
set_option maxRecDepth 100000 in
set_option maxHeartbeats 2000000 in
theorem product_is (w : World) {p base : Nat} {s : ByteArray} {L : List (Nat × Tok)} {v : Value} {i e nest : Nat} (h : ParAt w p base s L v i e nest) (hi : i ≤ L.length) (F : Nat)
    (HP : ∀ g, g < F → ∀ j W, ParAt W p base s L v j e nest → j ≤ L.length → readF s L e g .un nest j ≠ .out → Calls Tryd.prog 72 #[.pointer (some ⟨p, 0, none⟩)] W (PaPost p base s L v e nest W (cdsV W.heap.size) (readF s L e g .un nest j)))
    (ho : readF s L e F .pr nest i ≠ .out) :
    Calls Tryd.prog 60 #[.pointer (some ⟨p, 0, none⟩)] w (PaPost p base s L v e nest w (cdsV w.heap.size) (readF s L e F .pr nest i)) := by
  have C := Lib.hid (side_is w h hi false F 72 (enters 72 Tryd.func72 (by kernel_rfl) rfl) HP ho)
  clear HP ho hi h
  simp only [Bool.false_eq_true, if_false] at C
  go_enter Tryd.func60, Tryd.ntmps60
  go_wp2_with fail
  with_reducible refine C.out.mono ?_
  intro y w1 hy
  generalize readF s L e F .pr nest i = R at *
  cases R with
  | out => exact hy.elim
  | stop a r =>
    obtain ⟨rfl, T1⟩ := hy
    have G := Lib.hid T1
    clear T1
    unfold stopE
    go_wp2_with fail
    exact ⟨rfl, rfl, G.out⟩
  | ok l j =>
    obtain ⟨xv, rfl, V1, T1, P1⟩ := hy
    have G := Lib.hid (And.intro V1 (And.intro T1 P1))
    clear V1 T1 P1
    go_wp2_with fail
    go_ret
    exact ⟨_, rfl, G.out⟩
set_option maxRecDepth 100000 in
set_option maxHeartbeats 2000000 in
theorem sum_is (w : World) {p base : Nat} {s : ByteArray} {L : List (Nat × Tok)} {v : Value} {i e nest : Nat} (h : ParAt w p base s L v i e nest) (hi : i ≤ L.length) (F : Nat)
    (HP : ∀ g, g < F → ∀ j W, ParAt W p base s L v j e nest → j ≤ L.length → readF s L e g .pr nest j ≠ .out → Calls Tryd.prog 60 #[.pointer (some ⟨p, 0, none⟩)] W (PaPost p base s L v e nest W (cdsV W.heap.size) (readF s L e g .pr nest j)))
    (ho : readF s L e F .su nest i ≠ .out) :
    Calls Tryd.prog 36 #[.pointer (some ⟨p, 0, none⟩)] w (PaPost p base s L v e nest w (cdsV w.heap.size) (readF s L e F .su nest i)) := by
  have C := Lib.hid (side_is w h hi true F 60 (enters 60 Tryd.func60 (by kernel_rfl) rfl) HP ho)
  clear HP ho hi h
  simp only [if_true] at C
  go_enter Tryd.func36, Tryd.ntmps36
  go_wp2_with fail
  with_reducible refine C.out.mono ?_
  intro y w1 hy
  generalize readF s L e F .su nest i = R at *
  cases R with
  | out => exact hy.elim
  | stop a r =>
    obtain ⟨rfl, T1⟩ := hy
    have G := Lib.hid T1
    clear T1
    unfold stopE
    go_wp2_with fail
    exact ⟨rfl, rfl, G.out⟩
  | ok l j =>
    obtain ⟨xv, rfl, V1, T1, P1⟩ := hy
    have G := Lib.hid (And.intro V1 (And.intro T1 P1))
    clear V1 T1 P1
    go_wp2_with fail
    go_ret
    exact ⟨_, rfl, G.out⟩
end Go.Proofs.YtadogobdlcionaaDoor
namespace Go.Proofs.YtadogobdlcionaaDoor
open Go.ChangeShapes Go.WideShapes Go.ChangeAt Go.RowKit Go.Shelf
set_option linter.unusedVariables false
set_option maxRecDepth 100000 in
set_option maxHeartbeats 4000000 in
theorem unary_none (w : World) {p base : Nat} {s : ByteArray} {L : List (Nat × Tok)} {v : Value} {i e nest : Nat} (h : ParAt w p base s L v i e nest) (hx : takeB (unaryB s) L i = none) :
    Calls Tryd.prog 72 #[.pointer (some ⟨p, 0, none⟩)] w fun y w' => y = stopE (placeE L e i) 11 ∧ Turn (fun k => k = p) w w' := by
  have TK := Lib.hid (take_is w h (unary_tells s))
  rw [hx] at TK
  clear h hx
  go_enter Tryd.func72, Tryd.ntmps72
  go_wp2_with fail
  with_reducible refine TK.out.mono ?_
  rintro y w1 (⟨x, hx, _⟩ | ⟨-, rfl, T1⟩)
  · cases hx
  have G := Lib.hid T1
  clear T1
  unfold stopE
  go_wp2_with fail
  exact ⟨rfl, rfl, G.out⟩
set_option maxRecDepth 100000 in
set_option maxHeartbeats 4000000 in
/-- A number. -/
theorem unary_num (w : World) {p base : Nat} {s : ByteArray} {L : List (Nat × Tok)} {v : Value} {i e nest : Nat} (h : ParAt w p base s L v i e nest) {x : Nat × Tok} (hx : takeB (unaryB s) L i = some x)
    (h1 : ((textOf s x).toList == [45]) = false) (h2 : ((textOf s x).toList == [40]) = false) (h3 : ((textOf s x).toList == [35]) = false) (h4 : x.2.kind = 3) :
    Calls Tryd.prog 72 #[.pointer (some ⟨p, 0, none⟩)] w (PaPost p base s L v e nest w (cdsV w.heap.size) (.ok [{ zcd with op := 6, n := x.2.n }] (i + 1))) := by
  have TK := Lib.hid (take_is w h (unary_tells s))
  rw [hx] at TK
  have HL := Lib.hid h.bl.lt
  have u4 : ((x.2.kind : Int) == 3) = true := by rw [h4]; rfl
  clear h hx h4
  go_enter Tryd.func72, Tryd.ntmps72
  go_wp2_with fail
  with_reducible refine TK.out.mono ?_
  rintro y w1 (⟨x', hx, rfl, T1, P1⟩ | ⟨hx, _⟩)
  case inr => cases hx
  cases hx
  unfold tokC tokL
  rw [show s.extract x.1 (x.1 + x.2.len) = textOf s x from rfl]
  generalize textOf s x = tx at *
  obtain ⟨W, hW⟩ : ∃ W, W = w1.alloc (.cells #[.int .i64 (x.2.kind : Int), .int .i64 (x.1 : Int), .string tx, .int .i64 (x.2.n : Int)] 67) := ⟨_, rfl⟩
  have T2 : Turn (fun _ => False) w1 W := by rw [hW]; exact (Turn.refl _ _).alloc _
  have c0 : W.cell? ⟨w1.heap.size, 0, none⟩ = some (.int .i64 (x.2.kind : Int)) := by rw [hW]; exact cell_new rfl rfl
  have c2 : W.cell? ⟨w1.heap.size, 2, none⟩ = some (.string tx) := by rw [hW]; exact cell_new rfl rfl
  have c3 : W.cell? ⟨w1.heap.size, 3, none⟩ = some (.int .i64 (x.2.n : Int)) := by rw [hW]; exact cell_new rfl rfl
  have T3 : Turn (fun _ => False) W (W.alloc (.cells (CD.cells { zcd with op := 6, n := x.2.n }).toArray 95)) := (Turn.refl _ _).alloc _
  have TT := (T1.trans (T2.more (fun _ _ f => f.elim))).trans (T3.more (fun _ _ f => f.elim))
  have FIN := Lib.hid (And.intro (one_cds W { zcd with op := 6, n := x.2.n } (Nat.le_trans T1.size T2.size)) (And.intro TT ((P1.turn T2).turn T3)))
  have HW := Lib.hid hW
  clear T1 P1 T2 T3 TT hW
  go_upto_region 5 with fail
  rw [← HW.out]
  go_wp2_with fail
  go_ret
  exact ⟨_, rfl, FIN.out⟩
end Go.Proofs.YtadogobdlcionaaDoor
namespace Go.Proofs.YtadogobdlcionaaDoor
open Go.ChangeShapes Go.WideShapes Go.ChangeAt Go.RowKit Go.Shelf
set_option linter.unusedVariables false
set_option maxRecDepth 100000 in
set_option maxHeartbeats 4000000 in
theorem unary_count (w : World) {p base : Nat} {s : ByteArray} {L : List (Nat × Tok)} {v : Value} {i e nest : Nat} (h : ParAt w p base s L v i e nest) {x : Nat × Tok} (hx : takeB (unaryB s) L i = some x)
    (h1 : ((textOf s x).toList == [45]) = false) (h2 : ((textOf s x).toList == [40]) = false) (h3 : ((textOf s x).toList == [35]) = true) :
    Calls Tryd.prog 72 #[.pointer (some ⟨p, 0, none⟩)] w (PaPost p base s L v e nest w (cdsV w.heap.size) (match takeB (nameB s) L (i + 1) with
        | some y => .ok [{ zcd with op := 8, var := textOf s y }] (i + 2)
        | none => .stop (placeE L e (i + 1)) 11)) := by
  have TK := Lib.hid (take_is w h (unary_tells s))
  have NM := Lib.hid (fun (W : World) (i : Nat) (h : ParAt W p base s L v i e nest) => take_is W h (name_tells s))
  rw [hx] at TK
  have HL := Lib.hid h.bl.lt
  clear h hx
  obtain ⟨R, hR⟩ : ∃ R : PA (List CD), R = (match takeB (nameB s) L (i + 1) with
        | some y => .ok [{ zcd with op := 8, var := textOf s y }] (i + 2)
        | none => .stop (placeE L e (i + 1)) 11) := ⟨_, rfl⟩
  rw [← hR]
  have HR := Lib.hid hR
  clear hR
  go_enter Tryd.func72, Tryd.ntmps72
  go_wp2_with fail
  with_reducible refine TK.out.mono ?_
  rintro y w1 (⟨x', hx, rfl, T1, P1⟩ | ⟨hx, _⟩)
  case inr => cases hx
  cases hx
  unfold tokC tokL
  rw [show s.extract x.1 (x.1 + x.2.len) = textOf s x from rfl]
  generalize textOf s x = tx at *
  obtain ⟨W, hW⟩ : ∃ W, W = w1.alloc (.cells #[.int .i64 (x.2.kind : Int), .int .i64 (x.1 : Int), .string tx, .int .i64 (x.2.n : Int)] 67) := ⟨_, rfl⟩
  have T2 : Turn (fun _ => False) w1 W := by rw [hW]; exact (Turn.refl _ _).alloc _
  have c2 : W.cell? ⟨w1.heap.size, 2, none⟩ = some (.string tx) := by rw [hW]; exact cell_new rfl rfl
  have F := Lib.hid (And.intro (T1.trans (T2.more (fun _ _ f => f.elim))) (P1.turn T2))
  have HW := Lib.hid hW
  clear T1 P1 T2 hW
  go_upto_region 5 with fail
  rw [← HW.out]
  go_wp2_with fail
  with_reducible refine (NM.out W _ F.out.2).mono ?_
  rintro y w3 (⟨z, hz, rfl, T3, P3⟩ | ⟨hz, rfl, T3⟩)
  · have g3 := tok_text z.2.kind z.1 z.2.n (textOf s z) w3
    rw [show tokC s z = tokL z.2.kind z.1 z.2.n (textOf s z) from rfl]
    unfold tokL
    have T4 : Turn (fun _ => False) w3 (w3.alloc (.cells (CD.cells { zcd with op := 8, var := textOf s z }).toArray 95)) := (Turn.refl _ _).alloc _
    have TT := (F.out.1.trans T3).trans (T4.more (fun _ _ f => f.elim))
    have FIN := Lib.hid (And.intro (one_cds w3 { zcd with op := 8, var := textOf s z } (Nat.le_trans F.out.1.size T3.size)) (And.intro TT (P3.turn T4)))
    have HZ := Lib.hid hz
    clear T3 P3 T4 TT hz
    go_wp2_with fail
    go_ret
    rw [HR.out, HZ.out]
    exact ⟨_, rfl, FIN.out⟩
  · have G := Lib.hid (F.out.1.trans T3)
    have HZ := Lib.hid hz
    clear T3 hz
    unfold stopE
    go_wp2_with fail
    refine ⟨rfl, ?_⟩
    rw [HR.out, HZ.out]
    exact ⟨rfl, G.out⟩
end Go.Proofs.YtadogobdlcionaaDoor
namespace Go.Proofs.YtadogobdlcionaaDoor
open Go.ChangeShapes Go.WideShapes Go.ChangeAt Go.RowKit Go.Shelf
set_option linter.unusedVariables false
set_option maxRecDepth 100000 in
set_option maxHeartbeats 4000000 in
theorem unary_field (w : World) {p base : Nat} {s : ByteArray} {L : List (Nat × Tok)} {v : Value} {i e nest : Nat} (h : ParAt w p base s L v i e nest) {x : Nat × Tok} (hx : takeB (unaryB s) L i = some x)
    (h1 : ((textOf s x).toList == [45]) = false) (h2 : ((textOf s x).toList == [40]) = false) (h3 : ((textOf s x).toList == [35]) = false) (h4 : x.2.kind ≠ 3) :
    Calls Tryd.prog 72 #[.pointer (some ⟨p, 0, none⟩)] w (PaPost p base s L v e nest w (cdsV w.heap.size) (if hasB s L dot (i + 1) then match takeB (inB lettersT s) L (i + 2) with
        | some y => .ok [{ zcd with op := 7, var := textOf s x, field := idxI lettersT (textOf s y) }] (i + 3)
        | none => .stop (placeE L e (i + 2)) 11
      else .stop (placeE L e (i + 1)) 11)) := by
  have TK := Lib.hid (take_is w h (unary_tells s))
  have WT := Lib.hid (fun (W : World) (i : Nat) (h : ParAt W p base s L v i e nest) => want_is W h dot)
  have FD := Lib.hid (fun (W : World) (i : Nat) (h : ParAt W p base s L v i e nest) => take_is W h (field_tells s))
  have LT := Lib.hid (fun W => letters_is W)
  have IX := Lib.hid (fun (W : World) (g cap : Nat) (t : ByteArray) (h : W.rangeAt g 0 (lettersT.map Value.string)) => index_is (cap := cap) h rfl (by decide) t)
  rw [hx] at TK
  have u4 : ((x.2.kind : Int) == 3) = false := beq_eq_false_iff_ne.2 (by omega)
  clear h hx h4
  obtain ⟨R, hR⟩ : ∃ R : PA (List CD), R = (if hasB s L dot (i + 1) then match takeB (inB lettersT s) L (i + 2) with
        | some y => .ok [{ zcd with op := 7, var := textOf s x, field := idxI lettersT (textOf s y) }] (i + 3)
        | none => .stop (placeE L e (i + 2)) 11
      else .stop (placeE L e (i + 1)) 11) := ⟨_, rfl⟩
  rw [← hR]
  obtain ⟨tx, htx⟩ : ∃ t, t = textOf s x := ⟨_, rfl⟩
  rw [← htx] at hR h1 h2 h3
  have HX := Lib.hid htx
  have HR := Lib.hid hR
  clear hR htx
  go_enter Tryd.func72, Tryd.ntmps72
  go_wp2_with fail
  with_reducible refine TK.out.mono ?_
  rintro y w1 (⟨x', hx, rfl, T1, P1⟩ | ⟨hx, _⟩)
  case inr => cases hx
  cases hx
  unfold tokC tokL
  rw [show s.extract x.1 (x.1 + x.2.len) = tx from HX.out.symm]
  obtain ⟨W, hW⟩ : ∃ W, W = w1.alloc (.cells #[.int .i64 (x.2.kind : Int), .int .i64 (x.1 : Int), .string tx, .int .i64 (x.2.n : Int)] 67) := ⟨_, rfl⟩
  have T2 : Turn (fun _ => False) w1 W := by rw [hW]; exact (Turn.refl _ _).alloc _
  have c0 : W.cell? ⟨w1.heap.size, 0, none⟩ = some (.int .i64 (x.2.kind : Int)) := by rw [hW]; exact cell_new rfl rfl
  have c2 : W.cell? ⟨w1.heap.size, 2, none⟩ = some (.string tx) := by rw [hW]; exact cell_new rfl rfl
  have hp1 : w1.heap.size ≠ p := by have := P1.bl.lt; omega
  have F := Lib.hid (And.intro (T1.trans (T2.more (fun _ _ f => f.elim))) (And.intro (P1.turn T2) hp1))
  have HW := Lib.hid hW
  clear T1 P1 T2 hW hp1
  go_upto_region 5 with fail
  rw [← HW.out]
  go_wp2_with fail
  with_reducible refine (WT.out W _ F.out.2.1).mono ?_
  rintro y w3 (⟨hd, rfl, T3, P3⟩ | ⟨hd, rfl, T3⟩)
  case inr =>
    have G := Lib.hid (F.out.1.trans T3)
    have HZ := Lib.hid hd
    clear T3 hd
    unfold stopE
    go_wp2_with fail
    refine ⟨rfl, ?_⟩
    rw [HR.out, if_neg (by rw [HZ.out]; decide)]
    exact ⟨rfl, G.out⟩
  have d2 := T3.cell F.out.2.2 c2
  have G := Lib.hid (And.intro (F.out.1.trans T3) (And.intro P3 hd))
  clear T3 P3 hd c2 c0
  go_wp2_with fail
  with_reducible refine (LT.out w3).mono ?_
  rintro y w4 ⟨g, cap, rfl, R4, T4⟩
  have e2 := T4.cell id d2
  have G4 := Lib.hid (And.intro (G.out.1.trans (T4.more (fun _ _ f => f.elim))) (And.intro (G.out.2.1.turn T4) R4))
  have hg : g ≠ p := by
    intro q
    have a := G4.out.2.2 0 (.string ⟨#[120]⟩) rfl
    have b := G4.out.2.1.c0
    obtain ⟨_, _, hv, -⟩ := own_slice G4.out.2.1.row
    rw [q] at a
    rw [hv] at b
    cases a.symm.trans b
  clear T4 R4 d2
  go_wp2_with fail
  with_reducible refine (FD.out w4 _ G4.out.2.1).mono ?_
  rintro y w5 (⟨z, hz, rfl, T5, P5⟩ | ⟨hz, rfl, T5⟩)
  case inr =>
    have G5 := Lib.hid (G4.out.1.trans T5)
    have HZ := Lib.hid hz
    clear T5 hz
    unfold stopE
    go_wp2_with fail
    refine ⟨rfl, ?_⟩
    rw [HR.out, if_pos G.out.2.2, HZ.out]
    exact ⟨rfl, G5.out⟩
  have g5 := tok_text z.2.kind z.1 z.2.n (textOf s z) w5
  rw [show tokC s z = tokL z.2.kind z.1 z.2.n (textOf s z) from rfl]
  unfold tokL
  have f2 := T5.cell F.out.2.2 e2
  have R5 := range_turn G4.out.2.2 T5 hg
  have G5 := Lib.hid (And.intro (G4.out.1.trans T5) P5)
  have IX5 := Lib.hid (IX.out w5 g cap (textOf s z) R5)
  have HZ := Lib.hid hz
  clear T5 P5 R5 hz e2
  go_wp2_with fail
  with_reducible refine IX5.out.mono ?_
  rintro y w6 ⟨rfl, T6⟩
  have f3 := T6.cell id f2
  have T7 : Turn (fun _ => False) w6 (w6.alloc (.cells (CD.cells { zcd with op := 7, var := tx, field := idxI lettersT (textOf s z) }).toArray 95)) := (Turn.refl _ _).alloc _
  have TT := (G5.out.1.trans (T6.more (fun _ _ f => f.elim))).trans (T7.more (fun _ _ f => f.elim))
  have FIN := Lib.hid (And.intro (one_cds w6 { zcd with op := 7, var := tx, field := idxI lettersT (textOf s z) } (Nat.le_trans G5.out.1.size T6.size)) (And.intro TT ((G5.out.2.turn T6).turn T7)))
  clear T6 T7 TT f2 g5
  go_wp2_with fail
  go_ret
  rw [HR.out, if_pos G.out.2.2, HZ.out]
  exact ⟨_, rfl, FIN.out⟩
end Go.Proofs.YtadogobdlcionaaDoor
namespace Go.Proofs.YtadogobdlcionaaDoor
open Go.ChangeShapes Go.WideShapes Go.ChangeAt Go.RowKit Go.Shelf
set_option linter.unusedVariables false
set_option maxRecDepth 100000 in
set_option maxHeartbeats 4000000 in
theorem unary_neg (w : World) {p base : Nat} {s : ByteArray} {L : List (Nat × Tok)} {v : Value} {i e nest : Nat} (h : ParAt w p base s L v i e nest) {x : Nat × Tok} (hx : takeB (unaryB s) L i = some x) (hn : nest < 16)
    (h1 : ((textOf s x).toList == [45]) = true) {r R : PA (List CD)} (hok : ∀ l j, r = .ok l j → R = .ok (l ++ [{ zcd with op := 9 }]) j) (hst : ∀ a b, r = .stop a b → R = .stop a b) (hlen : ∀ l j, r = .ok l j → l.length ≤ 1000)
    (hp : ∀ W, ParAt W p base s L v (i + 1) e (nest + 1) → Calls Tryd.prog 72 #[.pointer (some ⟨p, 0, none⟩)] W (PaPost p base s L v e (nest + 1) W (cdsV W.heap.size) r)) :
    Calls Tryd.prog 72 #[.pointer (some ⟨p, 0, none⟩)] w (PaPost p base s L v e nest w (cdsV w.heap.size) R) := by
  have TK := Lib.hid (take_is w h (unary_tells s))
  have NE := Lib.hid (fun (W : World) (h : ParAt W p base s L v (i + 1) e nest) => nested_yes W h hn x (r := r) ⟨enters 72 Tryd.func72 (by kernel_rfl) rfl, fun W _ h => hp W h⟩)
  rw [hx] at TK
  have HH := Lib.hid (And.intro h.bl.lt hlen)
  clear h hx hp hlen hn
  obtain ⟨tx, htx⟩ : ∃ t, t = textOf s x := ⟨_, rfl⟩
  rw [← htx] at h1
  unfold tokC tokL at NE
  simp only [show s.extract x.1 (x.1 + x.2.len) = tx from htx.symm] at NE
  have HR := Lib.hid (And.intro hok hst)
  clear hok hst
  have HX := Lib.hid htx
  clear htx
  go_enter Tryd.func72, Tryd.ntmps72
  go_wp2_with fail
  with_reducible refine TK.out.mono ?_
  rintro y w1 (⟨x', hx, rfl, T1, P1⟩ | ⟨hx, _⟩)
  case inr => cases hx
  cases hx
  unfold tokC tokL
  rw [show s.extract x.1 (x.1 + x.2.len) = tx from HX.out.symm]
  obtain ⟨W, hW⟩ : ∃ W, W = w1.alloc (.cells #[.int .i64 (x.2.kind : Int), .int .i64 (x.1 : Int), .string tx, .int .i64 (x.2.n : Int)] 67) := ⟨_, rfl⟩
  have T2 : Turn (fun _ => False) w1 W := by rw [hW]; exact (Turn.refl _ _).alloc _
  have c0 : W.cell? ⟨w1.heap.size, 0, none⟩ = some (.int .i64 (x.2.kind : Int)) := by rw [hW]; exact cell_new rfl rfl
  have c1 : W.cell? ⟨w1.heap.size, 1, none⟩ = some (.int .i64 (x.1 : Int)) := by rw [hW]; exact cell_new rfl rfl
  have c2 : W.cell? ⟨w1.heap.size, 2, none⟩ = some (.string tx) := by rw [hW]; exact cell_new rfl rfl
  have c3 : W.cell? ⟨w1.heap.size, 3, none⟩ = some (.int .i64 (x.2.n : Int)) := by rw [hW]; exact cell_new rfl rfl
  have F := Lib.hid (And.intro (T1.trans (T2.more (fun _ _ f => f.elim))) (P1.turn T2))
  have HW := Lib.hid hW
  clear T1 P1 T2 hW
  go_upto_region 5 with fail
  rw [← HW.out]
  go_wp2_with fail
  with_reducible refine (NE.out W F.out.2).mono ?_
  intro y w3 hy
  cases r with
  | out => exact hy.elim
  | stop a b =>
    obtain ⟨rfl, T3⟩ := hy
    have G := Lib.hid (F.out.1.trans T3)
    clear T3
    unfold stopE
    go_wp2_with fail
    refine ⟨rfl, ?_⟩
    rw [HR.out.2 _ _ rfl]
    exact ⟨rfl, G.out⟩
  | ok l j =>
    obtain ⟨rv, rfl, V3, T3, P3⟩ := hy
    have T4 : Turn (fun _ => False) w3 (w3.alloc (.cells (CD.cells { zcd with op := 9 }).toArray 95)) := (Turn.refl _ _).alloc _
    have hs3 : w.heap.size ≤ w3.heap.size := Nat.le_trans F.out.1.size T3.size
    have V3 := V3.low F.out.1.size
    obtain ⟨v5, w5, R5, V5, T5⟩ := append_cds (V3.turn T4 (fun _ _ f => f)) (one_cds w3 { zcd with op := 9 } (Nat.le_refl _)) (Nat.le_trans hs3 T4.size) (by have := HH.out.2 l j rfl; simp; omega)
    have B : ∀ x, rv.ownBlock = some x → w.heap.size ≤ x := fun x hx => own_above V3 hx
    have P4 := P3.turn T4
    have P5 := P4.turnS T5 (fun e => by have := B p e; have := HH.out.1; omega) (fun x hx e => by
      rcases own_apart P4.row (V3.turn T4 (fun _ _ f => f)) (by decide) with q | q
      · rw [hx] at q; cases q
      · exact q (hx.trans e.symm))
    have TT := ((F.out.1.trans T3).trans (T4.more (fun _ _ f => f.elim))).comp T5 (fun x hx e => by have := B x e; omega)
    have FIN := Lib.hid (And.intro V5 (And.intro TT P5))
    have RUN := Lib.hid R5
    clear V3 T3 P3 T4 V5 T5 B P4 P5 TT R5 hs3
    go_wp2_with (refine rl_append_run (by rfl) _ _ _ (by rfl) (by rfl) (by rfl) RUN.out ?_)
    go_ret
    rw [HR.out.1 _ _ rfl]
    exact ⟨_, rfl, FIN.out⟩
end Go.Proofs.YtadogobdlcionaaDoor
namespace Go.Proofs.YtadogobdlcionaaDoor
open Go.ChangeShapes Go.WideShapes Go.ChangeAt Go.RowKit Go.Shelf
set_option linter.unusedVariables false
set_option maxRecDepth 100000 in
set_option maxHeartbeats 4000000 in
theorem unary_paren (w : World) {p base : Nat} {s : ByteArray} {L : List (Nat × Tok)} {v : Value} {i e nest : Nat} (h : ParAt w p base s L v i e nest) {x : Nat × Tok} (hx : takeB (unaryB s) L i = some x) (hn : nest < 16)
    (h1 : ((textOf s x).toList == [45]) = false) (h2 : ((textOf s x).toList == [40]) = true) {r R : PA (List CD)} (hok : ∀ l j, r = .ok l j → R = if hasB s L shut j then .ok l (j + 1) else .stop (placeE L e j) 11) (hst : ∀ a b, r = .stop a b → R = .stop a b)
    (hp : ∀ W, ParAt W p base s L v (i + 1) e (nest + 1) → Calls Tryd.prog 36 #[.pointer (some ⟨p, 0, none⟩)] W (PaPost p base s L v e (nest + 1) W (cdsV W.heap.size) r)) :
    Calls Tryd.prog 72 #[.pointer (some ⟨p, 0, none⟩)] w (PaPost p base s L v e nest w (cdsV w.heap.size) R) := by
  have TK := Lib.hid (take_is w h (unary_tells s))
  have WT := Lib.hid (fun (W : World) (i : Nat) (h : ParAt W p base s L v i e nest) => want_is W h shut)
  have NE := Lib.hid (fun (W : World) (h : ParAt W p base s L v (i + 1) e nest) => nested_yes W h hn x (r := r) ⟨enters 36 Tryd.func36 (by kernel_rfl) rfl, fun W _ h => hp W h⟩)
  rw [hx] at TK
  have HH := Lib.hid (h.bl.lt)
  clear h hx hp hn
  obtain ⟨tx, htx⟩ : ∃ t, t = textOf s x := ⟨_, rfl⟩
  rw [← htx] at h1 h2
  unfold tokC tokL at NE
  simp only [show s.extract x.1 (x.1 + x.2.len) = tx from htx.symm] at NE
  have HR := Lib.hid (And.intro hok hst)
  clear hok hst
  have HX := Lib.hid htx
  clear htx
  go_enter Tryd.func72, Tryd.ntmps72
  go_wp2_with fail
  with_reducible refine TK.out.mono ?_
  rintro y w1 (⟨x', hx, rfl, T1, P1⟩ | ⟨hx, _⟩)
  case inr => cases hx
  cases hx
  unfold tokC tokL
  rw [show s.extract x.1 (x.1 + x.2.len) = tx from HX.out.symm]
  obtain ⟨W, hW⟩ : ∃ W, W = w1.alloc (.cells #[.int .i64 (x.2.kind : Int), .int .i64 (x.1 : Int), .string tx, .int .i64 (x.2.n : Int)] 67) := ⟨_, rfl⟩
  have T2 : Turn (fun _ => False) w1 W := by rw [hW]; exact (Turn.refl _ _).alloc _
  have c0 : W.cell? ⟨w1.heap.size, 0, none⟩ = some (.int .i64 (x.2.kind : Int)) := by rw [hW]; exact cell_new rfl rfl
  have c1 : W.cell? ⟨w1.heap.size, 1, none⟩ = some (.int .i64 (x.1 : Int)) := by rw [hW]; exact cell_new rfl rfl
  have c2 : W.cell? ⟨w1.heap.size, 2, none⟩ = some (.string tx) := by rw [hW]; exact cell_new rfl rfl
  have c3 : W.cell? ⟨w1.heap.size, 3, none⟩ = some (.int .i64 (x.2.n : Int)) := by rw [hW]; exact cell_new rfl rfl
  have F := Lib.hid (And.intro (T1.trans (T2.more (fun _ _ f => f.elim))) (P1.turn T2))
  have HW := Lib.hid hW
  clear T1 P1 T2 hW
  go_upto_region 5 with fail
  rw [← HW.out]
  go_wp2_with fail
  with_reducible refine (NE.out W F.out.2).mono ?_
  intro y w3 hy
  cases r with
  | out => exact hy.elim
  | stop a b =>
    obtain ⟨rfl, T3⟩ := hy
    have G := Lib.hid (F.out.1.trans T3)
    clear T3
    unfold stopE
    go_wp2_with fail
    refine ⟨rfl, ?_⟩
    rw [HR.out.2 _ _ rfl]
    exact ⟨rfl, G.out⟩
  | ok l j =>
    obtain ⟨rv, rfl, V3, T3, P3⟩ := hy
    have V3 := V3.low F.out.1.size
    have G := Lib.hid (And.intro V3 (And.intro (F.out.1.trans T3) P3))
    clear V3 T3 P3
    go_wp2_with fail
    with_reducible refine (WT.out w3 _ G.out.2.2).mono ?_
    rintro y w4 (⟨hd, rfl, T4, P4⟩ | ⟨hd, rfl, T4⟩)
    · have V4 := G.out.1.turn T4 (fun x hx e => by have := HH.out; omega)
      have FIN := Lib.hid (And.intro V4 (And.intro (G.out.2.1.trans T4) P4))
      have HD := Lib.hid hd
      clear V4 T4 P4 hd
      go_wp2_with fail
      go_ret
      rw [HR.out.1 _ _ rfl, if_pos HD.out]
      exact ⟨_, rfl, FIN.out⟩
    · have FIN := Lib.hid (G.out.2.1.trans T4)
      have HD := Lib.hid hd
      clear T4 hd
      unfold stopE
      go_wp2_with fail
      refine ⟨rfl, ?_⟩
      rw [HR.out.1 _ _ rfl, if_neg (by rw [HD.out]; decide)]
      exact ⟨rfl, FIN.out⟩
end Go.Proofs.YtadogobdlcionaaDoor
namespace Go.Proofs.YtadogobdlcionaaDoor
open Go.ChangeShapes Go.WideShapes Go.ChangeAt Go.RowKit Go.Shelf
set_option linter.unusedVariables false
set_option maxRecDepth 100000 in
set_option maxHeartbeats 4000000 in
theorem deep_neg (w : World) {p base : Nat} {s : ByteArray} {L : List (Nat × Tok)} {v : Value} {i e : Nat} (h : ParAt w p base s L v i e 16) {x : Nat × Tok} (hx : takeB (unaryB s) L i = some x)
    (h1 : ((textOf s x).toList == [45]) = true) :
    Calls Tryd.prog 72 #[.pointer (some ⟨p, 0, none⟩)] w fun y w' => y = stopE x.1 12 ∧ Turn (fun k => k = p) w w' := by
  have TK := Lib.hid (take_is w h (unary_tells s))
  have NE := Lib.hid (fun (W : World) (h : ParAt W p base s L v (i + 1) e 16) (pt : Value) => nested_no W h x pt)
  rw [hx] at TK
  clear h hx
  obtain ⟨tx, htx⟩ : ∃ t, t = textOf s x := ⟨_, rfl⟩
  rw [← htx] at h1
  unfold tokC tokL at NE
  simp only [show s.extract x.1 (x.1 + x.2.len) = tx from htx.symm] at NE
  have HX := Lib.hid htx
  clear htx
  go_enter Tryd.func72, Tryd.ntmps72
  go_wp2_with fail
  with_reducible refine TK.out.mono ?_
  rintro y w1 (⟨x', hx, rfl, T1, P1⟩ | ⟨hx, _⟩)
  case inr => cases hx
  cases hx
  unfold tokC tokL
  rw [show s.extract x.1 (x.1 + x.2.len) = tx from HX.out.symm]
  obtain ⟨W, hW⟩ : ∃ W, W = w1.alloc (.cells #[.int .i64 (x.2.kind : Int), .int .i64 (x.1 : Int), .string tx, .int .i64 (x.2.n : Int)] 67) := ⟨_, rfl⟩
  have T2 : Turn (fun _ => False) w1 W := by rw [hW]; exact (Turn.refl _ _).alloc _
  have c0 : W.cell? ⟨w1.heap.size, 0, none⟩ = some (.int .i64 (x.2.kind : Int)) := by rw [hW]; exact cell_new rfl rfl
  have c1 : W.cell? ⟨w1.heap.size, 1, none⟩ = some (.int .i64 (x.1 : Int)) := by rw [hW]; exact cell_new rfl rfl
  have c2 : W.cell? ⟨w1.heap.size, 2, none⟩ = some (.string tx) := by rw [hW]; exact cell_new rfl rfl
  have c3 : W.cell? ⟨w1.heap.size, 3, none⟩ = some (.int .i64 (x.2.n : Int)) := by rw [hW]; exact cell_new rfl rfl
  have F := Lib.hid (And.intro (T1.trans (T2.more (fun _ _ f => f.elim))) (P1.turn T2))
  have HW := Lib.hid hW
  clear T1 P1 T2 hW
  go_upto_region 5 with fail
  rw [← HW.out]
  go_wp2_with fail
  with_reducible refine (NE.out W F.out.2 _).mono ?_
  rintro y w3 ⟨rfl, T3⟩
  have G := Lib.hid (F.out.1.trans T3)
  clear T3
  unfold stopE
  go_wp2_with fail
  exact ⟨rfl, rfl, G.out⟩
set_option maxRecDepth 100000 in
set_option maxHeartbeats 4000000 in
theorem deep_paren (w : World) {p base : Nat} {s : ByteArray} {L : List (Nat × Tok)} {v : Value} {i e : Nat} (h : ParAt w p base s L v i e 16) {x : Nat × Tok} (hx : takeB (unaryB s) L i = some x)
    (h1 : ((textOf s x).toList == [45]) = false) (h2 : ((textOf s x).toList == [40]) = true) :
    Calls Tryd.prog 72 #[.pointer (some ⟨p, 0, none⟩)] w fun y w' => y = stopE x.1 12 ∧ Turn (fun k => k = p) w w' := by
  have TK := Lib.hid (take_is w h (unary_tells s))
  have NE := Lib.hid (fun (W : World) (h : ParAt W p base s L v (i + 1) e 16) (pt : Value) => nested_no W h x pt)
  rw [hx] at TK
  clear h hx
  obtain ⟨tx, htx⟩ : ∃ t, t = textOf s x := ⟨_, rfl⟩
  rw [← htx] at h1 h2
  unfold tokC tokL at NE
  simp only [show s.extract x.1 (x.1 + x.2.len) = tx from htx.symm] at NE
  have HX := Lib.hid htx
  clear htx
  go_enter Tryd.func72, Tryd.ntmps72
  go_wp2_with fail
  with_reducible refine TK.out.mono ?_
  rintro y w1 (⟨x', hx, rfl, T1, P1⟩ | ⟨hx, _⟩)
  case inr => cases hx
  cases hx
  unfold tokC tokL
  rw [show s.extract x.1 (x.1 + x.2.len) = tx from HX.out.symm]
  obtain ⟨W, hW⟩ : ∃ W, W = w1.alloc (.cells #[.int .i64 (x.2.kind : Int), .int .i64 (x.1 : Int), .string tx, .int .i64 (x.2.n : Int)] 67) := ⟨_, rfl⟩
  have T2 : Turn (fun _ => False) w1 W := by rw [hW]; exact (Turn.refl _ _).alloc _
  have c0 : W.cell? ⟨w1.heap.size, 0, none⟩ = some (.int .i64 (x.2.kind : Int)) := by rw [hW]; exact cell_new rfl rfl
  have c1 : W.cell? ⟨w1.heap.size, 1, none⟩ = some (.int .i64 (x.1 : Int)) := by rw [hW]; exact cell_new rfl rfl
  have c2 : W.cell? ⟨w1.heap.size, 2, none⟩ = some (.string tx) := by rw [hW]; exact cell_new rfl rfl
  have c3 : W.cell? ⟨w1.heap.size, 3, none⟩ = some (.int .i64 (x.2.n : Int)) := by rw [hW]; exact cell_new rfl rfl
  have F := Lib.hid (And.intro (T1.trans (T2.more (fun _ _ f => f.elim))) (P1.turn T2))
  have HW := Lib.hid hW
  clear T1 P1 T2 hW
  go_upto_region 5 with fail
  rw [← HW.out]
  go_wp2_with fail
  with_reducible refine (NE.out W F.out.2 _).mono ?_
  rintro y w3 ⟨rfl, T3⟩
  have G := Lib.hid (F.out.1.trans T3)
  clear T3
  unfold stopE
  go_wp2_with fail
  exact ⟨rfl, rfl, G.out⟩
end Go.Proofs.YtadogobdlcionaaDoor
namespace Go.Proofs.YtadogobdlcionaaDoor
open Go.ChangeShapes Go.WideShapes Go.ChangeAt Go.RowKit Go.Shelf
set_option linter.unusedVariables false
/-- What the three answer, at a fuel. -/
def Reads (p base : Nat) (s : ByteArray) (L : List (Nat × Tok)) (v : Value) (e F : Nat) : Prop := ∀ nest i W, ParAt W p base s L v i e nest → i ≤ L.length → nest ≤ 16 →
  (readF s L e F .un nest i ≠ .out → Calls Tryd.prog 72 #[.pointer (some ⟨p, 0, none⟩)] W (PaPost p base s L v e nest W (cdsV W.heap.size) (readF s L e F .un nest i))) ∧
  (readF s L e F .pr nest i ≠ .out → Calls Tryd.prog 60 #[.pointer (some ⟨p, 0, none⟩)] W (PaPost p base s L v e nest W (cdsV W.heap.size) (readF s L e F .pr nest i))) ∧
  (readF s L e F .su nest i ≠ .out → Calls Tryd.prog 36 #[.pointer (some ⟨p, 0, none⟩)] W (PaPost p base s L v e nest W (cdsV W.heap.size) (readF s L e F .su nest i)))
theorem reads_un {p base : Nat} {s : ByteArray} {L : List (Nat × Tok)} {v : Value} {e f nest i : Nat} {W : World} (IH : Reads p base s L v e f) (h : ParAt W p base s L v i e nest) (hn : nest ≤ 16) (ho : readF s L e (f + 1) .un nest i ≠ .out) :
    Calls Tryd.prog 72 #[.pointer (some ⟨p, 0, none⟩)] W (PaPost p base s L v e nest W (cdsV W.heap.size) (readF s L e (f + 1) .un nest i)) := by
  cases hx : takeB (unaryB s) L i with
  | none =>
    rw [show readF s L e (f + 1) .un nest i = .stop (placeE L e i) 11 by rw [readF, hx]]
    exact unary_none W h hx
  | some x =>
    have hl := take_lt hx
    obtain ⟨R, hE⟩ : ∃ R, readF s L e (f + 1) .un nest i = R := ⟨_, rfl⟩
    have hU := hE
    rw [readF, hx] at hU
    dsimp only at hU
    rw [hE] at ho ⊢
    cases h1 : ((textOf s x).toList == [45]) with
    | true =>
      rw [h1, if_pos rfl] at hU
      by_cases hd : nest = 16
      · subst hd
        rw [if_pos rfl] at hU
        rw [← hU]
        exact deep_neg W h hx h1
      · rw [if_neg hd] at hU
        refine unary_neg W h hx (by omega) h1 (r := readF s L e f .un (nest + 1) (i + 1)) (fun l j q => by rw [← hU, q]) (fun a b q => by rw [← hU, q]) (fun l j q => by
          have := read_len s L e f _ _ _ _ _ q
          have := read_le s L e f _ _ _ _ _ q hl
          have := h.le
          simp only [Tg.len] at *
          omega) (fun W' h' => (IH _ _ W' h' hl (by omega)).1 (fun q => ho (by rw [← hU, q])))
    | false =>
      rw [h1, if_neg (by decide)] at hU
      cases h2 : ((textOf s x).toList == [40]) with
      | true =>
        rw [h2, if_pos rfl] at hU
        by_cases hd : nest = 16
        · subst hd
          rw [if_pos rfl] at hU
          rw [← hU]
          exact deep_paren W h hx h1 h2
        · rw [if_neg hd] at hU
          exact unary_paren W h hx (by omega) h1 h2 (r := readF s L e f .su (nest + 1) (i + 1)) (fun l j q => by rw [← hU, q]) (fun a b q => by rw [← hU, q]) (fun W' h' => (IH _ _ W' h' hl (by omega)).2.2 (fun q => ho (by rw [← hU, q])))
      | false =>
        rw [h2, if_neg (by decide)] at hU
        cases h3 : ((textOf s x).toList == [35]) with
        | true =>
          rw [h3, if_pos rfl] at hU
          rw [← hU]
          exact unary_count W h hx h1 h2 h3
        | false =>
          rw [h3, if_neg (by decide)] at hU
          by_cases h4 : x.2.kind = 3
          · rw [if_pos h4] at hU
            rw [← hU]
            exact unary_num W h hx h1 h2 h3 h4
          · rw [if_neg h4] at hU
            rw [← hU]
            exact unary_field W h hx h1 h2 h3 h4
theorem reads_is (p base : Nat) (s : ByteArray) (L : List (Nat × Tok)) (v : Value) (e : Nat) : ∀ F, Reads p base s L v e F := by
  intro F
  induction F using Nat.strongRecOn with
  | _ F IH =>
    intro nest i W h hi hn
    refine ⟨fun ho => ?_, fun ho => product_is W h hi F (fun g hg j W' h' hj hq => (IH g hg nest j W' h' hj hn).1 hq) ho, fun ho => sum_is W h hi F (fun g hg j W' h' hj hq => (IH g hg nest j W' h' hj hn).2.1 hq) ho⟩
    cases F with
    | zero => exact absurd rfl ho
    | succ f => exact reads_un (IH f (Nat.lt_succ_self f)) h hn ho
end Go.Proofs.YtadogobdlcionaaDoor
namespace Go.Proofs.YtadogobdlcionaaDoor
open Go.ChangeShapes Go.WideShapes Go.ChangeAt Go.RowKit Go.Shelf
set_option linter.unusedVariables false
def Tg.need : Tg → Nat
  | .un => 1
  | .lp _ _ => 1
  | .pr => 2
  | .su => 3
theorem enough (s : ByteArray) (L : List (Nat × Tok)) (e : Nat) : ∀ (F : Nat) (t : Tg) (nest i : Nat), 3 * (L.length - i) + t.need ≤ F → readF s L e F t nest i ≠ .out
  | 0, t, nest, i, h => by cases t <;> simp [Tg.need] at h
  | f + 1, .su, nest, i, h => by
    simp only [Tg.need] at h
    rw [readF]
    cases hq : readF s L e f .pr nest i with
    | out => exact absurd hq (enough s L e f _ _ _ (by simp only [Tg.need]; omega))
    | stop a b => simp
    | ok l j =>
      have := read_len s L e f _ _ _ _ _ hq
      exact enough s L e f _ _ _ (by simp only [Tg.need]; omega)
  | f + 1, .pr, nest, i, h => by
    simp only [Tg.need] at h
    rw [readF]
    cases hq : readF s L e f .un nest i with
    | out => exact absurd hq (enough s L e f _ _ _ (by simp only [Tg.need]; omega))
    | stop a b => simp
    | ok l j =>
      have := read_len s L e f _ _ _ _ _ hq
      exact enough s L e f _ _ _ (by simp only [Tg.need]; omega)
  | f + 1, .lp b l0, nest, i, h => by
    simp only [Tg.need] at h
    rw [readF]
    by_cases hc : (if b = true then (1 : Int) else 3) ≤ opAt s L i ∧ opAt s L i ≤ (if b = true then 2 else 5)
    · have ho : 1 ≤ opAt s L i := by cases b <;> simp at hc <;> omega
      have hl := op_lt ho
      rw [if_pos hc]
      have hz : (if b = true then Tg.pr else Tg.un).need ≤ 2 := by cases b <;> decide
      cases hq : readF s L e f (if b = true then Tg.pr else Tg.un) nest (i + 1) with
      | out => exact absurd hq (enough s L e f _ _ _ (by omega))
      | stop x y => simp
      | ok l1 j1 =>
        have := read_len s L e f _ _ _ _ _ hq
        exact enough s L e f _ _ _ (by simp only [Tg.need]; omega)
    · rw [if_neg hc]
      simp
  | f + 1, .un, nest, i, h => by
    simp only [Tg.need] at h
    rw [readF]
    cases hx : takeB (unaryB s) L i with
    | none => simp
    | some x =>
      have hl := take_lt hx
      have e1 := enough s L e f .un (nest + 1) (i + 1) (by simp only [Tg.need]; omega)
      have e2 := enough s L e f .su (nest + 1) (i + 1) (by simp only [Tg.need]; omega)
      dsimp only
      split
      · split
        · simp
        · split
          · simp
          · rename_i q
            exact e1
      · split
        · split
          · simp
          · split
            · split <;> simp
            · exact e2
        · split
          · split <;> simp
          · split
            · simp
            · split
              · split <;> simp
              · simp
end Go.Proofs.YtadogobdlcionaaDoor
