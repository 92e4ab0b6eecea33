/-
  The chapter's examples of layer 6.
-/
import Derived.Test.YtibmimdlgbhdnaaTupJ
import Derived.Test.YtibmimdlgbhdnaaTupS
namespace Go.Proofs.Ytibmimdlgbhdnaa
open Go.ChangeShapes Go.WideShapes Go.ChangeAt Go.RowKit
set_option linter.unusedVariables false

/-- A new row of numbers, and one of rows. -/
theorem lit_row (w : World) (l : List Int) (hl : l ≠ []) : RowAt (w.alloc (.cells (intsV l).toArray 3)) (.slice (some ⟨w.heap.size, 0, none⟩) l.length l.length) l :=
  ⟨_, w.heap.size, 0, l.length, rfl, Nat.le_refl _, .inr rfl, fun j x hj => by
    rw [World.cell?_alloc_new]
    simp [intsV, hj]⟩
theorem lit_rows (w : World) (vs : List Value) (L : List (List Int)) (hn : vs.length = L.length) (h : ∀ (k : Nat) (l : List Int), L[k]? = some l → ∃ r, vs[k]? = some r ∧ RowAt w r l) : RowsAt (w.alloc (.cells vs.toArray 27)) (.slice (some ⟨w.heap.size, 0, none⟩) L.length L.length) L :=
  ⟨_, w.heap.size, 0, L.length, rfl, .inr rfl, fun k l hl => by
    obtain ⟨r, q1, q2⟩ := h k l hl
    refine ⟨r, ?_, q2.turn ((Turn.refl _ w).alloc _)⟩
    rw [World.cell?_alloc_new]
    simpa using q1⟩
theorem row_nil (w : World) : RowAt w (.slice none 0 0) [] := ⟨none, 0, 0, 0, rfl, Nat.le_refl _, .inl rfl, fun j x h => by simp at h⟩
set_option maxRecDepth 100000 in
set_option maxHeartbeats 2000000 in
theorem tuple_awake (w : World) : Calls Try.prog 15 #[] w fun e w' => e = .returned (.bool true) ∧ Below w.heap.size w w' := by
  have A1 := lit_row w [1, 4] (by simp)
  have A2 := lit_row (w.alloc (.cells (intsV [1, 4]).toArray 3)) [2, 4] (by simp)
  have A3 := lit_rows ((w.alloc (.cells (intsV [1, 4]).toArray 3)).alloc (.cells (intsV [2, 4]).toArray 3)) [.slice (some ⟨w.heap.size, 0, none⟩) 2 2, .slice (some ⟨w.heap.size + 1, 0, none⟩) 2 2, .slice none 0 0] [[1, 4], [2, 4], []] rfl (fun k l hl => by
    match k, hl with
    | 0, hl => simp at hl; subst hl; exact ⟨_, rfl, A1.turn ((Turn.refl _ _).alloc _)⟩
    | 1, hl => simp at hl; subst hl; rw [World.size_alloc] at A2; exact ⟨_, rfl, A2⟩
    | 2, hl => simp at hl; subst hl; exact ⟨_, rfl, row_nil _⟩
    | k + 3, hl => simp at hl)
  have M := merge_is A3 (by decide) (by decide)
  have T0 : Turn (fun _ => False) w (((w.alloc (.cells (intsV [1, 4]).toArray 3)).alloc (.cells (intsV [2, 4]).toArray 3)).alloc (.cells [Value.slice (some ⟨w.heap.size, 0, none⟩) 2 2, .slice (some ⟨w.heap.size + 1, 0, none⟩) 2 2, .slice none 0 0].toArray 27)) := (((Turn.refl _ w).alloc _).alloc _).alloc _
  simp only [intsV, List.map_cons, List.map_nil, World.size_alloc, List.length_cons, List.length_nil, Nat.reduceAdd] at M T0
  have MM := Lib.hid M
  have TT := Lib.hid T0
  clear A1 A2 A3 M T0
  go_enter Try.func15, Try.ntmps15
  go_wp2_with fail
  with_reducible refine MM.out.mono ?_
  rintro e w1 ⟨rfl, hm⟩
  have T1 := Lib.hid (TT.out.trans (show Turn (fun _ => False) _ w1 by obtain ⟨i, f, _, _, _, _, _, _, _, _, T, _⟩ := hm; exact T))
  have AL := Lib.hid (all_any less_56 (L := [[1, 4], [2, 4], []]) (by decide) (by decide) (mgd_of (L := [[1, 4], [2, 4], []]) hm))
  clear hm MM TT
  go_wp2_with fail
  with_reducible refine AL.out.mono ?_
  rintro e w2 ⟨v, rfl, ho, hb⟩
  rw [show mergeN (fun a b => decide (a < b)) (total [[1, 4], [2, 4], []]) [[1, 4], [2, 4], []] = [1, 2, 4, 4] by decide +kernel] at ho
  have T2 := T1.out.trans (Turn.of_below hb)
  have RA := (rowAt_own ho).turn ((Turn.refl (fun _ => False) w2).alloc (.cells (intsV [1, 2, 4, 4]).toArray 3))
  have SR := same_row RA (lit_row w2 [1, 2, 4, 4] (by simp)) (by decide) (by decide)
  rw [show (cmpL cmpI [1, 2, 4, 4] [1, 2, 4, 4] == 0) = true by decide] at SR
  have T3 := Lib.hid (T2.alloc (.cells (intsV [1, 2, 4, 4]).toArray 3))
  obtain ⟨ra, rc, rfl, _⟩ := own_slice ho
  simp only [intsV, List.map_cons, List.map_nil, World.size_alloc, List.length_cons, List.length_nil, Nat.reduceAdd] at SR T3
  have SS := Lib.hid SR
  clear ho hb T2 RA SR AL T1
  go_wp2_with fail
  with_reducible refine SS.out.mono ?_
  rintro e w3 ⟨rfl, d, rfl⟩
  have T4 := T3.out.drewN d
  generalize World.drewN _ d = W at *
  clear SS T3
  have B1 := lit_row W [1, 2] (by simp)
  have B2 := lit_row (W.alloc (.cells (intsV [1, 2]).toArray 3)) [3] (by simp)
  have B3 := lit_rows ((W.alloc (.cells (intsV [1, 2]).toArray 3)).alloc (.cells (intsV [3]).toArray 3)) [.slice (some ⟨W.heap.size, 0, none⟩) 2 2, .slice (some ⟨W.heap.size + 1, 0, none⟩) 1 1] [[1, 2], [3]] rfl (fun k l hl => by
    match k, hl with
    | 0, hl => simp at hl; subst hl; exact ⟨_, rfl, B1.turn ((Turn.refl _ _).alloc _)⟩
    | 1, hl => simp at hl; subst hl; rw [World.size_alloc] at B2; exact ⟨_, rfl, B2⟩
    | k + 2, hl => simp at hl)
  obtain ⟨V, hV⟩ : ∃ V, V = ((W.alloc (.cells (intsV [1, 2]).toArray 3)).alloc (.cells (intsV [3]).toArray 3)).alloc (.cells [Value.slice (some ⟨W.heap.size, 0, none⟩) 2 2, .slice (some ⟨W.heap.size + 1, 0, none⟩) 1 1].toArray 27) := ⟨_, rfl⟩
  have vz : V.heap.size = W.heap.size + 3 := by rw [hV]; simp
  have TV : Turn (fun _ => False) W V := by rw [hV]; exact (((Turn.refl _ W).alloc _).alloc _).alloc _
  rw [← hV] at B3
  have C1 := lit_row V [1] (by simp)
  have C2 := lit_row (V.alloc (.cells (intsV [1]).toArray 3)) [9] (by simp)
  have C3 := lit_rows ((V.alloc (.cells (intsV [1]).toArray 3)).alloc (.cells (intsV [9]).toArray 3)) [.slice (some ⟨V.heap.size, 0, none⟩) 1 1, .slice (some ⟨V.heap.size + 1, 0, none⟩) 1 1] [[1], [9]] rfl (fun k l hl => by
    match k, hl with
    | 0, hl => simp at hl; subst hl; exact ⟨_, rfl, C1.turn ((Turn.refl _ _).alloc _)⟩
    | 1, hl => simp at hl; subst hl; rw [World.size_alloc] at C2; exact ⟨_, rfl, C2⟩
    | k + 2, hl => simp at hl)
  have TU : Turn (fun _ => False) V (((V.alloc (.cells (intsV [1]).toArray 3)).alloc (.cells (intsV [9]).toArray 3)).alloc (.cells [Value.slice (some ⟨V.heap.size, 0, none⟩) 1 1, .slice (some ⟨V.heap.size + 1, 0, none⟩) 1 1].toArray 27)) := (((Turn.refl _ V).alloc _).alloc _).alloc _
  have CM := cmp_t (B3.turn TU) C3 (by decide) (by decide) (by decide) (by decide)
  rw [show cmpL (cmpL cmpI) [[1, 2], [3]] [[1], [9]] = 1 by decide] at CM
  have T5 := T4.trans (TV.trans TU)
  rw [hV] at CM T5
  simp only [intsV, List.map_cons, List.map_nil, World.size_alloc, List.length_cons, List.length_nil, Nat.reduceAdd] at CM T5
  have CC := Lib.hid CM
  have T6 := Lib.hid T5
  clear B1 B2 B3 hV vz TV C1 C2 C3 TU CM T5 T4
  go_wp2_with fail
  with_reducible refine CC.out.mono ?_
  rintro e w4 ⟨rfl, t⟩
  have T7 := Lib.hid (T6.out.trans t)
  clear t CC T6
  go_wp2
  go_ret
  exact ⟨rfl, T7.out.below (fun k hk => ⟨hk, id⟩)⟩
end Go.Proofs.Ytibmimdlgbhdnaa
