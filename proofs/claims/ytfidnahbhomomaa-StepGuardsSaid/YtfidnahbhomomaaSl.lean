/-
  Tables, histories and runs that have just been made.
-/
import Derived.Test.YtfidnahbhomomaaSk
namespace Go.Proofs.Ytfidnahbhomomaa
open Go.ChangeShapes Go.WideShapes Go.ChangeAt Go.RowKit
set_option linter.unusedVariables false
set_option linter.unusedSimpArgs false
theorem guards_nil (w : World) : GuardsAt w (.slice none 0 0) [] := ⟨none, 0, 0, 0, rfl, .inl rfl, fun k g h => by simp at h⟩
theorem rules_nil (w : World) : RulesAt w (.slice none 0 0) [] := ⟨none, 0, 0, 0, rfl, .inl rfl, fun k g h => by simp at h⟩
theorem guards_new (w : World) (g : Grd) (rv : Value) (R : RulesAt w rv g.rules) : GuardsAt (w.alloc (.cells #[.int .i64 g.typ, rv] 70)) (.slice (some ⟨w.heap.size, 0, none⟩) 1 1) [g] := by
  refine ⟨_, w.heap.size, 0, 1, rfl, .inr rfl, fun k x h => ?_⟩
  have hk := (List.getElem?_eq_some_iff.1 h).1
  obtain rfl : k = 0 := by simp at hk; omega
  simp at h
  subst h
  exact ⟨rv, range_new w [.int .i64 g.typ, rv] 70, R.turn ((Turn.refl (fun _ => False) _).alloc _)⟩
theorem rules_new (w : World) (r : Rul) (lv rv : Value) (L : CodesAt w lv r.left) (R : CodesAt w rv r.right) : RulesAt (w.alloc (.cells #[.int .i64 r.op, lv, rv] 68)) (.slice (some ⟨w.heap.size, 0, none⟩) 1 1) [r] := by
  refine ⟨_, w.heap.size, 0, 1, rfl, .inr rfl, fun k x h => ?_⟩
  have hk := (List.getElem?_eq_some_iff.1 h).1
  obtain rfl : k = 0 := by simp at hk; omega
  simp at h
  subst h
  exact ⟨lv, rv, range_new w [.int .i64 r.op, lv, rv] 68, L.turn ((Turn.refl (fun _ => False) _).alloc _), R.turn ((Turn.refl (fun _ => False) _).alloc _)⟩
theorem codes_new (w : World) (c : Cd) (s : ByteArray) : CodesAt (w.alloc (.cells (c.cells s).toArray 65)) (.slice (some ⟨w.heap.size, 0, none⟩) 1 1) [c] := by
  refine ⟨_, w.heap.size, 0, 1, rfl, .inr rfl, fun k x h => ?_⟩
  have hk := (List.getElem?_eq_some_iff.1 h).1
  obtain rfl : k = 0 := by simp at hk; omega
  simp at h
  subst h
  exact ⟨s, range_new w (c.cells s) 65⟩
theorem cells_two (w : World) (c0 c1 : Cel) (r0 r1 v0 v1 : Value) (A0 : RulesAt w r0 c0.rules) (A1 : RulesAt w r1 c1.rules) (G0 : GuardsAt w v0 c0.nots) (G1 : GuardsAt w v1 c1.nots) :
    CellsAt (w.alloc (.cells #[.int .i64 c0.typ, .bool c0.plus, r0, v0, .int .i64 c1.typ, .bool c1.plus, r1, v1] 59)) (.slice (some ⟨w.heap.size, 0, none⟩) 2 2) [c0, c1] := by
  have R := range_new w [.int .i64 c0.typ, .bool c0.plus, r0, v0, .int .i64 c1.typ, .bool c1.plus, r1, v1] 59
  have T : Turn (fun _ => False) w (w.alloc (.cells #[.int .i64 c0.typ, .bool c0.plus, r0, v0, .int .i64 c1.typ, .bool c1.plus, r1, v1] 59)) := (Turn.refl _ w).alloc _
  refine ⟨w.heap.size, 0, 2, rfl, fun k c h => ?_⟩
  have hk := (List.getElem?_eq_some_iff.1 h).1
  have hk2 : k = 0 ∨ k = 1 := by simp at hk; omega
  rcases hk2 with rfl | rfl
  · simp at h
    subst h
    refine ⟨r0, v0, fun j u hj => ?_, A0.turn T, G0.turn T⟩
    have hj4 := (List.getElem?_eq_some_iff.1 hj).1
    have e := R j u (by
      rw [show [Value.int .i64 c0.typ, .bool c0.plus, r0, v0, .int .i64 c1.typ, .bool c1.plus, r1, v1] = [Value.int .i64 c0.typ, .bool c0.plus, r0, v0] ++ [.int .i64 c1.typ, .bool c1.plus, r1, v1] from rfl, List.getElem?_append_left hj4]
      exact hj)
    rw [show 0 + 0 * 4 + j = 0 + j by omega]
    exact e
  · simp at h
    subst h
    refine ⟨r1, v1, fun j u hj => ?_, A1.turn T, G1.turn T⟩
    have e := R (4 + j) u (by
      rw [show [Value.int .i64 c0.typ, .bool c0.plus, r0, v0, .int .i64 c1.typ, .bool c1.plus, r1, v1] = [Value.int .i64 c0.typ, .bool c0.plus, r0, v0] ++ [.int .i64 c1.typ, .bool c1.plus, r1, v1] from rfl, List.getElem?_append_right (by simp), show 4 + j - [Value.int .i64 c0.typ, .bool c0.plus, r0, v0].length = j by simp]
      exact hj)
    rw [show 0 + 1 * 4 + j = 0 + (4 + j) by omega]
    exact e
theorem evs_new (w : World) (l : List Ev) : EvsAt (w.alloc (.cells (ecells l).toArray 62)) (.slice (some ⟨w.heap.size, 0, none⟩) l.length l.length) l := by
  refine ⟨_, w.heap.size, 0, l.length, rfl, Nat.le_refl _, .inr ⟨rfl, Blk.new w _ 62⟩, fun k e he j u hu => ?_⟩
  have := range_new w (ecells l) 62 (k * 6 + j) u (ecells_at l k e he j u hu)
  rw [show 0 + k * 6 + j = 0 + (k * 6 + j) by omega]
  exact this
theorem rows_new (w : World) (x : Int) : RowsAt ((w.alloc (.cells #[.int .i64 x] 3)).alloc (.cells #[.slice (some ⟨w.heap.size, 0, none⟩) 1 1] 22)) (.slice (some ⟨w.heap.size + 1, 0, none⟩) 1 1) [[x]] := by
  have R := range_new (w.alloc (.cells #[.int .i64 x] 3)) [.slice (some ⟨w.heap.size, 0, none⟩) 1 1] 22 0 _ rfl
  rw [World.size_alloc] at R
  have R2 := range_turn (range_new w [.int .i64 x] 3) ((Turn.refl (fun _ => False) _).alloc (.cells #[.slice (some ⟨w.heap.size, 0, none⟩) 1 1] 22)) id
  refine ⟨_, w.heap.size + 1, 0, 1, rfl, .inr rfl, fun k l h => ?_⟩
  have hk := (List.getElem?_eq_some_iff.1 h).1
  obtain rfl : k = 0 := by simp at hk; omega
  simp at h
  subst h
  refine ⟨_, R, _, w.heap.size, 0, 1, rfl, Nat.le_refl _, .inr rfl, fun j y hj => ?_⟩
  have hj1 := (List.getElem?_eq_some_iff.1 hj).1
  obtain rfl : j = 0 := by simp at hj1; omega
  simp at hj
  subst hj
  exact R2 0 _ rfl
/-- A run that has taken event 0 at the first cell. -/
theorem run_first {T : Tab} {n : Nat} (h1 : 1 ≤ n) (hn : n ≤ 100000) (hw : 1 ≤ T.win) (hc : 1 ≤ T.cells.length) : RunOk T 0 [[0]] false n := by
  have hf : flatI [[(0 : Int)]] = [0] := rfl
  refine ⟨rfl, hc, (fun h => by cases h), fun k l c hl _ => ?_, fun i x hx => ?_, ?_, ?_, hn⟩
  · have hk := (List.getElem?_eq_some_iff.1 hl).1
    obtain rfl : k = 0 := by simp at hk; omega
    simp at hl
    subst hl
    exact ⟨Nat.le_refl _, fun h => absurd h (by decide)⟩
  · rw [hf] at hx ⊢
    have hi := (List.getElem?_eq_some_iff.1 hx).1
    obtain rfl : i = 0 := by simp at hi; omega
    simp at hx
    subst hx
    exact ⟨by decide, by omega⟩
  · rw [hf]
    have : lastN [0] [(0 : Int)].length - [(0 : Int)].getD 0 0 = 0 := by decide
    rw [this]
    omega
  · intro x hx
    simp at hx
    subst hx
    decide
end Go.Proofs.Ytfidnahbhomomaa
