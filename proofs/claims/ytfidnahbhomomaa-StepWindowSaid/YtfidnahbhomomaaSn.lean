/-
  Events that are made, and one that is written; StepWindow's walk.
-/
import Derived.Test.YtfidnahbhomomaaSm
namespace Go.Proofs.Ytfidnahbhomomaa
open Go.ChangeShapes Go.WideShapes Go.ChangeAt Go.RowKit
set_option linter.unusedVariables false
set_option linter.unusedSimpArgs false
def zero6 : Array Value := #[.int .i64 0, .int .i64 0, .int .i64 0, .int .i64 0, .int .i64 0, .int .i64 0]
theorem make62 {n : Nat} (h2 : n ≤ 4096) (w : World) : (Instr.makeSlice 36 (.int .i64 (n : Int)) (.int .i64 (n : Int))).run Try.prog w = .ok (.slice (some ⟨w.heap.size, 0, none⟩) n n) (w.alloc (.cells (madeCells zero6 (n * 6)) 62)) := by
  obtain ⟨i, hi, he⟩ := Option.map_eq_some_iff.mp info62
  simp only [Prod.mk.injEq] at he
  obtain ⟨hz, hs, hb⟩ := he
  have := run_make (P := Try.prog) w 36 62 i _ Try.underlying36 hi hz .i64 .i64 (n : Int) (n : Int) (by omega) (by omega) (by rw [hb]; omega) (by omega)
  rw [hs] at this
  simpa [Value.cells, zero6] using this
theorem zero6_at {n j : Nat} (h : j < n * 6) : (madeCells zero6 (n * 6)).toList[j]? = some (.int .i64 0) := by
  have h6 : j % 6 < 6 := Nat.mod_lt _ (by decide)
  have hz : ∀ q, q < 6 → zero6[q]? = some (.int .i64 0) := fun q hq => by
    have : q = 0 ∨ q = 1 ∨ q = 2 ∨ q = 3 ∨ q = 4 ∨ q = 5 := by omega
    rcases this with rfl | rfl | rfl | rfl | rfl | rfl <;> rfl
  have := hz _ h6
  have sz : zero6.size = 6 := rfl
  simp [madeCells, sz, h]
  have : j % 6 = 0 ∨ j % 6 = 1 ∨ j % 6 = 2 ∨ j % 6 = 3 ∨ j % 6 = 4 ∨ j % 6 = 5 := by omega
  rcases this with e | e | e | e | e | e <;> rw [e] <;> rfl
/-- n events that are zero, and one whose type is q. -/
def kinds (n : Nat) (q : Int) : List Ev := List.replicate n Ev.zero ++ [⟨q, 0, 0, 0, 0, 0⟩]
theorem kinds_len (n : Nat) (q : Int) : (kinds n q).length = n + 1 := by simp [kinds]
theorem kinds_at {n : Nat} {q : Int} : (kinds n q)[n]? = some ⟨q, 0, 0, 0, 0, 0⟩ := by
  unfold kinds
  rw [List.getElem?_append_right (by simp)]
  simp
theorem ev_zero_at {j : Nat} {u : Value} (h : Ev.zero.cells[j]? = some u) : u = .int .i64 0 ∧ j < 6 := by
  have hj : j < 6 := (List.getElem?_eq_some_iff.1 h).1
  have : j = 0 ∨ j = 1 ∨ j = 2 ∨ j = 3 ∨ j = 4 ∨ j = 5 := by omega
  rcases this with rfl | rfl | rfl | rfl | rfl | rfl <;> exact ⟨(Option.some.inj h).symm, hj⟩
theorem kinds_made (w : World) (n : Nat) (q : Int) :
    EvsAt ((w.alloc (.cells (madeCells zero6 ((n + 1) * 6)) 62)).setCell ⟨w.heap.size, n * 6, none⟩ (.int .i64 q)) (.slice (some ⟨w.heap.size, 0, none⟩) (n + 1) (n + 1)) (kinds n q) ∧ Turn (fun _ => False) w ((w.alloc (.cells (madeCells zero6 ((n + 1) * 6)) 62)).setCell ⟨w.heap.size, n * 6, none⟩ (.int .i64 q)) := by
  obtain ⟨W, hW⟩ : ∃ W, W = w.alloc (.cells (madeCells zero6 ((n + 1) * 6)) 62) := ⟨_, rfl⟩
  have TW : Turn (fun _ => False) w W := by rw [hW]; exact (Turn.refl _ w).alloc _
  have BW : Blk W w.heap.size 62 := by
    rw [hW]
    have := Blk.new w (madeCells zero6 ((n + 1) * 6)).toList 62
    rw [Array.toArray_toList] at this
    exact this
  have RW : ∀ j, j < (n + 1) * 6 → W.cell? ⟨w.heap.size, j, none⟩ = some (.int .i64 0) := fun j hj => by
    have h0 := range_new w (madeCells zero6 ((n + 1) * 6)).toList 62
    rw [Array.toArray_toList, ← hW] at h0
    have := h0 j _ (zero6_at hj)
    rw [Nat.zero_add] at this
    exact this
  rw [← hW]
  refine ⟨⟨_, w.heap.size, 0, n + 1, by rw [kinds_len], by rw [kinds_len]; exact Nat.le_refl _, .inr ⟨rfl, BW.set _ _⟩, fun k e he j u hu => ?_⟩, TW.setCell (.inr (Nat.le_refl _)) _⟩
  have hk := (List.getElem?_eq_some_iff.1 he).1
  rw [kinds_len] at hk
  have hj6 : j < 6 := (List.getElem?_eq_some_iff.1 hu).1
  rw [Nat.zero_add]
  by_cases hz : k * 6 + j = n * 6
  · have h1 : k = n := by omega
    have h2 : j = 0 := by omega
    subst h1; subst h2
    rw [kinds_at] at he
    cases he
    rw [show k * 6 + 0 = k * 6 by omega, World.cell?_setCell_same _ _ _ (RW (k * 6) (by omega))]
    exact hu
  · rw [cell_off _ _ _ _ _ (fun e => hz e.symm), RW (k * 6 + j) (by omega)]
    by_cases h1 : k = n
    · subst h1
      rw [kinds_at] at he
      cases he
      have : j = 1 ∨ j = 2 ∨ j = 3 ∨ j = 4 ∨ j = 5 := by omega
      rcases this with rfl | rfl | rfl | rfl | rfl <;> exact hu
    · unfold kinds at he
      rw [List.getElem?_append_left (by simp; omega), List.getElem?_replicate, if_pos (by omega)] at he
      cases he
      rw [(ev_zero_at hu).1]
end Go.Proofs.Ytfidnahbhomomaa
