/-
  What a log knows whose workers leave one behind the other.
-/
import Derived.Test.YteokdibfdahabaaLv
namespace Go.Proofs.Yteokdibfdahabaa
open Go.ChangeShapes Go.WideShapes Go.ChangeAt Go.RowKit
set_option linter.unusedVariables false
/-- The first k have left. -/
def lvGone (s : LSt) (k : Nat) : LSt := { s with left := fun i => decide (i < k) || s.left i }
section
variable {s : LSt} {a b : Int} {n : Nat}
theorem lvGone_zero (s : LSt) : lvGone s 0 = s := by
  have : (fun i => decide (i < 0) || s.left i) = s.left := funext fun i => by rw [decide_eq_false (by omega : ¬ i < 0)]; rfl
  unfold lvGone
  rw [this]
theorem lvGone_left (s : LSt) (k : Nat) : (lvGone s k).left k = s.left k := by
  show (decide (k < k) || s.left k) = _
  rw [decide_eq_false (by omega : ¬ k < k)]; rfl
theorem lvGone_yes (s : LSt) (k : Nat) : ({ lvGone s k with left := upd (lvGone s k).left k true } : LSt) = lvGone s (k + 1) := by
  have : upd (fun i => decide (i < k) || s.left i) k true = fun i => decide (i < k + 1) || s.left i := funext fun i => by
    by_cases e : i = k
    · subst e; rw [upd_at, decide_eq_true (by omega : i < i + 1)]; rfl
    · rw [upd_off _ _ e, show decide (i < k + 1) = decide (i < k) by simp only [lt_succ_ne e]]
  unfold lvGone
  dsimp only
  rw [this]
theorem lvGone_no {k : Nat} (h : s.left k = true) : lvGone s (k + 1) = lvGone s k := by
  have : (fun i => decide (i < k + 1) || s.left i) = fun i => decide (i < k) || s.left i := funext fun i => by
    by_cases e : i = k
    · subst e; rw [h, Bool.or_true, Bool.or_true]
    · rw [show decide (i < k + 1) = decide (i < k) by simp only [lt_succ_ne e]]
  unfold lvGone
  rw [this]
theorem lvGone_all (hs : (s.X s.low).isSome = true) (kind : Int) : ∀ k, k ≤ n → allTold (lvGone s n) kind k = true
  | 0, _ => hs
  | k + 1, hk => by
    show (allTold (lvGone s n) kind k && Yteokdibfdahabaa.told (lvGone s n) kind k) = true
    rw [lvGone_all hs kind k (by omega)]
    unfold Yteokdibfdahabaa.told
    rw [show (lvGone s n).left k = true by show (decide (k < n) || s.left k) = true; rw [decide_eq_true (by omega : k < n)]; rfl]
    rfl
theorem lvGone_ready {c : Cf} (hs : (s.X s.low).isSome = true) : readyB c (lvGone s c.sh) = true := by
  unfold readyB
  exact lvGone_all hs _ _ (Nat.le_refl _)
end
theorem outCells_at : ∀ (l : List Value) (i : Nat) (x : Value), l[i]? = some x → (outCells l)[i * 4]? = some (.slice none 0 0) ∧ (outCells l)[i * 4 + 1]? = some x ∧ (outCells l)[i * 4 + 2]? = some (.slice none 0 0) ∧ (outCells l)[i * 4 + 3]? = some (.slice none 0 0)
  | [], i, x, h => by simp at h
  | v :: l, 0, x, h => by
    simp at h
    subst h
    exact ⟨rfl, rfl, rfl, rfl⟩
  | v :: l, i + 1, x, h => by
    have ih := outCells_at l i x (by simpa using h)
    have e1 : ∀ j, (outCells (v :: l))[(i + 1) * 4 + j]? = (outCells l)[i * 4 + j]? := fun j => by
      show ([_, _, _, _] ++ outCells l)[(i + 1) * 4 + j]? = _
      rw [List.getElem?_append_right (by simp; omega)]
      congr 1
      simp
      omega
    exact ⟨(e1 0).trans ih.1, (e1 1).trans ih.2.1, (e1 2).trans ih.2.2.1, (e1 3).trans ih.2.2.2⟩
end Go.Proofs.Yteokdibfdahabaa
