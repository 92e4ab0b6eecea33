/-
  Rows merged, in Lean: what comes out, one by one.
-/
import Derived.Test.YtibmimdlgbhdnaaTupG
import Derived.Test.YtibmimdlgbhdnaaTupH
namespace Go.Proofs.Ytibmimdlgbhdnaa
set_option linter.unusedVariables false

def total (S : List (List Int)) : Nat := (S.map List.length).sum
/-- What the first row's next number is, and what is left. -/
def stepM (lt : Int → Int → Bool) (S : List (List Int)) : Option (Int × List (List Int)) :=
  match S[(firstAt lt S).toNat]? with
  | some (x :: l) => if firstAt lt S < 0 then none else some (x, S.set (firstAt lt S).toNat l)
  | _ => none
def mergeN (lt : Int → Int → Bool) : Nat → List (List Int) → List Int
  | 0, _ => []
  | n + 1, S => match stepM lt S with
    | none => []
    | some (x, S') => x :: mergeN lt n S'
theorem total_set {S : List (List Int)} {i : Nat} {x : Int} {l : List Int} (h : S[i]? = some (x :: l)) : total (S.set i l) + 1 = total S := by
  unfold total
  induction S generalizing i with
  | nil => simp at h
  | cons a S ih =>
    cases i with
    | zero =>
      simp at h
      subst h
      simp
      omega
    | succ i =>
      have := ih (i := i) (by simpa using h)
      simp only [List.set_cons_succ, List.map_cons, List.sum_cons] at this ⊢
      omega
theorem firstAt_full {lt : Int → Int → Bool} {S : List (List Int)} {i : Nat} (h : firstAt lt S = (i : Int)) : ∃ x l, S[i]? = some (x :: l) := by
  unfold firstAt at h
  cases e : (List.range S.length).find? (isFirst lt S) with
  | some j =>
    rw [e] at h
    have hj : j = i := by have : (j : Int) = (i : Int) := h; omega
    subst hj
    have := List.find?_some e
    unfold isFirst at this
    split at this
    · exact ⟨_, _, by assumption⟩
    · cases this
  | none =>
    rw [e] at h
    unfold someAt at h
    cases e2 : (List.range S.length).find? (full S) with
    | some j =>
      simp only [e2] at h
      have hj : j = i := by have : (j : Int) = (i : Int) := h; omega
      subst hj
      have := List.find?_some e2
      unfold full at this
      split at this
      · exact ⟨_, _, by assumption⟩
      · cases this
    | none =>
      simp only [e2] at h
      omega
theorem firstAt_or (lt : Int → Int → Bool) (S : List (List Int)) : firstAt lt S = -1 ∨ ∃ i x l, firstAt lt S = ((i : Nat) : Int) ∧ S[i]? = some (x :: l) := by
  have : firstAt lt S = -1 ∨ ∃ i : Nat, firstAt lt S = (i : Int) := by
    unfold firstAt
    cases (List.range S.length).find? (isFirst lt S) with
    | some j => exact .inr ⟨j, rfl⟩
    | none =>
      unfold someAt
      cases (List.range S.length).find? (full S) with
      | some j => exact .inr ⟨j, rfl⟩
      | none => exact .inl rfl
  rcases this with h | ⟨i, h⟩
  · exact .inl h
  · obtain ⟨x, l, e⟩ := firstAt_full h
    exact .inr ⟨i, x, l, h, e⟩
theorem firstAt_none {lt : Int → Int → Bool} {S : List (List Int)} (h : firstAt lt S = -1) : ∀ l ∈ S, l = [] := by
  unfold firstAt at h
  cases e : (List.range S.length).find? (isFirst lt S) with
  | some j =>
    rw [e] at h
    have : (j : Int) = -1 := h
    omega
  | none =>
    rw [e] at h
    unfold someAt at h
    cases e2 : (List.range S.length).find? (full S) with
    | some j =>
      simp only [e2] at h
      omega
    | none =>
      intro l hl
      obtain ⟨k, hk, rfl⟩ := List.mem_iff_getElem.1 hl
      have := List.find?_eq_none.1 e2 k (List.mem_range.2 hk)
      unfold full at this
      rw [List.getElem?_eq_getElem hk] at this
      cases hS : S[k] with
      | nil => rfl
      | cons a b => rw [hS] at this; simp at this
theorem stepM_some {lt : Int → Int → Bool} {S : List (List Int)} {i : Nat} {x : Int} {l : List Int} (h : firstAt lt S = (i : Int)) (e : S[i]? = some (x :: l)) : stepM lt S = some (x, S.set i l) := by
  unfold stepM
  rw [h]
  simp only [Int.toNat_natCast, e]
  rw [if_neg (by omega)]
theorem stepM_none {lt : Int → Int → Bool} {S : List (List Int)} (h : firstAt lt S = -1) : stepM lt S = none := by
  unfold stepM
  rw [h]
  split
  · rfl
  · rfl
theorem mergeN_step {lt : Int → Int → Bool} {S : List (List Int)} {i n : Nat} {x : Int} {l : List Int} (h : firstAt lt S = (i : Int)) (e : S[i]? = some (x :: l)) : mergeN lt (n + 1) S = x :: mergeN lt n (S.set i l) := by
  rw [mergeN, stepM_some h e]
theorem mergeN_none {lt : Int → Int → Bool} {S : List (List Int)} {n : Nat} (h : firstAt lt S = -1) : mergeN lt n S = [] := by
  cases n with
  | zero => rfl
  | succ n => rw [mergeN, stepM_none h]
end Go.Proofs.Ytibmimdlgbhdnaa
