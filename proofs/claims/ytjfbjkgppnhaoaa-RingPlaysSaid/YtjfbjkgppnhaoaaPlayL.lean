/-
  What lies in a ring ahead of a place, and behind it; a row that rises, with one thing more.
-/
import Derived.Test.YtjfbjkgppnhaoaaRingSt
namespace Go.Proofs.Ytjfbjkgppnhaoaa
open Go.ChangeShapes Go.WideShapes Go.ChangeAt Go.RowKit
set_option linter.unusedVariables false

/-- What lies at m places from the i-th on. -/
def itr (n L : Nat) (x : Nat → Int) (t : Nat → Bool) (i m : Nat) : List (Int × Int) := (List.range m).filterMap (fun j => itm n L x t (i + j))
section
variable {n L i m : Nat} {x : Nat → Int} {t : Nat → Bool}
theorem its_add : ∀ m, its n L x t (i + m) = its n L x t i ++ itr n L x t i m
  | 0 => by simp [itr]
  | m + 1 => by
    rw [← Nat.add_assoc, its_succ, its_add m, List.append_assoc]
    congr 1
    unfold itr
    rw [List.range_succ, List.filterMap_append]
    congr 1
theorem itr_succ : itr n L x t i (m + 1) = (itm n L x t i).toList ++ itr n L x t (i + 1) m := by
  unfold itr
  rw [List.range_succ_eq_map, List.filterMap_cons]
  have e : (List.map Nat.succ (List.range m)).filterMap (fun j => itm n L x t (i + j)) = (List.range m).filterMap (fun j => itm n L x t (i + 1 + j)) := by
    rw [List.filterMap_map]
    refine fm_congr _ (fun j _ => ?_)
    show itm n L x t (i + (j + 1)) = _
    rw [show i + (j + 1) = i + 1 + j from by omega]
  rw [e, Nat.add_zero]
  cases itm n L x t i <;> rfl
theorem its_at (hi : i < n) : its n L x t n = its n L x t i ++ ((itm n L x t i).toList ++ itr n L x t (i + 1) (n - i - 1)) := by
  rw [← itr_succ, ← its_add, show i + (n - i - 1 + 1) = n from by omega]
theorem its_no (hi : i < n) (hf : t ((L + i) % n) = false) : its n L x t n = its n L x t i ++ itr n L x t (i + 1) (n - i - 1) := by
  rw [its_at hi]
  have : itm n L x t i = none := by unfold itm; rw [if_neg (by rw [hf]; decide)]
  rw [this]
  rfl
theorem its_yes (hi : i < n) (ht : t ((L + i) % n) = true) : its n L x t n = its n L x t i ++ (((L + i : Nat) : Int), x ((L + i) % n)) :: itr n L x t (i + 1) (n - i - 1) := by
  rw [its_at hi]
  have : itm n L x t i = some (((L + i : Nat) : Int), x ((L + i) % n)) := by unfold itm; rw [if_pos ht]
  rw [this]
  rfl
theorem itr_eq {x' : Nat → Int} {t' : Nat → Bool} (h : ∀ j, j < m → t ((L + (i + j)) % n) = t' ((L + (i + j)) % n) ∧ x ((L + (i + j)) % n) = x' ((L + (i + j)) % n)) : itr n L x t i m = itr n L x' t' i m := by
  unfold itr
  refine fm_congr _ (fun j hj => ?_)
  obtain ⟨h1, h2⟩ := h j (by simpa using hj)
  unfold itm
  rw [h1, h2]
theorem its_put (hi : i < n) (hf : t ((L + i) % n) = false) (v : Int) : its n L (upd x ((L + i) % n) v) (upd t ((L + i) % n) true) n = its n L x t i ++ (((L + i : Nat) : Int), v) :: itr n L x t (i + 1) (n - i - 1) := by
  rw [its_yes hi (by rw [upd_at]), upd_at]
  congr 1
  · refine its_eq (fun j hj => ?_)
    have hne : (L + j) % n ≠ (L + i) % n := fun q => by have := mod_inj (by omega) hi q; omega
    rw [upd_off _ _ hne, upd_off _ _ hne]
    exact ⟨rfl, rfl⟩
  · congr 1
    refine itr_eq (fun j hj => ?_)
    have hne : (L + (i + 1 + j)) % n ≠ (L + i) % n := fun q => by have := mod_inj (by omega) hi q; omega
    rw [upd_off _ _ hne, upd_off _ _ hne]
    exact ⟨rfl, rfl⟩
theorem its_lt {q : Int × Int} (h : q ∈ its n L x t i) : q.1 < ((L + i : Nat) : Int) := by
  obtain ⟨j, hj, _, rfl⟩ := its_mem h
  show ((L + j : Nat) : Int) < _
  omega
theorem its_ge {q : Int × Int} (h : q ∈ its n L x t i) : (L : Int) ≤ q.1 := by
  obtain ⟨j, hj, _, rfl⟩ := its_mem h
  show _ ≤ ((L + j : Nat) : Int)
  omega
theorem itr_gt {q : Int × Int} (h : q ∈ itr n L x t (i + 1) m) : ((L + i : Nat) : Int) < q.1 := by
  unfold itr at h
  obtain ⟨j, hj, e⟩ := List.mem_filterMap.1 h
  unfold itm at e
  split at e
  · injection e with e
    rw [← e]
    show _ < ((L + (i + 1 + j) : Nat) : Int)
    omega
  · cases e
/-- Where a scan of a row for a place ends. -/
structure Stops (l : List (Int × Int)) (a : Int) (p : Nat) : Prop where
  le : p ≤ l.length
  lt : ∀ j q, j < p → l[j]? = some q → q.1 < a
  ge : ∀ q, l[p]? = some q → a ≤ q.1
theorem its_stops (hi : i < n) : Stops (its n L x t n) ((L + i : Nat) : Int) (its n L x t i).length := by
  rw [its_at hi]
  refine ⟨by rw [List.length_append]; omega, fun j q hj hq => ?_, fun q hq => ?_⟩
  · rw [List.getElem?_append_left hj] at hq
    exact its_lt (List.mem_of_getElem? hq)
  · rw [List.getElem?_append_right (Nat.le_refl _), Nat.sub_self] at hq
    have hq := List.mem_of_getElem? hq
    rcases List.mem_append.1 hq with h | h
    · unfold itm at h
      split at h
      · simp at h
        rw [h]
        exact Int.le_refl _
      · simp at h
    · exact Int.le_of_lt (itr_gt h)
end
end Go.Proofs.Ytjfbjkgppnhaoaa
