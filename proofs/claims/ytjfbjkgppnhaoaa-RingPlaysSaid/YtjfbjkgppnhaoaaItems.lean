/-
  What lies in a ring, by rising places, as a plain list.
-/
import Derived.Test.YtjfbjkgppnhaoaaKeep
namespace Go.Proofs.Ytjfbjkgppnhaoaa
open Go.ChangeShapes Go.WideShapes Go.ChangeAt Go.RowKit
set_option linter.unusedVariables false

def itm (n L : Nat) (x : Nat → Int) (t : Nat → Bool) (i : Nat) : Option (Int × Int) := if t ((L + i) % n) = true then some (((L + i : Nat) : Int), x ((L + i) % n)) else none
def its (n L : Nat) (x : Nat → Int) (t : Nat → Bool) (k : Nat) : List (Int × Int) := (List.range k).filterMap (itm n L x t)

theorem fm_congr {α β : Type} {f g : α → Option β} : ∀ (l : List α), (∀ a ∈ l, f a = g a) → l.filterMap f = l.filterMap g
  | [], _ => rfl
  | a :: l, h => by
    rw [List.filterMap_cons, List.filterMap_cons, h a (List.mem_cons_self ..), fm_congr l (fun b hb => h b (List.mem_cons_of_mem _ hb))]
section
variable {n L k i : Nat} {x : Nat → Int} {t : Nat → Bool}
theorem its_succ : its n L x t (k + 1) = its n L x t k ++ (itm n L x t k).toList := by
  unfold its
  rw [List.range_succ, List.filterMap_append]
  congr 1
theorem its_hit (h : t ((L + k) % n) = true) : its n L x t (k + 1) = its n L x t k ++ [(((L + k : Nat) : Int), x ((L + k) % n))] := by
  rw [its_succ]
  simp [itm, h]
theorem its_miss (h : t ((L + k) % n) = false) : its n L x t (k + 1) = its n L x t k := by
  rw [its_succ]
  simp [itm, h]
theorem its_len : (its n L x t k).length ≤ k := by
  unfold its
  exact Nat.le_trans (List.length_filterMap_le _ _) (by simp)
theorem its_mem {p : Int × Int} (h : p ∈ its n L x t k) : ∃ i, i < k ∧ t ((L + i) % n) = true ∧ p = (((L + i : Nat) : Int), x ((L + i) % n)) := by
  unfold its at h
  obtain ⟨i, hi, e⟩ := List.mem_filterMap.1 h
  unfold itm at e
  by_cases ht : t ((L + i) % n) = true
  · rw [if_pos ht] at e
    exact ⟨i, by simpa using hi, ht, by simpa using e.symm⟩
  · rw [if_neg ht] at e
    cases e
theorem its_has (hi : i < k) (ht : t ((L + i) % n) = true) : (((L + i : Nat) : Int), x ((L + i) % n)) ∈ its n L x t k := by
  unfold its
  refine List.mem_filterMap.2 ⟨i, by simpa using hi, ?_⟩
  unfold itm
  rw [if_pos ht]
theorem its_sorted : ∀ k, (its n L x t k).Pairwise (fun p q => p.1 < q.1)
  | 0 => List.Pairwise.nil
  | k + 1 => by
    rw [its_succ]
    refine List.pairwise_append.2 ⟨its_sorted k, ?_, fun p hp q hq => ?_⟩
    · cases itm n L x t k <;> simp
    · obtain ⟨i, hi, _, rfl⟩ := its_mem hp
      unfold itm at hq
      split at hq
      · simp at hq
        subst hq
        simp
        omega
      · simp at hq
theorem its_eq {x' : Nat → Int} {t' : Nat → Bool} (h : ∀ i, i < k → t ((L + i) % n) = t' ((L + i) % n) ∧ x ((L + i) % n) = x' ((L + i) % n)) : its n L x t k = its n L x' t' k := by
  unfold its
  refine fm_congr _ (fun i hi => ?_)
  obtain ⟨h1, h2⟩ := h i (by simpa using hi)
  unfold itm
  rw [h1, h2]
theorem its_put_len (hi : i < n) (hf : t ((L + i) % n) = false) (v : Int) : ∀ k, k ≤ n → (its n L (upd x ((L + i) % n) v) (upd t ((L + i) % n) true) k).length = (its n L x t k).length + if i < k then 1 else 0
  | 0, _ => by simp [its]
  | k + 1, hk => by
    have ih := its_put_len hi hf v k (by omega)
    by_cases e : k = i
    · subst e
      rw [its_hit (by rw [upd_at]), its_miss hf, List.length_append, ih]
      simp
    · have hne : (L + k) % n ≠ (L + i) % n := fun q => e (mod_inj (by omega) hi q)
      have e1 : (itm n L (upd x ((L + i) % n) v) (upd t ((L + i) % n) true) k) = itm n L x t k := by
        unfold itm
        rw [upd_off _ _ hne, upd_off _ _ hne]
      rw [its_succ, its_succ, e1, List.length_append, List.length_append, ih]
      by_cases h2 : i < k
      · rw [if_pos h2, if_pos (by omega)]
        omega
      · rw [if_neg h2, if_neg (by omega)]
        omega
theorem its_shift (m : Nat) : its n L x t (m + 1) = (itm n L x t 0).toList ++ its n (L + 1) x t m := by
  unfold its
  rw [List.range_succ_eq_map, List.filterMap_cons]
  have e : (List.range m).filterMap (itm n L x t ∘ Nat.succ) = (List.range m).filterMap (itm n (L + 1) x t) := by
    refine fm_congr _ (fun i _ => ?_)
    show itm n L x t (i + 1) = itm n (L + 1) x t i
    unfold itm
    rw [show L + (i + 1) = L + 1 + i from by omega]
  cases h : itm n L x t 0 <;> simp [List.filterMap_map, e]
theorem its_drop (h1 : 1 ≤ n) (ht : t (L % n) = true) : its n L x t n = ((L : Int), x (L % n)) :: its n (L + 1) (upd x (L % n) 0) (upd t (L % n) false) n := by
  obtain ⟨m, rfl⟩ : ∃ m, n = m + 1 := ⟨n - 1, by omega⟩
  rw [its_shift]
  have e0 : (itm (m + 1) L x t 0).toList = [((L : Int), x (L % (m + 1)))] := by
    unfold itm
    rw [Nat.add_zero, if_pos ht]
    rfl
  rw [e0, its_miss]
  · show _ :: _ = _ :: _
    congr 1
    refine its_eq (fun i hi => ?_)
    have hne : (L + 1 + i) % (m + 1) ≠ L % (m + 1) := fun q => by
      have := mod_inj (L := L) (u := 1 + i) (v := 0) (n := m + 1) (by omega) (by omega) (by rw [Nat.add_zero, ← Nat.add_assoc]; exact q)
      omega
    rw [upd_off _ _ hne, upd_off _ _ hne]
    exact ⟨rfl, rfl⟩
  · have : (L + 1 + m) % (m + 1) = L % (m + 1) := by
      rw [show L + 1 + m = L + (m + 1) from by omega, Nat.add_mod_right]
    rw [this, upd_at]
/-- Two rows that rise, and have the same things, are the same. -/
theorem rise_ext : ∀ (l m : List (Int × Int)), l.Pairwise (fun p q => p.1 < q.1) → m.Pairwise (fun p q => p.1 < q.1) → (∀ p, p ∈ l ↔ p ∈ m) → l = m
  | [], [], _, _, _ => rfl
  | [], q :: m, _, _, h => absurd ((h q).2 (List.mem_cons_self ..)) (by simp)
  | p :: l, [], _, _, h => absurd ((h p).1 (List.mem_cons_self ..)) (by simp)
  | p :: l, q :: m, hl, hm, h => by
    have h1 := List.pairwise_cons.1 hl
    have h2 := List.pairwise_cons.1 hm
    have e : p = q := by
      rcases List.mem_cons.1 ((h p).1 (List.mem_cons_self ..)) with e | e
      · exact e
      · rcases List.mem_cons.1 ((h q).2 (List.mem_cons_self ..)) with e2 | e2
        · exact e2.symm
        · have a := h1.1 q e2
          have b := h2.1 p e
          omega
    subst e
    congr 1
    refine rise_ext l m h1.2 h2.2 (fun r => ⟨fun hr => ?_, fun hr => ?_⟩)
    · rcases List.mem_cons.1 ((h r).1 (List.mem_cons_of_mem _ hr)) with e | e
      · subst e
        have := h1.1 r hr
        omega
      · exact e
    · rcases List.mem_cons.1 ((h r).2 (List.mem_cons_of_mem _ hr)) with e | e
      · subst e
        have := h2.1 r hr
        omega
      · exact e
end
end Go.Proofs.Ytjfbjkgppnhaoaa
