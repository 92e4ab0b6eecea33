/-
  Rows in order, merged: what comes out is in order, and from where it came; in Lean.
-/
import Derived.Test.YtibmimdlgbhdnaaTupI8
namespace Go.Proofs.Ytibmimdlgbhdnaa
open Go.ChangeShapes Go.WideShapes Go.ChangeAt Go.RowKit
set_option linter.unusedVariables false

def lt8 (a b : Int) : Bool := decide (a / 8 < b / 8)
theorem less_28 : Less 28 lt8 := fun a b w => by
  go_enter Try.func28, Try.ntmps28
  go_wp2
  go_ret
  exact ⟨rfl, rfl⟩
/-- Each row rises. -/
def Rises (S : List (List Int)) : Prop := ∀ l ∈ S, l.Pairwise (fun a b => a / 8 ≤ b / 8)
theorem full_iff {S : List (List Int)} {j : Nat} : full S j = true ↔ ∃ (y : Int) (l : List Int), S[j]? = some (y :: l) := by
  unfold full
  constructor
  · intro h
    split at h
    · exact ⟨_, _, by assumption⟩
    · cases h
  · rintro ⟨y, l, h⟩
    rw [h]
theorem first_iff {S : List (List Int)} {j : Nat} {y : Int} {l : List Int} (h : S[j]? = some (y :: l)) : isFirst lt8 S j = true ↔ ∀ (k : Nat) (z : Int) (m : List Int), S[k]? = some (z :: m) → y / 8 ≤ z / 8 := by
  unfold isFirst
  rw [h]
  simp only [leastB, List.all_eq_true, List.mem_range]
  constructor
  · intro hk k z m hz
    by_cases e : k = j
    · subst e
      rw [h] at hz
      injection hz with hz
      injection hz with hz _
      rw [hz]
      exact Int.le_refl _
    · have := hk k (List.getElem?_eq_some_iff.1 hz).1
      unfold okB at this
      rw [hz] at this
      simp [e, lt8] at this
      exact this
  · intro hk k hkl
    unfold okB
    cases hz : S[k]? with
    | none => simp
    | some l' =>
      cases l' with
      | nil => simp
      | cons z m =>
        have := hk k z m hz
        simp [lt8]
        exact .inr this
theorem has_first {S : List (List Int)} : ∀ n, (∃ (j : Nat), j < n ∧ ∃ (y : Int) (l : List Int), S[j]? = some (y :: l)) → ∃ (j : Nat) (y : Int) (l : List Int), j < n ∧ S[j]? = some (y :: l) ∧ ∀ (k : Nat) (z : Int) (m : List Int), k < n → S[k]? = some (z :: m) → y / 8 ≤ z / 8
  | 0, ⟨j, hj, _⟩ => absurd hj (Nat.not_lt_zero j)
  | n + 1, ⟨j, hj, y, l, h⟩ => by
    by_cases hn : ∃ (y : Int) (l : List Int), S[n]? = some (y :: l)
    · obtain ⟨y', l', h'⟩ := hn
      by_cases hx : ∃ (j : Nat), j < n ∧ ∃ (y : Int) (l : List Int), S[j]? = some (y :: l)
      · obtain ⟨j2, y2, l2, h1, h2, h3⟩ := has_first n hx
        by_cases hle : y' / 8 ≤ y2 / 8
        · refine ⟨n, y', l', Nat.lt_succ_self n, h', fun k z m hk hz => ?_⟩
          by_cases e : k = n
          · subst e
            rw [h'] at hz
            injection hz with hz
            injection hz with hz _
            rw [hz]
            exact Int.le_refl _
          · have := h3 k z m (by omega) hz
            omega
        · refine ⟨j2, y2, l2, by omega, h2, fun k z m hk hz => ?_⟩
          by_cases e : k = n
          · subst e
            rw [h'] at hz
            injection hz with hz
            injection hz with hz _
            rw [← hz]
            omega
          · exact h3 k z m (by omega) hz
      · refine ⟨n, y', l', Nat.lt_succ_self n, h', fun k z m hk hz => ?_⟩
        by_cases e : k = n
        · subst e
          rw [h'] at hz
          injection hz with hz
          injection hz with hz _
          rw [hz]
          exact Int.le_refl _
        · exact absurd ⟨k, by omega, z, m, hz⟩ hx
    · have hjn : j ≠ n := fun e => hn ⟨y, l, by rw [← e]; exact h⟩
      obtain ⟨j2, y2, l2, h1, h2, h3⟩ := has_first n ⟨j, by omega, y, l, h⟩
      exact ⟨j2, y2, l2, by omega, h2, fun k z m hk hz => h3 k z m (by
        have : k ≠ n := fun e => hn ⟨z, m, by rw [← e]; exact hz⟩
        omega) hz⟩
/-- The first row: its next number is least, and no row ahead of it has the same. -/
theorem first_spec {S : List (List Int)} {j : Nat} (h : firstAt lt8 S = (j : Int)) : ∃ (x : Int) (l : List Int), S[j]? = some (x :: l) ∧ (∀ (k : Nat) (z : Int) (m : List Int), S[k]? = some (z :: m) → x / 8 ≤ z / 8) ∧ ∀ (k : Nat) (z : Int) (m : List Int), k < j → S[k]? = some (z :: m) → z ≠ x := by
  obtain ⟨x, l, hx⟩ := firstAt_full h
  obtain ⟨j2, y2, l2, h1, h2, h3⟩ := has_first S.length ⟨j, (List.getElem?_eq_some_iff.1 hx).1, x, l, hx⟩
  have hf2 : isFirst lt8 S j2 = true := (first_iff h2).2 fun k z m hz => h3 k z m (List.getElem?_eq_some_iff.1 hz).1 hz
  unfold firstAt at h
  cases e : (List.range S.length).find? (isFirst lt8 S) with
  | none => exact absurd hf2 (by simpa using List.find?_eq_none.1 e j2 (List.mem_range.2 h1))
  | some j3 =>
    rw [e] at h
    have hj : j3 = j := by have : (j3 : Int) = (j : Int) := h; omega
    subst hj
    have hfj := List.find?_some e
    have hle := (first_iff hx).1 hfj
    refine ⟨x, l, hx, hle, fun k z m hk hz hzx => ?_⟩
    have hnk : isFirst lt8 S k = false := by
      obtain ⟨la, bs, h4, h5⟩ := List.find?_eq_some_iff_append.1 e |>.2
      have hka : k ∈ la := by
        have hlen : la.length = j3 := by
          have h6 : (List.range S.length)[la.length]? = some j3 := by rw [h4]; simp
          have h7 := List.getElem?_eq_some_iff.1 h6
          obtain ⟨q, hq⟩ := h7
          simpa using hq
        have h8 : la = List.range la.length := by
          have := congrArg (List.take la.length) h4
          rw [List.take_left, List.take_range, Nat.min_eq_left (by have := congrArg List.length h4; simp at this; omega)] at this
          exact this.symm
        rw [h8, hlen]
        exact List.mem_range.2 hk
      simpa using h5 k hka
    have : isFirst lt8 S k = true := (first_iff hz).2 (by rw [hzx]; exact hle)
    rw [hnk] at this
    cases this
theorem total_zero {S : List (List Int)} (h : ∀ l ∈ S, l = []) : total S = 0 := by
  unfold total
  induction S with
  | nil => rfl
  | cons a S ih =>
    have h1 := h a (List.mem_cons_self ..)
    have h2 := ih fun l hl => h l (List.mem_cons_of_mem _ hl)
    simp [h1, h2]
theorem merge_len (lt : Int → Int → Bool) : ∀ n S, total S = n → (mergeN lt n S).length = n
  | 0, S, _ => rfl
  | n + 1, S, h => by
    rcases firstAt_or lt S with hf | ⟨i, x, l, hf, hx⟩
    · have := total_zero (firstAt_none hf)
      omega
    · rw [mergeN_step hf hx, List.length_cons, merge_len lt n _ (by have := total_set hx; omega)]
/-- One step of what is merged. -/
theorem merge_step {S : List (List Int)} {x : Int} {r : List Int} (h : mergeN lt8 (total S) S = x :: r) (hR : Rises S) :
    ∃ (j : Nat) (l : List Int), S[j]? = some (x :: l) ∧ r = mergeN lt8 (total (S.set j l)) (S.set j l) ∧ Rises (S.set j l) ∧ (∀ (k : Nat) (z : Int) (m : List Int), k < j → S[k]? = some (z :: m) → z ≠ x) ∧ ∀ (k : Nat) (z : Int) (m : List Int), (S.set j l)[k]? = some (z :: m) → x / 8 ≤ z / 8 := by
  rcases firstAt_or lt8 S with hf | ⟨j, x', l, hf, hx⟩
  · rw [mergeN_none hf] at h
    cases h
  · obtain ⟨x2, l2, hx2, h3, h4⟩ := first_spec hf
    rw [hx] at hx2
    injection hx2 with hx2
    injection hx2 with hx2 hl2
    subst hx2
    subst hl2
    have ht := total_set hx
    rw [← ht, mergeN_step hf hx] at h
    injection h with h5 h6
    subst h5
    refine ⟨j, l, hx, h6.symm, fun m hm => ?_, h4, fun k z m hz => ?_⟩
    · rcases List.mem_or_eq_of_mem_set hm with hm | rfl
      · exact hR m hm
      · exact (List.pairwise_cons.1 (hR _ (List.mem_of_getElem? hx))).2
    · by_cases e : k = j
      · subst e
        rw [List.getElem?_set_self (List.getElem?_eq_some_iff.1 hx).1] at hz
        injection hz with hz
        have := (List.pairwise_cons.1 (hR _ (List.mem_of_getElem? hx))).1 z (by rw [hz]; exact List.mem_cons_self ..)
        exact this
      · rw [List.getElem?_set_ne (Ne.symm e)] at hz
        exact h3 k z m hz
end Go.Proofs.Ytibmimdlgbhdnaa
