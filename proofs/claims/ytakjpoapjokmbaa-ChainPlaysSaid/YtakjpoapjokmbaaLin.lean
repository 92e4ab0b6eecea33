/-
  Chains that are one row of nodes; the numbers of nodes, cell by cell, from either end.
-/
import Derived.Test.YtakjpoapjokmbaaApi
namespace Go.Proofs.Ytakjpoapjokmbaa
open Go
set_option linter.unusedVariables false

section
variable {G : Int → Option Nd} {nd : Nat → Nd}
theorem range_snoc (j : Nat) : (List.range (j + 1)).reverse = j :: (List.range j).reverse := by
  rw [List.range_succ, List.reverse_append]
  rfl
theorem path_lin (hp : ∀ k, (nd k).prev = (k : Int) - 1) (hm : G (-1) = none) : ∀ j : Nat, (∀ k : Nat, k ≤ j → G (k : Int) = some (nd k)) → pathG (j + 1) G (j : Int) = ((List.range (j + 1)).reverse).map nd
  | 0, hG => by
    have h0 : G ((0 : Nat) : Int) = some (nd 0) := hG 0 (Nat.le_refl _)
    rw [pathG_some h0]
    rfl
  | j + 1, hG => by
    have h1 := hG (j + 1) (Nat.le_refl _)
    rw [pathG_some h1, hp, show ((j + 1 : Nat) : Int) - 1 = (j : Int) from by omega, path_lin hp hm j (fun k hk => hG k (by omega)), range_snoc (j + 1)]
    rfl
theorem pathOk_lin (hp : ∀ k, (nd k).prev = (k : Int) - 1) (hm : G (-1) = none) : ∀ j : Nat, j ≤ 900 → (∀ k : Nat, k ≤ j → G (k : Int) = some (nd k)) → PathOk (j + 1) G (j : Int)
  | 0, hj, hG => fun q hq => by
    have h0 : G ((0 : Nat) : Int) = some (nd 0) := hG 0 (Nat.le_refl _)
    rw [h0] at hq
    injection hq with hq
    subst hq
    rw [hp]
    exact ⟨by decide, hm⟩
  | j + 1, hj, hG => fun q hq => by
    rw [hG (j + 1) (Nat.le_refl _)] at hq
    injection hq with hq
    subst hq
    rw [hp, show ((j + 1 : Nat) : Int) - 1 = (j : Int) from by omega]
    exact ⟨wf_small (by omega) (by omega), pathOk_lin hp hm j (by omega) (fun k hk => hG k (by omega))⟩
theorem updG_other {i j : Int} {q : Option Nd} (h : j ≠ i) : updG G i q j = G j := by
  unfold updG
  rw [if_neg h]
theorem updG_same (i : Int) (q : Option Nd) : updG G i q i = q := by
  unfold updG
  rw [if_pos rfl]
end
/-- All go that are held once, from one on back. -/
theorem drop_lin {nd : Nat → Nd} (hp : ∀ k, (nd k).prev = (k : Int) - 1) (hc : ∀ k, (nd k).count = 1) : ∀ (j : Nat) (G : Int → Option Nd), (∀ k : Nat, k ≤ j → G (k : Int) = some (nd k)) → (dropG (j + 1) G (j : Int)).2 = ((List.range (j + 1)).reverse).map (fun k => ((nd k).slot, (nd k).gen))
  | 0, G, hG => by
    have h0 : G ((0 : Nat) : Int) = some (nd 0) := hG 0 (Nat.le_refl _)
    rw [dropG_last (by omega) h0 (by rw [hc]; omega), hp]
    rw [show ((0 : Nat) : Int) - 1 = -1 from by omega, dropG_end]
    rfl
  | j + 1, G, hG => by
    rw [dropG_last (by omega) (hG (j + 1) (Nat.le_refl _)) (by rw [hc]; omega), hp, show ((j + 1 : Nat) : Int) - 1 = (j : Int) from by omega, drop_lin hp hc j _ (fun k hk => by rw [updG_other (by omega)]; exact hG k (by omega)), range_snoc (j + 1)]
    rfl
theorem dropOk_lin {nd : Nat → Nd} (hp : ∀ k, (nd k).prev = (k : Int) - 1) (hc : ∀ k, (nd k).count = 1) : ∀ (j : Nat) (G : Int → Option Nd), j ≤ 900 → (∀ k : Nat, k ≤ j → G (k : Int) = some (nd k)) → DropOk (j + 1) G (j : Int)
  | 0, G, hj, hG => .inr ⟨nd 0, hG 0 (Nat.le_refl _), by omega, by omega, by rw [hc]; omega, by rw [hc]; omega, .inr (by rw [hp]; rfl)⟩
  | j + 1, G, hj, hG => .inr ⟨nd (j + 1), hG (j + 1) (Nat.le_refl _), by omega, by omega, by rw [hc]; omega, by rw [hc]; omega, .inr (by
      rw [hp, show ((j + 1 : Nat) : Int) - 1 = (j : Int) from by omega]
      exact dropOk_lin hp hc j _ (by omega) (fun k hk => by rw [updG_other (by omega)]; exact hG k (by omega)))⟩
/-! ### The numbers, cell by cell, from either end -/
def inCell (l : List Nd) (j : Nat) : List Int := (l.filter (fun q => q.cell.toNat == j)).map Nd.num
theorem inCell_snoc (l : List Nd) (q : Nd) (j : Nat) : inCell (l ++ [q]) j = inCell l j ++ if q.cell.toNat == j then [q.num] else [] := by
  unfold inCell
  rw [List.filter_append, List.map_append]
  congr 1
  simp only [List.filter_cons, List.filter_nil]
  split <;> rfl
theorem padL_at {L : List (List Int)} {c j : Nat} {f : Nat → List Int} (h : ∀ j, j < L.length → L[j]? = some (f j)) (h0 : ∀ j, L.length ≤ j → f j = []) (hj : j < (padL L c).length) : (padL L c)[j]? = some (f j) := by
  unfold padL at hj ⊢
  by_cases hlt : j < L.length
  · rw [List.getElem?_append_left hlt]
    exact h j hlt
  · rw [List.length_append, List.length_replicate] at hj
    rw [List.getElem?_append_right (by omega), List.getElem?_replicate, if_pos (by omega), h0 j (by omega)]
theorem padL_length (L : List (List Int)) (c : Nat) : (padL L c).length = max L.length (c + 1) := by
  unfold padL
  rw [List.length_append, List.length_replicate]
  omega
/-- What lies where, of all that was laid. -/
structure Laid (l : List Nd) (L : List (List Int)) : Prop where
  len : ∀ j, j < L.length ↔ ∃ q ∈ l, j ≤ q.cell.toNat
  at_ : ∀ j : Nat, j < L.length → L[j]? = some (inCell l j)
theorem inCell_none {l : List Nd} {j : Nat} (h : ∀ q ∈ l, q.cell.toNat < j) : inCell l j = [] := by
  unfold inCell
  rw [List.filter_eq_nil_iff.2 (fun q hq => by have := h q hq; simp; omega)]
  rfl
theorem Laid.none {l : List Nd} {L : List (List Int)} (h : Laid l L) {j : Nat} (hj : L.length ≤ j) : inCell l j = [] := inCell_none (fun q hq => by
  by_cases hlt : q.cell.toNat < j
  · exact hlt
  · have := (h.len j).2 ⟨q, hq, by omega⟩
    omega)
theorem Laid.add {l : List Nd} {L : List (List Int)} (h : Laid l L) (q : Nd) : Laid (l ++ [q]) (addL L q) := by
  have hl : (addL L q).length = max L.length (q.cell.toNat + 1) := by unfold addL; rw [List.length_set, padL_length]
  refine ⟨fun j => ?_, fun j hj => ?_⟩
  · rw [hl]
    constructor
    · intro hj
      by_cases hlt : j < L.length
      · obtain ⟨q', h1, h2⟩ := (h.len j).1 hlt
        exact ⟨q', by simp [h1], h2⟩
      · exact ⟨q, by simp, by omega⟩
    · rintro ⟨q', h1, h2⟩
      rcases List.mem_append.1 h1 with h1 | h1
      · have := (h.len j).2 ⟨q', h1, h2⟩
        omega
      · simp at h1
        subst h1
        omega
  · rw [hl] at hj
    have hp : j < (padL L q.cell.toNat).length := by rw [padL_length]; exact hj
    have hpj := padL_at (f := inCell l) (c := q.cell.toNat) h.at_ (fun j hj => h.none hj) hp
    rw [inCell_snoc]
    unfold addL
    by_cases e : q.cell.toNat = j
    · rw [← e] at hpj ⊢
      rw [List.getElem?_set_self (padL_len _ _), hpj]
      simp
    · rw [List.getElem?_set_ne e, hpj]
      simp [e]
theorem laid_foldl : ∀ (l l0 : List Nd) (L : List (List Int)), Laid l0 L → Laid (l0 ++ l) (l.foldl addL L)
  | [], l0, L, h => by simpa using h
  | q :: l, l0, L, h => by
    have := laid_foldl l (l0 ++ [q]) (addL L q) (h.add q)
    rw [List.append_assoc] at this
    exact this
theorem laid_sets (l : List Nd) : Laid l (setsL l) := by
  have := laid_foldl l [] [] ⟨fun j => by simp, fun j hj => by simp at hj⟩
  rw [List.nil_append] at this
  exact this
theorem laid_same {l : List Nd} {L L' : List (List Int)} (h : Laid l L) (h' : Laid l L') : L = L' := by
  have hl : L.length = L'.length := by
    have h1 : ∀ j, j < L.length ↔ j < L'.length := fun j => (h.len j).trans (h'.len j).symm
    have a := h1 L.length
    have b := h1 L'.length
    omega
  apply List.ext_getElem?
  intro j
  by_cases hj : j < L.length
  · rw [h.at_ j hj, h'.at_ j (by omega)]
  · rw [List.getElem?_eq_none (by omega), List.getElem?_eq_none (by omega)]
/-- From the last to the first, each row the other way round: as from the first to the last. -/
theorem sets_both (l : List Nd) : setsG l = setsL l.reverse := by
  refine laid_same (l := l.reverse) ?_ (laid_sets _)
  have h := laid_sets l
  unfold setsG
  refine ⟨fun j => ?_, fun j hj => ?_⟩
  · rw [List.length_map, h.len j]
    simp
  · rw [List.length_map] at hj
    rw [List.getElem?_map, h.at_ j hj]
    unfold inCell
    rw [List.filter_reverse, List.map_reverse]
    rfl
end Go.Proofs.Ytakjpoapjokmbaa
