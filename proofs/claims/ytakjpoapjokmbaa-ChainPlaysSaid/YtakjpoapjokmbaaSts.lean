/-
  Rows of rows of numbers, each in a block of its own.
-/
import Derived.Test.YtakjpoapjokmbaaRev
namespace Go.Proofs.Ytakjpoapjokmbaa
open Go.ChangeShapes Go.WideShapes Go.ChangeAt Go.RowKit
set_option linter.unusedVariables false

/-- The inner rows, by their slices. -/
structure Inn (W : World) (n₀ : Nat) (us : List Value) (L : List (List Int)) : Prop where
  at_ : ∀ (j : Nat) (l : List Int) (u : Value), L[j]? = some l → us[j]? = some u → W.ownsRow n₀ 3 1 u l.length (icells l)
  ap : ∀ (i j : Nat) (u u' : Value) (k : Nat), us[i]? = some u → us[j]? = some u' → i ≠ j → u.ownBlock = some k → u'.ownBlock ≠ some k
def Sts (W : World) (n₀ : Nat) (v : Value) (L : List (List Int)) : Prop := ∃ us : List Value, W.ownsRow n₀ 46 1 v L.length us ∧ Inn W n₀ us L
section
variable {W W' w1 : World} {n₀ : Nat} {v v' : Value} {L : List (List Int)} {us : List Value}
theorem Sts.nil (W : World) (n₀ : Nat) : Sts W n₀ (.slice none 0 0) [] := ⟨[], World.ownsRow_nil _ _ _ _, ⟨fun j l u h => by simp at h, fun i j u u' k h => by simp at h⟩⟩
theorem Inn.keep (h : Inn W n₀ us L) (hl : us.length = L.length) (hk : ∀ (j k : Nat) u, us[j]? = some u → u.ownBlock = some k → W'.heap[k]? = W.heap[k]?) : Inn W' n₀ us L :=
  ⟨fun j l u h1 h2 => rrow_keep (e := 3) (h.at_ j l u h1 h2) (fun k hb => hk j k u h2 hb), h.ap⟩
theorem Sts.keep (h : Sts W n₀ v L) (hk : ∀ (k : Nat) vs ty fr, n₀ ≤ k → W.heap[k]? = some (.cells vs ty fr) → ty = 46 ∨ ty = 3 → W'.heap[k]? = W.heap[k]?) : Sts W' n₀ v L := by
  obtain ⟨us, hO, hI⟩ := h
  have hlen : us.length = L.length := by have := hO.1; omega
  refine ⟨us, rrow_keep (e := 46) hO (fun k hb => ?_), hI.keep hlen (fun j k u hu hb => ?_)⟩
  · obtain ⟨h1, _, vs, fr, h3⟩ := rrow_cells hO hb
    exact hk k vs 46 fr h1 h3 (.inl rfl)
  · obtain ⟨l, hl⟩ : ∃ l, L[j]? = some l := ⟨_, List.getElem?_eq_getElem (by have := (List.getElem?_eq_some_iff.1 hu).1; omega)⟩
    obtain ⟨h1, _, vs, fr, h3⟩ := rrow_cells (hI.at_ j l u hl hu) hb
    exact hk k vs 3 fr h1 h3 (.inr rfl)
theorem row_types {e e' : TypeId} {s s' n n' b b' : Nat} {u u' : Value} {xs xs' : List Value} (h : W.ownsRow b e s u n xs) (h' : W.ownsRow b' e' s' u' n' xs') (hne : e ≠ e') {k : Nat} (hk : u.ownBlock = some k) : u'.ownBlock ≠ some k := fun hk' => by
  obtain ⟨_, _, vs, fr, h3⟩ := rrow_cells h hk
  obtain ⟨_, _, vs', fr', h3'⟩ := rrow_cells h' hk'
  rw [h3] at h3'
  injection h3' with h4
  injection h4 with _ h5 _
  exact hne h5
/-- One row more, with nothing in it. -/
theorem Sts.more (hO : W.ownsRow n₀ 46 1 v L.length us) (hI : Inn W n₀ us L) {tmp : Obj} (hown : w1.ownsRow n₀ 46 1 v' (L.length + 1) (us ++ [.slice none 0 0])) (hg : (W.alloc tmp).grownBy w1 v.ownBlock) : Sts w1 n₀ v' (L ++ [[]]) := by
  have hlen : us.length = L.length := by have := hO.1; omega
  refine ⟨us ++ [.slice none 0 0], by rw [List.length_append]; exact hown, ⟨fun j l u h1 h2 => ?_, fun i j u u' k h1 h2 hne hb => ?_⟩⟩
  · by_cases hj : j < L.length
    · rw [List.getElem?_append_left hj] at h1
      rw [List.getElem?_append_left (by omega)] at h2
      have hr := hI.at_ j l u h1 h2
      refine rrow_keep (e := 3) hr (fun k hb => ?_)
      have hlt := (rrow_cells hr hb).2.1
      exact (hg.block k (by simp; omega) (fun e => row_types hr hO (by decide) hb e.symm)).trans (Below.heap_alloc W tmp k hlt)
    · have e1 : j = L.length := by have := (List.getElem?_eq_some_iff.1 h1).1; simp at this; omega
      subst e1
      simp at h1
      rw [← hlen] at h2
      simp at h2
      subst h1
      subst h2
      exact World.ownsRow_nil _ _ _ _
  · by_cases hi : i < us.length
    · rw [List.getElem?_append_left hi] at h1
      by_cases hj : j < us.length
      · rw [List.getElem?_append_left hj] at h2
        exact hI.ap i j u u' k h1 h2 hne hb
      · have e1 : j = us.length := by have := (List.getElem?_eq_some_iff.1 h2).1; simp at this; omega
        subst e1
        simp at h2
        subst h2
        intro e
        cases e
    · have e1 : i = us.length := by have := (List.getElem?_eq_some_iff.1 h1).1; simp at this; omega
      subst e1
      simp at h1
      subst h1
      cases hb
/-- A row is another one. -/
theorem Sts.change {g cap j : Nat} {l l' : List Int} {u u' : Value} (hO : W.ownsRow n₀ 46 1 (.slice (some ⟨g, 0, none⟩) L.length cap) L.length us) (hI : Inn W n₀ us L) (hl : L[j]? = some l) (hu : us[j]? = some u)
    (hO1 : w1.ownsRow n₀ 46 1 (.slice (some ⟨g, 0, none⟩) L.length cap) L.length us) (hown : w1.ownsRow n₀ 3 1 u' l'.length (icells l')) (hoth : ∀ k, k < W.heap.size → u.ownBlock ≠ some k → w1.heap[k]? = W.heap[k]?) (hat : ∀ k, u'.ownBlock = some k → u.ownBlock = some k ∨ W.heap.size ≤ k) :
    Sts (w1.setCell ⟨g, j, none⟩ u') n₀ (.slice (some ⟨g, 0, none⟩) L.length cap) (L.set j l') := by
  have hlen : us.length = L.length := by have := hO.1; omega
  obtain ⟨s1, s2⟩ := hO1.stored j u'
  have hjl := (List.getElem?_eq_some_iff.1 hl).1
  have ng : ∀ {z : Value} {m : Nat} {ys : List Value}, w1.ownsRow n₀ 3 1 z m ys → ∀ k, z.ownBlock = some k → (w1.setCell ⟨g, j, none⟩ u').heap[k]? = w1.heap[k]? := fun hz k hb => s2.block k (rrow_cells hz hb).2.1 (fun e => by
    injection e with e
    exact row_types hz hO1 (by decide) hb (by rw [e]; rfl))
  have h1 : ∀ (i : Nat) (l2 : List Int) (z : Value), i ≠ j → L[i]? = some l2 → us[i]? = some z → w1.ownsRow n₀ 3 1 z l2.length (icells l2) := fun i l2 z hne h1 h2 => by
    have hr := hI.at_ i l2 z h1 h2
    refine rrow_keep (e := 3) hr (fun k hb => hoth k (rrow_cells hr hb).2.1 (fun e => hI.ap i j z u k h2 hu hne hb e))
  refine ⟨us.set j u', by rw [List.length_set]; exact s1, ⟨fun i l2 z h3 h4 => ?_, fun i i' z z' k h3 h4 hne hb => ?_⟩⟩
  · by_cases e : i = j
    · subst e
      rw [List.getElem?_set_self hjl] at h3
      rw [List.getElem?_set_self (by omega)] at h4
      injection h3 with h3
      injection h4 with h4
      subst h3
      subst h4
      exact rrow_keep (e := 3) hown (fun k hb => ng hown k hb)
    · rw [List.getElem?_set_ne (Ne.symm e)] at h3 h4
      have hr := h1 i l2 z e h3 h4
      exact rrow_keep (e := 3) hr (fun k hb => ng hr k hb)
  · have old : ∀ (i : Nat) (z : Value), i ≠ j → us[i]? = some z → ∀ k, z.ownBlock = some k → k < W.heap.size := fun i z hn hz k hb => by
      obtain ⟨l2, hl2⟩ : ∃ l2, L[i]? = some l2 := ⟨_, List.getElem?_eq_getElem (by have := (List.getElem?_eq_some_iff.1 hz).1; omega)⟩
      exact (rrow_cells (hI.at_ i l2 z hl2 hz) hb).2.1
    by_cases e : i = j
    · subst e
      rw [List.getElem?_set_self (by omega)] at h3
      rw [List.getElem?_set_ne hne] at h4
      injection h3 with h3
      subst h3
      intro hb'
      rcases hat k hb with h | h
      · exact hI.ap i i' u z' k hu h4 hne h hb'
      · have := old i' z' (Ne.symm hne) h4 k hb'
        omega
    · rw [List.getElem?_set_ne (Ne.symm e)] at h3
      by_cases e' : i' = j
      · subst e'
        rw [List.getElem?_set_self (by omega)] at h4
        injection h4 with h4
        subst h4
        intro hb'
        rcases hat k hb' with h | h
        · exact hI.ap i i' z u k h3 hu hne hb h
        · have := old i z e h3 k hb
          omega
      · rw [List.getElem?_set_ne (Ne.symm e')] at h4
        exact hI.ap i i' z z' k h3 h4 hne hb
/-- A row has changed where it lies. -/
theorem Sts.inplace {j : Nat} {l l' : List Int} {u : Value} (hO : W.ownsRow n₀ 46 1 v L.length us) (hI : Inn W n₀ us L) (hl : L[j]? = some l) (hu : us[j]? = some u) (hown : w1.ownsRow n₀ 3 1 u l'.length (icells l')) (hg : W.grownBy w1 u.ownBlock) : Sts w1 n₀ v (L.set j l') := by
  have hr := hI.at_ j l u hl hu
  have hjl := (List.getElem?_eq_some_iff.1 hl).1
  refine ⟨us, by rw [List.length_set]; exact rrow_keep (e := 46) hO (fun k hb => hg.block k (rrow_cells hO hb).2.1 (fun e => row_types hO hr (by decide) hb e.symm)), ⟨fun i l2 z h3 h4 => ?_, hI.ap⟩⟩
  by_cases e : i = j
  · subst e
    rw [List.getElem?_set_self hjl] at h3
    injection h3 with h3
    subst h3
    rw [hu] at h4
    injection h4 with h4
    subst h4
    exact hown
  · rw [List.getElem?_set_ne (Ne.symm e)] at h3
    have hz := hI.at_ i l2 z h3 h4
    exact rrow_keep (e := 3) hz (fun k hb => hg.block k (rrow_cells hz hb).2.1 (fun e' => hI.ap i j z u k h4 hu e hb e'.symm))
end
/-! ### What Sets makes, in Lean -/
def padL (L : List (List Int)) (c : Nat) : List (List Int) := L ++ List.replicate (c + 1 - L.length) []
def addL (L : List (List Int)) (q : Nd) : List (List Int) := (padL L q.cell.toNat).set q.cell.toNat (((padL L q.cell.toNat)[q.cell.toNat]?).getD [] ++ [q.num])
def setsL (xs : List Nd) : List (List Int) := xs.foldl addL []
def setsG (xs : List Nd) : List (List Int) := (setsL xs).map List.reverse
theorem padL_len (L : List (List Int)) (c : Nat) : c < (padL L c).length := by
  unfold padL
  rw [List.length_append, List.length_replicate]
  omega
theorem padL_of {L : List (List Int)} {c : Nat} (h : c < L.length) : padL L c = L := by
  unfold padL
  rw [show c + 1 - L.length = 0 from by omega]
  simp
theorem padL_more {L : List (List Int)} {c : Nat} (h : L.length ≤ c) : padL (L ++ [[]]) c = padL L c := by
  unfold padL
  rw [List.length_append, List.length_singleton, show c + 1 - L.length = (c + 1 - (L.length + 1)) + 1 from by omega, List.replicate_succ, List.append_assoc]
  rfl
theorem setsL_snoc (xs : List Nd) (q : Nd) : setsL (xs ++ [q]) = addL (setsL xs) q := by
  unfold setsL
  rw [List.foldl_append]
  rfl
theorem addL_len (L : List (List Int)) (q : Nd) : (addL L q).length ≤ max L.length (q.cell.toNat + 1) := by
  unfold addL padL
  rw [List.length_set, List.length_append, List.length_replicate]
  omega
theorem addL_rows {L : List (List Int)} {q : Nd} {m : Nat} (h : ∀ (j : Nat) (l : List Int), L[j]? = some l → l.length ≤ m) : ∀ (j : Nat) (l : List Int), (addL L q)[j]? = some l → l.length ≤ m + 1 := by
  have hp : ∀ (j : Nat) (l : List Int), (padL L q.cell.toNat)[j]? = some l → l.length ≤ m := by
    intro j l hj
    unfold padL at hj
    by_cases hlt : j < L.length
    · rw [List.getElem?_append_left hlt] at hj
      exact h j l hj
    · rw [List.getElem?_append_right (by omega), List.getElem?_replicate] at hj
      split at hj
      · injection hj with hj
        subst hj
        exact Nat.zero_le _
      · cases hj
  intro j l hj
  unfold addL at hj
  by_cases e : j = q.cell.toNat
  · subst e
    rw [List.getElem?_set_self (padL_len _ _)] at hj
    injection hj with hj
    subst hj
    rw [List.length_append, List.length_singleton]
    cases hq : (padL L q.cell.toNat)[q.cell.toNat]? with
    | none => simp
    | some l2 => have := hp _ _ hq; simp; omega
  · rw [List.getElem?_set_ne (Ne.symm e)] at hj
    have := hp j l hj
    omega
theorem setsL_len : ∀ (xs : List Nd), (∀ q ∈ xs, q.cell ≤ 5) → (setsL xs).length ≤ 6 := by
  intro xs h
  have key : ∀ (xs : List Nd) (L : List (List Int)), (∀ q ∈ xs, q.cell ≤ 5) → L.length ≤ 6 → (xs.foldl addL L).length ≤ 6 := by
    intro xs
    induction xs with
    | nil => intro L _ h; exact h
    | cons q xs ih =>
      intro L hq hL
      refine ih _ (fun q' hq' => hq q' (by simp [hq'])) ?_
      have := addL_len L q
      have := hq q (by simp)
      omega
  exact key xs [] h (by simp)
theorem setsL_rows : ∀ (xs : List Nd) (j : Nat) (l : List Int), (setsL xs)[j]? = some l → l.length ≤ xs.length := by
  have key : ∀ (xs : List Nd) (L : List (List Int)) (m : Nat), (∀ (j : Nat) (l : List Int), L[j]? = some l → l.length ≤ m) → ∀ (j : Nat) (l : List Int), (xs.foldl addL L)[j]? = some l → l.length ≤ m + xs.length := by
    intro xs
    induction xs with
    | nil => intro L m h j l hj; exact h j l hj
    | cons q xs ih =>
      intro L m h j l hj
      have := ih (addL L q) (m + 1) (addL_rows h) j l hj
      simp
      omega
  intro xs j l hj
  have := key xs [] 0 (fun j l h => by simp at h) j l hj
  omega
end Go.Proofs.Ytakjpoapjokmbaa
