/-
  What is held, weighed: what came, less what was let go.
-/
import Derived.Test.YtepmealhnnoahaaRk
namespace Go.Proofs.Ytepmealhnnoahaa
set_option linter.unusedSimpArgs false
open Go.ChangeShapes Go.WideShapes Go.ChangeAt Go.RowKit
set_option linter.unusedVariables false
theorem flatten_set {α : Type} : ∀ {S : List (List α)} {i : Nat} {x : α} {l : List α}, S[i]? = some (x :: l) → S.flatten.Perm (x :: (S.set i l).flatten)
  | [], i, x, l, h => by simp at h
  | a :: S, 0, x, l, h => by
    simp at h
    subst h
    simp
  | a :: S, i + 1, x, l, h => by
    have h : S[i]? = some (x :: l) := by simpa using h
    have ih := flatten_set h
    simp only [List.flatten_cons, List.set_cons_succ]
    exact (ih.append_left a).trans List.perm_middle
/-- What is merged is what was there, in another order. -/
theorem merge_perm {lt : Ht → Ht → Bool} : ∀ (n : Nat) (S : List (List Ht)), total S = n → (mergeN lt n S).Perm S.flatten
  | n, S, hn => by
    rcases firstAt_or lt S with h | ⟨i, x, l, h, e⟩
    · have hz := firstAt_none h
      have : S.flatten = [] := List.flatten_eq_nil_iff.2 hz
      rw [this, mergeN_none h]
    · have ht := total_set e
      cases n with
      | zero => omega
      | succ n =>
        rw [mergeN_step h e]
        exact ((merge_perm n (S.set i l) (by omega)).cons x).trans (flatten_set e).symm
theorem merged_perm (Os : List OutV) : (mergedH Os).Perm (hitsL Os).flatten := merge_perm _ _ rfl
/-! Weights. -/
def wtR (f : Int × Int → Nat) (l : List (Int × Int)) : Nat := (l.map f).sum
theorem wtR_app (f : Int × Int → Nat) (l m : List (Int × Int)) : wtR f (l ++ m) = wtR f l + wtR f m := by simp [wtR]
theorem wtR_nil (f : Int × Int → Nat) : wtR f [] = 0 := rfl
theorem wtR_one (l : List (Int × Int)) : wtR (fun _ => 1) l = l.length := by
  induction l with
  | nil => rfl
  | cons x l ih => simp only [wtR, List.map_cons, List.sum_cons, List.length_cons] at ih ⊢; omega
def hrefs (H : List Ht) : List (Int × Int) := frefs (H.map (·.f))
theorem hrefs_app (H K : List Ht) : hrefs (H ++ K) = hrefs H ++ hrefs K := by unfold hrefs; rw [List.map_append, frefs_app]
theorem hrefs_one (x : Ht) : hrefs [x] = x.f.refs := by simp [hrefs, frefs]
theorem hrefs_cons (x : Ht) (H : List Ht) : hrefs (x :: H) = x.f.refs ++ hrefs H := by
  have := hrefs_app [x] H
  rw [hrefs_one] at this
  exact this
theorem hrefs_perm {f : Int × Int → Nat} {H K : List Ht} (h : H.Perm K) : wtR f (hrefs H) = wtR f (hrefs K) := by
  induction h with
  | nil => rfl
  | cons x _ ih => rw [hrefs_cons, hrefs_cons, wtR_app, wtR_app, ih]
  | swap x y l => simp only [hrefs_cons, wtR_app]; omega
  | trans _ _ h1 h2 => exact h1.trans h2
def cellW (f : Int × Int → Nat) (S : Int → Option (List Fnd × Bool)) (i : Int) : Nat := wtR f (frefs ((S i).getD ([], false)).1)
def sumN (g : Nat → Nat) : Nat → Nat
  | 0 => 0
  | n + 1 => sumN g n + g n
theorem sumN_congr {g h : Nat → Nat} : ∀ n, (∀ k, k < n → g k = h k) → sumN g n = sumN h n
  | 0, _ => rfl
  | n + 1, H => by simp only [sumN]; rw [sumN_congr n (fun k hk => H k (by omega)), H n (by omega)]
theorem sumN_upd {g h : Nat → Nat} {j : Nat} : ∀ n, j < n → (∀ k, k < n → k ≠ j → g k = h k) → sumN g n + h j = sumN h n + g j
  | 0, hj, _ => by omega
  | n + 1, hj, H => by
    simp only [sumN]
    by_cases e : j = n
    · subst e
      have := sumN_congr (g := g) (h := h) j (fun k hk => H k (by omega) (by omega))
      omega
    · have := sumN_upd (g := g) (h := h) n (by omega) (fun k hk hne => H k (by omega) hne)
      have := H n (by omega) (fun e2 => e e2.symm)
      omega
def heldW (f : Int × Int → Nat) (S : Int → Option (List Fnd × Bool)) : Nat := sumN (fun k => cellW f S (k : Int)) 41
/-- Queries have numbers from 0 to 40. -/
def DomS (S : Int → Option (List Fnd × Bool)) : Prop := ∀ i, S i ≠ none → 0 ≤ i ∧ i ≤ 40
section
variable {f : Int × Int → Nat} {S : Int → Option (List Fnd × Bool)} {ou qu : Int}
theorem heldW_upd {i : Int} (h : 0 ≤ i ∧ i ≤ 40) (v : Option (List Fnd × Bool)) : heldW f (updI S i v) + cellW f S i = heldW f S + wtR f (frefs (v.getD ([], false)).1) := by
  obtain ⟨j, rfl⟩ : ∃ j : Nat, i = (j : Int) := ⟨i.toNat, by omega⟩
  have := sumN_upd (g := fun k => cellW f (updI S (j : Int) v) (k : Int)) (h := fun k => cellW f S (k : Int)) (j := j) 41 (by omega) (fun k hk hne => by
    show cellW f (updI S (j : Int) v) (k : Int) = cellW f S (k : Int)
    unfold cellW
    rw [updI_off _ _ (by omega)])
  have e : cellW f (updI S (j : Int) v) (j : Int) = wtR f (frefs (v.getD ([], false)).1) := by
    unfold cellW
    rw [updI_at]
  unfold heldW
  rw [e] at this
  exact this
theorem DomS.upd (h : DomS S) {i : Int} (hi : 0 ≤ i ∧ i ≤ 40) (v : Option (List Fnd × Bool)) : DomS (updI S i v) := fun j hj => by
  by_cases e : j = i
  · subst e; exact hi
  · rw [updI_off _ _ e] at hj; exact h j hj
theorem DomS.at {i : Int} {p : List Fnd × Bool} (h : DomS S) (e : S i = some p) : 0 ≤ i ∧ i ≤ 40 := h i (by rw [e]; simp)
theorem put_held (h : DomS S) (x : Ht) : DomS (putD ou S x) ∧ heldW f (putD ou S x) + wtR f (putG ou S x) = heldW f S + wtR f x.f.refs := by
  unfold putD putG
  cases e : S x.id with
  | none => exact ⟨h, rfl⟩
  | some p =>
    obtain ⟨l, lo⟩ := p
    have hi := h.at e
    have ec : cellW f S x.id = wtR f (frefs l) := by unfold cellW; rw [e]; rfl
    dsimp only
    split
    · refine ⟨h.upd hi _, ?_⟩
      have := heldW_upd (f := f) (S := S) hi (some (l, true))
      rw [ec] at this
      simp only [Option.getD_some] at this
      omega
    · refine ⟨h.upd hi _, ?_⟩
      have := heldW_upd (f := f) (S := S) hi (some (l ++ [x.f], false))
      rw [ec] at this
      simp only [Option.getD_some, frefs_app, wtR_app] at this
      have e1 : frefs [x.f] = x.f.refs := by simp [frefs]
      rw [e1] at this
      rw [wtR_nil]
      omega
theorem puts_held : ∀ (H : List Ht) {S : Int → Option (List Fnd × Bool)}, DomS S → DomS (putsD ou S H) ∧ heldW f (putsD ou S H) + wtR f (putsG ou S H) = heldW f S + wtR f (hrefs H)
  | [], S, h => ⟨h, by simp [putsD, putsG, hrefs, frefs]⟩
  | x :: H, S, h => by
    obtain ⟨h1, e1⟩ := put_held (f := f) (ou := ou) h x
    obtain ⟨h2, e2⟩ := puts_held H h1
    refine ⟨h2, ?_⟩
    rw [hrefs_cons, wtR_app]
    simp only [putsG, wtR_app]
    have : putsD ou S (x :: H) = putsD ou (putD ou S x) H := rfl
    rw [this]
    omega
theorem lose_held (h : DomS S) (i : Int) : DomS (loseD S i) ∧ heldW f (loseD S i) = heldW f S := by
  unfold loseD
  cases e : S i with
  | none => exact ⟨h, rfl⟩
  | some p =>
    obtain ⟨l, lo⟩ := p
    have hi := h.at e
    refine ⟨h.upd hi _, ?_⟩
    have := heldW_upd (f := f) (S := S) hi (some (l, true))
    have ec : cellW f S i = wtR f (frefs l) := by unfold cellW; rw [e]; rfl
    rw [ec] at this
    simp only [Option.getD_some] at this
    dsimp only
    omega
theorem loses_held : ∀ (l : List Int) {S : Int → Option (List Fnd × Bool)}, DomS S → DomS (losesD S l) ∧ heldW f (losesD S l) = heldW f S
  | [], S, h => ⟨h, rfl⟩
  | i :: l, S, h => by
    obtain ⟨h1, e1⟩ := lose_held (f := f) h i
    obtain ⟨h2, e2⟩ := loses_held l h1
    exact ⟨h2, e2.trans e1⟩
/-- What came: hits, and the event's own ref. -/
def cameR (k s g : Int) (Os : List OutV) : List (Int × Int) := hrefs (hitsL Os).flatten ++ if k = 1 then [(s, g)] else []
theorem does_held (h : DomS S) {m : Nat} {stamp k i n s g : Int} {Os : List OutV} (hst : 0 ≤ stamp ∧ stamp ≤ 40) (hk : k ≠ 1 → Os = []) :
    DomS (doR qu ou S m stamp k i n s g Os).S ∧ heldW f (doR qu ou S m stamp k i n s g Os).S + wtR f (doR qu ou S m stamp k i n s g Os).gone = heldW f S + wtR f (cameR k s g Os) := by
  unfold doR
  by_cases k2 : k = 2
  · rw [if_pos k2]
    have ho := hk (by omega)
    subst ho
    have ec : wtR f (cameR k s g []) = 0 := by subst k2; rfl
    rw [ec]
    unfold regR
    split
    · refine ⟨h.upd hst _, ?_⟩
      have := heldW_upd (f := f) (S := S) hst (some ((S stamp).getD ([], false)))
      simp only [Option.getD_some, wtR_nil] at this ⊢
      unfold cellW at this
      omega
    · exact ⟨h, rfl⟩
  rw [if_neg k2]
  by_cases k3 : k = 3
  · rw [if_pos k3]
    have ho := hk (by omega)
    subst ho
    have ec : wtR f (cameR k s g []) = 0 := by subst k3; rfl
    rw [ec]
    unfold unrR
    cases e : S i with
    | none => exact ⟨h, rfl⟩
    | some p =>
      obtain ⟨l, lo⟩ := p
      have hi := h.at e
      refine ⟨h.upd hi _, ?_⟩
      have := heldW_upd (f := f) (S := S) hi none
      have ec : cellW f S i = wtR f (frefs l) := by unfold cellW; rw [e]; rfl
      rw [ec] at this
      simp only [Option.getD_none, frefs, wtR_nil] at this
      dsimp only
      omega
  rw [if_neg k3]
  by_cases k1 : k = 1
  · rw [if_pos k1]
    subst k1
    dsimp only
    obtain ⟨h1, e1⟩ := puts_held (f := f) (ou := ou) (mergedH Os) h
    obtain ⟨h2, e2⟩ := loses_held (f := f) (lostL Os) h1
    refine ⟨h2, ?_⟩
    have ep := hrefs_perm (f := f) (merged_perm Os)
    unfold pubD pubG cameR
    rw [if_pos rfl, wtR_app, wtR_app]
    omega
  rw [if_neg k1]
  have ho := hk k1
  subst ho
  have ec : wtR f (cameR k s g []) = 0 := by unfold cameR; rw [if_neg k1]; rfl
  rw [ec]
  by_cases k4 : k = 4
  · rw [if_pos k4]
    unfold polR
    split
    · exact ⟨h, rfl⟩
    · cases e : S i with
      | none => exact ⟨h, rfl⟩
      | some p =>
        obtain ⟨l, lo⟩ := p
        dsimp only
        split
        · exact ⟨h, rfl⟩
        · have hi := h.at e
          refine ⟨h.upd hi _, ?_⟩
          generalize min n.toNat l.length = q
          have := heldW_upd (f := f) (S := S) hi (some (l.drop q, lo))
          have ec : cellW f S i = wtR f (frefs l) := by unfold cellW; rw [e]; rfl
          rw [ec] at this
          have e2 := congrArg (fun z => wtR f (frefs z)) (List.take_append_drop q l)
          rw [frefs_app, wtR_app] at e2
          simp only [Option.getD_some] at this
          dsimp only
          omega
  · rw [if_neg k4]
    split
    · exact ⟨h, rfl⟩
    · exact ⟨h, rfl⟩
end
end Go.Proofs.Ytepmealhnnoahaa
