/-
  Where tokens stand.
-/
import Derived.Test.YtjahjdmabconeaaDoorPn
namespace Go.Proofs.YtjahjdmabconeaaDoor
open Go.ChangeShapes Go.WideShapes Go.ChangeAt Go.RowKit
set_option linter.unusedVariables false
/-- Where the tokens ahead of the j-th end. -/
def endAt (L : List (Nat × Tok)) (i : Nat) : Nat → Nat
  | 0 => i
  | j + 1 => match L[j]? with | some x => x.1 + x.2.len | none => i
theorem eachB_start : ∀ (f i : Nat) (l : List UInt8) (j : Nat) (x : Nat × Tok), (eachB f i l)[j]? = some x → x.1 = skipB (endAt (eachB f i l) i j) l
  | 0, i, l, j, x, h => by simp [eachB] at h
  | f + 1, i, l, j, x, h => by
    cases hB : findB (l.drop (skipB i l)) with
    | none => rw [eachB_none hB] at h; simp at h
    | some t =>
      rw [eachB_some hB] at h ⊢
      cases j with
      | zero =>
        simp at h
        subst h
        rfl
      | succ j =>
        rw [List.getElem?_cons_succ] at h
        have IH := eachB_start f _ l j x h
        rw [IH]
        cases j with
        | zero => rfl
        | succ k =>
          obtain ⟨y, hy⟩ : ∃ y, (eachB f (skipB i l + t.len) l)[k]? = some y := ⟨_, List.getElem?_eq_getElem (Nat.lt_of_succ_lt (List.getElem?_eq_some_iff.1 h).1)⟩
          simp only [endAt, List.getElem?_cons_succ, hy]
theorem endAt_last : ∀ (L : List (Nat × Tok)), endAt L 0 L.length = endB L := fun L => by
  rcases List.eq_nil_or_concat L with rfl | ⟨r, x, rfl⟩
  · rfl
  · rw [List.concat_eq_append, endB_snoc, List.length_append]
    show (match (r ++ [x])[r.length]? with | some x => x.1 + x.2.len | none => 0) = _
    simp
theorem toksC_at (s : ByteArray) : ∀ (L : List (Nat × Tok)) (i j : Nat) (x : Nat × Tok), L[i]? = some x → j < 4 → (toksC s L)[i * 4 + j]? = (tokC s x)[j]?
  | [], i, j, x, h, _ => by simp at h
  | y :: r, 0, j, x, h, hj => by
    simp at h
    subst h
    show (tokC s y ++ toksC s r)[0 * 4 + j]? = _
    rw [Nat.zero_mul, Nat.zero_add, List.getElem?_append_left (by show j < 4; exact hj)]
  | y :: r, i + 1, j, x, h, hj => by
    rw [List.getElem?_cons_succ] at h
    have IH := toksC_at s r i j x h hj
    show (tokC s y ++ toksC s r)[(i + 1) * 4 + j]? = _
    have hl : (tokC s y).length = 4 := rfl
    rw [List.getElem?_append_right (by rw [hl]; omega), hl, ← IH]
    congr 1
    omega
/-- What stands between two tokens is blank. -/
theorem skip_blank {D : List UInt8} {e k : Nat} (h1 : e ≤ k) (h2 : k < skipB e D) : ∃ c, D[k]? = some c ∧ isBlank c = true := by
  have := skipB_step (l := D) (i := e) (j := k - e) (by unfold skipB at h2; omega)
  have e1 : e + (k - e) = k := by omega
  rw [e1] at this
  exact this
theorem skip_ge (e : Nat) (D : List UInt8) : e ≤ skipB e D := by unfold skipB; omega
theorem short_is (w : World) (s : ByteArray) : Calls Tryd.prog 9 #[.string s] w fun e w' => (∃ s', e = .returned (.string s') ∧ s'.size ≤ 90) ∧ w = w' := by
  by_cases h : 90 < s.size
  · have u1 : decide ((90 : Int) < (s.size : Int)) = true := decide_eq_true (by omega)
    have u2 : decide (90 < s.size) = true := decide_eq_true h
    have hsl := str_to (s := s) (j := 90) (by omega)
    have hsz : (s.extract 0 90).size ≤ 90 := by rw [ByteArray.size_extract]; omega
    go_enter Tryd.func9, Tryd.ntmps9
    go_wp2_with fail
    go_ret
    exact ⟨⟨_, rfl, hsz⟩, rfl⟩
  · have u1 : decide ((90 : Int) < (s.size : Int)) = false := decide_eq_false (by omega)
    have u2 : decide (90 < s.size) = false := decide_eq_false h
    have hsz : s.size ≤ 90 := by omega
    go_enter Tryd.func9, Tryd.ntmps9
    go_wp2_with fail
    go_ret
    exact ⟨⟨_, rfl, hsz⟩, rfl⟩
end Go.Proofs.YtjahjdmabconeaaDoor
