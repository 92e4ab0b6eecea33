/-
  LexBack.
-/
import Derived.Test.YtjahjdmabconeaaDoorQo
import Derived.Test.YtjahjdmabconeaaDoorPk
namespace Go.Proofs.YtjahjdmabconeaaDoor
open Go.ChangeShapes Go.WideShapes Go.ChangeAt Go.RowKit
set_option linter.unusedVariables false
def offT : List (List UInt8 × Tok) → Nat → Nat
  | _, 0 => 0
  | [], _ => 0
  | (x, _) :: r, i + 1 => x.length + 1 + offT r i
theorem place_at : ∀ (X : List (List UInt8 × Tok)) (q i : Nat) (x : List UInt8) (t : Tok), X[i]? = some (x, t) → (placeT q X)[i]? = some (q + offT X i, t)
  | [], q, i, x, t, h => by simp at h
  | (y, u) :: r, q, 0, x, t, h => by
    simp at h
    obtain ⟨rfl, rfl⟩ := h
    rfl
  | (y, u) :: r, q, i + 1, x, t, h => by
    rw [List.getElem?_cons_succ] at h
    have := place_at r (q + y.length + 1) i x t h
    show (placeT (q + y.length + 1) r)[i]? = _
    rw [this]
    show some (q + y.length + 1 + offT r i, t) = some (q + (y.length + 1 + offT r i), t)
    congr 2
    omega
theorem place_len : ∀ (X : List (List UInt8 × Tok)) (q : Nat), (placeT q X).length = X.length
  | [], q => rfl
  | (y, u) :: r, q => by
    show (placeT _ r).length + 1 = r.length + 1
    rw [place_len r]
theorem join_at : ∀ (X : List (List UInt8 × Tok)) (i : Nat) (x : List UInt8) (t : Tok), X[i]? = some (x, t) → ∃ rest, (joinT (X.map (·.1))).drop (offT X i) = x ++ rest
  | [], i, x, t, h => by simp at h
  | (y, u) :: r, 0, x, t, h => by
    simp at h
    obtain ⟨rfl, rfl⟩ := h
    obtain ⟨rest, hj, -⟩ := join_cons y (r.map (·.1))
    exact ⟨rest, by rw [List.map_cons, hj]; rfl⟩
  | (y, u) :: r, i + 1, x, t, h => by
    rw [List.getElem?_cons_succ] at h
    obtain ⟨rest, hr⟩ := join_at r i x t h
    obtain ⟨rest', hj, ⟨h0, -⟩ | ⟨h0, rfl⟩⟩ := join_cons y (r.map (·.1))
    · have : r = [] := by simpa using h0
      subst this
      simp at h
    · refine ⟨rest, ?_⟩
      rw [List.map_cons, hj]
      show (y ++ 32 :: joinT (r.map (·.1))).drop (y.length + 1 + offT r i) = _
      rw [← hr, ← List.drop_drop, ← List.drop_drop, List.drop_left]
      rfl
theorem off_succ : ∀ (X : List (List UInt8 × Tok)) (i : Nat) (x : List UInt8) (t : Tok), X[i]? = some (x, t) → offT X (i + 1) = offT X i + x.length + 1
  | [], i, x, t, h => by simp at h
  | (y, u) :: r, 0, x, t, h => by
    simp at h
    obtain ⟨rfl, rfl⟩ := h
    show y.length + 1 + offT r 0 = 0 + y.length + 1
    cases r <;> simp [offT]
  | (y, u) :: r, i + 1, x, t, h => by
    rw [List.getElem?_cons_succ] at h
    have := off_succ r i x t h
    show y.length + 1 + offT r (i + 1) = y.length + 1 + offT r i + x.length + 1
    omega
def backX (s : ByteArray) (L : List (Nat × Tok)) : List (List UInt8 × Tok) := L.map fun x => ((textOf s x).data.toList, x.2)
theorem back_at {s : ByteArray} {L : List (Nat × Tok)} {i : Nat} {x : Nat × Tok} (h : L[i]? = some x) : (backX s L)[i]? = some ((textOf s x).data.toList, x.2) := by
  unfold backX
  rw [List.getElem?_map, h]
  rfl
theorem back_map (s : ByteArray) (L : List (Nat × Tok)) : (backX s L).map (·.1) = textsOf s L := by
  unfold backX textsOf
  rw [List.map_map]
  rfl
theorem text_list (s : ByteArray) (x : Nat × Tok) : (textOf s x).data.toList = (s.data.toList.drop x.1).take x.2.len := ext_list s x.1 x.2.len
theorem join_list (s : ByteArray) (L : List (Nat × Tok)) : (joinS s L).data.toList = joinT (textsOf s L) := rfl
theorem back_tok {s : ByteArray} {x : Nat × Tok} (h : x ∈ toksB s.data.toList) : TokOf (textOf s x).data.toList x.2 := by
  rw [text_list]
  exact tokOf (eachB_mem _ _ _ _ h).2
/-- The tokens of what was joined. -/
theorem toks_back (s : ByteArray) : toksB (joinS s (toksB s.data.toList)).data.toList = placeT 0 (backX s (toksB s.data.toList)) := by
  rw [join_list, ← back_map]
  refine toks_join _ (fun y hy => ?_)
  obtain ⟨x, hx, rfl⟩ := List.mem_map.1 hy
  exact back_tok hx
/-- .. one by one. -/
theorem back_get (s : ByteArray) {i : Nat} {x : Nat × Tok} (h : (toksB s.data.toList)[i]? = some x) :
    (toksB (joinS s (toksB s.data.toList)).data.toList)[i]? = some (offT (backX s (toksB s.data.toList)) i, x.2) ∧ textOf (joinS s (toksB s.data.toList)) (offT (backX s (toksB s.data.toList)) i, x.2) = textOf s x := by
  have hb := back_at (s := s) h
  refine ⟨by rw [toks_back, place_at _ 0 i _ _ hb, Nat.zero_add], bytes_eq ?_⟩
  obtain ⟨rest, hr⟩ := join_at _ i _ _ hb
  have hl := (back_tok (List.mem_of_getElem? h)).1
  rw [text_list]
  show ((joinS s (toksB s.data.toList)).data.toList.drop (offT (backX s (toksB s.data.toList)) i)).take x.2.len = _
  rw [join_list, ← back_map, hr, hl]
  exact List.take_left
theorem back_len (s : ByteArray) : (toksB (joinS s (toksB s.data.toList)).data.toList).length = (toksB s.data.toList).length := by
  rw [toks_back, place_len]
  simp [backX]
theorem texts_back (s : ByteArray) : textsOf (joinS s (toksB s.data.toList)) (toksB (joinS s (toksB s.data.toList)).data.toList) = textsOf s (toksB s.data.toList) := by
  apply List.ext_getElem?
  intro i
  unfold textsOf
  rw [List.getElem?_map, List.getElem?_map]
  cases h : (toksB s.data.toList)[i]? with
  | none =>
    rw [List.getElem?_eq_none_iff] at h
    rw [List.getElem?_eq_none (by rw [back_len]; exact h)]
    rfl
  | some x =>
    obtain ⟨h1, h2⟩ := back_get s h
    rw [h1]
    simp [h2]
theorem join_back (s : ByteArray) : joinS (joinS s (toksB s.data.toList)) (toksB (joinS s (toksB s.data.toList)).data.toList) = joinS s (toksB s.data.toList) := by
  show (⟨(joinT (textsOf (joinS s (toksB s.data.toList)) _)).toArray⟩ : ByteArray) = ⟨(joinT (textsOf s _)).toArray⟩
  rw [texts_back]
theorem fits_of (s : ByteArray) (hs : s.size ≤ 90) : Fits s (toksB s.data.toList) := by
  refine ⟨Nat.le_trans (toks_len s) hs, fun x hx => ?_⟩
  show (s.extract x.1 (x.1 + x.2.len)).size ≤ 90
  rw [ByteArray.size_extract]
  omega
theorem fits_back (s : ByteArray) (hs : s.size ≤ 90) : Fits (joinS s (toksB s.data.toList)) (toksB (joinS s (toksB s.data.toList)).data.toList) := by
  refine ⟨by rw [back_len]; exact (fits_of s hs).1, fun x hx => ?_⟩
  obtain ⟨i, hi⟩ := List.getElem?_of_mem hx
  have hlt := (List.getElem?_eq_some_iff.1 hi).1
  rw [back_len] at hlt
  obtain ⟨y, hy⟩ : ∃ y, (toksB s.data.toList)[i]? = some y := ⟨_, List.getElem?_eq_getElem hlt⟩
  obtain ⟨h1, h2⟩ := back_get s hy
  rw [h1] at hi
  injection hi with hi
  subst hi
  rw [h2]
  exact (fits_of s hs).2 y (List.mem_of_getElem? hy)
theorem join_size (s : ByteArray) (hs : s.size ≤ 90) : (joinS s (toksB s.data.toList)).size ≤ 8190 := by
  have := (fits_of s hs).take (Nat.le_refl _)
  rw [List.take_length] at this
  rw [str_len, join_list]
  exact this
theorem back_off (s : ByteArray) (hs : s.size ≤ 90) {i : Nat} {x : Nat × Tok} (h : (toksB s.data.toList)[i]? = some x) : offT (backX s (toksB s.data.toList)) (i + 1) = offT (backX s (toksB s.data.toList)) i + (textOf s x).size + 1 ∧ offT (backX s (toksB s.data.toList)) i + (textOf s x).size ≤ 8190 := by
  have hb := back_at (s := s) h
  refine ⟨by rw [off_succ _ _ _ _ hb, str_len], ?_⟩
  obtain ⟨h1, h2⟩ := back_get s h
  have h3 := (eachB_mem _ _ _ _ (List.mem_of_getElem? h1)).1
  have h4 := join_size s hs
  rw [← str_len] at h3
  have h5 := (back_tok (List.mem_of_getElem? h)).1
  rw [← str_len] at h5
  simp only at h3
  omega
end Go.Proofs.YtjahjdmabconeaaDoor
