/-
  A part's reading never goes beyond the tokens.
-/
import Derived.Test.YtadogobdlcionaaDoorRi
namespace Go.Proofs.YtadogobdlcionaaDoor
open Go.ChangeShapes Go.WideShapes Go.ChangeAt Go.RowKit Go.Shelf
set_option linter.unusedVariables false
theorem has_lt {s : ByteArray} {L : List (Nat × Tok)} {t : ByteArray} {i : Nat} (h : hasB s L t i = true) : i < L.length := by
  unfold hasB at h
  cases hx : L[i]? with
  | none => rw [hx] at h; cases h
  | some y => exact (List.getElem?_eq_some_iff.1 hx).1
theorem op_none {s : ByteArray} {L : List (Nat × Tok)} {i : Nat} (h : L[i]? = none) : opAt s L i = 0 := by
  unfold opAt textAt
  rw [h]
  rfl
theorem op_lt {s : ByteArray} {L : List (Nat × Tok)} {i : Nat} (h : 1 ≤ opAt s L i) : i < L.length := by
  cases hx : L[i]? with
  | none => rw [op_none hx] at h; omega
  | some y => exact (List.getElem?_eq_some_iff.1 hx).1
theorem read_le (s : ByteArray) (L : List (Nat × Tok)) (e : Nat) : ∀ (f : Nat) (t : Tg) (nest i : Nat) (l : List CD) (j : Nat), readF s L e f t nest i = .ok l j → i ≤ L.length → j ≤ L.length
  | 0, t, nest, i, l, j, h, hi => by cases h
  | f + 1, .su, nest, i, l, j, h, hi => by
    unfold readF at h
    split at h
    · rename_i l1 j1 h1
      exact read_le s L e f _ _ _ _ _ h (read_le s L e f _ _ _ _ _ h1 hi)
    · rename_i h2
      exact absurd h (h2 _ _)
  | f + 1, .pr, nest, i, l, j, h, hi => by
    unfold readF at h
    split at h
    · rename_i l1 j1 h1
      exact read_le s L e f _ _ _ _ _ h (read_le s L e f _ _ _ _ _ h1 hi)
    · rename_i h2
      exact absurd h (h2 _ _)
  | f + 1, .lp b l0, nest, i, l, j, h, hi => by
    rw [readF] at h
    by_cases hc : (if b = true then (1 : Int) else 3) ≤ opAt s L i ∧ opAt s L i ≤ (if b = true then 2 else 5)
    · have ho : 1 ≤ opAt s L i := by cases b <;> simp at hc <;> omega
      have hl := op_lt ho
      rw [if_pos hc] at h
      cases hq : readF s L e f (if b = true then Tg.pr else Tg.un) nest (i + 1) with
      | ok l1 j1 =>
        rw [hq] at h
        dsimp only at h
        exact read_le s L e f _ _ _ _ _ h (read_le s L e f _ _ _ _ _ hq hl)
      | stop x y => rw [hq] at h; cases h
      | out => rw [hq] at h; cases h
    · rw [if_neg hc] at h
      injection h with h1 h2
      omega
  | f + 1, .un, nest, i, l, j, h, hi => by
    unfold readF at h
    split at h
    · cases h
    · rename_i x hx
      have hl := take_lt hx
      split at h
      · split at h
        · cases h
        · split at h
          · rename_i l1 j1 h1
            have a := read_le s L e f _ _ _ _ _ h1 hl
            injection h with h3 h4
            omega
          · rename_i h2
            exact absurd h (h2 _ _)
      · split at h
        · split at h
          · cases h
          · split at h
            · rename_i l1 j1 h1
              have a := read_le s L e f _ _ _ _ _ h1 hl
              split at h
              · rename_i hb
                have := has_lt hb
                injection h with h3 h4
                omega
              · cases h
            · rename_i h2
              exact absurd h (h2 _ _)
        · split at h
          · split at h
            · rename_i y hy
              have := take_lt hy
              injection h with h3 h4
              omega
            · cases h
          · split at h
            · injection h with h3 h4
              omega
            · split at h
              · split at h
                · rename_i y hy
                  have := take_lt hy
                  injection h with h3 h4
                  omega
                · cases h
              · cases h
theorem one_cds (w : World) (c : CD) {b : Nat} (hb : b ≤ w.heap.size) : cdsV b [c] (w.alloc (.cells c.cells.toArray 95)) (.slice (some ⟨w.heap.size, 0, none⟩) 1 1) := by
  refine ⟨rfl, .inr ⟨w.heap.size, 1, c.cells.toArray, rfl, hb, ?_, Nat.le_refl _, by decide, rfl, rfl⟩⟩
  show (Array.push _ _)[_]? = _
  simp
end Go.Proofs.YtadogobdlcionaaDoor
