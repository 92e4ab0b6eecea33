/-
  A query, read: rows of elements and of conditions, as plain functions.
-/
import Derived.Test.YtadogobdlcionaaDoorRw
namespace Go.Proofs.YtadogobdlcionaaDoor
open Go.ChangeShapes Go.WideShapes Go.ChangeAt Go.RowKit Go.Shelf
set_option linter.unusedVariables false
abbrev seqT : ByteArray := ⟨#[115, 101, 113]⟩
abbrev whereT : ByteArray := ⟨#[119, 104, 101, 114, 101]⟩
abbrev andT : ByteArray := ⟨#[97, 110, 100]⟩
abbrev withinT : ByteArray := ⟨#[119, 105, 116, 104, 105, 110]⟩
abbrev byT : ByteArray := ⟨#[98, 121]⟩
abbrev keyT : ByteArray := ⟨#[107, 101, 121]⟩
abbrev commaT : ByteArray := ⟨#[44]⟩
/-- One part behind another one. -/
def PA.bind {α β : Type} (r : PA α) (f : α → Nat → PA β) : PA β := match r with
  | .ok a i => f a i
  | .stop a r => .stop a r
  | .out => .out
/-- Elements with commas between. -/
def elemsF (s : ByteArray) (L : List (Nat × Tok)) (e : Nat) : Nat → Nat → List EL → PA (List EL)
  | 0, _, _ => .out
  | f + 1, i, l => if hasB s L commaT i then (elemB s L e (i + 1)).bind fun x j => elemsF s L e f j (l ++ [x]) else .ok l i
/-- Conditions behind one another. -/
def condsF (s : ByteArray) (L : List (Nat × Tok)) (e : Nat) : Nat → Nat → List CN → PA (List CN)
  | 0, _, _ => .out
  | f + 1, i, l => if hasB s L andT i then (condB s L e 0 (i + 1)).bind fun x j => condsF s L e f j (l ++ [x]) else .ok l i
/-- A query. -/
structure QU where
  elems : List EL
  conds : List CN
  window : Nat
  byKey : Bool
def condsB (s : ByteArray) (L : List (Nat × Tok)) (e i : Nat) : PA (List CN) :=
  if hasB s L whereT i then (condB s L e 0 (i + 1)).bind fun c j => condsF s L e (L.length + 1) j [c] else .ok [] i
def elemsB (s : ByteArray) (L : List (Nat × Tok)) (e i : Nat) : PA (List EL) := (elemB s L e i).bind fun x j => elemsF s L e (L.length + 1) j [x]
/-- Nothing may stand behind a query. -/
def restB (L : List (Nat × Tok)) (e : Nat) (q : QU) (i : Nat) : PA QU := if i < L.length then .stop (placeE L e i) 11 else .ok q i
def tailB (s : ByteArray) (L : List (Nat × Tok)) (e : Nat) (E : List EL) (C : List CN) (i : Nat) : PA QU :=
  if hasB s L withinT i then
    match takeB (fun x => decide (x.2.kind = 3)) L (i + 1) with
    | none => .stop (placeE L e (i + 1)) 11
    | some x => if hasB s L byT (i + 2) then
        if hasB s L keyT (i + 3) then restB L e ⟨E, C, x.2.n, true⟩ (i + 4) else .stop (placeE L e (i + 3)) 11
      else restB L e ⟨E, C, x.2.n, false⟩ (i + 2)
  else .stop (placeE L e i) 11
def queryB (s : ByteArray) (L : List (Nat × Tok)) (e : Nat) : PA QU :=
  if hasB s L seqT 0 then (elemsB s L e 1).bind fun E i => (condsB s L e i).bind fun C j => tailB s L e E C j
  else .stop (placeE L e 0) 11
theorem elem_le {s : ByteArray} {L : List (Nat × Tok)} {e i j : Nat} {x : EL} (h : elemB s L e i = .ok x j) : i < j ∧ j ≤ L.length := by
  unfold elemB at h
  cases h1 : takeB (fun x => decide (x.2.kind = 2)) L (skipB' s L bang i) with
  | none => rw [h1] at h; cases h
  | some a =>
    rw [h1] at h
    dsimp only at h
    cases h2 : takeB (nameB s) L (skipB' s L plus (skipB' s L bang i + 1)) with
    | none => rw [h2] at h; cases h
    | some b =>
      rw [h2] at h
      have := take_lt h2
      injection h with _ h
      have k1 : i ≤ skipB' s L bang i := by unfold skipB'; split <;> omega
      have k2 : skipB' s L bang i + 1 ≤ skipB' s L plus (skipB' s L bang i + 1) := by unfold skipB'; split <;> split <;> omega
      omega
theorem elem_out {s : ByteArray} {L : List (Nat × Tok)} {e i : Nat} : elemB s L e i ≠ .out := by
  unfold elemB
  split
  · simp
  · split <;> simp
theorem cond_le {s : ByteArray} {L : List (Nat × Tok)} {e n i j : Nat} {x : CN} (h : condB s L e n i = .ok x j) (hi : i ≤ L.length) : i < j ∧ j ≤ L.length := by
  unfold condB at h
  cases h1 : sumB s L e n i with
  | out => rw [h1] at h; cases h
  | stop a r => rw [h1] at h; cases h
  | ok l k =>
    rw [h1] at h
    dsimp only at h
    have l1 : i ≤ k := by have := read_len s L e _ _ _ _ _ _ h1; omega
    cases h2 : takeB (inB holdsT s) L k with
    | none => rw [h2] at h; cases h
    | some y =>
      rw [h2] at h
      dsimp only at h
      have hl := take_lt h2
      cases h3 : sumB s L e n (k + 1) with
      | out => rw [h3] at h; cases h
      | stop a r => rw [h3] at h; cases h
      | ok r m =>
        rw [h3] at h
        injection h with _ h
        have l3 : k + 1 ≤ m := by have := read_len s L e _ _ _ _ _ _ h3; omega
        have := sum_le h3 (by omega)
        omega
theorem sum_out {s : ByteArray} {L : List (Nat × Tok)} {e n i : Nat} : sumB s L e n i ≠ .out := enough s L e _ _ _ _ (by simp only [Tg.need]; omega)
theorem cond_out {s : ByteArray} {L : List (Nat × Tok)} {e n i : Nat} : condB s L e n i ≠ .out := by
  unfold condB
  split
  · simp
  · rename_i q; exact absurd q sum_out
  · split
    · simp
    · split
      · simp
      · rename_i q; exact absurd q sum_out
      · simp
theorem elems_out {s : ByteArray} {L : List (Nat × Tok)} {e : Nat} : ∀ (f i : Nat) (l : List EL), L.length - i < f → elemsF s L e f i l ≠ .out
  | 0, i, l, h => absurd h (by omega)
  | f + 1, i, l, h => by
    rw [elemsF]
    by_cases hc : hasB s L commaT i = true
    · rw [if_pos hc]
      have := has_lt hc
      cases hx : elemB s L e (i + 1) with
      | out => exact absurd hx elem_out
      | stop a r => simp [PA.bind]
      | ok x j =>
        have := elem_le hx
        exact elems_out f j _ (by omega)
    · rw [if_neg hc]
      simp
theorem conds_out {s : ByteArray} {L : List (Nat × Tok)} {e : Nat} : ∀ (f i : Nat) (l : List CN), L.length - i < f → condsF s L e f i l ≠ .out
  | 0, i, l, h => absurd h (by omega)
  | f + 1, i, l, h => by
    rw [condsF]
    by_cases hc : hasB s L andT i = true
    · rw [if_pos hc]
      have := has_lt hc
      cases hx : condB s L e 0 (i + 1) with
      | out => exact absurd hx cond_out
      | stop a r => simp [PA.bind]
      | ok x j =>
        have := cond_le hx (by omega)
        exact conds_out f j _ (by omega)
    · rw [if_neg hc]
      simp
end Go.Proofs.YtadogobdlcionaaDoor
