/-
  What a log knows whose workers leave by bits.
-/
import Derived.Test.YteokdibfdahabaaBits
import Derived.Test.YteokdibfdahabaaLg10
namespace Go.Proofs.Yteokdibfdahabaa
open Go.ChangeShapes Go.WideShapes Go.ChangeAt Go.RowKit
set_option linter.unusedVariables false
/-- What a log knows of one command, behind w workers: those of 'a' left at once, those of 'b' told and then left. -/
structure LvInv (s : LSt) (a b : Int) (w : Nat) : Prop where
  tail : s.tail = 1
  low : s.low = 0
  closed : s.closed = false
  X : s.X 0 = some (4, 0)
  rl : ∀ i, s.rl i = 0
  cnt : s.cnt = 0
  left : ∀ i, s.left i = (decide (i < w) && (bit a i || bit b i))
  cur : ∀ i, s.cur i = if i < w ∧ bit a i = false then 1 else 0
  Y : ∀ i, s.Y i 0 = if i < w ∧ bit a i = false then some (some (i : Int)) else none
section
variable {s : LSt} {a b : Int} {w : Nat}
theorem lt_succ_ne {i w : Nat} (h : i ≠ w) : (i < w + 1) = (i < w) := by apply propext; omega
theorem LvInv.leftw (h : LvInv s a b w) : s.left w = false := by rw [h.left, decide_eq_false (by omega : ¬ w < w)]; rfl
theorem LvInv.curw (h : LvInv s a b w) : s.cur w = 0 := by rw [h.cur, if_neg (by omega)]
theorem LvInv.Yw (h : LvInv s a b w) : s.Y w 0 = none := by rw [h.Y, if_neg (by omega)]
theorem LvInv.early (h : LvInv s a b w) (ha : bit a w = true) : LvInv { s with left := upd s.left w true } a b (w + 1) := by
  refine ⟨h.tail, h.low, h.closed, h.X, h.rl, h.cnt, fun i => ?_, fun i => ?_, fun i => ?_⟩
  · show upd s.left w true i = _
    by_cases e : i = w
    · subst e; rw [upd_at, ha, decide_eq_true (by omega : i < i + 1)]; rfl
    · rw [upd_off _ _ e, h.left, show decide (i < w + 1) = decide (i < w) by simp only [lt_succ_ne e]]
  · show s.cur i = _
    by_cases e : i = w
    · subst e; rw [h.curw, ha, if_neg (by simp)]
    · rw [h.cur]; simp only [lt_succ_ne e]
  · show s.Y i 0 = _
    by_cases e : i = w
    · subst e; rw [h.Yw, ha, if_neg (by simp)]
    · rw [h.Y]; simp only [lt_succ_ne e]
/-- A worker that told. -/
def posted (s : LSt) (w : Nat) : LSt := { s with cur := upd s.cur w (s.cur w + 1), Y := upd s.Y w (updI (s.Y w) (s.cur w) (some (some (w : Int)))) }
theorem LvInv.posted_cur (h : LvInv s a b w) (ha : bit a w = false) (i : Nat) : (posted s w).cur i = if i < w + 1 ∧ bit a i = false then 1 else 0 := by
  show upd s.cur w (s.cur w + 1) i = _
  by_cases e : i = w
  · subst e; rw [upd_at, h.curw, if_pos ⟨by omega, ha⟩]
  · rw [upd_off _ _ e, h.cur]; simp only [lt_succ_ne e]
theorem LvInv.posted_Y (h : LvInv s a b w) (ha : bit a w = false) (i : Nat) : (posted s w).Y i 0 = if i < w + 1 ∧ bit a i = false then some (some (i : Int)) else none := by
  show upd s.Y w (updI (s.Y w) (s.cur w) (some (some (w : Int)))) i 0 = _
  by_cases e : i = w
  · subst e
    rw [upd_at, h.curw, if_pos ⟨by omega, ha⟩]
    exact updI_at (s.Y i) 0 _
  · rw [upd_off _ _ e, h.Y]; simp only [lt_succ_ne e]
theorem LvInv.stay (h : LvInv s a b w) (ha : bit a w = false) (hb : bit b w = false) : LvInv (posted s w) a b (w + 1) := by
  refine ⟨h.tail, h.low, h.closed, h.X, h.rl, h.cnt, fun i => ?_, h.posted_cur ha, h.posted_Y ha⟩
  show s.left i = _
  by_cases e : i = w
  · subst e; rw [h.leftw, ha, hb, Bool.or_self, Bool.and_false]
  · rw [h.left, show decide (i < w + 1) = decide (i < w) by simp only [lt_succ_ne e]]
theorem LvInv.goes (h : LvInv s a b w) (ha : bit a w = false) (hb : bit b w = true) : LvInv { posted s w with left := upd (posted s w).left w true } a b (w + 1) := by
  refine ⟨h.tail, h.low, h.closed, h.X, h.rl, h.cnt, fun i => ?_, h.posted_cur ha, h.posted_Y ha⟩
  show upd s.left w true i = _
  by_cases e : i = w
  · subst e; rw [upd_at, hb, Bool.or_true, decide_eq_true (by omega : i < i + 1)]; rfl
  · rw [upd_off _ _ e, h.left, show decide (i < w + 1) = decide (i < w) by simp only [lt_succ_ne e]]
theorem LvInv.told (h : LvInv s a b w) {i : Nat} (hi : i < w) : told s 4 i = true := by
  unfold Yteokdibfdahabaa.told
  rw [h.left, h.cur, h.low, decide_eq_true hi]
  cases ha : bit a i
  · rw [if_pos ⟨hi, rfl⟩]; cases bit b i <;> rfl
  · rfl
theorem LvInv.all (h : LvInv s a b w) : ∀ k, k ≤ w → allTold s 4 k = true
  | 0, _ => by
    show (s.X s.low).isSome = true
    rw [h.low]
    show (s.X 0).isSome = true
    rw [h.X]; rfl
  | k + 1, hk => by
    show (allTold s 4 k && Yteokdibfdahabaa.told s 4 k) = true
    rw [LvInv.all h k (by omega), h.told (by omega)]; rfl
theorem LvInv.ready {c : Cf} (h : LvInv s a b c.sh) : readyB c s = true := by
  unfold readyB
  rw [show (s.X s.low) = some (4, 0) by rw [h.low]; exact h.X]
  exact h.all _ (Nat.le_refl _)
theorem LvInv.outAt (h : LvInv s a b w) {i : Nat} (hi : i < w) : outAt s i = if bit a i = true then none else some (i : Int) := by
  unfold Yteokdibfdahabaa.outAt
  rw [show s.Y i (s.low : Int) = s.Y i 0 by rw [h.low]; rfl, h.Y]
  cases ha : bit a i
  · rw [if_pos ⟨hi, rfl⟩]; rfl
  · rw [if_neg (by simp)]; rfl
end
end Go.Proofs.Yteokdibfdahabaa
