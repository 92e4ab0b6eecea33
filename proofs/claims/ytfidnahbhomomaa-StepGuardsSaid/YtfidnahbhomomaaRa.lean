/-
  What codes are reckoned to, as plain functions: a stack of numbers, its top ahead.
-/
import Derived.Test.YtfidnahbhomomaaBase
namespace Go.Proofs.Ytfidnahbhomomaa
open Go.ChangeShapes Go.WideShapes Go.ChangeAt Go.RowKit
set_option linter.unusedVariables false

structure Cd where
  op : Int
  n : Int
  fld : Int
  place : Int

/-- Of each place how many events are there, and the numbers of the last one. -/
structure Env where
  cnt : Int → Int
  last : Int → Int → Int

def doOp (op a b : Int) : Option Int :=
  if op = 1 then some (wrap64 (a + b)) else if op = 2 then some (wrap64 (a + wrap64 (-b))) else if op = 3 then some (wrap64 (a * b))
  else if op = 4 then (if b = 0 then none else some (wrap64 (a.tdiv b))) else if op = 5 then (if b = 0 then none else some (a.tmod b)) else none

def negTop : List Int → Option (List Int)
  | b :: r => some (wrap64 (0 + wrap64 (-b)) :: r)
  | [] => none
def opTop (op : Int) : List Int → Option (List Int)
  | b :: a :: r => (doOp op a b).map (· :: r)
  | _ => none

def stepCd (v : Env) (st : List Int) (c : Cd) : Option (List Int) :=
  if c.op = 6 then some (c.n :: st)
  else if c.op = 8 then some (v.cnt c.place :: st)
  else if c.op = 7 then (if v.cnt c.place = 0 ∨ c.fld < 0 ∨ 4 ≤ c.fld then none else some (v.last c.place c.fld :: st))
  else if c.op = 9 then negTop st
  else if 1 ≤ c.op ∧ c.op ≤ 5 then opTop c.op st
  else none

def evalSt (v : Env) : List Cd → List Int → Option (List Int)
  | [], st => some st
  | c :: l, st => (stepCd v st c).bind (evalSt v l)

def one? : Option (List Int) → Option Int
  | some [x] => some x
  | _ => none
def evalCd (v : Env) (l : List Cd) : Option Int := one? (evalSt v l [])

theorem negTop_frame {st st' : List Int} (r : List Int) (h : negTop st = some st') : negTop (st ++ r) = some (st' ++ r) := by
  cases st with
  | nil => simp [negTop] at h
  | cons b q =>
    simp only [negTop, Option.some.injEq] at h
    subst h
    rfl
theorem opTop_frame {op : Int} {st st' : List Int} (r : List Int) (h : opTop op st = some st') : opTop op (st ++ r) = some (st' ++ r) := by
  match st, h with
  | [], h => simp [opTop] at h
  | [_], h => simp [opTop] at h
  | b :: a :: q, h =>
    simp only [opTop, Option.map_eq_some_iff] at h
    obtain ⟨x, hx, rfl⟩ := h
    simp [opTop, hx]
theorem step_frame {v : Env} {st st' : List Int} {c : Cd} (r : List Int) (h : stepCd v st c = some st') : stepCd v (st ++ r) c = some (st' ++ r) := by
  unfold stepCd at h ⊢
  by_cases h6 : c.op = 6
  · rw [if_pos h6] at h ⊢
    simp only [Option.some.injEq] at h
    subst h
    rfl
  rw [if_neg h6] at h ⊢
  by_cases h8 : c.op = 8
  · rw [if_pos h8] at h ⊢
    simp only [Option.some.injEq] at h
    subst h
    rfl
  rw [if_neg h8] at h ⊢
  by_cases h7 : c.op = 7
  · rw [if_pos h7] at h ⊢
    by_cases hc : v.cnt c.place = 0 ∨ c.fld < 0 ∨ 4 ≤ c.fld
    · rw [if_pos hc] at h
      cases h
    · rw [if_neg hc] at h ⊢
      simp only [Option.some.injEq] at h
      subst h
      rfl
  rw [if_neg h7] at h ⊢
  by_cases h9 : c.op = 9
  · rw [if_pos h9] at h ⊢
    exact negTop_frame r h
  rw [if_neg h9] at h ⊢
  by_cases h1 : 1 ≤ c.op ∧ c.op ≤ 5
  · rw [if_pos h1] at h ⊢
    exact opTop_frame r h
  · rw [if_neg h1] at h
    cases h
theorem eval_frame {v : Env} (r : List Int) : ∀ {l : List Cd} {st st' : List Int}, evalSt v l st = some st' → evalSt v l (st ++ r) = some (st' ++ r)
  | [], st, st', h => by
    simp only [evalSt, Option.some.injEq] at h
    subst h
    rfl
  | c :: l, st, st', h => by
    simp only [evalSt, Option.bind_eq_some_iff] at h
    obtain ⟨s, hs, h2⟩ := h
    simp only [evalSt, step_frame r hs, Option.bind_some]
    exact eval_frame r h2
theorem eval_app {v : Env} : ∀ (l m : List Cd) (st : List Int), evalSt v (l ++ m) st = (evalSt v l st).bind (evalSt v m)
  | [], m, st => rfl
  | c :: l, m, st => by
    simp only [List.cons_append, evalSt]
    cases h : stepCd v st c with
    | none => rfl
    | some s => simp only [Option.bind_some, eval_app l m s]
theorem eval_snoc {v : Env} (l : List Cd) (c : Cd) (st : List Int) : evalSt v (l ++ [c]) st = (evalSt v l st).bind (fun s => stepCd v s c) := by
  rw [eval_app]
  cases h : evalSt v l st with
  | none => rfl
  | some s =>
    simp only [Option.bind_some, evalSt]
    cases h2 : stepCd v s c <;> rfl
theorem one_some {o : Option (List Int)} {x : Int} (h : one? o = some x) : o = some [x] := by
  match o, h with
  | some [y], h =>
    simp only [one?, Option.some.injEq] at h
    rw [h]
theorem eval_one {v : Env} {l : List Cd} {x : Int} (h : evalCd v l = some x) (r : List Int) : evalSt v l r = some (x :: r) := eval_frame r (one_some h)
/-- How many numbers lie on the stack. -/
theorem step_len {v : Env} {st st' : List Int} {c : Cd} (h : stepCd v st c = some st') : st'.length ≤ st.length + 1 := by
  unfold stepCd at h
  split at h
  · cases h; simp
  split at h
  · cases h; simp
  split at h
  · split at h
    · cases h
    · cases h; simp
  split at h
  · cases st with
    | nil => cases h
    | cons b q => cases h; simp
  split at h
  · match st, h with
    | [], h => cases h
    | [_], h => cases h
    | b :: a :: q, h =>
      simp only [opTop, Option.map_eq_some_iff] at h
      obtain ⟨x, hx, rfl⟩ := h
      simp
  · cases h
theorem eval_len {v : Env} : ∀ {l : List Cd} {st st' : List Int}, evalSt v l st = some st' → st'.length ≤ st.length + l.length
  | [], st, st', h => by cases h; simp
  | c :: l, st, st', h => by
    simp only [evalSt, Option.bind_eq_some_iff] at h
    obtain ⟨s, hs, h2⟩ := h
    have := step_len hs
    have := eval_len h2
    simp
    omega
theorem evalSt_none {v : Env} {l : List Cd} {k : Nat} (hk : k ≤ l.length) {st : List Int} (h : evalSt v (l.take k) st = none) : evalSt v l st = none := by
  rw [← List.take_append_drop k l, eval_app, h]
  rfl
theorem eval_congr {v u : Env} (h1 : ∀ p, v.cnt p = u.cnt p) (h2 : ∀ p f, v.cnt p ≠ 0 → 0 ≤ f → f < 4 → v.last p f = u.last p f) : ∀ (l : List Cd) (st : List Int), evalSt v l st = evalSt u l st
  | [], st => rfl
  | c :: l, st => by
    have h : stepCd v st c = stepCd u st c := by
      unfold stepCd
      rw [h1]
      split
      · rfl
      split
      · rfl
      split
      · split
        · rfl
        · rename_i hc
          rw [h2 c.place c.fld (by rw [h1]; omega) (by omega) (by omega)]
      · rfl
    simp only [evalSt, h]
    cases stepCd u st c with
    | none => rfl
    | some s => exact eval_congr h1 h2 l s
end Go.Proofs.Ytfidnahbhomomaa
