/-
  The order of matches is one: in Lean.
-/
import Derived.Test.YtibmimdlgbhdnaaTup
namespace Go.Proofs.Ytibmimdlgbhdnaa

structure Ord3 {α : Type} (f : α → α → Int) : Prop where
  r : ∀ a b, f a b = -1 ∨ f a b = 0 ∨ f a b = 1
  s : ∀ a b, f b a = -(f a b)
  e : ∀ a b, f a b = 0 → a = b
  t : ∀ a b c, f a b ≤ 0 → f b c ≤ 0 → f a c ≤ 0
theorem Ord3.self {α : Type} {f : α → α → Int} (h : Ord3 f) (a : α) : f a a = 0 := by
  have := h.s a a
  omega
theorem ord_int : Ord3 cmpI := by
  refine ⟨fun a b => ?_, fun a b => ?_, fun a b h => ?_, fun a b c h1 h2 => ?_⟩
  · unfold cmpI
    split
    · exact .inl rfl
    · split
      · exact .inr (.inr rfl)
      · exact .inr (.inl rfl)
  · unfold cmpI
    split <;> split <;> (try split) <;> omega
  · unfold cmpI at h
    split at h
    · omega
    · split at h <;> omega
  · unfold cmpI at h1 h2 ⊢
    split at h1 <;> split at h2 <;> split <;> (try split at h1) <;> (try split at h2) <;> (try split) <;> omega
theorem cmpL_cons {α : Type} (f : α → α → Int) (a b : α) (l m : List α) : cmpL f (a :: l) (b :: m) = if f a b = 0 then cmpL f l m else f a b := rfl
theorem Ord3.list {α : Type} {f : α → α → Int} (h : Ord3 f) : Ord3 (cmpL f) := by
  refine ⟨?_, ?_, ?_, ?_⟩
  · intro l
    induction l with
    | nil => intro m; cases m with
      | nil => exact .inr (.inl rfl)
      | cons b m => exact .inl rfl
    | cons a l ih => intro m; cases m with
      | nil => exact .inr (.inr rfl)
      | cons b m =>
        rw [cmpL_cons]
        by_cases e : f a b = 0
        · rw [if_pos e]
          exact ih m
        · rw [if_neg e]
          exact h.r a b
  · intro l
    induction l with
    | nil => intro m; cases m <;> rfl
    | cons a l ih => intro m; cases m with
      | nil => rfl
      | cons b m =>
        rw [cmpL_cons, cmpL_cons]
        have s := h.s a b
        by_cases e : f a b = 0
        · rw [if_pos e, if_pos (by omega)]
          exact ih m
        · rw [if_neg e, if_neg (by omega)]
          exact s
  · intro l
    induction l with
    | nil => intro m hm; cases m with
      | nil => rfl
      | cons b m => exact absurd (show (-1 : Int) = 0 from hm) (by decide)
    | cons a l ih => intro m hm; cases m with
      | nil => exact absurd (show (1 : Int) = 0 from hm) (by decide)
      | cons b m =>
        rw [cmpL_cons] at hm
        by_cases e : f a b = 0
        · rw [if_pos e] at hm
          rw [h.e a b e, ih m hm]
        · rw [if_neg e] at hm
          exact absurd hm e
  · intro l
    induction l with
    | nil => intro m n _ _; cases n with
      | nil => exact Int.le_refl 0
      | cons c n => exact (by decide : (-1 : Int) ≤ 0)
    | cons a l ih => intro m n h1 h2; cases m with
      | nil => exact absurd (show (1 : Int) ≤ 0 from h1) (by decide)
      | cons b m => cases n with
        | nil => exact absurd (show (1 : Int) ≤ 0 from h2) (by decide)
        | cons c n =>
          rw [cmpL_cons] at h1 h2 ⊢
          by_cases e1 : f a b = 0
          · rw [if_pos e1] at h1
            have := h.e a b e1
            subst this
            by_cases e2 : f a c = 0
            · rw [if_pos e2] at h2 ⊢
              exact ih m n h1 h2
            · rw [if_neg e2] at h2 ⊢
              exact h2
          · rw [if_neg e1] at h1
            by_cases e2 : f b c = 0
            · have := h.e b c e2
              subst this
              rw [if_neg e1]
              exact h1
            · rw [if_neg e2] at h2
              have h3 := h.t a b c h1 h2
              by_cases e3 : f a c = 0
              · have := h.e a c e3
                subst this
                have := h.s a b
                omega
              · rw [if_neg e3]
                exact h3
theorem cmpL_longer {α : Type} {f : α → α → Int} (h : Ord3 f) (l : List α) (x : α) : cmpL f l (l ++ [x]) = -1 := by
  induction l with
  | nil => rfl
  | cons a l ih =>
    rw [List.cons_append, cmpL_cons, if_pos (h.self a)]
    exact ih
theorem ord_match : Ord3 (cmpL (cmpL cmpI)) := ord_int.list.list
end Go.Proofs.Ytibmimdlgbhdnaa
