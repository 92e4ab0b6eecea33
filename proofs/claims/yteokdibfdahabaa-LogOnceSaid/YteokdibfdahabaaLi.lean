/-
  What holds of a log between two calls.
-/
import Derived.Test.YteokdibfdahabaaRf11
import Derived.Test.YteokdibfdahabaaLg5
import Derived.Test.YteokdibfdahabaaLg6
namespace Go.Proofs.Yteokdibfdahabaa
open Go.ChangeShapes Go.WideShapes Go.ChangeAt Go.RowKit
set_option linter.unusedVariables false
structure LInv (c : Cf) (s : LSt) : Prop where
  lt : s.low ≤ s.tail
  ib : s.tail ≤ s.low + c.ib
  st : (s.tail : Int) ≤ c.st
  X : ∀ a, (s.X a).isSome = true → LiesB s a
  G : ∀ a, (s.G a).isSome = true → 0 ≤ a ∧ a < (s.low : Int)
  cur : ∀ k, k < c.sh → s.cur k ≤ s.tail
  lf : ∀ k, k < c.sh → s.left k = false → s.low ≤ s.cur k
  rl : ∀ k, k < c.sh → s.rl k = min s.low (s.cur k)
  Y : ∀ k, k < c.sh → ∀ j : Int, (s.Y k j).isSome = true ↔ (s.rl k : Int) ≤ j ∧ j < (s.cur k : Int)
  cnt : s.cnt ≤ s.low
theorem LInv.zero (c : Cf) (h : 0 ≤ c.st) : LInv c LSt.zero := by
  refine ⟨Nat.le_refl _, Nat.zero_le _, h, fun a h => ?_, fun a h => ?_, fun k _ => Nat.le_refl _, fun k _ _ => Nat.le_refl _, fun k _ => rfl, fun k _ j => ?_, Nat.le_refl _⟩
  · simp [LSt.zero] at h
  · simp [LSt.zero] at h
  · show (none : Option (Option Int)).isSome = true ↔ ((0 : Nat) : Int) ≤ j ∧ j < ((0 : Nat) : Int)
    simp only [Option.isSome_none, Bool.false_eq_true, false_iff]
    omega
section
variable {c : Cf} {s : LSt}
theorem LInv.noTail (h : LInv c s) : NoTail c s := by
  refine ⟨?_, ?_, fun k hk => ?_⟩
  · cases e : s.X (s.tail : Int) with
    | none => rfl
    | some p => have := (h.X _ (by rw [e]; rfl)).2.1; omega
  · cases e : s.G (s.tail : Int) with
    | none => rfl
    | some p => have := (h.G _ (by rw [e]; rfl)).2; have := h.lt; omega
  · cases e : s.Y k (s.tail : Int) with
    | none => rfl
    | some p => have := ((h.Y k hk _).1 (by rw [e]; rfl)).2; have := h.cur k hk; omega
theorem LInv.take (h : LInv c s) {t : Int} {cl : Bool} (ht : MayTake c s t cl) : LInv c { s with tail := s.tail + 1, closed := s.closed || cl } := by
  obtain ⟨rfl, h1, h2, _⟩ := ht
  have := h.lt
  exact ⟨by show s.low ≤ s.tail + 1; omega, by show s.tail + 1 ≤ s.low + c.ib; omega, by show ((s.tail + 1 : Nat) : Int) ≤ c.st; omega, fun a ha => by
    obtain ⟨q1, q2, q3⟩ := h.X a ha
    exact ⟨q1, by show a < ((s.tail + 1 : Nat) : Int); omega, q3⟩, h.G, fun k hk => by have := h.cur k hk; show s.cur k ≤ s.tail + 1; omega, h.lf, h.rl, h.Y, h.cnt⟩
theorem LInv.fill (h : LInv c s) {i : Nat} (h1 : s.low ≤ i) (h2 : i < s.tail) (p : Int × Int) : LInv c { s with X := updI s.X (i : Int) (some p) } :=
  ⟨h.lt, h.ib, h.st, fun a ha => by
    have ha : (updI s.X (i : Int) (some p) a).isSome = true := ha
    by_cases e : a = (i : Int)
    · subst e
      exact ⟨by show (s.low : Int) ≤ (i : Int); omega, by show (i : Int) < (s.tail : Int); omega, ha⟩
    · have ha2 := ha
      rw [updI_off _ _ e] at ha2
      obtain ⟨q1, q2, _⟩ := h.X a ha2
      exact ⟨q1, q2, ha⟩, h.G, h.cur, h.lf, h.rl, h.Y, h.cnt⟩
theorem LInv.leave (h : LInv c s) (i : Nat) : LInv c { s with left := upd s.left i true } :=
  ⟨h.lt, h.ib, h.st, h.X, h.G, h.cur, fun k hk hl => by
    have hl : upd s.left i true k = false := hl
    by_cases e : k = i
    · subst e
      rw [upd_at] at hl
      cases hl
    · rw [upd_off _ _ e] at hl
      exact h.lf k hk hl, h.rl, h.Y, h.cnt⟩
theorem LInv.ans (h : LInv c s) (a : Int) : LInv c { s with G := updI s.G a none } :=
  ⟨h.lt, h.ib, h.st, h.X, fun b hb => by
    have hb : (updI s.G a none b).isSome = true := hb
    by_cases e : b = a
    · subst e
      rw [updI_at] at hb
      cases hb
    · rw [updI_off _ _ e] at hb
      exact h.G b hb, h.cur, h.lf, h.rl, h.Y, h.cnt⟩
theorem LInv.post (h : LInv c s) {i : Nat} (hi : i < c.sh) (hl : LiesB s (s.cur i : Int)) (o : Option Int) : LInv c { s with cur := upd s.cur i (s.cur i + 1), Y := upd s.Y i (updI (s.Y i) (s.cur i) (some o)) } := by
  obtain ⟨q1, q2, q3⟩ := hl
  have hrl := h.rl i hi
  refine ⟨h.lt, h.ib, h.st, h.X, h.G, fun k hk => ?_, fun k hk hl => ?_, fun k hk => ?_, fun k hk j => ?_, h.cnt⟩
  · show upd s.cur i (s.cur i + 1) k ≤ s.tail
    by_cases e : k = i
    · subst e
      rw [upd_at]
      omega
    · rw [upd_off _ _ e]
      exact h.cur k hk
  · show s.low ≤ upd s.cur i (s.cur i + 1) k
    by_cases e : k = i
    · subst e
      rw [upd_at]
      omega
    · rw [upd_off _ _ e]
      exact h.lf k hk hl
  · show s.rl k = min s.low (upd s.cur i (s.cur i + 1) k)
    by_cases e : k = i
    · subst e
      rw [upd_at]
      omega
    · rw [upd_off _ _ e]
      exact h.rl k hk
  · show (upd s.Y i (updI (s.Y i) (s.cur i) (some o)) k j).isSome = true ↔ (s.rl k : Int) ≤ j ∧ j < ((upd s.cur i (s.cur i + 1) k : Nat) : Int)
    by_cases e : k = i
    · subst e
      rw [upd_at, upd_at]
      by_cases e2 : j = (s.cur k : Int)
      · subst e2
        rw [updI_at]
        simp only [Option.isSome_some, true_iff]
        omega
      · rw [updI_off _ _ e2, h.Y k hk j]
        omega
    · rw [upd_off _ _ e, upd_off _ _ e]
      exact h.Y k hk j
theorem allTold_told {kind : Int} : ∀ {n : Nat}, allTold s kind n = true → ∀ k, k < n → told s kind k = true
  | 0, _, k, hk => absurd hk (Nat.not_lt_zero _)
  | n + 1, h, k, hk => by
    unfold allTold at h
    simp only [Bool.and_eq_true] at h
    by_cases e : k = n
    · rw [e]; exact h.2
    · exact allTold_told h.1 k (by omega)
theorem LInv.reply (h : LInv c s) (hr : readyB c s = true) (e n : Int) : LInv c (replied c s e n) := by
  have hx : (s.X (s.low : Int)).isSome = true := allTold_some hr
  obtain ⟨q1, q2, q3⟩ := h.X _ hx
  have hlt := h.lt
  have htold := allTold_told hr
  refine ⟨by show s.low + 1 ≤ s.tail; omega, by show s.tail ≤ s.low + 1 + c.ib; have := h.ib; omega, h.st, fun a ha => ?_, fun a ha => ?_, h.cur, fun k hk hl => ?_, fun k hk => ?_, fun k hk j => ?_, by show s.cnt + 1 ≤ s.low + 1; have := h.cnt; omega⟩
  · have ha : (updI s.X (s.low : Int) none a).isSome = true := ha
    by_cases e : a = (s.low : Int)
    · subst e
      rw [updI_at] at ha
      cases ha
    · have ha2 := ha
      rw [updI_off _ _ e] at ha2
      obtain ⟨r1, r2, _⟩ := h.X a ha2
      exact ⟨by show ((s.low + 1 : Nat) : Int) ≤ a; omega, r2, ha⟩
  · have ha : ((if ((s.X s.low).getD (0, 0)).1 = 1 then s.G else updI s.G s.low (some ⟨e, n⟩)) a).isSome = true := ha
    show 0 ≤ a ∧ a < ((s.low + 1 : Nat) : Int)
    split at ha
    · have := h.G a ha; omega
    · by_cases e2 : a = (s.low : Int)
      · omega
      · rw [updI_off _ _ e2] at ha
        have := h.G a ha; omega
  · have hl : s.left k = false := hl
    have := htold k hk
    unfold told at this
    rw [hl] at this
    simp at this
    show s.low + 1 ≤ s.cur k
    omega
  · have hrl := h.rl k hk
    have hY := h.Y k hk (s.rl k : Int)
    show (if k < c.sh ∧ (s.Y k (s.rl k)).isSome = true then s.rl k + 1 else s.rl k) = min (s.low + 1) (s.cur k)
    by_cases e : (s.Y k (s.rl k)).isSome = true
    · rw [if_pos ⟨hk, e⟩]
      have := (hY.1 e).2
      omega
    · rw [if_neg (fun f => e f.2)]
      have : ¬ (s.rl k : Int) < (s.cur k : Int) := fun f => e (hY.2 ⟨Int.le_refl _, f⟩)
      omega
  · have hrl := h.rl k hk
    have hY := h.Y k hk (s.rl k : Int)
    have hYj := h.Y k hk j
    show ((if k < c.sh ∧ (s.Y k (s.rl k)).isSome = true then updI (s.Y k) (s.rl k) none else s.Y k) j).isSome = true ↔ (((if k < c.sh ∧ (s.Y k (s.rl k)).isSome = true then s.rl k + 1 else s.rl k) : Nat) : Int) ≤ j ∧ j < (s.cur k : Int)
    by_cases e : (s.Y k (s.rl k)).isSome = true
    · rw [if_pos ⟨hk, e⟩, if_pos ⟨hk, e⟩]
      by_cases e2 : j = (s.rl k : Int)
      · subst e2
        rw [updI_at]
        simp only [Option.isSome_none, Bool.false_eq_true, false_iff]
        omega
      · rw [updI_off _ _ e2, hYj]
        omega
    · rw [if_neg (fun f => e f.2), if_neg (fun f => e f.2)]
      exact hYj
end
/-- The blocks that may turn: of both logs. -/
def TS (B : LB) (n base : Nat) (w : World) (b : Nat) : Prop := B.foot n b ∨ RS base w b
theorem TS.trans {B : LB} {n base : Nat} {a b d : World} (h : Turn (TS B n base a) a b) (k : Turn (TS B n base b) b d) : Turn (TS B n base a) a d :=
  h.comp k (fun i hi q => by
    by_cases e : TS B n base a i
    · exact e
    · rcases q with q | ⟨q1, q2⟩
      · exact .inl q
      · have eb := h.block i hi e
        have back : ∀ t, Blk b i t → Blk a i t := fun t ⟨cs, hc⟩ => ⟨cs, eb.symm.trans hc⟩
        exact .inr ⟨q1, q2.imp (back _) (fun q => q.imp (back _) (fun q => q.imp (back _) (back _)))⟩)
theorem TS.no {B : LB} {n base : Nat} {a b : World} (h : Turn (fun _ => False) a b) : Turn (TS B n base a) a b := h.more (fun _ _ f => f.elim)
section
variable {w w' : World} {B : LB} {R : RB} {c : Cf} {s s0 : LSt}
theorem LogAt.past_ref {base : Nat} (h : LogAt w B c s) (T : Turn (RS base w) w w') : LogAt w' B c s :=
  h.turn T (fun b hb ⟨_, hr⟩ => by
    rcases hr with q | q | q | q
    · exact h.foot_ne q (by decide) (by decide) (by decide) (by decide) (by decide) (by decide) hb
    · exact h.foot_ne q (by decide) (by decide) (by decide) (by decide) (by decide) (by decide) hb
    · exact h.foot_ne q (by decide) (by decide) (by decide) (by decide) (by decide) (by decide) hb
    · exact h.foot_ne q (by decide) (by decide) (by decide) (by decide) (by decide) (by decide) hb) (fun b hb => RS.ne hb (by decide) (by decide) (by decide) (by decide))
theorem RefAt.past_log (h : RefAt w R c s) (hl : LogAt w B c s0) (T : Turn (B.foot c.sh) w w') : RefAt w' R c s :=
  h.turn T (fun b hb => hl.foot_ne hb (by decide) (by decide) (by decide) (by decide) (by decide) (by decide)) (fun b hb => hl.foot_ne hb (by decide) (by decide) (by decide) (by decide) (by decide) (by decide)) (fun b hb => hl.foot_ne hb (by decide) (by decide) (by decide) (by decide) (by decide) (by decide)) (fun b hb => hl.foot_ne hb (by decide) (by decide) (by decide) (by decide) (by decide) (by decide)) (fun b hb => hl.foot_ne hb (by decide) (by decide) (by decide) (by decide) (by decide) (by decide))
/-- Both logs, side by side. -/
structure Two (w : World) (B : LB) (R : RB) (c : Cf) (s : LSt) : Prop where
  L : LogAt w B c s
  D : RefAt w R c s
  I : LInv c s
  sh : c.sh ≤ 3
  ib : c.ib ≤ 5
  st : c.st ≤ 24
theorem Two.keep (h : Two w B R c s) (T : Turn (fun _ => False) w w') : Two w' B R c s := ⟨h.L.keep T, h.D.keep T, h.I, h.sh, h.ib, h.st⟩
theorem Two.tail (h : Two w B R c s) : s.tail ≤ 24 := by have := h.I.st; have := h.st; omega
/-- Blocks of other types don't turn. -/
theorem Two.off (h : Two w B R c s) {b : Nat} {t : TypeId} (hb : Blk w b t) (h1 : t ≠ 93 ∧ t ≠ 121 ∧ t ≠ 132 ∧ t ≠ 97 ∧ t ≠ 124 ∧ t ≠ 137) (h2 : t ≠ 101 ∧ t ≠ 128 ∧ t ≠ 126 ∧ t ≠ 62) : ¬ TS B c.sh R.base w b := fun q => by
  rcases q with q | q
  · exact h.L.foot_ne hb h1.1 h1.2.1 h1.2.2.1 h1.2.2.2.1 h1.2.2.2.2.1 h1.2.2.2.2.2 q
  · exact RS.ne hb h2.1 h2.2.1 h2.2.2.1 h2.2.2.2 q
/-- What holds once both have answered. -/
def Aft (w : World) (B : LB) (R : RB) (c : Cf) (P : LSt → Prop) (w2 : World) : Prop := ∃ (R' : RB) (s' : LSt), R'.base = R.base ∧ R'.r = R.r ∧ Two w2 B R' c s' ∧ P s' ∧ Turn (TS B c.sh R.base w) w w2
theorem Two.aft {P : LSt → Prop} {w1 w2 : World} {s' : LSt} {R' : RB} (h : Two w B R c s) (hb : R'.base = R.base) (hr : R'.r = R.r) (T1 : Turn (B.foot c.sh) w w1) (L1 : LogAt w1 B c s') {W : World} (T : Turn (fun _ => False) w1 W) (T2 : Turn (RS R.base W) W w2) (D2 : RefAt w2 R' c s') (I : LInv c s') (hP : P s') : Aft w B R c P w2 := by
  have L2 := (L1.keep T).past_ref T2
  refine ⟨R', s', hb, hr, ⟨L2, D2, I, h.sh, h.ib, h.st⟩, hP, TS.trans (T1.more (fun _ _ q => .inl q)) (TS.trans (TS.no T) (T2.more (fun _ _ q => .inr q)))⟩
end
end Go.Proofs.Yteokdibfdahabaa
