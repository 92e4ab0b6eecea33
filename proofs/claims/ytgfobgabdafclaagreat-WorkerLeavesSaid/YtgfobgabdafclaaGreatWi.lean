/-
  A worker goes on, step by step, over commands that ask nothing of its shard.
-/
import Derived.Test.YtgfobgabdafclaaGreatWh
namespace Go.Proofs.YtgfobgabdafclaaGreat
open Go.ChangeShapes Go.WideShapes Go.ChangeAt Go.RowKit
set_option linter.unusedVariables false
/-- A log behind m posts of worker 0. -/
def sOf (s0 : LSt) : Nat → LSt
  | 0 => s0
  | m + 1 => { sOf s0 m with cur := upd (sOf s0 m).cur 0 ((sOf s0 m).cur 0 + 1), Y := upd (sOf s0 m).Y 0 (updI ((sOf s0 m).Y 0) ((sOf s0 m).cur 0) (some none)) }
/-- A log of which worker 0 has seen nothing. -/
structure Fresh (s0 : LSt) : Prop where
  cur : s0.cur 0 = 0
  left : s0.left 0 = false
  rl : s0.rl 0 = 0
  Y : ∀ j, s0.Y 0 j = none
theorem sOf_is {s0 : LSt} (h : Fresh s0) : ∀ m, (sOf s0 m).cur 0 = m ∧ (sOf s0 m).left 0 = false ∧ (sOf s0 m).rl 0 = 0 ∧ (sOf s0 m).X = s0.X ∧ ∀ j : Int, (m : Int) ≤ j → (sOf s0 m).Y 0 j = none
  | 0 => ⟨h.cur, h.left, h.rl, rfl, fun j _ => h.Y j⟩
  | m + 1 => by
    obtain ⟨h1, h2, h3, h4, h5⟩ := sOf_is h m
    refine ⟨?_, h2, h3, h4, fun j hj => ?_⟩
    · show upd (sOf s0 m).cur 0 ((sOf s0 m).cur 0 + 1) 0 = m + 1
      rw [upd_at, h1]
    · show upd (sOf s0 m).Y 0 (updI ((sOf s0 m).Y 0) ((sOf s0 m).cur 0) (some none)) 0 j = none
      rw [upd_at, updI_off _ _ (by rw [h1]; omega)]
      exact h5 j (by omega)
def noP : Nat → Int := fun _ => -1
theorem noP_upd (v : Int) : upd (upd noP 0 v) 0 (-1) = noP := by
  funext j
  unfold upd noP
  split <;> rfl
/-- Where a worker stands at command k. -/
def RunAt (w : World) (B : LB) (c : Cf) (s0 : LSt) (el xb sb hb : Nat) (q : Nat → Int × Int) (k : Nat) : Nat → Prop
  | 0 => ∃ st p, WS w B c (sOf s0 k) el (k : Int) noP xb sb hb 0 117 true false st p ((k : Int) - 1)
  | 1 => WS w B c (sOf s0 k) el (k : Int) noP xb sb hb 0 155 false false (k : Int) (q k) ((k : Int) - 1)
  | 2 => WS w B c (sOf s0 k) el (k : Int) (upd noP 0 (k : Int)) xb sb hb 0 186 false false (k : Int) (q k) ((k : Int) - 1)
  | 3 => WS w B c (sOf s0 k) el (k : Int) (upd noP 0 (k : Int)) xb sb hb 0 251 false false (k : Int) (q k) (k : Int)
  | 4 => WS w B c (sOf s0 k) el (k : Int) noP xb sb hb 0 272 false false (k : Int) (q k) (k : Int)
  | 5 => WS w B c (sOf s0 (k + 1)) el (k : Int) noP xb sb hb 0 284 false false (k : Int) (q k) (k : Int)
  | 6 => WS w B c (sOf s0 (k + 1)) el ((k : Int) + 1) noP xb sb hb 0 290 false false (k : Int) (q k) (k : Int)
  | 7 => WS w B c (sOf s0 (k + 1)) el ((k : Int) + 1) noP xb sb hb 0 297 false false (k : Int) (q k) (k : Int)
  | 8 => WS w B c { sOf s0 (k + 1) with left := upd (sOf s0 (k + 1)).left 0 true } el ((k : Int) + 1) noP xb sb hb 0 297 false true (k : Int) (q k) (k : Int)
  | _ => False
section
variable {w w' : World} {B : LB} {c : Cf} {s0 : LSt} {el xb sb hb : Nat} {q : Nat → Int × Int} {k ph : Nat}
/-- What one step makes of it. -/
def StepPost (w : World) (B : LB) (c : Cf) (s0 : LSt) (el xb sb hb : Nat) (q : Nat → Int × Int) (k ph : Nat) (e : Ending) (w' : World) : Prop :=
  e = .returned (.bool true) ∧ RunAt w' B c s0 el xb sb hb q k ph ∧ Turn (WOwn B c el xb sb hb) w w'
/-- .. as long as it has not left, and there is a command. -/
theorem RunAt.step (h : RunAt w B c s0 el xb sb hb q k ph) (h0 : Fresh s0) (hsh : 1 ≤ c.sh) (hk : k < c.ib) (hb1 : k ≤ 1000) (hx : s0.X (k : Int) = some (q k)) (h1 : (q k).1 ≠ 1) (h2 : (q k).1 ≠ 2) (h3 : (q k).1 ≠ 3) (h8 : ph < 8) :
    Calls Tryz.prog 30 #[.pointer (some ⟨xb, 0, none⟩)] w (if ph = 6 ∧ (q k).1 ≠ 5 then StepPost w B c s0 el xb sb hb q (k + 1) 0 else StepPost w B c s0 el xb sb hb q k (ph + 1)) := by
  obtain ⟨g1, g2, g3, g4, g5⟩ := sOf_is h0 k
  obtain ⟨j1, j2, j3, j4, j5⟩ := sOf_is h0 (k + 1)
  have hsh' : 0 < c.sh := hsh
  match ph, h8, h with
  | 0, _, ⟨st, p, Z⟩ =>
    rw [if_neg (by omega)]
    have HL := look_yes (q := q k) Z.L Z.X hsh' g2 (by rw [g1, g4]; exact hx) (by rw [g1]; omega)
    rw [g1] at HL
    refine (Z.X.step_is (by simp) (Q := fun w' => WkAt w' xb B.l sb hb 0 155 false false (k : Int) (q k) ∧ Turn (fun k => k = xb) w w') HL).mono ?_
    rintro e w' ⟨he, X, T⟩
    exact ⟨he, Z.onX X T, T.more (fun _ _ e => own_x e)⟩
  | 1, _, Z =>
    rw [if_neg (by omega)]
    have HL := Z.pin_is (by omega) rfl
    refine (Z.X.step_is (by simp) HL).mono ?_
    rintro e w' ⟨he, X, T⟩
    exact ⟨he, X, T⟩
  | 2, _, Z =>
    rw [if_neg (by omega)]
    have HL := Z.apply_is (by omega) h1 h2 h3
    refine (Z.X.step_is (by simp) HL).mono ?_
    rintro e w' ⟨he, X, T⟩
    exact ⟨he, X, T⟩
  | 3, _, Z =>
    rw [if_neg (by omega)]
    have HL := Z.unpin_is (by omega) (by rw [upd_at]; omega)
    rw [noP_upd] at HL
    refine (Z.X.step_is (by simp) HL).mono ?_
    rintro e w' ⟨he, X, T⟩
    exact ⟨he, X, T⟩
  | 4, _, Z =>
    rw [if_neg (by omega)]
    have HL := Z.post_is hsh' g2 (by omega) (by rw [g1, g4, hx]; rfl) ⟨by omega, by omega, g5 _ (by rw [g1]; omega)⟩
    refine (Z.X.step_is (by simp) HL).mono ?_
    rintro e w' ⟨he, X, T⟩
    exact ⟨he, X, T⟩
  | 5, _, Z =>
    rw [if_neg (by omega)]
    have HL := Z.advance_is (by omega) (fun j _ => .inl rfl)
    refine (Z.X.step_is (by simp) HL).mono ?_
    rintro e w' ⟨he, X, T⟩
    exact ⟨he, X, T⟩
  | 6, _, Z =>
    by_cases h5 : (q k).1 = 5
    · rw [if_neg (fun h => h.2 h5)]
      have HL := Z.ripen_leave (by omega) h5
      refine (Z.X.step_is (by simp) HL).mono ?_
      rintro e w' ⟨he, X, T⟩
      exact ⟨he, X, T⟩
    · rw [if_pos ⟨rfl, h5⟩]
      have HL := Z.ripen_rest (by omega) h5
      refine (Z.X.step_is (by simp) HL).mono ?_
      rintro e w' ⟨he, X, T⟩
      have e1 : ((k + 1 : Nat) : Int) = (k : Int) + 1 := by omega
      have RA : ∃ st p, WS w' B c (sOf s0 (k + 1)) el ((k + 1 : Nat) : Int) noP xb sb hb 0 117 true false st p (((k + 1 : Nat) : Int) - 1) := by
        rw [e1, Int.add_sub_cancel]
        exact ⟨_, _, X⟩
      exact ⟨he, RA, T⟩
  | 7, _, Z =>
    rw [if_neg (by omega)]
    have HL := Z.leave_is hsh' j2
    refine (Z.X.step_is (by simp) HL).mono ?_
    rintro e w' ⟨he, X, T⟩
    exact ⟨he, X, T⟩
/-- .. where there is none. -/
theorem RunAt.step_no (h : RunAt w B c s0 el xb sb hb q k 0) (h0 : Fresh s0) (hsh : 1 ≤ c.sh) (hb1 : k ≤ 1000) (hx : s0.X (k : Int) = none) :
    Calls Tryz.prog 30 #[.pointer (some ⟨xb, 0, none⟩)] w fun e w' => e = .returned (.bool false) ∧ RunAt w' B c s0 el xb sb hb q k 0 ∧ Turn (fun _ => False) w w' := by
  obtain ⟨g1, g2, g3, g4, g5⟩ := sOf_is h0 k
  obtain ⟨st, p, Z⟩ := h
  have HL := look_no Z.L Z.X hsh g2 (by rw [g1, g4]; exact hx) (by rw [g1]; omega)
  refine (Z.X.step_is (by simp) HL).mono ?_
  rintro e w' ⟨he, T⟩
  exact ⟨he, ⟨_, _, Z.same T⟩, T⟩
theorem RunAt.step_gone (h : RunAt w B c s0 el xb sb hb q k 8) : Calls Tryz.prog 30 #[.pointer (some ⟨xb, 0, none⟩)] w fun e w' => e = .returned (.bool false) ∧ w = w' := h.X.step_left
theorem RunAt.left_no (h : RunAt w B c s0 el xb sb hb q k ph) (h8 : ph < 8) : Calls Tryz.prog 31 #[.pointer (some ⟨xb, 0, none⟩)] w fun e w' => e = .returned (.bool false) ∧ w = w' := by
  match ph, h8, h with
  | 0, _, ⟨st, p, Z⟩ => exact Z.X.left_is
  | 1, _, Z => exact WkAt.left_is (WS.X Z)
  | 2, _, Z => exact WkAt.left_is (WS.X Z)
  | 3, _, Z => exact WkAt.left_is (WS.X Z)
  | 4, _, Z => exact WkAt.left_is (WS.X Z)
  | 5, _, Z => exact WkAt.left_is (WS.X Z)
  | 6, _, Z => exact WkAt.left_is (WS.X Z)
  | 7, _, Z => exact WkAt.left_is (WS.X Z)
theorem RunAt.left_yes (h : RunAt w B c s0 el xb sb hb q k 8) : Calls Tryz.prog 31 #[.pointer (some ⟨xb, 0, none⟩)] w fun e w' => e = .returned (.bool true) ∧ w = w' := h.X.left_is
theorem RunAt.cursor_is (h : RunAt w B c s0 el xb sb hb q k ph) (h0 : Fresh s0) (hsh : 1 ≤ c.sh) (h8 : ph < 8) : Calls Tryz.prog 32 #[.pointer (some ⟨B.l, 0, none⟩), .int .i64 0] w fun e w' => e = .returned (.int .i64 ((if 5 ≤ ph then k + 1 else k : Nat) : Int)) ∧ w = w' := by
  obtain ⟨g1, g2, g3, g4, g5⟩ := sOf_is h0 k
  obtain ⟨j1, j2, j3, j4, j5⟩ := sOf_is h0 (k + 1)
  have C1 : ∀ {s : LSt}, LogAt w B c s → s.left 0 = false → Calls Tryz.prog 32 #[.pointer (some ⟨B.l, 0, none⟩), .int .i64 0] w fun e w' => e = .returned (.int .i64 ((s.cur 0 : Nat) : Int)) ∧ w = w' := fun L hl => L.cursor_yes (i := 0) hsh hl
  match ph, h8, h with
  | 0, _, ⟨st, p, Z⟩ => have := C1 Z.L g2; rwa [g1] at this
  | 1, _, Z => have := C1 (WS.L Z) g2; rwa [g1] at this
  | 2, _, Z => have := C1 (WS.L Z) g2; rwa [g1] at this
  | 3, _, Z => have := C1 (WS.L Z) g2; rwa [g1] at this
  | 4, _, Z => have := C1 (WS.L Z) g2; rwa [g1] at this
  | 5, _, Z => have := C1 (WS.L Z) j2; rwa [j1] at this
  | 6, _, Z => have := C1 (WS.L Z) j2; rwa [j1] at this
  | 7, _, Z => have := C1 (WS.L Z) j2; rwa [j1] at this
theorem RunAt.cursor_gone (h : RunAt w B c s0 el xb sb hb q k 8) : Calls Tryz.prog 32 #[.pointer (some ⟨B.l, 0, none⟩), .int .i64 0] w fun e w' => e = .returned (.int .i64 (-1)) ∧ w = w' :=
  LogAt.cursor_no (WS.L h) (by
    rintro ⟨i, hi, _, hl⟩
    obtain rfl : i = 0 := by omega
    have : upd (sOf s0 (k + 1)).left 0 true 0 = false := hl
    rw [upd_at] at this
    cases this)
end
end Go.Proofs.YtgfobgabdafclaaGreat
