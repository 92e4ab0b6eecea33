/-
  A worker over a log into which commands are put.
-/
import Derived.Test.YtgfobgabdafclaaGreatWj
namespace Go.Proofs.YtgfobgabdafclaaGreat
open Go.ChangeShapes Go.WideShapes Go.ChangeAt Go.RowKit
set_option linter.unusedVariables false
def cW : Cf := ⟨1, 20, 20, 2, 1, 9, 99⟩
theorem cW_ok : cW.Ok := ⟨by decide, by decide, by decide, by decide, by decide, by decide, by decide, by decide, by decide, by decide, by decide, by decide, by decide, by decide⟩
/-- The command at a stamp: all are CmdPoll, but that at n, which is CmdClose. -/
def qOf (n j : Nat) : Int × Int := (if j = n then 5 else 4, 0)
/-- A log into which i commands were put. -/
def sI (n i : Nat) : LSt := { LSt.zero with tail := i, closed := decide (n < i), X := fun j => if 0 ≤ j ∧ j < (i : Int) then some (qOf n j.toNat) else none }
theorem sI_fresh (n i : Nat) : Fresh (sI n i) := ⟨rfl, rfl, rfl, fun _ => rfl⟩
theorem sI_at {n i k : Nat} (h : k < i) : (sI n i).X (k : Int) = some (qOf n k) := by
  show (if 0 ≤ (k : Int) ∧ (k : Int) < (i : Int) then some (qOf n (k : Int).toNat) else none) = _
  rw [if_pos ⟨by omega, by omega⟩]
  rfl
theorem sI_no {n i k : Nat} (h : i ≤ k) : (sI n i).X (k : Int) = none := by
  show (if 0 ≤ (k : Int) ∧ (k : Int) < (i : Int) then some (qOf n (k : Int).toNat) else none) = _
  rw [if_neg (by omega)]
theorem sI_zero (n : Nat) : sI n 0 = LSt.zero := by
  have hx : (sI n 0).X = LSt.zero.X := by
    funext j
    show (if 0 ≤ j ∧ j < ((0 : Nat) : Int) then some (qOf n j.toNat) else none) = none
    rw [if_neg (by omega)]
  have hc : (sI n 0).closed = LSt.zero.closed := by
    show decide (n < 0) = false
    simp
  show LSt.mk _ _ (sI n 0).closed (sI n 0).X _ _ _ _ _ _ = LSt.zero
  rw [hx, hc]
  rfl
def sT (n i : Nat) : LSt := { sI n i with tail := (sI n i).tail + 1, closed := (sI n i).closed || decide (i = n) }
theorem sT_put (n i : Nat) : { sT n i with X := updI (sT n i).X (i : Int) (some (qOf n i)) } = sI n (i + 1) := by
  have hx : updI (sT n i).X (i : Int) (some (qOf n i)) = (sI n (i + 1)).X := by
    funext j
    unfold updI
    split
    · next h => rw [h]; exact (sI_at (Nat.lt_succ_self i)).symm
    · next h =>
      show (if 0 ≤ j ∧ j < (i : Int) then some (qOf n j.toNat) else none) = (if 0 ≤ j ∧ j < ((i + 1 : Nat) : Int) then some (qOf n j.toNat) else none)
      by_cases h1 : 0 ≤ j ∧ j < (i : Int)
      · rw [if_pos h1, if_pos ⟨h1.1, by omega⟩]
      · rw [if_neg h1, if_neg (by omega)]
  have hc : (sT n i).closed = (sI n (i + 1)).closed := by
    show (decide (n < i) || decide (i = n)) = decide (n < i + 1)
    by_cases h1 : n < i
    · simp [h1]; omega
    · by_cases h2 : i = n
      · simp [h2]
      · simp [h1, h2]; omega
  rw [hx]
  show LSt.mk _ _ (sT n i).closed _ _ _ _ _ _ _ = sI n (i + 1)
  rw [hc]
  rfl
section
variable {w w' : World} {B : LB} {el xb sb hb n i : Nat} {now st last : Int} {P : Nat → Int} {f : Nat} {calm left : Bool} {p : Int × Int}
theorem WS.taken (Z : WS w B cW (sI n i) el now P xb sb hb 0 f calm left st p last) (hi : i < 20) :
    Calls Tryz.prog 28 #[.pointer (some ⟨B.l, 0, none⟩), .int .i64 (i : Int), .bool (decide (i = n))] w fun e w' => e = .returned (.bool true) ∧ WS w' B cW (sT n i) el now P xb sb hb 0 f calm left st p last ∧ Turn (WOwn B cW el xb sb hb) w w' := by
  refine (Z.L.take_yes (t := (i : Int)) (cl := decide (i = n)) ⟨rfl, by show (i : Int) < 99; omega, by show (i : Int) - 0 < 20; omega, ?_⟩ (by show i < 1000; omega)).mono ?_
  · rintro ⟨h1, h2⟩
    have h1 := of_decide_eq_true h1
    have h2 : decide (n < i) = true := h2
    have h2 := of_decide_eq_true h2
    omega
  · rintro e w' ⟨he, L, T⟩
    exact ⟨he, Z.onL L T, T.more (fun _ _ e => own_f e)⟩
theorem WS.filled (Z : WS w B cW (sT n i) el now P xb sb hb 0 f calm left st p last) (hi : i < 20) {k : Int} (hk : k = (qOf n i).1) :
    Calls Tryz.prog 29 #[.pointer (some ⟨B.l, 0, none⟩), .int .i64 (i : Int), .agg #[.int .i64 k, .int .i64 0, .int .i64 0, .int .i64 0, .int .i64 0, .int .i64 0, .int .i64 0, .int .i64 0, .int .i64 0, .int .i64 0, .int .i64 0, .slice none 0 0, .int .i64 0, .bool false]] w fun e w' => e = .returned (.bool true) ∧ WS w' B cW (sI n (i + 1)) el now P xb sb hb 0 f calm left st p last ∧ Turn (WOwn B cW el xb sb hb) w w' := by
  subst hk
  refine (Z.L.fill_yes (i := i) (Nat.lt_succ_self i) (Nat.zero_le _) (by show i < 0 + 20; omega) ?_ (qOf n i)).mono ?_
  · exact sI_no (n := n) (Nat.le_refl i)
  · rintro e w' ⟨he, L, T⟩
    rw [sT_put] at L
    exact ⟨he, Z.onL L T, T.more (fun _ _ e => own_f e)⟩
/-- A worker is calm. -/
theorem RunAt.calm_is {c : Cf} {s0 : LSt} {q : Nat → Int × Int} {k : Nat} (h : RunAt w B c s0 el xb sb hb q k 0) : Calls Tryz.prog 33 #[.pointer (some ⟨xb, 0, none⟩)] w fun e w' => e = .returned (.bool true) ∧ w = w' := by
  obtain ⟨st, p, Z⟩ := h
  have M := Lib.hid Z.X.left_is
  have x5 := Z.X.x5
  clear Z
  go_enter Tryz.func33, Tryz.ntmps33
  go_wp2_with fail
  with_reducible refine M.out.mono ?_
  rintro e w1 ⟨rfl, rfl⟩
  go_wp2_with fail
  go_ret
  exact ⟨rfl, rfl⟩
end
end Go.Proofs.YtgfobgabdafclaaGreat
