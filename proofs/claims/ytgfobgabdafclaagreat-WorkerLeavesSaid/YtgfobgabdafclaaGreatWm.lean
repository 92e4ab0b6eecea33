/-
  Of no worker nothing comes.
-/
import Derived.Test.YtgfobgabdafclaaGreatWl
namespace Go.Proofs.YtgfobgabdafclaaGreat
open Go.ChangeShapes Go.WideShapes Go.ChangeAt Go.RowKit
set_option linter.unusedVariables false
set_option maxRecDepth 100000 in
theorem made_nil (w : World) : Calls Tryz.prog 69 #[.pointer none] w fun e w' => e = .returned (.bool false) ∧ w = w' := by
  go_enter Tryz.func69, Tryz.ntmps69
  go_wp2
  go_ret
  exact ⟨rfl, rfl⟩
set_option maxRecDepth 100000 in
theorem left_nil (w : World) : Calls Tryz.prog 31 #[.pointer none] w fun e w' => e = .returned (.bool true) ∧ w = w' := by
  have M := Lib.hid (made_nil w)
  go_enter Tryz.func31, Tryz.ntmps31
  go_wp2_with fail
  with_reducible refine M.out.mono ?_
  rintro e w7 ⟨rfl, rfl⟩
  go_wp2_with fail
  go_ret
  exact ⟨rfl, rfl⟩
set_option maxRecDepth 100000 in
theorem step_nil (w : World) : Calls Tryz.prog 30 #[.pointer none] w fun e w' => e = .returned (.bool false) ∧ w = w' := by
  have M := Lib.hid (left_nil w)
  go_enter Tryz.func30, Tryz.ntmps30
  go_wp2_with fail
  with_reducible refine M.out.mono ?_
  rintro e w7 ⟨rfl, rfl⟩
  go_wp2_with fail
  go_ret
  exact ⟨rfl, rfl⟩
set_option maxRecDepth 100000 in
theorem calm_nil (w : World) : Calls Tryz.prog 33 #[.pointer none] w fun e w' => e = .returned (.bool true) ∧ w = w' := by
  have M := Lib.hid (left_nil w)
  go_enter Tryz.func33, Tryz.ntmps33
  go_wp2_with fail
  with_reducible refine M.out.mono ?_
  rintro e w7 ⟨rfl, rfl⟩
  go_wp2_with fail
  go_ret
  exact ⟨rfl, rfl⟩
set_option maxRecDepth 100000 in
theorem shard_nil (w : World) : Calls Tryz.prog 34 #[.pointer none] w fun e w' => e = .returned (.pointer none) ∧ w = w' := by
  go_enter Tryz.func34, Tryz.ntmps34
  go_wp2
  go_ret
  exact ⟨rfl, rfl⟩
def cN : Cf := ⟨3, 20, 20, 2, 1, 9, 99⟩
theorem cN_ok : cN.Ok := ⟨by decide, by decide, by decide, by decide, by decide, by decide, by decide, by decide, by decide, by decide, by decide, by decide, by decide, by decide⟩
set_option maxRecDepth 100000 in
set_option maxHeartbeats 4000000 in
theorem worker_nil_walk (n : Int) (w : World) : Calls Tryz.prog 6 #[.int .i64 n] w fun e w' => e = .returned (.bool true) ∧ Below w.heap.size w w' := by
  have CF : Calls Tryz.prog 25 #[.agg #[.slice none 0 0, .int .i64 2, .int .i64 0, .int .i64 0, .slice none 0 0, .slice none 0 0]] w fun e w' => e = .returned (.agg #[.int .i64 3, .int .i64 20, .int .i64 20, .int .i64 2, .int .i64 1, .int .i64 9, .int .i64 99]) ∧ Turn (fun _ => False) w w' := config_of w (.inr rfl) rfl
  have CF := Lib.hid CF
  go_enter Tryz.func6, Tryz.ntmps6
  go_wp2_with fail
  with_reducible refine CF.out.mono ?_
  rintro e w1 ⟨rfl, T1⟩
  have N0 : Calls Tryz.prog 24 #[.agg #[.int .i64 3, .int .i64 20, .int .i64 20, .int .i64 2, .int .i64 1, .int .i64 9, .int .i64 99]] w1 fun e w' => NewPost w1 w' cN e := new_yes w1 cN_ok
  have N0 := Lib.hid N0
  have T1 := Lib.hid T1
  clear CF
  go_wp2_with fail
  with_reducible refine N0.out.mono ?_
  rintro e w2 ⟨B, el, rfl, L0, lo, E0, loE, T2⟩
  have T2 := Lib.hid (T1.out.trans T2)
  have LE := Lib.hid (And.intro L0 E0)
  have AW := Lib.hid (w_awake w2)
  clear L0 E0 lo loE T1 N0
  go_wp2_with fail
  with_reducible refine AW.out.mono ?_
  rintro e w3 ⟨rfl, b3⟩
  have T23 : Turn (fun _ => False) w2 w3 := Turn.of_below b3
  have LE := Lib.hid (And.intro (LE.out.1.keep T23) (LE.out.2.same T23))
  have T3 := Lib.hid (T2.out.trans T23)
  have S1 := Lib.hid (step_nil w3)
  have S2 := Lib.hid (left_nil w3)
  have S3 := Lib.hid (calm_nil w3)
  have S4 := Lib.hid (shard_nil w3)
  have S5 := Lib.hid (worker_nolog w3 n)
  clear b3 T23 T2 AW
  go_wp2_with fail
  with_reducible refine S1.out.mono ?_
  rintro e w4 ⟨rfl, rfl⟩
  go_wp2_with fail
  with_reducible refine S2.out.mono ?_
  rintro e w4 ⟨rfl, rfl⟩
  go_wp2_with fail
  with_reducible refine S3.out.mono ?_
  rintro e w4 ⟨rfl, rfl⟩
  go_wp2_with fail
  with_reducible refine S4.out.mono ?_
  rintro e w4 ⟨rfl, rfl⟩
  go_wp2_with fail
  with_reducible refine S5.out.mono ?_
  rintro e w4 ⟨rfl, rfl⟩
  by_cases h : 0 ≤ n ∧ n < 3
  · obtain ⟨m, rfl⟩ : ∃ m : Nat, n = (m : Int) := ⟨n.toNat, by omega⟩
    have NW := Lib.hid (LE.out.1.worker_new LE.out.2 cN_ok (i := m) (by show m < 3; omega))
    have t1 : decide ((0 : Int) ≤ (m : Int)) = true := decide_eq_true (by omega)
    have t2 : decide ((m : Int) < 3) = true := decide_eq_true (by omega)
    clear LE S1 S2 S3 S4 S5
    go_wp2_with fail
    with_reducible refine NW.out.mono ?_
    rintro e w5 ⟨xb, sb, hb, rfl, _, _, T5⟩
    have T5 := Lib.hid (T3.out.trans T5)
    go_wp2_with fail
    go_ret
    exact ⟨rfl, T5.out.below fun k hk => ⟨hk, fun f => f⟩⟩
  · have NW := Lib.hid (LE.out.1.worker_none cN_ok (n := n) (by show n < 0 ∨ 3 ≤ n; omega))
    by_cases t0 : 0 ≤ n
    · have t1 : decide ((0 : Int) ≤ n) = true := decide_eq_true t0
      have t2 : decide (n < 3) = false := decide_eq_false (by omega)
      clear LE S1 S2 S3 S4 S5 h
      go_wp2_with fail
      with_reducible refine NW.out.mono ?_
      rintro e w5 ⟨rfl, T5⟩
      have T5 := Lib.hid (T3.out.trans T5)
      go_wp2_with fail
      go_ret
      exact ⟨rfl, T5.out.below fun k hk => ⟨hk, fun f => f⟩⟩
    · have t1 : decide ((0 : Int) ≤ n) = false := decide_eq_false t0
      clear LE S1 S2 S3 S4 S5 h
      go_wp2_with fail
      with_reducible refine NW.out.mono ?_
      rintro e w5 ⟨rfl, T5⟩
      have T5 := Lib.hid (T3.out.trans T5)
      go_wp2_with fail
      go_ret
      exact ⟨rfl, T5.out.below fun k hk => ⟨hk, fun f => f⟩⟩
end Go.Proofs.YtgfobgabdafclaaGreat
