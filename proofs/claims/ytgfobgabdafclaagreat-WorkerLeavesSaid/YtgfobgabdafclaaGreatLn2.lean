/-
  A config that is right.
-/
import Derived.Test.YtgfobgabdafclaaGreatLn
import Derived.Test.YtgfobgabdafclaaGreatLg10
namespace Go.Proofs.YtgfobgabdafclaaGreat
open Go.ChangeShapes Go.WideShapes Go.ChangeAt Go.RowKit
set_option linter.unusedVariables false
/-- Numbers of a config that may be. -/
structure Cf.Ok (c : Cf) : Prop where
  a0 : 1 ≤ c.sh
  a1 : c.sh ≤ 15
  b0 : 1 ≤ c.ib
  b1 : c.ib ≤ 4096
  c0 : 1 ≤ c.sl
  c1 : c.sl ≤ 4096
  d0 : 1 ≤ c.qu
  d1 : c.qu ≤ 4096
  e0 : 1 ≤ c.ru
  e1 : c.ru ≤ 4096
  f0 : 1 ≤ c.ou
  f1 : c.ou ≤ 4096
  g0 : 1 ≤ c.st
  g1 : c.st ≤ 1099511627776
theorem idx0 (ib sl qu ru ou : Int) (w : World) : (Instr.index 270 (.agg #[.int .i64 ib, .int .i64 sl, .int .i64 qu, .int .i64 ru, .int .i64 ou]) (.int .i64 0)).run Tryz.prog w = .ok (.int .i64 ib) w := by kernel_rfl
theorem idx1 (ib sl qu ru ou : Int) (w : World) : (Instr.index 270 (.agg #[.int .i64 ib, .int .i64 sl, .int .i64 qu, .int .i64 ru, .int .i64 ou]) (.int .i64 1)).run Tryz.prog w = .ok (.int .i64 sl) w := by kernel_rfl
theorem idx2 (ib sl qu ru ou : Int) (w : World) : (Instr.index 270 (.agg #[.int .i64 ib, .int .i64 sl, .int .i64 qu, .int .i64 ru, .int .i64 ou]) (.int .i64 2)).run Tryz.prog w = .ok (.int .i64 qu) w := by kernel_rfl
theorem idx3 (ib sl qu ru ou : Int) (w : World) : (Instr.index 270 (.agg #[.int .i64 ib, .int .i64 sl, .int .i64 qu, .int .i64 ru, .int .i64 ou]) (.int .i64 3)).run Tryz.prog w = .ok (.int .i64 ru) w := by kernel_rfl
theorem idx4 (ib sl qu ru ou : Int) (w : World) : (Instr.index 270 (.agg #[.int .i64 ib, .int .i64 sl, .int .i64 qu, .int .i64 ru, .int .i64 ou]) (.int .i64 4)).run Tryz.prog w = .ok (.int .i64 ou) w := by kernel_rfl
set_option maxRecDepth 100000 in
set_option maxHeartbeats 2000000 in
theorem limits_yes (w : World) {c : Cf} (h : c.Ok) : Calls Tryz.prog 114 #[.agg #[.int .i64 (c.sh : Int), .int .i64 (c.ib : Int), .int .i64 c.sl, .int .i64 c.qu, .int .i64 c.ru, .int .i64 c.ou, .int .i64 c.st]] w fun e w' => e = .returned (.bool true) ∧ Turn (fun _ => False) w w' := by
  obtain ⟨a0, a1, b0, b1, c0, c1, d0, d1, e0, e1, f0, f1, g0, g1⟩ := h
  have t1 : decide ((c.ib : Int) < 1) = false := decide_eq_false (by omega)
  have t2 : decide ((4096 : Int) < (c.ib : Int)) = false := decide_eq_false (by omega)
  have t3 : decide (c.sl < 1) = false := decide_eq_false (by omega)
  have t4 : decide ((4096 : Int) < c.sl) = false := decide_eq_false (by omega)
  have t5 : decide (c.qu < 1) = false := decide_eq_false (by omega)
  have t6 : decide ((4096 : Int) < c.qu) = false := decide_eq_false (by omega)
  have t7 : decide (c.ru < 1) = false := decide_eq_false (by omega)
  have t8 : decide ((4096 : Int) < c.ru) = false := decide_eq_false (by omega)
  have t9 : decide (c.ou < 1) = false := decide_eq_false (by omega)
  have t10 : decide ((4096 : Int) < c.ou) = false := decide_eq_false (by omega)
  have t11 : decide ((1 : Int) ≤ (c.sh : Int)) = true := decide_eq_true (by omega)
  have t12 : decide ((c.sh : Int) ≤ 15) = true := decide_eq_true (by omega)
  have t13 : decide ((1 : Int) ≤ c.st) = true := decide_eq_true (by omega)
  have t14 : decide (c.st ≤ 1099511627776) = true := decide_eq_true (by omega)
  generalize (c.sh : Int) = sh at *
  generalize (c.ib : Int) = ib at *
  generalize c.sl = sl at *
  generalize c.qu = qu at *
  generalize c.ru = ru at *
  generalize c.ou = ou at *
  generalize c.st = st at *
  clear a0 a1 b0 b1 c0 c1 d0 d1 e0 e1 f0 f1 g0 g1
  have x0 := idx0 ib sl qu ru ou
  have x1 := idx1 ib sl qu ru ou
  have x2 := idx2 ib sl qu ru ou
  have x3 := idx3 ib sl qu ru ou
  have x4 := idx4 ib sl qu ru ou
  go_enter Tryz.func114, Tryz.ntmps114
  go_wp2
  go_rounds 6
  go_ret
  exact ⟨rfl, (Turn.refl _ w).alloc _⟩
set_option maxRecDepth 100000 in
theorem right_yes (w : World) {c : Cf} (h : c.Ok) : Calls Tryz.prog 58 #[.agg #[.int .i64 (c.sh : Int), .int .i64 (c.ib : Int), .int .i64 c.sl, .int .i64 c.qu, .int .i64 c.ru, .int .i64 c.ou, .int .i64 c.st]] w fun e w' => e = .returned (.bool true) ∧ Turn (fun _ => False) w w' := by
  have H := Lib.hid (limits_yes (w.alloc (.cells #[.int .i64 (c.sh : Int), .int .i64 (c.ib : Int), .int .i64 c.sl, .int .i64 c.qu, .int .i64 c.ru, .int .i64 c.ou, .int .i64 c.st] 47)) h)
  have T : Turn (fun _ => False) w (w.alloc (.cells #[.int .i64 (c.sh : Int), .int .i64 (c.ib : Int), .int .i64 c.sl, .int .i64 c.qu, .int .i64 c.ru, .int .i64 c.ou, .int .i64 c.st] 47)) := (Turn.refl _ w).alloc _
  have T := Lib.hid T
  clear h
  go_enter Tryz.func58, Tryz.ntmps58
  go_wp2_with fail
  with_reducible refine H.out.mono ?_
  rintro e W2 ⟨rfl, T2⟩
  go_wp2
  go_ret
  exact ⟨rfl, T.out.trans T2⟩
end Go.Proofs.YtgfobgabdafclaaGreat
