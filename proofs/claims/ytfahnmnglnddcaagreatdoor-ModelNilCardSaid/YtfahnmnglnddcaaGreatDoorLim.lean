/-
  Any config: whether its numbers may be.
-/
import Derived.Test.YtfahnmnglnddcaaGreatDoorBase
namespace Go.Proofs.YtfahnmnglnddcaaGreatDoor
open Go.ChangeShapes Go.WideShapes Go.ChangeAt Go.RowKit
set_option linter.unusedVariables false
theorem idx0 (ib sl qu ru ou : Int) (w : World) : (Instr.index 42 (.agg #[.int .i64 ib, .int .i64 sl, .int .i64 qu, .int .i64 ru, .int .i64 ou]) (.int .i64 0)).run Tryz.prog w = .ok (.int .i64 ib) w := by kernel_rfl
theorem idx1 (ib sl qu ru ou : Int) (w : World) : (Instr.index 42 (.agg #[.int .i64 ib, .int .i64 sl, .int .i64 qu, .int .i64 ru, .int .i64 ou]) (.int .i64 1)).run Tryz.prog w = .ok (.int .i64 sl) w := by kernel_rfl
theorem idx2 (ib sl qu ru ou : Int) (w : World) : (Instr.index 42 (.agg #[.int .i64 ib, .int .i64 sl, .int .i64 qu, .int .i64 ru, .int .i64 ou]) (.int .i64 2)).run Tryz.prog w = .ok (.int .i64 qu) w := by kernel_rfl
theorem idx3 (ib sl qu ru ou : Int) (w : World) : (Instr.index 42 (.agg #[.int .i64 ib, .int .i64 sl, .int .i64 qu, .int .i64 ru, .int .i64 ou]) (.int .i64 3)).run Tryz.prog w = .ok (.int .i64 ru) w := by kernel_rfl
theorem idx4 (ib sl qu ru ou : Int) (w : World) : (Instr.index 42 (.agg #[.int .i64 ib, .int .i64 sl, .int .i64 qu, .int .i64 ru, .int .i64 ou]) (.int .i64 4)).run Tryz.prog w = .ok (.int .i64 ou) w := by kernel_rfl
/-- Whether the numbers of a config may be. -/
def lim (sh ib sl qu ru ou st : Int) : Bool := !decide (ib < 1) && !decide ((4096 : Int) < ib) && !decide (sl < 1) && !decide ((4096 : Int) < sl) && !decide (qu < 1) && !decide ((4096 : Int) < qu) && !decide (ru < 1) && !decide ((4096 : Int) < ru) && !decide (ou < 1) && !decide ((4096 : Int) < ou) && decide ((1 : Int) ≤ sh) && decide (sh ≤ 15) && decide ((1 : Int) ≤ st) && decide (st ≤ 1099511627776)
set_option maxRecDepth 100000 in
set_option maxHeartbeats 2000000 in
theorem lim_0 (w : World) (sh ib sl qu ru ou st : Int) (t1 : decide (ib < 1) = true) : Calls Tryz.prog 20 #[.agg #[.int .i64 sh, .int .i64 ib, .int .i64 sl, .int .i64 qu, .int .i64 ru, .int .i64 ou, .int .i64 st]] w fun e w' => e = .returned (.bool false) ∧ Turn (fun _ => False) w w' := by
  have x0 := idx0 ib sl qu ru ou
  have x1 := idx1 ib sl qu ru ou
  have x2 := idx2 ib sl qu ru ou
  have x3 := idx3 ib sl qu ru ou
  have x4 := idx4 ib sl qu ru ou
  go_enter Tryz.func20, Tryz.ntmps20
  go_wp2
  go_rounds 1
  go_ret
  exact ⟨rfl, (Turn.refl _ w).alloc _⟩
set_option maxRecDepth 100000 in
set_option maxHeartbeats 2000000 in
theorem lim_1 (w : World) (sh ib sl qu ru ou st : Int) (t1 : decide (ib < 1) = false) (t2 : decide ((4096 : Int) < ib) = true) : Calls Tryz.prog 20 #[.agg #[.int .i64 sh, .int .i64 ib, .int .i64 sl, .int .i64 qu, .int .i64 ru, .int .i64 ou, .int .i64 st]] w fun e w' => e = .returned (.bool false) ∧ Turn (fun _ => False) w w' := by
  have x0 := idx0 ib sl qu ru ou
  have x1 := idx1 ib sl qu ru ou
  have x2 := idx2 ib sl qu ru ou
  have x3 := idx3 ib sl qu ru ou
  have x4 := idx4 ib sl qu ru ou
  go_enter Tryz.func20, Tryz.ntmps20
  go_wp2
  go_rounds 1
  go_ret
  exact ⟨rfl, (Turn.refl _ w).alloc _⟩
set_option maxRecDepth 100000 in
set_option maxHeartbeats 2000000 in
theorem lim_2 (w : World) (sh ib sl qu ru ou st : Int) (t1 : decide (ib < 1) = false) (t2 : decide ((4096 : Int) < ib) = false) (t3 : decide (sl < 1) = true) : Calls Tryz.prog 20 #[.agg #[.int .i64 sh, .int .i64 ib, .int .i64 sl, .int .i64 qu, .int .i64 ru, .int .i64 ou, .int .i64 st]] w fun e w' => e = .returned (.bool false) ∧ Turn (fun _ => False) w w' := by
  have x0 := idx0 ib sl qu ru ou
  have x1 := idx1 ib sl qu ru ou
  have x2 := idx2 ib sl qu ru ou
  have x3 := idx3 ib sl qu ru ou
  have x4 := idx4 ib sl qu ru ou
  go_enter Tryz.func20, Tryz.ntmps20
  go_wp2
  go_rounds 2
  go_ret
  exact ⟨rfl, (Turn.refl _ w).alloc _⟩
set_option maxRecDepth 100000 in
set_option maxHeartbeats 2000000 in
theorem lim_3 (w : World) (sh ib sl qu ru ou st : Int) (t1 : decide (ib < 1) = false) (t2 : decide ((4096 : Int) < ib) = false) (t3 : decide (sl < 1) = false) (t4 : decide ((4096 : Int) < sl) = true) : Calls Tryz.prog 20 #[.agg #[.int .i64 sh, .int .i64 ib, .int .i64 sl, .int .i64 qu, .int .i64 ru, .int .i64 ou, .int .i64 st]] w fun e w' => e = .returned (.bool false) ∧ Turn (fun _ => False) w w' := by
  have x0 := idx0 ib sl qu ru ou
  have x1 := idx1 ib sl qu ru ou
  have x2 := idx2 ib sl qu ru ou
  have x3 := idx3 ib sl qu ru ou
  have x4 := idx4 ib sl qu ru ou
  go_enter Tryz.func20, Tryz.ntmps20
  go_wp2
  go_rounds 2
  go_ret
  exact ⟨rfl, (Turn.refl _ w).alloc _⟩
set_option maxRecDepth 100000 in
set_option maxHeartbeats 2000000 in
theorem lim_4 (w : World) (sh ib sl qu ru ou st : Int) (t1 : decide (ib < 1) = false) (t2 : decide ((4096 : Int) < ib) = false) (t3 : decide (sl < 1) = false) (t4 : decide ((4096 : Int) < sl) = false) (t5 : decide (qu < 1) = true) : Calls Tryz.prog 20 #[.agg #[.int .i64 sh, .int .i64 ib, .int .i64 sl, .int .i64 qu, .int .i64 ru, .int .i64 ou, .int .i64 st]] w fun e w' => e = .returned (.bool false) ∧ Turn (fun _ => False) w w' := by
  have x0 := idx0 ib sl qu ru ou
  have x1 := idx1 ib sl qu ru ou
  have x2 := idx2 ib sl qu ru ou
  have x3 := idx3 ib sl qu ru ou
  have x4 := idx4 ib sl qu ru ou
  go_enter Tryz.func20, Tryz.ntmps20
  go_wp2
  go_rounds 3
  go_ret
  exact ⟨rfl, (Turn.refl _ w).alloc _⟩
set_option maxRecDepth 100000 in
set_option maxHeartbeats 2000000 in
theorem lim_5 (w : World) (sh ib sl qu ru ou st : Int) (t1 : decide (ib < 1) = false) (t2 : decide ((4096 : Int) < ib) = false) (t3 : decide (sl < 1) = false) (t4 : decide ((4096 : Int) < sl) = false) (t5 : decide (qu < 1) = false) (t6 : decide ((4096 : Int) < qu) = true) : Calls Tryz.prog 20 #[.agg #[.int .i64 sh, .int .i64 ib, .int .i64 sl, .int .i64 qu, .int .i64 ru, .int .i64 ou, .int .i64 st]] w fun e w' => e = .returned (.bool false) ∧ Turn (fun _ => False) w w' := by
  have x0 := idx0 ib sl qu ru ou
  have x1 := idx1 ib sl qu ru ou
  have x2 := idx2 ib sl qu ru ou
  have x3 := idx3 ib sl qu ru ou
  have x4 := idx4 ib sl qu ru ou
  go_enter Tryz.func20, Tryz.ntmps20
  go_wp2
  go_rounds 3
  go_ret
  exact ⟨rfl, (Turn.refl _ w).alloc _⟩
set_option maxRecDepth 100000 in
set_option maxHeartbeats 2000000 in
theorem lim_6 (w : World) (sh ib sl qu ru ou st : Int) (t1 : decide (ib < 1) = false) (t2 : decide ((4096 : Int) < ib) = false) (t3 : decide (sl < 1) = false) (t4 : decide ((4096 : Int) < sl) = false) (t5 : decide (qu < 1) = false) (t6 : decide ((4096 : Int) < qu) = false) (t7 : decide (ru < 1) = true) : Calls Tryz.prog 20 #[.agg #[.int .i64 sh, .int .i64 ib, .int .i64 sl, .int .i64 qu, .int .i64 ru, .int .i64 ou, .int .i64 st]] w fun e w' => e = .returned (.bool false) ∧ Turn (fun _ => False) w w' := by
  have x0 := idx0 ib sl qu ru ou
  have x1 := idx1 ib sl qu ru ou
  have x2 := idx2 ib sl qu ru ou
  have x3 := idx3 ib sl qu ru ou
  have x4 := idx4 ib sl qu ru ou
  go_enter Tryz.func20, Tryz.ntmps20
  go_wp2
  go_rounds 4
  go_ret
  exact ⟨rfl, (Turn.refl _ w).alloc _⟩
set_option maxRecDepth 100000 in
set_option maxHeartbeats 2000000 in
theorem lim_7 (w : World) (sh ib sl qu ru ou st : Int) (t1 : decide (ib < 1) = false) (t2 : decide ((4096 : Int) < ib) = false) (t3 : decide (sl < 1) = false) (t4 : decide ((4096 : Int) < sl) = false) (t5 : decide (qu < 1) = false) (t6 : decide ((4096 : Int) < qu) = false) (t7 : decide (ru < 1) = false) (t8 : decide ((4096 : Int) < ru) = true) : Calls Tryz.prog 20 #[.agg #[.int .i64 sh, .int .i64 ib, .int .i64 sl, .int .i64 qu, .int .i64 ru, .int .i64 ou, .int .i64 st]] w fun e w' => e = .returned (.bool false) ∧ Turn (fun _ => False) w w' := by
  have x0 := idx0 ib sl qu ru ou
  have x1 := idx1 ib sl qu ru ou
  have x2 := idx2 ib sl qu ru ou
  have x3 := idx3 ib sl qu ru ou
  have x4 := idx4 ib sl qu ru ou
  go_enter Tryz.func20, Tryz.ntmps20
  go_wp2
  go_rounds 4
  go_ret
  exact ⟨rfl, (Turn.refl _ w).alloc _⟩
set_option maxRecDepth 100000 in
set_option maxHeartbeats 2000000 in
theorem lim_8 (w : World) (sh ib sl qu ru ou st : Int) (t1 : decide (ib < 1) = false) (t2 : decide ((4096 : Int) < ib) = false) (t3 : decide (sl < 1) = false) (t4 : decide ((4096 : Int) < sl) = false) (t5 : decide (qu < 1) = false) (t6 : decide ((4096 : Int) < qu) = false) (t7 : decide (ru < 1) = false) (t8 : decide ((4096 : Int) < ru) = false) (t9 : decide (ou < 1) = true) : Calls Tryz.prog 20 #[.agg #[.int .i64 sh, .int .i64 ib, .int .i64 sl, .int .i64 qu, .int .i64 ru, .int .i64 ou, .int .i64 st]] w fun e w' => e = .returned (.bool false) ∧ Turn (fun _ => False) w w' := by
  have x0 := idx0 ib sl qu ru ou
  have x1 := idx1 ib sl qu ru ou
  have x2 := idx2 ib sl qu ru ou
  have x3 := idx3 ib sl qu ru ou
  have x4 := idx4 ib sl qu ru ou
  go_enter Tryz.func20, Tryz.ntmps20
  go_wp2
  go_rounds 5
  go_ret
  exact ⟨rfl, (Turn.refl _ w).alloc _⟩
set_option maxRecDepth 100000 in
set_option maxHeartbeats 2000000 in
theorem lim_9 (w : World) (sh ib sl qu ru ou st : Int) (t1 : decide (ib < 1) = false) (t2 : decide ((4096 : Int) < ib) = false) (t3 : decide (sl < 1) = false) (t4 : decide ((4096 : Int) < sl) = false) (t5 : decide (qu < 1) = false) (t6 : decide ((4096 : Int) < qu) = false) (t7 : decide (ru < 1) = false) (t8 : decide ((4096 : Int) < ru) = false) (t9 : decide (ou < 1) = false) (t10 : decide ((4096 : Int) < ou) = true) : Calls Tryz.prog 20 #[.agg #[.int .i64 sh, .int .i64 ib, .int .i64 sl, .int .i64 qu, .int .i64 ru, .int .i64 ou, .int .i64 st]] w fun e w' => e = .returned (.bool false) ∧ Turn (fun _ => False) w w' := by
  have x0 := idx0 ib sl qu ru ou
  have x1 := idx1 ib sl qu ru ou
  have x2 := idx2 ib sl qu ru ou
  have x3 := idx3 ib sl qu ru ou
  have x4 := idx4 ib sl qu ru ou
  go_enter Tryz.func20, Tryz.ntmps20
  go_wp2
  go_rounds 5
  go_ret
  exact ⟨rfl, (Turn.refl _ w).alloc _⟩
set_option maxRecDepth 100000 in
set_option maxHeartbeats 2000000 in
theorem lim_10 (w : World) (sh ib sl qu ru ou st : Int) (t1 : decide (ib < 1) = false) (t2 : decide ((4096 : Int) < ib) = false) (t3 : decide (sl < 1) = false) (t4 : decide ((4096 : Int) < sl) = false) (t5 : decide (qu < 1) = false) (t6 : decide ((4096 : Int) < qu) = false) (t7 : decide (ru < 1) = false) (t8 : decide ((4096 : Int) < ru) = false) (t9 : decide (ou < 1) = false) (t10 : decide ((4096 : Int) < ou) = false) (t11 : decide ((1 : Int) ≤ sh) = false) : Calls Tryz.prog 20 #[.agg #[.int .i64 sh, .int .i64 ib, .int .i64 sl, .int .i64 qu, .int .i64 ru, .int .i64 ou, .int .i64 st]] w fun e w' => e = .returned (.bool false) ∧ Turn (fun _ => False) w w' := by
  have x0 := idx0 ib sl qu ru ou
  have x1 := idx1 ib sl qu ru ou
  have x2 := idx2 ib sl qu ru ou
  have x3 := idx3 ib sl qu ru ou
  have x4 := idx4 ib sl qu ru ou
  go_enter Tryz.func20, Tryz.ntmps20
  go_wp2
  go_rounds 6
  go_ret
  exact ⟨rfl, (Turn.refl _ w).alloc _⟩
set_option maxRecDepth 100000 in
set_option maxHeartbeats 2000000 in
theorem lim_11 (w : World) (sh ib sl qu ru ou st : Int) (t1 : decide (ib < 1) = false) (t2 : decide ((4096 : Int) < ib) = false) (t3 : decide (sl < 1) = false) (t4 : decide ((4096 : Int) < sl) = false) (t5 : decide (qu < 1) = false) (t6 : decide ((4096 : Int) < qu) = false) (t7 : decide (ru < 1) = false) (t8 : decide ((4096 : Int) < ru) = false) (t9 : decide (ou < 1) = false) (t10 : decide ((4096 : Int) < ou) = false) (t11 : decide ((1 : Int) ≤ sh) = true) (t12 : decide (sh ≤ 15) = false) : Calls Tryz.prog 20 #[.agg #[.int .i64 sh, .int .i64 ib, .int .i64 sl, .int .i64 qu, .int .i64 ru, .int .i64 ou, .int .i64 st]] w fun e w' => e = .returned (.bool false) ∧ Turn (fun _ => False) w w' := by
  have x0 := idx0 ib sl qu ru ou
  have x1 := idx1 ib sl qu ru ou
  have x2 := idx2 ib sl qu ru ou
  have x3 := idx3 ib sl qu ru ou
  have x4 := idx4 ib sl qu ru ou
  go_enter Tryz.func20, Tryz.ntmps20
  go_wp2
  go_rounds 6
  go_ret
  exact ⟨rfl, (Turn.refl _ w).alloc _⟩
set_option maxRecDepth 100000 in
set_option maxHeartbeats 2000000 in
theorem lim_12 (w : World) (sh ib sl qu ru ou st : Int) (t1 : decide (ib < 1) = false) (t2 : decide ((4096 : Int) < ib) = false) (t3 : decide (sl < 1) = false) (t4 : decide ((4096 : Int) < sl) = false) (t5 : decide (qu < 1) = false) (t6 : decide ((4096 : Int) < qu) = false) (t7 : decide (ru < 1) = false) (t8 : decide ((4096 : Int) < ru) = false) (t9 : decide (ou < 1) = false) (t10 : decide ((4096 : Int) < ou) = false) (t11 : decide ((1 : Int) ≤ sh) = true) (t12 : decide (sh ≤ 15) = true) (t13 : decide ((1 : Int) ≤ st) = false) : Calls Tryz.prog 20 #[.agg #[.int .i64 sh, .int .i64 ib, .int .i64 sl, .int .i64 qu, .int .i64 ru, .int .i64 ou, .int .i64 st]] w fun e w' => e = .returned (.bool false) ∧ Turn (fun _ => False) w w' := by
  have x0 := idx0 ib sl qu ru ou
  have x1 := idx1 ib sl qu ru ou
  have x2 := idx2 ib sl qu ru ou
  have x3 := idx3 ib sl qu ru ou
  have x4 := idx4 ib sl qu ru ou
  go_enter Tryz.func20, Tryz.ntmps20
  go_wp2
  go_rounds 6
  go_ret
  exact ⟨rfl, (Turn.refl _ w).alloc _⟩
set_option maxRecDepth 100000 in
set_option maxHeartbeats 2000000 in
theorem lim_13 (w : World) (sh ib sl qu ru ou st : Int) (t1 : decide (ib < 1) = false) (t2 : decide ((4096 : Int) < ib) = false) (t3 : decide (sl < 1) = false) (t4 : decide ((4096 : Int) < sl) = false) (t5 : decide (qu < 1) = false) (t6 : decide ((4096 : Int) < qu) = false) (t7 : decide (ru < 1) = false) (t8 : decide ((4096 : Int) < ru) = false) (t9 : decide (ou < 1) = false) (t10 : decide ((4096 : Int) < ou) = false) (t11 : decide ((1 : Int) ≤ sh) = true) (t12 : decide (sh ≤ 15) = true) (t13 : decide ((1 : Int) ≤ st) = true) (t14 : decide (st ≤ 1099511627776) = false) : Calls Tryz.prog 20 #[.agg #[.int .i64 sh, .int .i64 ib, .int .i64 sl, .int .i64 qu, .int .i64 ru, .int .i64 ou, .int .i64 st]] w fun e w' => e = .returned (.bool false) ∧ Turn (fun _ => False) w w' := by
  have x0 := idx0 ib sl qu ru ou
  have x1 := idx1 ib sl qu ru ou
  have x2 := idx2 ib sl qu ru ou
  have x3 := idx3 ib sl qu ru ou
  have x4 := idx4 ib sl qu ru ou
  go_enter Tryz.func20, Tryz.ntmps20
  go_wp2
  go_rounds 6
  go_ret
  exact ⟨rfl, (Turn.refl _ w).alloc _⟩
set_option maxRecDepth 100000 in
set_option maxHeartbeats 2000000 in
theorem lim_14 (w : World) (sh ib sl qu ru ou st : Int) (t1 : decide (ib < 1) = false) (t2 : decide ((4096 : Int) < ib) = false) (t3 : decide (sl < 1) = false) (t4 : decide ((4096 : Int) < sl) = false) (t5 : decide (qu < 1) = false) (t6 : decide ((4096 : Int) < qu) = false) (t7 : decide (ru < 1) = false) (t8 : decide ((4096 : Int) < ru) = false) (t9 : decide (ou < 1) = false) (t10 : decide ((4096 : Int) < ou) = false) (t11 : decide ((1 : Int) ≤ sh) = true) (t12 : decide (sh ≤ 15) = true) (t13 : decide ((1 : Int) ≤ st) = true) (t14 : decide (st ≤ 1099511627776) = true) : Calls Tryz.prog 20 #[.agg #[.int .i64 sh, .int .i64 ib, .int .i64 sl, .int .i64 qu, .int .i64 ru, .int .i64 ou, .int .i64 st]] w fun e w' => e = .returned (.bool true) ∧ Turn (fun _ => False) w w' := by
  have x0 := idx0 ib sl qu ru ou
  have x1 := idx1 ib sl qu ru ou
  have x2 := idx2 ib sl qu ru ou
  have x3 := idx3 ib sl qu ru ou
  have x4 := idx4 ib sl qu ru ou
  go_enter Tryz.func20, Tryz.ntmps20
  go_wp2
  go_rounds 6
  go_ret
  exact ⟨rfl, (Turn.refl _ w).alloc _⟩
theorem lim_any (w : World) (sh ib sl qu ru ou st : Int) : Calls Tryz.prog 20 #[.agg #[.int .i64 sh, .int .i64 ib, .int .i64 sl, .int .i64 qu, .int .i64 ru, .int .i64 ou, .int .i64 st]] w fun e w' => e = .returned (.bool (lim sh ib sl qu ru ou st)) ∧ Turn (fun _ => False) w w' := by
  unfold lim
  cases t1 : decide (ib < 1)
  case true => simpa only [t1, Bool.not_true, Bool.not_false, Bool.true_and, Bool.false_and, Bool.and_false, Bool.and_true] using lim_0 w sh ib sl qu ru ou st t1
  cases t2 : decide ((4096 : Int) < ib)
  case true => simpa only [t1, t2, Bool.not_true, Bool.not_false, Bool.true_and, Bool.false_and, Bool.and_false, Bool.and_true] using lim_1 w sh ib sl qu ru ou st t1 t2
  cases t3 : decide (sl < 1)
  case true => simpa only [t1, t2, t3, Bool.not_true, Bool.not_false, Bool.true_and, Bool.false_and, Bool.and_false, Bool.and_true] using lim_2 w sh ib sl qu ru ou st t1 t2 t3
  cases t4 : decide ((4096 : Int) < sl)
  case true => simpa only [t1, t2, t3, t4, Bool.not_true, Bool.not_false, Bool.true_and, Bool.false_and, Bool.and_false, Bool.and_true] using lim_3 w sh ib sl qu ru ou st t1 t2 t3 t4
  cases t5 : decide (qu < 1)
  case true => simpa only [t1, t2, t3, t4, t5, Bool.not_true, Bool.not_false, Bool.true_and, Bool.false_and, Bool.and_false, Bool.and_true] using lim_4 w sh ib sl qu ru ou st t1 t2 t3 t4 t5
  cases t6 : decide ((4096 : Int) < qu)
  case true => simpa only [t1, t2, t3, t4, t5, t6, Bool.not_true, Bool.not_false, Bool.true_and, Bool.false_and, Bool.and_false, Bool.and_true] using lim_5 w sh ib sl qu ru ou st t1 t2 t3 t4 t5 t6
  cases t7 : decide (ru < 1)
  case true => simpa only [t1, t2, t3, t4, t5, t6, t7, Bool.not_true, Bool.not_false, Bool.true_and, Bool.false_and, Bool.and_false, Bool.and_true] using lim_6 w sh ib sl qu ru ou st t1 t2 t3 t4 t5 t6 t7
  cases t8 : decide ((4096 : Int) < ru)
  case true => simpa only [t1, t2, t3, t4, t5, t6, t7, t8, Bool.not_true, Bool.not_false, Bool.true_and, Bool.false_and, Bool.and_false, Bool.and_true] using lim_7 w sh ib sl qu ru ou st t1 t2 t3 t4 t5 t6 t7 t8
  cases t9 : decide (ou < 1)
  case true => simpa only [t1, t2, t3, t4, t5, t6, t7, t8, t9, Bool.not_true, Bool.not_false, Bool.true_and, Bool.false_and, Bool.and_false, Bool.and_true] using lim_8 w sh ib sl qu ru ou st t1 t2 t3 t4 t5 t6 t7 t8 t9
  cases t10 : decide ((4096 : Int) < ou)
  case true => simpa only [t1, t2, t3, t4, t5, t6, t7, t8, t9, t10, Bool.not_true, Bool.not_false, Bool.true_and, Bool.false_and, Bool.and_false, Bool.and_true] using lim_9 w sh ib sl qu ru ou st t1 t2 t3 t4 t5 t6 t7 t8 t9 t10
  cases t11 : decide ((1 : Int) ≤ sh)
  case false => simpa only [t1, t2, t3, t4, t5, t6, t7, t8, t9, t10, t11, Bool.not_true, Bool.not_false, Bool.true_and, Bool.false_and, Bool.and_false, Bool.and_true] using lim_10 w sh ib sl qu ru ou st t1 t2 t3 t4 t5 t6 t7 t8 t9 t10 t11
  cases t12 : decide (sh ≤ 15)
  case false => simpa only [t1, t2, t3, t4, t5, t6, t7, t8, t9, t10, t11, t12, Bool.not_true, Bool.not_false, Bool.true_and, Bool.false_and, Bool.and_false, Bool.and_true] using lim_11 w sh ib sl qu ru ou st t1 t2 t3 t4 t5 t6 t7 t8 t9 t10 t11 t12
  cases t13 : decide ((1 : Int) ≤ st)
  case false => simpa only [t1, t2, t3, t4, t5, t6, t7, t8, t9, t10, t11, t12, t13, Bool.not_true, Bool.not_false, Bool.true_and, Bool.false_and, Bool.and_false, Bool.and_true] using lim_12 w sh ib sl qu ru ou st t1 t2 t3 t4 t5 t6 t7 t8 t9 t10 t11 t12 t13
  cases t14 : decide (st ≤ 1099511627776)
  case false => simpa only [t1, t2, t3, t4, t5, t6, t7, t8, t9, t10, t11, t12, t13, t14, Bool.not_true, Bool.not_false, Bool.true_and, Bool.false_and, Bool.and_false, Bool.and_true] using lim_13 w sh ib sl qu ru ou st t1 t2 t3 t4 t5 t6 t7 t8 t9 t10 t11 t12 t13 t14
  simpa only [t1, t2, t3, t4, t5, t6, t7, t8, t9, t10, t11, t12, t13, t14, Bool.not_true, Bool.not_false, Bool.true_and, Bool.false_and, Bool.and_false, Bool.and_true] using lim_14 w sh ib sl qu ru ou st t1 t2 t3 t4 t5 t6 t7 t8 t9 t10 t11 t12 t13 t14
end Go.Proofs.YtfahnmnglnddcaaGreatDoor
