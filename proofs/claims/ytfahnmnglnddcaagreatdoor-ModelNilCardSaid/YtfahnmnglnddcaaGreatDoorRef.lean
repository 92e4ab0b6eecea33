/-
  Any config: whether the document's numbers may be.
-/
import Derived.Test.YtfahnmnglnddcaaGreatDoorLim
namespace Go.Proofs.YtfahnmnglnddcaaGreatDoor
open Go.ChangeShapes Go.WideShapes Go.ChangeAt Go.RowKit
set_option linter.unusedVariables false
set_option maxRecDepth 100000 in
set_option maxHeartbeats 2000000 in
theorem ref_0 (w : World) (sh ib sl qu ru ou st : Int) (t1 : decide (ib < 1) = true) : Calls Tryz.prog 4 #[.agg #[.int .i64 sh, .int .i64 ib, .int .i64 sl, .int .i64 qu, .int .i64 ru, .int .i64 ou, .int .i64 st]] w fun e w' => e = .returned (.bool false) ∧ Turn (fun _ => False) w w' := by
  obtain ⟨W, hW⟩ : ∃ W, W = w.alloc (.cells #[.int .i64 sh, .int .i64 ib, .int .i64 sl, .int .i64 qu, .int .i64 ru, .int .i64 ou, .int .i64 st] 23) := ⟨_, rfl⟩
  have T1 : Turn (fun _ => False) w W := by rw [hW]; exact (Turn.refl _ w).alloc _
  have C := World.cell?_alloc_new w #[.int .i64 sh, .int .i64 ib, .int .i64 sl, .int .i64 qu, .int .i64 ru, .int .i64 ou, .int .i64 st] 23
  rw [← hW] at C
  have x0 : W.cell? ⟨w.heap.size, 0, none⟩ = some (.int .i64 sh) := C 0
  have x1 : W.cell? ⟨w.heap.size, 1, none⟩ = some (.int .i64 ib) := C 1
  have x2 : W.cell? ⟨w.heap.size, 2, none⟩ = some (.int .i64 sl) := C 2
  have x3 : W.cell? ⟨w.heap.size, 3, none⟩ = some (.int .i64 qu) := C 3
  have x4 : W.cell? ⟨w.heap.size, 4, none⟩ = some (.int .i64 ru) := C 4
  have x5 : W.cell? ⟨w.heap.size, 5, none⟩ = some (.int .i64 ou) := C 5
  have x6 : W.cell? ⟨w.heap.size, 6, none⟩ = some (.int .i64 st) := C 6
  have TW := Lib.hid T1
  clear C T1
  go_enter Tryz.func4, Tryz.ntmps4
  go_upto_region 1 with fail
  rw [← hW]
  clear hW
  generalize w.heap.size = b1 at *
  go_wp2
  go_rounds 1
  go_ret
  exact ⟨rfl, TW.out.alloc _⟩
set_option maxRecDepth 100000 in
set_option maxHeartbeats 2000000 in
theorem ref_1 (w : World) (sh ib sl qu ru ou st : Int) (t1 : decide (ib < 1) = false) (t2 : decide ((4096 : Int) < ib) = true) : Calls Tryz.prog 4 #[.agg #[.int .i64 sh, .int .i64 ib, .int .i64 sl, .int .i64 qu, .int .i64 ru, .int .i64 ou, .int .i64 st]] w fun e w' => e = .returned (.bool false) ∧ Turn (fun _ => False) w w' := by
  obtain ⟨W, hW⟩ : ∃ W, W = w.alloc (.cells #[.int .i64 sh, .int .i64 ib, .int .i64 sl, .int .i64 qu, .int .i64 ru, .int .i64 ou, .int .i64 st] 23) := ⟨_, rfl⟩
  have T1 : Turn (fun _ => False) w W := by rw [hW]; exact (Turn.refl _ w).alloc _
  have C := World.cell?_alloc_new w #[.int .i64 sh, .int .i64 ib, .int .i64 sl, .int .i64 qu, .int .i64 ru, .int .i64 ou, .int .i64 st] 23
  rw [← hW] at C
  have x0 : W.cell? ⟨w.heap.size, 0, none⟩ = some (.int .i64 sh) := C 0
  have x1 : W.cell? ⟨w.heap.size, 1, none⟩ = some (.int .i64 ib) := C 1
  have x2 : W.cell? ⟨w.heap.size, 2, none⟩ = some (.int .i64 sl) := C 2
  have x3 : W.cell? ⟨w.heap.size, 3, none⟩ = some (.int .i64 qu) := C 3
  have x4 : W.cell? ⟨w.heap.size, 4, none⟩ = some (.int .i64 ru) := C 4
  have x5 : W.cell? ⟨w.heap.size, 5, none⟩ = some (.int .i64 ou) := C 5
  have x6 : W.cell? ⟨w.heap.size, 6, none⟩ = some (.int .i64 st) := C 6
  have TW := Lib.hid T1
  clear C T1
  go_enter Tryz.func4, Tryz.ntmps4
  go_upto_region 1 with fail
  rw [← hW]
  clear hW
  generalize w.heap.size = b1 at *
  go_wp2
  go_rounds 1
  go_ret
  exact ⟨rfl, TW.out.alloc _⟩
set_option maxRecDepth 100000 in
set_option maxHeartbeats 2000000 in
theorem ref_2 (w : World) (sh ib sl qu ru ou st : Int) (t1 : decide (ib < 1) = false) (t2 : decide ((4096 : Int) < ib) = false) (t3 : decide (sl < 1) = true) : Calls Tryz.prog 4 #[.agg #[.int .i64 sh, .int .i64 ib, .int .i64 sl, .int .i64 qu, .int .i64 ru, .int .i64 ou, .int .i64 st]] w fun e w' => e = .returned (.bool false) ∧ Turn (fun _ => False) w w' := by
  obtain ⟨W, hW⟩ : ∃ W, W = w.alloc (.cells #[.int .i64 sh, .int .i64 ib, .int .i64 sl, .int .i64 qu, .int .i64 ru, .int .i64 ou, .int .i64 st] 23) := ⟨_, rfl⟩
  have T1 : Turn (fun _ => False) w W := by rw [hW]; exact (Turn.refl _ w).alloc _
  have C := World.cell?_alloc_new w #[.int .i64 sh, .int .i64 ib, .int .i64 sl, .int .i64 qu, .int .i64 ru, .int .i64 ou, .int .i64 st] 23
  rw [← hW] at C
  have x0 : W.cell? ⟨w.heap.size, 0, none⟩ = some (.int .i64 sh) := C 0
  have x1 : W.cell? ⟨w.heap.size, 1, none⟩ = some (.int .i64 ib) := C 1
  have x2 : W.cell? ⟨w.heap.size, 2, none⟩ = some (.int .i64 sl) := C 2
  have x3 : W.cell? ⟨w.heap.size, 3, none⟩ = some (.int .i64 qu) := C 3
  have x4 : W.cell? ⟨w.heap.size, 4, none⟩ = some (.int .i64 ru) := C 4
  have x5 : W.cell? ⟨w.heap.size, 5, none⟩ = some (.int .i64 ou) := C 5
  have x6 : W.cell? ⟨w.heap.size, 6, none⟩ = some (.int .i64 st) := C 6
  have TW := Lib.hid T1
  clear C T1
  go_enter Tryz.func4, Tryz.ntmps4
  go_upto_region 1 with fail
  rw [← hW]
  clear hW
  generalize w.heap.size = b1 at *
  go_wp2
  go_rounds 2
  go_ret
  exact ⟨rfl, TW.out.alloc _⟩
set_option maxRecDepth 100000 in
set_option maxHeartbeats 2000000 in
theorem ref_3 (w : World) (sh ib sl qu ru ou st : Int) (t1 : decide (ib < 1) = false) (t2 : decide ((4096 : Int) < ib) = false) (t3 : decide (sl < 1) = false) (t4 : decide ((4096 : Int) < sl) = true) : Calls Tryz.prog 4 #[.agg #[.int .i64 sh, .int .i64 ib, .int .i64 sl, .int .i64 qu, .int .i64 ru, .int .i64 ou, .int .i64 st]] w fun e w' => e = .returned (.bool false) ∧ Turn (fun _ => False) w w' := by
  obtain ⟨W, hW⟩ : ∃ W, W = w.alloc (.cells #[.int .i64 sh, .int .i64 ib, .int .i64 sl, .int .i64 qu, .int .i64 ru, .int .i64 ou, .int .i64 st] 23) := ⟨_, rfl⟩
  have T1 : Turn (fun _ => False) w W := by rw [hW]; exact (Turn.refl _ w).alloc _
  have C := World.cell?_alloc_new w #[.int .i64 sh, .int .i64 ib, .int .i64 sl, .int .i64 qu, .int .i64 ru, .int .i64 ou, .int .i64 st] 23
  rw [← hW] at C
  have x0 : W.cell? ⟨w.heap.size, 0, none⟩ = some (.int .i64 sh) := C 0
  have x1 : W.cell? ⟨w.heap.size, 1, none⟩ = some (.int .i64 ib) := C 1
  have x2 : W.cell? ⟨w.heap.size, 2, none⟩ = some (.int .i64 sl) := C 2
  have x3 : W.cell? ⟨w.heap.size, 3, none⟩ = some (.int .i64 qu) := C 3
  have x4 : W.cell? ⟨w.heap.size, 4, none⟩ = some (.int .i64 ru) := C 4
  have x5 : W.cell? ⟨w.heap.size, 5, none⟩ = some (.int .i64 ou) := C 5
  have x6 : W.cell? ⟨w.heap.size, 6, none⟩ = some (.int .i64 st) := C 6
  have TW := Lib.hid T1
  clear C T1
  go_enter Tryz.func4, Tryz.ntmps4
  go_upto_region 1 with fail
  rw [← hW]
  clear hW
  generalize w.heap.size = b1 at *
  go_wp2
  go_rounds 2
  go_ret
  exact ⟨rfl, TW.out.alloc _⟩
set_option maxRecDepth 100000 in
set_option maxHeartbeats 2000000 in
theorem ref_4 (w : World) (sh ib sl qu ru ou st : Int) (t1 : decide (ib < 1) = false) (t2 : decide ((4096 : Int) < ib) = false) (t3 : decide (sl < 1) = false) (t4 : decide ((4096 : Int) < sl) = false) (t5 : decide (qu < 1) = true) : Calls Tryz.prog 4 #[.agg #[.int .i64 sh, .int .i64 ib, .int .i64 sl, .int .i64 qu, .int .i64 ru, .int .i64 ou, .int .i64 st]] w fun e w' => e = .returned (.bool false) ∧ Turn (fun _ => False) w w' := by
  obtain ⟨W, hW⟩ : ∃ W, W = w.alloc (.cells #[.int .i64 sh, .int .i64 ib, .int .i64 sl, .int .i64 qu, .int .i64 ru, .int .i64 ou, .int .i64 st] 23) := ⟨_, rfl⟩
  have T1 : Turn (fun _ => False) w W := by rw [hW]; exact (Turn.refl _ w).alloc _
  have C := World.cell?_alloc_new w #[.int .i64 sh, .int .i64 ib, .int .i64 sl, .int .i64 qu, .int .i64 ru, .int .i64 ou, .int .i64 st] 23
  rw [← hW] at C
  have x0 : W.cell? ⟨w.heap.size, 0, none⟩ = some (.int .i64 sh) := C 0
  have x1 : W.cell? ⟨w.heap.size, 1, none⟩ = some (.int .i64 ib) := C 1
  have x2 : W.cell? ⟨w.heap.size, 2, none⟩ = some (.int .i64 sl) := C 2
  have x3 : W.cell? ⟨w.heap.size, 3, none⟩ = some (.int .i64 qu) := C 3
  have x4 : W.cell? ⟨w.heap.size, 4, none⟩ = some (.int .i64 ru) := C 4
  have x5 : W.cell? ⟨w.heap.size, 5, none⟩ = some (.int .i64 ou) := C 5
  have x6 : W.cell? ⟨w.heap.size, 6, none⟩ = some (.int .i64 st) := C 6
  have TW := Lib.hid T1
  clear C T1
  go_enter Tryz.func4, Tryz.ntmps4
  go_upto_region 1 with fail
  rw [← hW]
  clear hW
  generalize w.heap.size = b1 at *
  go_wp2
  go_rounds 3
  go_ret
  exact ⟨rfl, TW.out.alloc _⟩
set_option maxRecDepth 100000 in
set_option maxHeartbeats 2000000 in
theorem ref_5 (w : World) (sh ib sl qu ru ou st : Int) (t1 : decide (ib < 1) = false) (t2 : decide ((4096 : Int) < ib) = false) (t3 : decide (sl < 1) = false) (t4 : decide ((4096 : Int) < sl) = false) (t5 : decide (qu < 1) = false) (t6 : decide ((4096 : Int) < qu) = true) : Calls Tryz.prog 4 #[.agg #[.int .i64 sh, .int .i64 ib, .int .i64 sl, .int .i64 qu, .int .i64 ru, .int .i64 ou, .int .i64 st]] w fun e w' => e = .returned (.bool false) ∧ Turn (fun _ => False) w w' := by
  obtain ⟨W, hW⟩ : ∃ W, W = w.alloc (.cells #[.int .i64 sh, .int .i64 ib, .int .i64 sl, .int .i64 qu, .int .i64 ru, .int .i64 ou, .int .i64 st] 23) := ⟨_, rfl⟩
  have T1 : Turn (fun _ => False) w W := by rw [hW]; exact (Turn.refl _ w).alloc _
  have C := World.cell?_alloc_new w #[.int .i64 sh, .int .i64 ib, .int .i64 sl, .int .i64 qu, .int .i64 ru, .int .i64 ou, .int .i64 st] 23
  rw [← hW] at C
  have x0 : W.cell? ⟨w.heap.size, 0, none⟩ = some (.int .i64 sh) := C 0
  have x1 : W.cell? ⟨w.heap.size, 1, none⟩ = some (.int .i64 ib) := C 1
  have x2 : W.cell? ⟨w.heap.size, 2, none⟩ = some (.int .i64 sl) := C 2
  have x3 : W.cell? ⟨w.heap.size, 3, none⟩ = some (.int .i64 qu) := C 3
  have x4 : W.cell? ⟨w.heap.size, 4, none⟩ = some (.int .i64 ru) := C 4
  have x5 : W.cell? ⟨w.heap.size, 5, none⟩ = some (.int .i64 ou) := C 5
  have x6 : W.cell? ⟨w.heap.size, 6, none⟩ = some (.int .i64 st) := C 6
  have TW := Lib.hid T1
  clear C T1
  go_enter Tryz.func4, Tryz.ntmps4
  go_upto_region 1 with fail
  rw [← hW]
  clear hW
  generalize w.heap.size = b1 at *
  go_wp2
  go_rounds 3
  go_ret
  exact ⟨rfl, TW.out.alloc _⟩
set_option maxRecDepth 100000 in
set_option maxHeartbeats 2000000 in
theorem ref_6 (w : World) (sh ib sl qu ru ou st : Int) (t1 : decide (ib < 1) = false) (t2 : decide ((4096 : Int) < ib) = false) (t3 : decide (sl < 1) = false) (t4 : decide ((4096 : Int) < sl) = false) (t5 : decide (qu < 1) = false) (t6 : decide ((4096 : Int) < qu) = false) (t7 : decide (ru < 1) = true) : Calls Tryz.prog 4 #[.agg #[.int .i64 sh, .int .i64 ib, .int .i64 sl, .int .i64 qu, .int .i64 ru, .int .i64 ou, .int .i64 st]] w fun e w' => e = .returned (.bool false) ∧ Turn (fun _ => False) w w' := by
  obtain ⟨W, hW⟩ : ∃ W, W = w.alloc (.cells #[.int .i64 sh, .int .i64 ib, .int .i64 sl, .int .i64 qu, .int .i64 ru, .int .i64 ou, .int .i64 st] 23) := ⟨_, rfl⟩
  have T1 : Turn (fun _ => False) w W := by rw [hW]; exact (Turn.refl _ w).alloc _
  have C := World.cell?_alloc_new w #[.int .i64 sh, .int .i64 ib, .int .i64 sl, .int .i64 qu, .int .i64 ru, .int .i64 ou, .int .i64 st] 23
  rw [← hW] at C
  have x0 : W.cell? ⟨w.heap.size, 0, none⟩ = some (.int .i64 sh) := C 0
  have x1 : W.cell? ⟨w.heap.size, 1, none⟩ = some (.int .i64 ib) := C 1
  have x2 : W.cell? ⟨w.heap.size, 2, none⟩ = some (.int .i64 sl) := C 2
  have x3 : W.cell? ⟨w.heap.size, 3, none⟩ = some (.int .i64 qu) := C 3
  have x4 : W.cell? ⟨w.heap.size, 4, none⟩ = some (.int .i64 ru) := C 4
  have x5 : W.cell? ⟨w.heap.size, 5, none⟩ = some (.int .i64 ou) := C 5
  have x6 : W.cell? ⟨w.heap.size, 6, none⟩ = some (.int .i64 st) := C 6
  have TW := Lib.hid T1
  clear C T1
  go_enter Tryz.func4, Tryz.ntmps4
  go_upto_region 1 with fail
  rw [← hW]
  clear hW
  generalize w.heap.size = b1 at *
  go_wp2
  go_rounds 4
  go_ret
  exact ⟨rfl, TW.out.alloc _⟩
set_option maxRecDepth 100000 in
set_option maxHeartbeats 2000000 in
theorem ref_7 (w : World) (sh ib sl qu ru ou st : Int) (t1 : decide (ib < 1) = false) (t2 : decide ((4096 : Int) < ib) = false) (t3 : decide (sl < 1) = false) (t4 : decide ((4096 : Int) < sl) = false) (t5 : decide (qu < 1) = false) (t6 : decide ((4096 : Int) < qu) = false) (t7 : decide (ru < 1) = false) (t8 : decide ((4096 : Int) < ru) = true) : Calls Tryz.prog 4 #[.agg #[.int .i64 sh, .int .i64 ib, .int .i64 sl, .int .i64 qu, .int .i64 ru, .int .i64 ou, .int .i64 st]] w fun e w' => e = .returned (.bool false) ∧ Turn (fun _ => False) w w' := by
  obtain ⟨W, hW⟩ : ∃ W, W = w.alloc (.cells #[.int .i64 sh, .int .i64 ib, .int .i64 sl, .int .i64 qu, .int .i64 ru, .int .i64 ou, .int .i64 st] 23) := ⟨_, rfl⟩
  have T1 : Turn (fun _ => False) w W := by rw [hW]; exact (Turn.refl _ w).alloc _
  have C := World.cell?_alloc_new w #[.int .i64 sh, .int .i64 ib, .int .i64 sl, .int .i64 qu, .int .i64 ru, .int .i64 ou, .int .i64 st] 23
  rw [← hW] at C
  have x0 : W.cell? ⟨w.heap.size, 0, none⟩ = some (.int .i64 sh) := C 0
  have x1 : W.cell? ⟨w.heap.size, 1, none⟩ = some (.int .i64 ib) := C 1
  have x2 : W.cell? ⟨w.heap.size, 2, none⟩ = some (.int .i64 sl) := C 2
  have x3 : W.cell? ⟨w.heap.size, 3, none⟩ = some (.int .i64 qu) := C 3
  have x4 : W.cell? ⟨w.heap.size, 4, none⟩ = some (.int .i64 ru) := C 4
  have x5 : W.cell? ⟨w.heap.size, 5, none⟩ = some (.int .i64 ou) := C 5
  have x6 : W.cell? ⟨w.heap.size, 6, none⟩ = some (.int .i64 st) := C 6
  have TW := Lib.hid T1
  clear C T1
  go_enter Tryz.func4, Tryz.ntmps4
  go_upto_region 1 with fail
  rw [← hW]
  clear hW
  generalize w.heap.size = b1 at *
  go_wp2
  go_rounds 4
  go_ret
  exact ⟨rfl, TW.out.alloc _⟩
set_option maxRecDepth 100000 in
set_option maxHeartbeats 2000000 in
theorem ref_8 (w : World) (sh ib sl qu ru ou st : Int) (t1 : decide (ib < 1) = false) (t2 : decide ((4096 : Int) < ib) = false) (t3 : decide (sl < 1) = false) (t4 : decide ((4096 : Int) < sl) = false) (t5 : decide (qu < 1) = false) (t6 : decide ((4096 : Int) < qu) = false) (t7 : decide (ru < 1) = false) (t8 : decide ((4096 : Int) < ru) = false) (t9 : decide (ou < 1) = true) : Calls Tryz.prog 4 #[.agg #[.int .i64 sh, .int .i64 ib, .int .i64 sl, .int .i64 qu, .int .i64 ru, .int .i64 ou, .int .i64 st]] w fun e w' => e = .returned (.bool false) ∧ Turn (fun _ => False) w w' := by
  obtain ⟨W, hW⟩ : ∃ W, W = w.alloc (.cells #[.int .i64 sh, .int .i64 ib, .int .i64 sl, .int .i64 qu, .int .i64 ru, .int .i64 ou, .int .i64 st] 23) := ⟨_, rfl⟩
  have T1 : Turn (fun _ => False) w W := by rw [hW]; exact (Turn.refl _ w).alloc _
  have C := World.cell?_alloc_new w #[.int .i64 sh, .int .i64 ib, .int .i64 sl, .int .i64 qu, .int .i64 ru, .int .i64 ou, .int .i64 st] 23
  rw [← hW] at C
  have x0 : W.cell? ⟨w.heap.size, 0, none⟩ = some (.int .i64 sh) := C 0
  have x1 : W.cell? ⟨w.heap.size, 1, none⟩ = some (.int .i64 ib) := C 1
  have x2 : W.cell? ⟨w.heap.size, 2, none⟩ = some (.int .i64 sl) := C 2
  have x3 : W.cell? ⟨w.heap.size, 3, none⟩ = some (.int .i64 qu) := C 3
  have x4 : W.cell? ⟨w.heap.size, 4, none⟩ = some (.int .i64 ru) := C 4
  have x5 : W.cell? ⟨w.heap.size, 5, none⟩ = some (.int .i64 ou) := C 5
  have x6 : W.cell? ⟨w.heap.size, 6, none⟩ = some (.int .i64 st) := C 6
  have TW := Lib.hid T1
  clear C T1
  go_enter Tryz.func4, Tryz.ntmps4
  go_upto_region 1 with fail
  rw [← hW]
  clear hW
  generalize w.heap.size = b1 at *
  go_wp2
  go_rounds 5
  go_ret
  exact ⟨rfl, TW.out.alloc _⟩
set_option maxRecDepth 100000 in
set_option maxHeartbeats 2000000 in
theorem ref_9 (w : World) (sh ib sl qu ru ou st : Int) (t1 : decide (ib < 1) = false) (t2 : decide ((4096 : Int) < ib) = false) (t3 : decide (sl < 1) = false) (t4 : decide ((4096 : Int) < sl) = false) (t5 : decide (qu < 1) = false) (t6 : decide ((4096 : Int) < qu) = false) (t7 : decide (ru < 1) = false) (t8 : decide ((4096 : Int) < ru) = false) (t9 : decide (ou < 1) = false) (t10 : decide ((4096 : Int) < ou) = true) : Calls Tryz.prog 4 #[.agg #[.int .i64 sh, .int .i64 ib, .int .i64 sl, .int .i64 qu, .int .i64 ru, .int .i64 ou, .int .i64 st]] w fun e w' => e = .returned (.bool false) ∧ Turn (fun _ => False) w w' := by
  obtain ⟨W, hW⟩ : ∃ W, W = w.alloc (.cells #[.int .i64 sh, .int .i64 ib, .int .i64 sl, .int .i64 qu, .int .i64 ru, .int .i64 ou, .int .i64 st] 23) := ⟨_, rfl⟩
  have T1 : Turn (fun _ => False) w W := by rw [hW]; exact (Turn.refl _ w).alloc _
  have C := World.cell?_alloc_new w #[.int .i64 sh, .int .i64 ib, .int .i64 sl, .int .i64 qu, .int .i64 ru, .int .i64 ou, .int .i64 st] 23
  rw [← hW] at C
  have x0 : W.cell? ⟨w.heap.size, 0, none⟩ = some (.int .i64 sh) := C 0
  have x1 : W.cell? ⟨w.heap.size, 1, none⟩ = some (.int .i64 ib) := C 1
  have x2 : W.cell? ⟨w.heap.size, 2, none⟩ = some (.int .i64 sl) := C 2
  have x3 : W.cell? ⟨w.heap.size, 3, none⟩ = some (.int .i64 qu) := C 3
  have x4 : W.cell? ⟨w.heap.size, 4, none⟩ = some (.int .i64 ru) := C 4
  have x5 : W.cell? ⟨w.heap.size, 5, none⟩ = some (.int .i64 ou) := C 5
  have x6 : W.cell? ⟨w.heap.size, 6, none⟩ = some (.int .i64 st) := C 6
  have TW := Lib.hid T1
  clear C T1
  go_enter Tryz.func4, Tryz.ntmps4
  go_upto_region 1 with fail
  rw [← hW]
  clear hW
  generalize w.heap.size = b1 at *
  go_wp2
  go_rounds 5
  go_ret
  exact ⟨rfl, TW.out.alloc _⟩
set_option maxRecDepth 100000 in
set_option maxHeartbeats 2000000 in
theorem ref_10 (w : World) (sh ib sl qu ru ou st : Int) (t1 : decide (ib < 1) = false) (t2 : decide ((4096 : Int) < ib) = false) (t3 : decide (sl < 1) = false) (t4 : decide ((4096 : Int) < sl) = false) (t5 : decide (qu < 1) = false) (t6 : decide ((4096 : Int) < qu) = false) (t7 : decide (ru < 1) = false) (t8 : decide ((4096 : Int) < ru) = false) (t9 : decide (ou < 1) = false) (t10 : decide ((4096 : Int) < ou) = false) (t11 : decide ((1 : Int) ≤ sh) = false) : Calls Tryz.prog 4 #[.agg #[.int .i64 sh, .int .i64 ib, .int .i64 sl, .int .i64 qu, .int .i64 ru, .int .i64 ou, .int .i64 st]] w fun e w' => e = .returned (.bool false) ∧ Turn (fun _ => False) w w' := by
  obtain ⟨W, hW⟩ : ∃ W, W = w.alloc (.cells #[.int .i64 sh, .int .i64 ib, .int .i64 sl, .int .i64 qu, .int .i64 ru, .int .i64 ou, .int .i64 st] 23) := ⟨_, rfl⟩
  have T1 : Turn (fun _ => False) w W := by rw [hW]; exact (Turn.refl _ w).alloc _
  have C := World.cell?_alloc_new w #[.int .i64 sh, .int .i64 ib, .int .i64 sl, .int .i64 qu, .int .i64 ru, .int .i64 ou, .int .i64 st] 23
  rw [← hW] at C
  have x0 : W.cell? ⟨w.heap.size, 0, none⟩ = some (.int .i64 sh) := C 0
  have x1 : W.cell? ⟨w.heap.size, 1, none⟩ = some (.int .i64 ib) := C 1
  have x2 : W.cell? ⟨w.heap.size, 2, none⟩ = some (.int .i64 sl) := C 2
  have x3 : W.cell? ⟨w.heap.size, 3, none⟩ = some (.int .i64 qu) := C 3
  have x4 : W.cell? ⟨w.heap.size, 4, none⟩ = some (.int .i64 ru) := C 4
  have x5 : W.cell? ⟨w.heap.size, 5, none⟩ = some (.int .i64 ou) := C 5
  have x6 : W.cell? ⟨w.heap.size, 6, none⟩ = some (.int .i64 st) := C 6
  have TW := Lib.hid T1
  clear C T1
  have TA : Turn (fun _ => False) W (W.alloc (.cells #[.int .i64 ib, .int .i64 sl, .int .i64 qu, .int .i64 ru, .int .i64 ou] 42)) := (Turn.refl _ W).alloc _
  have y0 := TA.cell (fun f => f) x0
  have y6 := TA.cell (fun f => f) x6
  clear TA
  go_enter Tryz.func4, Tryz.ntmps4
  go_upto_region 1 with fail
  rw [← hW]
  clear hW
  generalize w.heap.size = b1 at *
  go_wp2
  go_rounds 6
  go_ret
  exact ⟨rfl, TW.out.alloc _⟩
set_option maxRecDepth 100000 in
set_option maxHeartbeats 2000000 in
theorem ref_11 (w : World) (sh ib sl qu ru ou st : Int) (t1 : decide (ib < 1) = false) (t2 : decide ((4096 : Int) < ib) = false) (t3 : decide (sl < 1) = false) (t4 : decide ((4096 : Int) < sl) = false) (t5 : decide (qu < 1) = false) (t6 : decide ((4096 : Int) < qu) = false) (t7 : decide (ru < 1) = false) (t8 : decide ((4096 : Int) < ru) = false) (t9 : decide (ou < 1) = false) (t10 : decide ((4096 : Int) < ou) = false) (t11 : decide ((1 : Int) ≤ sh) = true) (t12 : decide (sh ≤ 15) = false) : Calls Tryz.prog 4 #[.agg #[.int .i64 sh, .int .i64 ib, .int .i64 sl, .int .i64 qu, .int .i64 ru, .int .i64 ou, .int .i64 st]] w fun e w' => e = .returned (.bool false) ∧ Turn (fun _ => False) w w' := by
  obtain ⟨W, hW⟩ : ∃ W, W = w.alloc (.cells #[.int .i64 sh, .int .i64 ib, .int .i64 sl, .int .i64 qu, .int .i64 ru, .int .i64 ou, .int .i64 st] 23) := ⟨_, rfl⟩
  have T1 : Turn (fun _ => False) w W := by rw [hW]; exact (Turn.refl _ w).alloc _
  have C := World.cell?_alloc_new w #[.int .i64 sh, .int .i64 ib, .int .i64 sl, .int .i64 qu, .int .i64 ru, .int .i64 ou, .int .i64 st] 23
  rw [← hW] at C
  have x0 : W.cell? ⟨w.heap.size, 0, none⟩ = some (.int .i64 sh) := C 0
  have x1 : W.cell? ⟨w.heap.size, 1, none⟩ = some (.int .i64 ib) := C 1
  have x2 : W.cell? ⟨w.heap.size, 2, none⟩ = some (.int .i64 sl) := C 2
  have x3 : W.cell? ⟨w.heap.size, 3, none⟩ = some (.int .i64 qu) := C 3
  have x4 : W.cell? ⟨w.heap.size, 4, none⟩ = some (.int .i64 ru) := C 4
  have x5 : W.cell? ⟨w.heap.size, 5, none⟩ = some (.int .i64 ou) := C 5
  have x6 : W.cell? ⟨w.heap.size, 6, none⟩ = some (.int .i64 st) := C 6
  have TW := Lib.hid T1
  clear C T1
  have TA : Turn (fun _ => False) W (W.alloc (.cells #[.int .i64 ib, .int .i64 sl, .int .i64 qu, .int .i64 ru, .int .i64 ou] 42)) := (Turn.refl _ W).alloc _
  have y0 := TA.cell (fun f => f) x0
  have y6 := TA.cell (fun f => f) x6
  clear TA
  go_enter Tryz.func4, Tryz.ntmps4
  go_upto_region 1 with fail
  rw [← hW]
  clear hW
  generalize w.heap.size = b1 at *
  go_wp2
  go_rounds 6
  go_ret
  exact ⟨rfl, TW.out.alloc _⟩
set_option maxRecDepth 100000 in
set_option maxHeartbeats 2000000 in
theorem ref_12 (w : World) (sh ib sl qu ru ou st : Int) (t1 : decide (ib < 1) = false) (t2 : decide ((4096 : Int) < ib) = false) (t3 : decide (sl < 1) = false) (t4 : decide ((4096 : Int) < sl) = false) (t5 : decide (qu < 1) = false) (t6 : decide ((4096 : Int) < qu) = false) (t7 : decide (ru < 1) = false) (t8 : decide ((4096 : Int) < ru) = false) (t9 : decide (ou < 1) = false) (t10 : decide ((4096 : Int) < ou) = false) (t11 : decide ((1 : Int) ≤ sh) = true) (t12 : decide (sh ≤ 15) = true) (t13 : decide ((1 : Int) ≤ st) = false) : Calls Tryz.prog 4 #[.agg #[.int .i64 sh, .int .i64 ib, .int .i64 sl, .int .i64 qu, .int .i64 ru, .int .i64 ou, .int .i64 st]] w fun e w' => e = .returned (.bool false) ∧ Turn (fun _ => False) w w' := by
  obtain ⟨W, hW⟩ : ∃ W, W = w.alloc (.cells #[.int .i64 sh, .int .i64 ib, .int .i64 sl, .int .i64 qu, .int .i64 ru, .int .i64 ou, .int .i64 st] 23) := ⟨_, rfl⟩
  have T1 : Turn (fun _ => False) w W := by rw [hW]; exact (Turn.refl _ w).alloc _
  have C := World.cell?_alloc_new w #[.int .i64 sh, .int .i64 ib, .int .i64 sl, .int .i64 qu, .int .i64 ru, .int .i64 ou, .int .i64 st] 23
  rw [← hW] at C
  have x0 : W.cell? ⟨w.heap.size, 0, none⟩ = some (.int .i64 sh) := C 0
  have x1 : W.cell? ⟨w.heap.size, 1, none⟩ = some (.int .i64 ib) := C 1
  have x2 : W.cell? ⟨w.heap.size, 2, none⟩ = some (.int .i64 sl) := C 2
  have x3 : W.cell? ⟨w.heap.size, 3, none⟩ = some (.int .i64 qu) := C 3
  have x4 : W.cell? ⟨w.heap.size, 4, none⟩ = some (.int .i64 ru) := C 4
  have x5 : W.cell? ⟨w.heap.size, 5, none⟩ = some (.int .i64 ou) := C 5
  have x6 : W.cell? ⟨w.heap.size, 6, none⟩ = some (.int .i64 st) := C 6
  have TW := Lib.hid T1
  clear C T1
  have TA : Turn (fun _ => False) W (W.alloc (.cells #[.int .i64 ib, .int .i64 sl, .int .i64 qu, .int .i64 ru, .int .i64 ou] 42)) := (Turn.refl _ W).alloc _
  have y0 := TA.cell (fun f => f) x0
  have y6 := TA.cell (fun f => f) x6
  clear TA
  go_enter Tryz.func4, Tryz.ntmps4
  go_upto_region 1 with fail
  rw [← hW]
  clear hW
  generalize w.heap.size = b1 at *
  go_wp2
  go_rounds 6
  go_ret
  exact ⟨rfl, TW.out.alloc _⟩
set_option maxRecDepth 100000 in
set_option maxHeartbeats 2000000 in
theorem ref_13 (w : World) (sh ib sl qu ru ou st : Int) (t1 : decide (ib < 1) = false) (t2 : decide ((4096 : Int) < ib) = false) (t3 : decide (sl < 1) = false) (t4 : decide ((4096 : Int) < sl) = false) (t5 : decide (qu < 1) = false) (t6 : decide ((4096 : Int) < qu) = false) (t7 : decide (ru < 1) = false) (t8 : decide ((4096 : Int) < ru) = false) (t9 : decide (ou < 1) = false) (t10 : decide ((4096 : Int) < ou) = false) (t11 : decide ((1 : Int) ≤ sh) = true) (t12 : decide (sh ≤ 15) = true) (t13 : decide ((1 : Int) ≤ st) = true) (t14 : decide (st ≤ 1099511627776) = false) : Calls Tryz.prog 4 #[.agg #[.int .i64 sh, .int .i64 ib, .int .i64 sl, .int .i64 qu, .int .i64 ru, .int .i64 ou, .int .i64 st]] w fun e w' => e = .returned (.bool false) ∧ Turn (fun _ => False) w w' := by
  obtain ⟨W, hW⟩ : ∃ W, W = w.alloc (.cells #[.int .i64 sh, .int .i64 ib, .int .i64 sl, .int .i64 qu, .int .i64 ru, .int .i64 ou, .int .i64 st] 23) := ⟨_, rfl⟩
  have T1 : Turn (fun _ => False) w W := by rw [hW]; exact (Turn.refl _ w).alloc _
  have C := World.cell?_alloc_new w #[.int .i64 sh, .int .i64 ib, .int .i64 sl, .int .i64 qu, .int .i64 ru, .int .i64 ou, .int .i64 st] 23
  rw [← hW] at C
  have x0 : W.cell? ⟨w.heap.size, 0, none⟩ = some (.int .i64 sh) := C 0
  have x1 : W.cell? ⟨w.heap.size, 1, none⟩ = some (.int .i64 ib) := C 1
  have x2 : W.cell? ⟨w.heap.size, 2, none⟩ = some (.int .i64 sl) := C 2
  have x3 : W.cell? ⟨w.heap.size, 3, none⟩ = some (.int .i64 qu) := C 3
  have x4 : W.cell? ⟨w.heap.size, 4, none⟩ = some (.int .i64 ru) := C 4
  have x5 : W.cell? ⟨w.heap.size, 5, none⟩ = some (.int .i64 ou) := C 5
  have x6 : W.cell? ⟨w.heap.size, 6, none⟩ = some (.int .i64 st) := C 6
  have TW := Lib.hid T1
  clear C T1
  have TA : Turn (fun _ => False) W (W.alloc (.cells #[.int .i64 ib, .int .i64 sl, .int .i64 qu, .int .i64 ru, .int .i64 ou] 42)) := (Turn.refl _ W).alloc _
  have y0 := TA.cell (fun f => f) x0
  have y6 := TA.cell (fun f => f) x6
  clear TA
  go_enter Tryz.func4, Tryz.ntmps4
  go_upto_region 1 with fail
  rw [← hW]
  clear hW
  generalize w.heap.size = b1 at *
  go_wp2
  go_rounds 6
  go_ret
  exact ⟨rfl, TW.out.alloc _⟩
set_option maxRecDepth 100000 in
set_option maxHeartbeats 2000000 in
theorem ref_14 (w : World) (sh ib sl qu ru ou st : Int) (t1 : decide (ib < 1) = false) (t2 : decide ((4096 : Int) < ib) = false) (t3 : decide (sl < 1) = false) (t4 : decide ((4096 : Int) < sl) = false) (t5 : decide (qu < 1) = false) (t6 : decide ((4096 : Int) < qu) = false) (t7 : decide (ru < 1) = false) (t8 : decide ((4096 : Int) < ru) = false) (t9 : decide (ou < 1) = false) (t10 : decide ((4096 : Int) < ou) = false) (t11 : decide ((1 : Int) ≤ sh) = true) (t12 : decide (sh ≤ 15) = true) (t13 : decide ((1 : Int) ≤ st) = true) (t14 : decide (st ≤ 1099511627776) = true) : Calls Tryz.prog 4 #[.agg #[.int .i64 sh, .int .i64 ib, .int .i64 sl, .int .i64 qu, .int .i64 ru, .int .i64 ou, .int .i64 st]] w fun e w' => e = .returned (.bool true) ∧ Turn (fun _ => False) w w' := by
  obtain ⟨W, hW⟩ : ∃ W, W = w.alloc (.cells #[.int .i64 sh, .int .i64 ib, .int .i64 sl, .int .i64 qu, .int .i64 ru, .int .i64 ou, .int .i64 st] 23) := ⟨_, rfl⟩
  have T1 : Turn (fun _ => False) w W := by rw [hW]; exact (Turn.refl _ w).alloc _
  have C := World.cell?_alloc_new w #[.int .i64 sh, .int .i64 ib, .int .i64 sl, .int .i64 qu, .int .i64 ru, .int .i64 ou, .int .i64 st] 23
  rw [← hW] at C
  have x0 : W.cell? ⟨w.heap.size, 0, none⟩ = some (.int .i64 sh) := C 0
  have x1 : W.cell? ⟨w.heap.size, 1, none⟩ = some (.int .i64 ib) := C 1
  have x2 : W.cell? ⟨w.heap.size, 2, none⟩ = some (.int .i64 sl) := C 2
  have x3 : W.cell? ⟨w.heap.size, 3, none⟩ = some (.int .i64 qu) := C 3
  have x4 : W.cell? ⟨w.heap.size, 4, none⟩ = some (.int .i64 ru) := C 4
  have x5 : W.cell? ⟨w.heap.size, 5, none⟩ = some (.int .i64 ou) := C 5
  have x6 : W.cell? ⟨w.heap.size, 6, none⟩ = some (.int .i64 st) := C 6
  have TW := Lib.hid T1
  clear C T1
  have TA : Turn (fun _ => False) W (W.alloc (.cells #[.int .i64 ib, .int .i64 sl, .int .i64 qu, .int .i64 ru, .int .i64 ou] 42)) := (Turn.refl _ W).alloc _
  have y0 := TA.cell (fun f => f) x0
  have y6 := TA.cell (fun f => f) x6
  clear TA
  go_enter Tryz.func4, Tryz.ntmps4
  go_upto_region 1 with fail
  rw [← hW]
  clear hW
  generalize w.heap.size = b1 at *
  go_wp2
  go_rounds 6
  go_ret
  exact ⟨rfl, TW.out.alloc _⟩
theorem ref_any (w : World) (sh ib sl qu ru ou st : Int) : Calls Tryz.prog 4 #[.agg #[.int .i64 sh, .int .i64 ib, .int .i64 sl, .int .i64 qu, .int .i64 ru, .int .i64 ou, .int .i64 st]] w fun e w' => e = .returned (.bool (lim sh ib sl qu ru ou st)) ∧ Turn (fun _ => False) w w' := by
  unfold lim
  cases t1 : decide (ib < 1)
  case true => simpa only [t1, Bool.not_true, Bool.not_false, Bool.true_and, Bool.false_and, Bool.and_false, Bool.and_true] using ref_0 w sh ib sl qu ru ou st t1
  cases t2 : decide ((4096 : Int) < ib)
  case true => simpa only [t1, t2, Bool.not_true, Bool.not_false, Bool.true_and, Bool.false_and, Bool.and_false, Bool.and_true] using ref_1 w sh ib sl qu ru ou st t1 t2
  cases t3 : decide (sl < 1)
  case true => simpa only [t1, t2, t3, Bool.not_true, Bool.not_false, Bool.true_and, Bool.false_and, Bool.and_false, Bool.and_true] using ref_2 w sh ib sl qu ru ou st t1 t2 t3
  cases t4 : decide ((4096 : Int) < sl)
  case true => simpa only [t1, t2, t3, t4, Bool.not_true, Bool.not_false, Bool.true_and, Bool.false_and, Bool.and_false, Bool.and_true] using ref_3 w sh ib sl qu ru ou st t1 t2 t3 t4
  cases t5 : decide (qu < 1)
  case true => simpa only [t1, t2, t3, t4, t5, Bool.not_true, Bool.not_false, Bool.true_and, Bool.false_and, Bool.and_false, Bool.and_true] using ref_4 w sh ib sl qu ru ou st t1 t2 t3 t4 t5
  cases t6 : decide ((4096 : Int) < qu)
  case true => simpa only [t1, t2, t3, t4, t5, t6, Bool.not_true, Bool.not_false, Bool.true_and, Bool.false_and, Bool.and_false, Bool.and_true] using ref_5 w sh ib sl qu ru ou st t1 t2 t3 t4 t5 t6
  cases t7 : decide (ru < 1)
  case true => simpa only [t1, t2, t3, t4, t5, t6, t7, Bool.not_true, Bool.not_false, Bool.true_and, Bool.false_and, Bool.and_false, Bool.and_true] using ref_6 w sh ib sl qu ru ou st t1 t2 t3 t4 t5 t6 t7
  cases t8 : decide ((4096 : Int) < ru)
  case true => simpa only [t1, t2, t3, t4, t5, t6, t7, t8, Bool.not_true, Bool.not_false, Bool.true_and, Bool.false_and, Bool.and_false, Bool.and_true] using ref_7 w sh ib sl qu ru ou st t1 t2 t3 t4 t5 t6 t7 t8
  cases t9 : decide (ou < 1)
  case true => simpa only [t1, t2, t3, t4, t5, t6, t7, t8, t9, Bool.not_true, Bool.not_false, Bool.true_and, Bool.false_and, Bool.and_false, Bool.and_true] using ref_8 w sh ib sl qu ru ou st t1 t2 t3 t4 t5 t6 t7 t8 t9
  cases t10 : decide ((4096 : Int) < ou)
  case true => simpa only [t1, t2, t3, t4, t5, t6, t7, t8, t9, t10, Bool.not_true, Bool.not_false, Bool.true_and, Bool.false_and, Bool.and_false, Bool.and_true] using ref_9 w sh ib sl qu ru ou st t1 t2 t3 t4 t5 t6 t7 t8 t9 t10
  cases t11 : decide ((1 : Int) ≤ sh)
  case false => simpa only [t1, t2, t3, t4, t5, t6, t7, t8, t9, t10, t11, Bool.not_true, Bool.not_false, Bool.true_and, Bool.false_and, Bool.and_false, Bool.and_true] using ref_10 w sh ib sl qu ru ou st t1 t2 t3 t4 t5 t6 t7 t8 t9 t10 t11
  cases t12 : decide (sh ≤ 15)
  case false => simpa only [t1, t2, t3, t4, t5, t6, t7, t8, t9, t10, t11, t12, Bool.not_true, Bool.not_false, Bool.true_and, Bool.false_and, Bool.and_false, Bool.and_true] using ref_11 w sh ib sl qu ru ou st t1 t2 t3 t4 t5 t6 t7 t8 t9 t10 t11 t12
  cases t13 : decide ((1 : Int) ≤ st)
  case false => simpa only [t1, t2, t3, t4, t5, t6, t7, t8, t9, t10, t11, t12, t13, Bool.not_true, Bool.not_false, Bool.true_and, Bool.false_and, Bool.and_false, Bool.and_true] using ref_12 w sh ib sl qu ru ou st t1 t2 t3 t4 t5 t6 t7 t8 t9 t10 t11 t12 t13
  cases t14 : decide (st ≤ 1099511627776)
  case false => simpa only [t1, t2, t3, t4, t5, t6, t7, t8, t9, t10, t11, t12, t13, t14, Bool.not_true, Bool.not_false, Bool.true_and, Bool.false_and, Bool.and_false, Bool.and_true] using ref_13 w sh ib sl qu ru ou st t1 t2 t3 t4 t5 t6 t7 t8 t9 t10 t11 t12 t13 t14
  simpa only [t1, t2, t3, t4, t5, t6, t7, t8, t9, t10, t11, t12, t13, t14, Bool.not_true, Bool.not_false, Bool.true_and, Bool.false_and, Bool.and_false, Bool.and_true] using ref_14 w sh ib sl qu ru ou st t1 t2 t3 t4 t5 t6 t7 t8 t9 t10 t11 t12 t13 t14
end Go.Proofs.YtfahnmnglnddcaaGreatDoor
