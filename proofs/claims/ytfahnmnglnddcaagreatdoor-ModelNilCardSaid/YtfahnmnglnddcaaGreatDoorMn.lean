/-
  ModelNil.
-/
import Derived.Test.YtfahnmnglnddcaaGreatDoorMm
import Derived.Test.YtfahnmnglnddcaaGreatDoorRef
namespace Go.Proofs.YtfahnmnglnddcaaGreatDoor
open Go.ChangeShapes Go.WideShapes Go.ChangeAt Go.RowKit
set_option linter.unusedVariables false
set_option maxRecDepth 100000 in
theorem waiting_nil (w : World) (k : Int) : Calls Tryz.prog 7 #[.pointer none, .int .i64 k] w fun x w' => x = .returned (.int .i64 0) ∧ w' = w := by
  go_enter Tryz.func7, Tryz.ntmps7
  go_wp2_with fail
  go_ret
  exact ⟨rfl, rfl⟩
set_option maxRecDepth 100000 in
theorem live_nil (w : World) : Calls Tryz.prog 8 #[.pointer none] w fun x w' => x = .returned (.int .i64 0) ∧ w' = w := by
  go_enter Tryz.func8, Tryz.ntmps8
  go_wp2_with fail
  go_ret
  exact ⟨rfl, rfl⟩
theorem field30 (a b : Int) (w : World) : (Instr.field 30 (.agg #[.int .i64 a, .int .i64 b, .slice none 0 0]) 0).run Tryz.prog w = .ok (.int .i64 a) w := by kernel_rfl
set_option maxRecDepth 100000 in
set_option maxHeartbeats 4000000 in
theorem law_is (w : World) (sh ib sl qu ru ou st k : Int) : Calls Tryz.prog 3 #[.agg (cfg sh ib sl qu ru ou st).toArray, .int .i64 k] w fun x w' => x = .returned (.bool true) ∧ Turn (fun _ => False) w w' := by
  have AW := Lib.hid awake_is
  have DN := Lib.hid (fun w => do_nil w k 1)
  have WN := Lib.hid (fun w => waiting_nil w 1)
  have LN := Lib.hid live_nil
  have NW := Lib.hid (fun w => new_is w sh ib sl qu ru ou st)
  have LI := Lib.hid (fun w => linear_nil w sh ib sl qu ru ou st)
  obtain ⟨W, hW⟩ : ∃ W, W = w.alloc (.cells (cfg sh ib sl qu ru ou st).toArray 23) := ⟨_, rfl⟩
  have T0 : Turn (fun _ => False) w W := by rw [hW]; exact (Turn.refl _ w).alloc _
  have R := range_new w (cfg sh ib sl qu ru ou st) 23
  rw [← hW] at R
  have x0 : W.cell? ⟨w.heap.size, 0, none⟩ = some (.int .i64 sh) := by have := R 0 _ rfl; rwa [Nat.zero_add] at this
  have x1 : W.cell? ⟨w.heap.size, 1, none⟩ = some (.int .i64 ib) := by have := R 1 _ rfl; rwa [Nat.zero_add] at this
  have x2 : W.cell? ⟨w.heap.size, 2, none⟩ = some (.int .i64 sl) := by have := R 2 _ rfl; rwa [Nat.zero_add] at this
  have x3 : W.cell? ⟨w.heap.size, 3, none⟩ = some (.int .i64 qu) := by have := R 3 _ rfl; rwa [Nat.zero_add] at this
  have x4 : W.cell? ⟨w.heap.size, 4, none⟩ = some (.int .i64 ru) := by have := R 4 _ rfl; rwa [Nat.zero_add] at this
  have x5 : W.cell? ⟨w.heap.size, 5, none⟩ = some (.int .i64 ou) := by have := R 5 _ rfl; rwa [Nat.zero_add] at this
  have x6 : W.cell? ⟨w.heap.size, 6, none⟩ = some (.int .i64 st) := by have := R 6 _ rfl; rwa [Nat.zero_add] at this
  have HR := Lib.hid R
  have HT := Lib.hid T0
  have RF := Lib.hid (ref_any W sh ib sl qu ru ou st)
  have HW := Lib.hid (show W = w.alloc (.cells #[.int .i64 sh, .int .i64 ib, .int .i64 sl, .int .i64 qu, .int .i64 ru, .int .i64 ou, .int .i64 st] 23) from hW)
  clear hW R T0
  unfold cfg
  go_enter Tryz.func3, Tryz.ntmps3
  go_upto_region 1 with fail
  rw [← HW.out]
  clear HW
  go_wp2_with fail
  with_reducible refine RF.out.mono ?_
  rintro x w1 ⟨rfl, T1⟩
  have HT1 := Lib.hid (HT.out.trans T1)
  have HR1 := Lib.hid (range_turn HR.out T1 id)
  clear T1 RF
  clear x0 x1 x2 x3 x4 x5 x6
  go_wp2_with fail
  with_reducible refine (AW.out _).mono ?_
  rintro x w2 ⟨rfl, T2⟩
  have HT2 := Lib.hid (HT1.out.trans T2)
  have HR2 := Lib.hid (range_turn HR1.out T2 id)
  clear T2
  go_wp2_with fail
  refine (DN.out _).mono ?_
  rintro x w3 ⟨rfl, T3⟩
  have HT3 := Lib.hid (HT2.out.trans T3)
  have HR3 := Lib.hid (range_turn HR2.out T3 id)
  clear T3
  have fl := fun W => field30 1 0 W
  unfold ans
  go_wp2_with fail
  with_reducible refine (WN.out _).mono ?_
  rintro x w4 ⟨rfl, rfl⟩
  go_wp2_with fail
  with_reducible refine (LN.out _).mono ?_
  rintro x w5 ⟨rfl, rfl⟩
  have x0 : w5.cell? ⟨w.heap.size, 0, none⟩ = some (.int .i64 sh) := by have := HR3.out 0 _ rfl; rwa [Nat.zero_add] at this
  have x1 : w5.cell? ⟨w.heap.size, 1, none⟩ = some (.int .i64 ib) := by have := HR3.out 1 _ rfl; rwa [Nat.zero_add] at this
  have x2 : w5.cell? ⟨w.heap.size, 2, none⟩ = some (.int .i64 sl) := by have := HR3.out 2 _ rfl; rwa [Nat.zero_add] at this
  have x3 : w5.cell? ⟨w.heap.size, 3, none⟩ = some (.int .i64 qu) := by have := HR3.out 3 _ rfl; rwa [Nat.zero_add] at this
  have x4 : w5.cell? ⟨w.heap.size, 4, none⟩ = some (.int .i64 ru) := by have := HR3.out 4 _ rfl; rwa [Nat.zero_add] at this
  have x5 : w5.cell? ⟨w.heap.size, 5, none⟩ = some (.int .i64 ou) := by have := HR3.out 5 _ rfl; rwa [Nat.zero_add] at this
  have x6 : w5.cell? ⟨w.heap.size, 6, none⟩ = some (.int .i64 st) := by have := HR3.out 6 _ rfl; rwa [Nat.zero_add] at this
  go_wp2_with fail
  refine (NW.out _).mono ?_
  rintro x w6 ⟨T6, hx⟩
  have HT6 := Lib.hid (HT3.out.trans T6)
  have HR6 := Lib.hid (range_turn HR3.out T6 id)
  clear T6
  clear x0 x1 x2 x3 x4 x5 x6
  have x0 : w6.cell? ⟨w.heap.size, 0, none⟩ = some (.int .i64 sh) := by have := HR6.out 0 _ rfl; rwa [Nat.zero_add] at this
  have x1 : w6.cell? ⟨w.heap.size, 1, none⟩ = some (.int .i64 ib) := by have := HR6.out 1 _ rfl; rwa [Nat.zero_add] at this
  have x2 : w6.cell? ⟨w.heap.size, 2, none⟩ = some (.int .i64 sl) := by have := HR6.out 2 _ rfl; rwa [Nat.zero_add] at this
  have x3 : w6.cell? ⟨w.heap.size, 3, none⟩ = some (.int .i64 qu) := by have := HR6.out 3 _ rfl; rwa [Nat.zero_add] at this
  have x4 : w6.cell? ⟨w.heap.size, 4, none⟩ = some (.int .i64 ru) := by have := HR6.out 4 _ rfl; rwa [Nat.zero_add] at this
  have x5 : w6.cell? ⟨w.heap.size, 5, none⟩ = some (.int .i64 ou) := by have := HR6.out 5 _ rfl; rwa [Nat.zero_add] at this
  have x6 : w6.cell? ⟨w.heap.size, 6, none⟩ = some (.int .i64 st) := by have := HR6.out 6 _ rfl; rwa [Nat.zero_add] at this
  have LI6 := Lib.hid (LI.out w6)
  rcases hx with ⟨hl, rfl⟩ | ⟨hl, b, m, rfl, hm⟩
  · rw [hl] at LI6 ⊢
    clear hl
    go_wp2_with fail
    refine LI6.out.mono ?_
    rintro x w7 ⟨rfl, T7⟩
    have F := Lib.hid (HT6.out.trans T7)
    clear T7
    go_wp2_with fail
    go_ret
    exact ⟨rfl, F.out⟩
  · rw [hl] at LI6 ⊢
    clear hl hm
    go_wp2_with fail
    refine LI6.out.mono ?_
    rintro x w7 ⟨rfl, T7⟩
    have F := Lib.hid (HT6.out.trans T7)
    clear T7
    go_wp2_with fail
    go_ret
    exact ⟨rfl, F.out⟩
end Go.Proofs.YtfahnmnglnddcaaGreatDoor
