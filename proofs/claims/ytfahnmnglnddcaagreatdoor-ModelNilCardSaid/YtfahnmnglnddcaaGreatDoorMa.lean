/-
  The config of no numbers.
-/
import Derived.Test.YtfahnmnglnddcaaGreatDoorBase
import Derived.StillTailTactics
import Derived.Deep.QuietTactic
import Derived.Deep.MidRow
namespace Go.Proofs.YtfahnmnglnddcaaGreatDoor
open Go.ChangeShapes Go.WideShapes Go.ChangeAt Go.RowKit
set_option linter.unusedVariables false
theorem size23 : (Tryz.prog.info? 23).map (fun i => i.size) = some 7 := by kernel_rfl
theorem w1 : IntKind.i64.wrap 1 = 1 := by decide
set_option maxRecDepth 100000 in
theorem rest0 (w : World) (n : Int) (h : n = 3 ∨ n = 5 ∨ n = 9 ∨ n = 6 ∨ n = 40) : Calls Tryz.prog 30 #[.int .i64 0, .int .i64 n] w fun e w' => e = .returned (.int .i64 0) ∧ w' = w := by
  rcases h with rfl | rfl | rfl | rfl | rfl
  all_goals
    go_enter Tryz.func30, Tryz.ntmps30
    go_wp2
    go_ret
    exact ⟨rfl, rfl⟩
set_option maxRecDepth 100000 in
set_option maxHeartbeats 4000000 in
theorem conf_is (w : World) : Calls Tryz.prog 11 #[.agg #[.int .i64 0, .int .i64 0, .int .i64 0, .int .i64 0, .int .i64 0, .int .i64 0, .int .i64 0, .slice none 0 0, .slice none 0 0]] w fun e w' => e = .returned (.agg #[.int .i64 1, .int .i64 1, .int .i64 1, .int .i64 1, .int .i64 1, .int .i64 1, .int .i64 1]) ∧ Turn (fun _ => False) w w' := by
  have RS := Lib.hid rest0
  obtain ⟨W1, hW1⟩ : ∃ W, W = w.alloc (.cells #[.int .i64 0, .int .i64 0, .int .i64 0, .int .i64 0, .int .i64 0, .int .i64 0, .int .i64 0, .slice none 0 0, .slice none 0 0] 46) := ⟨_, rfl⟩
  obtain ⟨W, hW⟩ : ∃ W, W = W1.alloc (.cells #[.int .i64 0, .int .i64 0, .int .i64 0, .int .i64 0, .int .i64 0, .int .i64 0, .int .i64 0] 23) := ⟨_, rfl⟩
  have z1 : W1.heap.size = w.heap.size + 1 := by rw [hW1]; simp
  have T1 : Turn (fun _ => False) w W1 := by rw [hW1]; exact (Turn.refl _ w).alloc _
  have T2 : Turn (fun _ => False) W1 W := by rw [hW]; exact (Turn.refl _ _).alloc _
  have C := World.cell?_alloc_new w #[.int .i64 0, .int .i64 0, .int .i64 0, .int .i64 0, .int .i64 0, .int .i64 0, .int .i64 0, .slice none 0 0, .slice none 0 0] 46
  rw [← hW1] at C
  have D := range_new W1 [.int .i64 0, .int .i64 0, .int .i64 0, .int .i64 0, .int .i64 0, .int .i64 0, .int .i64 0] 23
  rw [show W1.alloc (.cells [.int .i64 0, .int .i64 0, .int .i64 0, .int .i64 0, .int .i64 0, .int .i64 0, .int .i64 0].toArray 23) = W from hW.symm, z1] at D
  have BD : Blk W (w.heap.size + 1) 23 := by rw [hW, ← z1]; exact Blk.new W1 [.int .i64 0, .int .i64 0, .int .i64 0, .int .i64 0, .int .i64 0, .int .i64 0, .int .i64 0] 23
  have x0 : W.cell? ⟨w.heap.size, 0, none⟩ = some (.int .i64 0) := T2.cell id (C 0)
  have x1 : W.cell? ⟨w.heap.size, 1, none⟩ = some (.int .i64 0) := T2.cell id (C 1)
  have x2 : W.cell? ⟨w.heap.size, 2, none⟩ = some (.int .i64 0) := T2.cell id (C 2)
  have x3 : W.cell? ⟨w.heap.size, 3, none⟩ = some (.int .i64 0) := T2.cell id (C 3)
  have x4 : W.cell? ⟨w.heap.size, 4, none⟩ = some (.int .i64 0) := T2.cell id (C 4)
  have x5 : W.cell? ⟨w.heap.size, 5, none⟩ = some (.int .i64 0) := T2.cell id (C 5)
  have x6 : W.cell? ⟨w.heap.size, 6, none⟩ = some (.int .i64 0) := T2.cell id (C 6)
  have y0 : W.cell? ⟨w.heap.size + 1, 0, none⟩ = some (.int .i64 0) := D 0 _ rfl
  have y1 : W.cell? ⟨w.heap.size + 1, 1, none⟩ = some (.int .i64 0) := D 1 _ rfl
  have y2 : W.cell? ⟨w.heap.size + 1, 2, none⟩ = some (.int .i64 0) := D 2 _ rfl
  have y3 : W.cell? ⟨w.heap.size + 1, 3, none⟩ = some (.int .i64 0) := D 3 _ rfl
  have y4 : W.cell? ⟨w.heap.size + 1, 4, none⟩ = some (.int .i64 0) := D 4 _ rfl
  have y5 : W.cell? ⟨w.heap.size + 1, 5, none⟩ = some (.int .i64 0) := D 5 _ rfl
  have y6 : W.cell? ⟨w.heap.size + 1, 6, none⟩ = some (.int .i64 0) := D 6 _ rfl
  have ff := BD.fz
  have HH := Lib.hid (And.intro (T1.trans T2) (And.intro D BD))
  have HW := Lib.hid (And.intro hW1 hW)
  clear C D T1 T2 hW hW1 z1 BD
  go_enter Tryz.func11, Tryz.ntmps11
  go_upto_region 1 with fail
  rw [← HW.out.1, ← HW.out.2]
  clear HW
  go_still_tail 29, (by kernel_rfl)
  still_call (RS.out _ _ (by simp))
  repeat still_step
  still_call (RS.out _ _ (by simp))
  repeat still_step
  still_call (RS.out _ _ (by simp))
  repeat still_step
  still_call (RS.out _ _ (by simp))
  repeat still_step
  still_call (RS.out _ _ (by simp))
  repeat still_step
  still_call (RS.out _ _ (by simp))
  repeat still_step
  still_call (RS.out _ _ (by simp))
  repeat still_step
  try refine wpStill_nil ?_
  change wpList _ _ _ _ _ W.drew
  have HG := Lib.hid (And.intro HH.out.1 (And.intro (range_turn HH.out.2.1 (show Turn (fun _ => False) W W.drew from (Turn.refl _ _).drewN 1) id) (HH.out.2.2.turn (show Turn (fun _ => False) W W.drew from (Turn.refl _ _).drewN 1) id)))
  have TD : Turn (fun _ => False) W W.drew := (Turn.refl _ _).drewN 1
  replace y0 := TD.cell id y0
  replace y1 := TD.cell id y1
  replace y2 := TD.cell id y2
  replace y3 := TD.cell id y3
  replace y4 := TD.cell id y4
  replace y5 := TD.cell id y5
  replace y6 := TD.cell id y6
  have gg := HG.out.2.2.fz
  have TW := Lib.hid (HH.out.1.trans TD)
  clear ff TD HH RS
  generalize W.drew = W2 at *
  go_wp2_with fail
  simp only [w1]
  have R := World.rangeAt_setCells_same W2 (w.heap.size + 1) 0 [.int .i64 1, .int .i64 1, .int .i64 1, .int .i64 1, .int .i64 1, .int .i64 1, .int .i64 1] (range_there HG.out.2.1 rfl HG.out.2.2)
  exact bodyPost_ret (v := .agg #[.int .i64 1, .int .i64 1, .int .i64 1, .int .i64 1, .int .i64 1, .int .i64 1, .int .i64 1]) (res_cell (a := 2) rfl rfl (run_loadVar_mid _ (w.heap.size + 1) 0 23 _ _ R Tryz.underlying23 rfl size23)) rfl ⟨rfl, Turn.setCells [.int .i64 1, .int .i64 1, .int .i64 1, .int .i64 1, .int .i64 1, .int .i64 1, .int .i64 1] 0 TW.out (.inr (by omega))⟩
end Go.Proofs.YtfahnmnglnddcaaGreatDoor
