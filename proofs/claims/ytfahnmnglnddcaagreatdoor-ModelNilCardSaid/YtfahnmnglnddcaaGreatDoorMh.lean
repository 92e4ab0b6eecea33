/-
  What a model of no query tells of a query's end.
-/
import Derived.Test.YtfahnmnglnddcaaGreatDoorMg
namespace Go.Proofs.YtfahnmnglnddcaaGreatDoor
open Go.ChangeShapes Go.WideShapes Go.ChangeAt Go.RowKit
set_option linter.unusedVariables false
theorem size36 : (Tryz.prog.info? 36).map (fun i => i.size) = some 10 := by kernel_rfl
set_option maxRecDepth 100000 in
set_option maxHeartbeats 2000000 in
theorem do_un (w : World) {b m : Nat} (hm : Mod w b m) (s : Int) : Calls Tryz.prog 6 #[.pointer (some ⟨b, 0, none⟩), .int .i64 s, .agg (cl 3).toArray] w fun x w' => x = .returned (.agg (ans 15).toArray) ∧ Turn (fun _ => False) w w' := by
  have RD := Lib.hid read_is
  obtain ⟨W1, hW1⟩ : ∃ W, W = w.alloc (.cells (cl 3).toArray 36) := ⟨_, rfl⟩
  obtain ⟨W, hW⟩ : ∃ W, W = W1.alloc (.cells (ans 0).toArray 30) := ⟨_, rfl⟩
  have z1 : W1.heap.size = w.heap.size + 1 := by rw [hW1]; simp
  have T1 : Turn (fun _ => False) w W1 := by rw [hW1]; exact (Turn.refl _ w).alloc _
  have T2 : Turn (fun _ => False) W1 W := by rw [hW]; exact (Turn.refl _ _).alloc _
  have RC := range_new w (cl 3) 36
  rw [← hW1] at RC
  have RC2 := range_turn RC T2 id
  have R := range_new W1 (ans 0) 30
  have B := Blk.new W1 (ans 0) 30
  rw [show W1.alloc (.cells (ans 0).toArray 30) = W from hW.symm, z1] at R B
  have HH := Lib.hid (And.intro (T1.trans T2) (And.intro R (And.intro B RC2)))
  have M := Lib.hid (made_is W (hm.turn (T1.trans T2)))
  have HM := Lib.hid (hm.turn (T1.trans T2))
  have HW := Lib.hid (show W = (w.alloc (.cells #[.int .i64 3, .int .i64 0, .int .i64 0, .int .i64 0, .int .i64 0, .int .i64 0, .int .i64 0, .string ⟨#[]⟩, .int .i64 0, .int .i64 0] 36)).alloc (.cells #[.int .i64 0, .int .i64 0, .slice none 0 0] 30) by rw [hW, hW1]; rfl)
  clear T1 T2 R B z1 hW hW1 RC RC2 hm
  unfold cl
  go_enter Tryz.func6, Tryz.ntmps6
  go_upto_region 1 with fail
  rw [← HW.out]
  clear HW
  go_wp2_with fail
  with_reducible refine M.out.mono ?_
  rintro x w1 ⟨rfl, rfl⟩
  clear M
  go_wp2_with ((with_reducible show wpList _ _ _ ({ dst := some 16, op := Op.load 36 _, type := _, pos := _, after := _, guard := _ } :: _) _ _); refine wpList_load_mid rfl 36 _ rfl w.heap.size 0 rfl _ _ HH.out.2.2.2 Tryz.underlying36 rfl size36 ?_)
  with_reducible refine (RD.out _).mono ?_
  rintro x w4 ⟨rfl, T4⟩
  obtain ⟨W5, hW5⟩ : ∃ W, W = (w4.alloc (.cells #[.slice none 0 0, .int .i64 0, .bool false] 52)).alloc (.cells #[.int .i64 0, .int .i64 0, .slice none 0 0] 30) := ⟨_, rfl⟩
  have T5 : Turn (fun _ => False) w4 W5 := by rw [hW5]; exact ((Turn.refl _ w4).alloc _).alloc _
  have z5 : (w4.alloc (.cells #[.slice none 0 0, .int .i64 0, .bool false] 52)).heap.size = w4.heap.size + 1 := World.size_alloc ..
  have R8 := range_new (w4.alloc (.cells #[.slice none 0 0, .int .i64 0, .bool false] 52)) (ans 0) 30
  rw [show (w4.alloc (.cells #[.slice none 0 0, .int .i64 0, .bool false] 52)).alloc (.cells (ans 0).toArray 30) = W5 from hW5.symm, z5] at R8
  have e0 : W5.cell? ⟨w4.heap.size + 1, 0, none⟩ = some (.int .i64 0) := R8 0 _ rfl
  have H5 := Lib.hid (T4.trans T5)
  have M5 := Lib.hid (HM.out.turn H5.out)
  have c7 := M5.out.c7
  have k0 : W5.cell? ⟨w.heap.size, 0, none⟩ = some (.int .i64 3) := range_turn HH.out.2.2.2 H5.out id 0 _ rfl
  have k8 : W5.cell? ⟨w.heap.size, 8, none⟩ = some (.int .i64 0) := range_turn HH.out.2.2.2 H5.out id 8 _ rfl
  have U := Lib.hid (unreg_is W5 M5.out 0)
  have HW := Lib.hid hW5
  clear T4 T5 z5 R8 hW5
  unfold ans
  go_upto_region 4 with fail
  rw [← HW.out]
  go_wp2_with fail
  with_reducible refine U.out.mono ?_
  rintro x w6 ⟨rfl, T6⟩
  have TB := H5.out.trans T6
  have R6 := range_turn HH.out.2.1 TB id
  have y0 : w6.cell? ⟨w.heap.size + 1, 0, none⟩ = some (.int .i64 0) := R6 0 _ rfl
  have y1 : w6.cell? ⟨w.heap.size + 1, 1, none⟩ = some (.int .i64 0) := R6 1 _ rfl
  have y2 : w6.cell? ⟨w.heap.size + 1, 2, none⟩ = some (.slice none 0 0) := R6 2 _ rfl
  have B6 := HH.out.2.2.1.turn TB id
  have ff := B6.fz
  have H6 := Lib.hid (And.intro (HH.out.1.trans TB) (And.intro R6 B6))
  clear T6 TB R6 B6
  try unfold ans
  go_wp2_with fail
  exact ans_end H6.out.1 H6.out.2.1 H6.out.2.2 15 rfl rfl (by omega) (fun T => ⟨rfl, T⟩)
end Go.Proofs.YtfahnmnglnddcaaGreatDoor
