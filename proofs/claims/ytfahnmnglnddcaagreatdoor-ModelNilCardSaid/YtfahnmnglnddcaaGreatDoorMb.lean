/-
  One call that is done; what is asked of it.
-/
import Derived.Test.YtfahnmnglnddcaaGreatDoorBase
import Derived.Deep.MidRow
namespace Go.Proofs.YtfahnmnglnddcaaGreatDoor
open Go.ChangeShapes Go.WideShapes Go.ChangeAt Go.RowKit
set_option linter.unusedVariables false
/-- A call that ended a query, of stamp 0, told an error. -/
def dn (e : Int) : List Value := [.int .i64 0, .int .i64 0, .int .i64 0, .int .i64 0, .int .i64 0, .int .i64 3, .int .i64 0, .int .i64 0, .int .i64 0, .int .i64 0, .int .i64 0, .int .i64 0, .string ⟨#[]⟩, .int .i64 0, .int .i64 0, .int .i64 e, .int .i64 0, .slice none 0 0]
abbrev dnV (e : Int) : Value := .agg (dn e).toArray
theorem box_turn {w W : World} {o : Obj} (h : W = w.alloc o) : Turn (fun _ => False) w W := by rw [h]; exact (Turn.refl _ _).alloc _
set_option maxRecDepth 100000 in
theorem stamp_is (w : World) (e : Int) : Calls Tryz.prog 22 #[dnV e] w fun x w' => x = .returned (.bool true) ∧ Turn (fun _ => False) w w' := by
  unfold dnV dn
  go_enter Tryz.func22, Tryz.ntmps22
  go_wp2_with fail
  go_ret
  exact ⟨rfl, (Turn.refl _ w).alloc _⟩
set_option maxRecDepth 100000 in
theorem ended_is (w : World) (e : Int) : Calls Tryz.prog 46 #[dnV e] w fun x w' => x = .returned (.bool true) ∧ Turn (fun _ => False) w w' := by
  unfold dnV dn
  go_enter Tryz.func46, Tryz.ntmps46
  go_wp2_with fail
  go_ret
  exact ⟨rfl, (Turn.refl _ w).alloc _⟩
set_option maxRecDepth 100000 in
theorem pub_is (w : World) (e : Int) : Calls Tryz.prog 51 #[dnV e] w fun x w' => x = .returned (.bool false) ∧ Turn (fun _ => False) w w' := by
  unfold dnV dn
  go_enter Tryz.func51, Tryz.ntmps51
  go_wp2_with fail
  go_ret
  exact ⟨rfl, (Turn.refl _ w).alloc _⟩
theorem dn_cells {w : World} {b : Nat} {e : Int} (h : w.rangeAt b 0 (dn e)) : w.cell? ⟨b, 0, none⟩ = some (.int .i64 0) ∧ w.cell? ⟨b, 1, none⟩ = some (.int .i64 0) ∧ w.cell? ⟨b, 2, none⟩ = some (.int .i64 0) ∧ w.cell? ⟨b, 3, none⟩ = some (.int .i64 0) ∧ w.cell? ⟨b, 4, none⟩ = some (.int .i64 0) ∧ w.cell? ⟨b, 5, none⟩ = some (.int .i64 3) ∧ w.cell? ⟨b, 6, none⟩ = some (.int .i64 0) ∧ w.cell? ⟨b, 7, none⟩ = some (.int .i64 0) ∧ w.cell? ⟨b, 8, none⟩ = some (.int .i64 0) ∧ w.cell? ⟨b, 9, none⟩ = some (.int .i64 0) ∧ w.cell? ⟨b, 10, none⟩ = some (.int .i64 0) ∧ w.cell? ⟨b, 11, none⟩ = some (.int .i64 0) ∧ w.cell? ⟨b, 12, none⟩ = some (.string ⟨#[]⟩) ∧ w.cell? ⟨b, 13, none⟩ = some (.int .i64 0) ∧ w.cell? ⟨b, 14, none⟩ = some (.int .i64 0) ∧ w.cell? ⟨b, 15, none⟩ = some (.int .i64 e) ∧ w.cell? ⟨b, 16, none⟩ = some (.int .i64 0) ∧ w.cell? ⟨b, 17, none⟩ = some (.slice none 0 0) := by
  have H : ∀ (k : Nat) (v : Value), (dn e)[k]? = some v → w.cell? ⟨b, k, none⟩ = some v := fun k v hv => by have := h k v hv; rwa [Nat.zero_add] at this
  exact ⟨H 0 _ rfl, H 1 _ rfl, H 2 _ rfl, H 3 _ rfl, H 4 _ rfl, H 5 _ rfl, H 6 _ rfl, H 7 _ rfl, H 8 _ rfl, H 9 _ rfl, H 10 _ rfl, H 11 _ rfl, H 12 _ rfl, H 13 _ rfl, H 14 _ rfl, H 15 _ rfl, H 16 _ rfl, H 17 _ rfl⟩
theorem dn_new (w : World) (e : Int) : ∃ W, W = w.alloc (.cells #[.int .i64 0, .int .i64 0, .int .i64 0, .int .i64 0, .int .i64 0, .int .i64 3, .int .i64 0, .int .i64 0, .int .i64 0, .int .i64 0, .int .i64 0, .int .i64 0, .string ⟨#[]⟩, .int .i64 0, .int .i64 0, .int .i64 e, .int .i64 0, .slice none 0 0] 49) ∧ W.rangeAt w.heap.size 0 (dn e) ∧ Blk W w.heap.size 49 ∧ Turn (fun _ => False) w W :=
  ⟨_, rfl, range_new w (dn e) 49, Blk.new w (dn e) 49, (Turn.refl _ _).alloc _⟩
theorem size49 : (Tryz.prog.info? 49).map (·.size) = some 18 := by kernel_rfl
set_option maxRecDepth 100000 in
theorem clo_is (w : World) (e : Int) : Calls Tryz.prog 50 #[dnV e] w fun x w' => x = .returned (.bool false) ∧ Turn (fun _ => False) w w' := by
  obtain ⟨W, hW, hR, hB, T⟩ := dn_new w e
  have S := Lib.hid (stamp_is W e)
  have HR := Lib.hid hR
  have c5 : W.cell? ⟨w.heap.size, 5, none⟩ = some (.int .i64 3) := (dn_cells hR).2.2.2.2.2.1
  have TT := Lib.hid T
  have HW := Lib.hid hW
  clear T hW hR hB
  go_enter Tryz.func50, Tryz.ntmps50
  unfold dnV dn
  go_upto_region 1 with fail
  rw [← HW.out]
  go_wp2_with ((with_reducible show wpList _ _ _ ({ dst := some 3, op := Op.load 49 _, type := _, pos := _, after := _, guard := _ } :: _) _ _); refine wpList_load_mid rfl 49 _ rfl w.heap.size 0 rfl _ _ HR.out Tryz.underlying49 rfl size49 ?_)
  with_reducible refine S.out.mono ?_
  rintro x w1 ⟨rfl, T1⟩
  replace c5 := T1.cell id c5
  have FIN := Lib.hid (TT.out.trans T1)
  clear T1
  go_wp2_with fail
  go_ret
  exact ⟨rfl, FIN.out⟩
end Go.Proofs.YtfahnmnglnddcaaGreatDoor
