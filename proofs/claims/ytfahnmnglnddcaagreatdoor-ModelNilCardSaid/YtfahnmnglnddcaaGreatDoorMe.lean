/-
  Each, and behind: of a row of one, and of none.
-/
import Derived.Test.YtfahnmnglnddcaaGreatDoorMc
namespace Go.Proofs.YtfahnmnglnddcaaGreatDoor
open Go.ChangeShapes Go.WideShapes Go.ChangeAt Go.RowKit
set_option linter.unusedVariables false
/-- One call in a row. -/
def ERel (w : World) (v7 : Value) (wr : World) : Prop := Turn (fun _ => False) w wr ∧ (v7 = .int .i64 0 ∨ v7 = .int .i64 1)
set_option maxRecDepth 100000 in
set_option maxHeartbeats 2000000 in
theorem each_one (w : World) {g c : Nat} {e : Int} (hR : w.rangeAt g 0 (dn e)) : Calls Tryz.prog 26 #[.slice (some ⟨g, 0, none⟩) 1 c] w fun x w' => x = .returned (.bool true) ∧ Turn (fun _ => False) w w' := by
  have HR := Lib.hid hR
  clear hR
  go_enter Tryz.func26, Tryz.ntmps26
  go_wp2_with fail
  go_loopw [7] (fun v7 wr => ERel w v7 wr) (fun v7 _ => 2 - (intOf v7).toNat)
  case atStart => exact ⟨Turn.refl _ _, .inl rfl⟩
  case round =>
    obtain ⟨T, rfl | rfl⟩ := hrel
    · have R0 := Lib.hid (range_turn HR.out T id)
      obtain ⟨W2, hW2, R2, T2, B2, TH⟩ := var_new wr e
      have c4 := (dn_cells R2).2.2.2.2.1
      have HW := Lib.hid hW2
      have HT := Lib.hid TH
      have H2 := Lib.hid (T.trans T2)
      clear T hW2 R2 T2 B2 TH
      go_upto_region 4 with (first
        | ((with_reducible show wpList _ _ _ ({ dst := some 11, op := Op.load 49 _, type := _, pos := _, after := _, guard := _ } :: _) _ _); refine wpList_load_mid rfl 49 _ rfl g 0 rfl _ _ R0.out Tryz.underlying49 rfl size49 ?_)
        | ((with_reducible show wpList _ _ _ ({ dst := none, op := Op.store 49 _ _, type := _, pos := _, after := _, guard := _ } :: _) _ _); refine wpList_store_mid rfl 49 _ _ rfl wr.heap.size 0 (dn e).toArray rfl rfl HT.out size49 (dn_one e) ?_))
      rw [← (show W2 = (wr.alloc (.cells #[.int .i64 0, .int .i64 0, .int .i64 0, .int .i64 0, .int .i64 0, .int .i64 0, .int .i64 0, .int .i64 0, .int .i64 0, .int .i64 0, .int .i64 0, .int .i64 0, .string ⟨#[]⟩, .int .i64 0, .int .i64 0, .int .i64 0, .int .i64 0, .slice none 0 0] 49)).setCells wr.heap.size 0 (dn e).toArray.toList from HW.out)]
      go_wp2_with fail
      exact ⟨⟨H2.out, .inr rfl⟩, by simp [intOf]⟩
    · have FIN := Lib.hid T
      clear T
      go_wp2_with fail
      go_ret
      exact ⟨rfl, FIN.out⟩
set_option maxRecDepth 100000 in
theorem each_none (w : World) (c : Nat) : Calls Tryz.prog 26 #[.slice none 0 c] w fun x w' => x = .returned (.bool true) ∧ w' = w := by
  go_enter Tryz.func26, Tryz.ntmps26
  go_wp2_with fail
  go_rounds 1
  go_ret
  exact ⟨rfl, rfl⟩
set_option maxRecDepth 100000 in
theorem behind_none (w : World) (c : Nat) : Calls Tryz.prog 27 #[.slice none 0 c] w fun x w' => x = .returned (.bool true) ∧ w' = w := by
  go_enter Tryz.func27, Tryz.ntmps27
  go_wp2_with fail
  go_rounds 1
  go_ret
  exact ⟨rfl, rfl⟩
def BRel (w : World) (v3 v8 : Value) (wr : World) : Prop := Turn (fun _ => False) w wr ∧ ((v8 = .int .i64 0 ∧ v3 = .int .i64 (-9223372036854775808)) ∨ (v8 = .int .i64 1 ∧ v3 = .int .i64 0))
set_option maxRecDepth 100000 in
set_option maxHeartbeats 2000000 in
theorem behind_one (w : World) {g c : Nat} {e : Int} (hR : w.rangeAt g 0 (dn e)) : Calls Tryz.prog 27 #[.slice (some ⟨g, 0, none⟩) 1 c] w fun x w' => x = .returned (.bool true) ∧ Turn (fun _ => False) w w' := by
  have HR := Lib.hid hR
  have HE := Lib.hid (fun w => ended_is w e)
  clear hR
  go_enter Tryz.func27, Tryz.ntmps27
  go_wp2_with fail
  go_loopw [3, 8] (fun v3 v8 wr => BRel w v3 v8 wr) (fun _ v8 _ => 2 - (intOf v8).toNat)
  case atStart => exact ⟨Turn.refl _ _, .inl ⟨rfl, rfl⟩⟩
  case round =>
    obtain ⟨T, ⟨rfl, rfl⟩ | ⟨rfl, rfl⟩⟩ := hrel
    · have R0 := Lib.hid (range_turn HR.out T id)
      obtain ⟨W2, hW2, R2, T2, B2, TH⟩ := var_new wr e
      have c2 := (dn_cells R2).2.2.1
      have c3 := (dn_cells R2).2.2.2.1
      have HW := Lib.hid hW2
      have HT := Lib.hid TH
      have HR2 := Lib.hid R2
      have H2 := Lib.hid (T.trans T2)
      clear T hW2 R2 T2 B2 TH
      go_upto_region 5 with (first
        | ((with_reducible show wpList _ _ _ ({ dst := some 11, op := Op.load 49 _, type := _, pos := _, after := _, guard := _ } :: _) _ _); refine wpList_load_mid rfl 49 _ rfl g 0 rfl _ _ R0.out Tryz.underlying49 rfl size49 ?_)
        | ((with_reducible show wpList _ _ _ ({ dst := none, op := Op.store 49 _ _, type := _, pos := _, after := _, guard := _ } :: _) _ _); refine wpList_store_mid rfl 49 _ _ rfl wr.heap.size 0 (dn e).toArray rfl rfl HT.out size49 (dn_one e) ?_))
      rw [← (show W2 = (wr.alloc (.cells #[.int .i64 0, .int .i64 0, .int .i64 0, .int .i64 0, .int .i64 0, .int .i64 0, .int .i64 0, .int .i64 0, .int .i64 0, .int .i64 0, .int .i64 0, .int .i64 0, .string ⟨#[]⟩, .int .i64 0, .int .i64 0, .int .i64 0, .int .i64 0, .slice none 0 0] 49)).setCells wr.heap.size 0 (dn e).toArray.toList from HW.out)]
      go_wp2_with ((with_reducible show wpList _ _ _ ({ dst := some 12, op := Op.load 49 _, type := _, pos := _, after := _, guard := _ } :: _) _ _); refine wpList_load_mid rfl 49 _ rfl wr.heap.size 0 rfl _ _ HR2.out Tryz.underlying49 rfl size49 ?_)
      with_reducible refine (HE.out _).mono ?_
      rintro x w3 ⟨rfl, T3⟩
      replace c2 := T3.cell id c2
      replace c3 := T3.cell id c3
      have H3 := Lib.hid (H2.out.trans T3)
      clear T3
      go_wp2_with fail
      exact ⟨⟨H3.out, .inr ⟨rfl, rfl⟩⟩, by simp [intOf]⟩
    · have FIN := Lib.hid T
      clear T
      go_wp2_with fail
      go_ret
      exact ⟨rfl, FIN.out⟩
end Go.Proofs.YtfahnmnglnddcaaGreatDoor
