/-
  Whether what was told is what a model tells.
-/
import Derived.Test.YtfahnmnglnddcaaGreatDoorMh
namespace Go.Proofs.YtfahnmnglnddcaaGreatDoor
open Go.ChangeShapes Go.WideShapes Go.ChangeAt Go.RowKit
set_option linter.unusedVariables false
set_option maxRecDepth 100000 in
theorem eqf_nil (w : World) (f : Value) : Calls Tryz.prog 83 #[.slice none 0 0, .slice none 0 0, f] w fun x w' => x = .returned (.bool true) ∧ w' = w := by
  go_enter Tryz.func83, Tryz.ntmps83
  go_wp2_with fail
  go_rounds 1
  go_ret
  exact ⟨rfl, rfl⟩
set_option maxRecDepth 100000 in
theorem same_is (w : World) (e : Int) (h : e = 0 ∨ e = 15) : Calls Tryz.prog 47 #[.agg (ans 15).toArray, .agg (ans e).toArray] w fun x w' => x = .returned (.bool (e == 15)) ∧ Turn (fun _ => False) w w' := by
  have E := Lib.hid eqf_nil
  unfold ans
  rcases h with rfl | rfl
  · go_enter Tryz.func47, Tryz.ntmps47
    go_wp2_with fail
    go_ret
    exact ⟨rfl, ((Turn.refl _ _).alloc _).alloc _⟩
  · go_enter Tryz.func47, Tryz.ntmps47
    go_wp2_with fail
    with_reducible refine (E.out _ _).mono ?_
    rintro x w1 ⟨rfl, rfl⟩
    go_wp2_with fail
    go_ret
    exact ⟨rfl, ((Turn.refl _ _).alloc _).alloc _⟩
theorem dn_split (e : Int) : dn e = [.int .i64 0, .int .i64 0, .int .i64 0, .int .i64 0, .int .i64 0] ++ (cl 3 ++ ans e) := rfl
theorem dn_call {w : World} {b : Nat} {e : Int} (h : w.rangeAt b 0 (dn e)) : w.rangeAt b 5 (cl 3) := fun k v hv => by
  have hk := (List.getElem?_eq_some_iff.1 hv).1
  have := h (5 + k) v (by rw [dn_split, List.getElem?_append_right (by simp)]; simp only [List.length_cons, List.length_nil]; rw [show 5 + k - (0 + 1 + 1 + 1 + 1 + 1) = k by omega, List.getElem?_append_left hk]; exact hv)
  rwa [Nat.zero_add] at this
theorem dn_ans {w : World} {b : Nat} {e : Int} (h : w.rangeAt b 0 (dn e)) : w.rangeAt b 15 (ans e) := fun k v hv => by
  have := h (15 + k) v (by rw [dn_split, List.getElem?_append_right (by simp; omega), List.getElem?_append_right (by simp [cl]; omega)]; simp only [List.length_cons, List.length_nil, cl]; rw [show 15 + k - (0 + 1 + 1 + 1 + 1 + 1) - (0 + 1 + 1 + 1 + 1 + 1 + 1 + 1 + 1 + 1 + 1) = k by omega]; exact hv)
  rwa [Nat.zero_add] at this
def MRel (w : World) (b m : Nat) (v13 : Value) (wr : World) : Prop := Turn (fun _ => False) w wr ∧ Mod wr b m ∧ (v13 = .int .i64 0 ∨ v13 = .int .i64 1)
theorem size30' : (Tryz.prog.info? 30).map (·.size) = some (ans 0).length := by kernel_rfl
set_option maxRecDepth 100000 in
set_option maxHeartbeats 2000000 in
theorem meant_none (w : World) (sh ib sl qu ru ou st : Int) (c : Nat) (hl : lim sh ib sl qu ru ou st = true) : Calls Tryz.prog 28 #[.agg (cfg sh ib sl qu ru ou st).toArray, .slice none 0 c] w fun x w' => x = .returned (.bool true) ∧ Turn (fun _ => False) w w' := by
  have R := range_new w (cfg sh ib sl qu ru ou st) 23
  have N := Lib.hid (fun w => new_is w sh ib sl qu ru ou st)
  have HR := Lib.hid R
  clear R
  have HL := Lib.hid hl
  clear hl
  unfold cfg
  go_enter Tryz.func28, Tryz.ntmps28
  go_wp2_with fail
  refine (N.out _).mono ?_
  rintro x w1 ⟨T1, ⟨h, -⟩ | ⟨-, b, m, rfl, hm⟩⟩
  · rw [HL.out] at h
    cases h
  have FIN := Lib.hid (((Turn.refl (fun _ => False) w).alloc (.cells #[.int .i64 sh, .int .i64 ib, .int .i64 sl, .int .i64 qu, .int .i64 ru, .int .i64 ou, .int .i64 st] 23)).trans T1)
  clear T1 hm
  go_wp2_with fail
  go_rounds 1
  go_ret
  exact ⟨rfl, FIN.out⟩
set_option maxRecDepth 100000 in
set_option maxHeartbeats 4000000 in
theorem meant_one (w : World) (sh ib sl qu ru ou st : Int) (hl : lim sh ib sl qu ru ou st = true) {g c : Nat} {e : Int} (he : e = 0 ∨ e = 15) (hR : w.rangeAt g 0 (dn e)) : Calls Tryz.prog 28 #[.agg (cfg sh ib sl qu ru ou st).toArray, .slice (some ⟨g, 0, none⟩) 1 c] w fun x w' => x = .returned (.bool (e == 15)) ∧ Turn (fun _ => False) w w' := by
  have N := Lib.hid (fun w => new_is w sh ib sl qu ru ou st)
  have HL := Lib.hid hl
  have HR := Lib.hid hR
  have HE := Lib.hid (fun w => ended_is w e)
  have SM := Lib.hid (fun w => same_is w e he)
  have DO := Lib.hid (fun (w : World) (b m : Nat) (hm : Mod w b m) (s : Int) => do_un w hm s)
  clear hl hR
  unfold cfg
  go_enter Tryz.func28, Tryz.ntmps28
  go_wp2_with fail
  refine (N.out _).mono ?_
  rintro x w1 ⟨T1, ⟨h, -⟩ | ⟨-, b, m, rfl, hm⟩⟩
  · rw [HL.out] at h
    cases h
  have FIN := Lib.hid (((Turn.refl (fun _ => False) w).alloc (.cells #[.int .i64 sh, .int .i64 ib, .int .i64 sl, .int .i64 qu, .int .i64 ru, .int .i64 ou, .int .i64 st] 23)).trans T1)
  have R0 : MRel w b m (.int .i64 0) w1 := ⟨FIN.out, hm, .inl rfl⟩
  clear T1 hm
  go_wp2_with fail
  go_loopw [13] (fun v13 wr => MRel w b m v13 wr ∧ (v13 = .int .i64 1 → e = 15)) (fun v13 _ => 2 - (intOf v13).toNat)
  case atStart => exact ⟨R0, fun h => by cases h⟩
  case round =>
    clear R0
    obtain ⟨⟨T, hm, rfl | rfl⟩, hq⟩ := hrel
    · clear hq
      have R0 := Lib.hid (range_turn HR.out T id)
      obtain ⟨W2, hW2, R2, T2, B2, TH⟩ := var_new wr e
      have c4 := (dn_cells R2).2.2.2.2.1
      have CL := Lib.hid (dn_call R2)
      have HW := Lib.hid hW2
      have HT := Lib.hid TH
      have HR2 := Lib.hid R2
      have H2 := Lib.hid (T.trans T2)
      have M2 := Lib.hid (hm.turn T2)
      have D2 := Lib.hid (DO.out W2 b m M2.out 0)
      clear T hW2 R2 T2 B2 TH hm
      go_upto_region 5 with (first
        | ((with_reducible show wpList _ _ _ ({ dst := some 16, op := Op.load 49 _, type := _, pos := _, after := _, guard := _ } :: _) _ _); refine wpList_load_mid rfl 49 _ rfl g 0 rfl _ _ R0.out Tryz.underlying49 rfl size49 ?_)
        | ((with_reducible show wpList _ _ _ ({ dst := none, op := Op.store 49 _ _, type := _, pos := _, after := _, guard := _ } :: _) _ _); refine wpList_store_mid rfl 49 _ _ rfl wr.heap.size 0 (dn e).toArray rfl rfl HT.out size49 (dn_one e) ?_))
      rw [← (show W2 = (wr.alloc (.cells #[.int .i64 0, .int .i64 0, .int .i64 0, .int .i64 0, .int .i64 0, .int .i64 0, .int .i64 0, .int .i64 0, .int .i64 0, .int .i64 0, .int .i64 0, .int .i64 0, .string ⟨#[]⟩, .int .i64 0, .int .i64 0, .int .i64 0, .int .i64 0, .slice none 0 0] 49)).setCells wr.heap.size 0 (dn e).toArray.toList from HW.out)]
      go_wp2_with ((with_reducible show wpList _ _ _ ({ dst := some 21, op := Op.load 36 _, type := _, pos := _, after := _, guard := _ } :: _) _ _); refine wpList_load_mid rfl 36 _ rfl wr.heap.size 5 rfl _ _ CL.out Tryz.underlying36 rfl size36 ?_)
      refine D2.out.mono ?_
      rintro x w3 ⟨rfl, T3⟩
      obtain ⟨W4, hW4⟩ : ∃ W, W = w3.alloc (.cells #[.int .i64 15, .int .i64 0, .slice none 0 0] 30) := ⟨_, rfl⟩
      have T4 : Turn (fun _ => False) w3 W4 := by rw [hW4]; exact (Turn.refl _ _).alloc _
      have RA := range_new w3 (ans 15) 30
      rw [show w3.alloc (.cells (ans 15).toArray 30) = W4 from hW4.symm] at RA
      have H4 := Lib.hid (And.intro (T3.trans T4) (And.intro RA (range_turn HR2.out (T3.trans T4) id)))
      have HW4 := Lib.hid hW4
      clear T3 T4 RA hW4
      unfold ans
      go_upto_region 6 with fail
      rw [← HW4.out]
      go_wp2_with ((with_reducible show wpList _ _ _ ({ dst := some 23, op := Op.load 49 _, type := _, pos := _, after := _, guard := _ } :: _) _ _); refine wpList_load_mid rfl 49 _ rfl wr.heap.size 0 rfl _ _ H4.out.2.2 Tryz.underlying49 rfl size49 ?_)
      with_reducible refine (HE.out _).mono ?_
      rintro x w5 ⟨rfl, T5⟩
      have H5 := Lib.hid (And.intro (range_turn H4.out.2.1 T5 id) (dn_ans (range_turn H4.out.2.2 T5 id)))
      have H6 := Lib.hid ((H2.out.trans H4.out.1).trans T5)
      have M6 := Lib.hid ((M2.out.turn H4.out.1).turn T5)
      clear T5
      have S5 := Lib.hid (SM.out w5)
      have r0 : w5.cell? ⟨w3.heap.size, 0, none⟩ = some (.int .i64 15) := H5.out.1 0 _ rfl
      have r1 : w5.cell? ⟨w3.heap.size, 1, none⟩ = some (.int .i64 0) := H5.out.1 1 _ rfl
      have r2 : w5.cell? ⟨w3.heap.size, 2, none⟩ = some (.slice none 0 0) := H5.out.1 2 _ rfl
      have a0 : w5.cell? ⟨wr.heap.size, 15, none⟩ = some (.int .i64 e) := H5.out.2 0 _ rfl
      have a1 : w5.cell? ⟨wr.heap.size, 16, none⟩ = some (.int .i64 0) := H5.out.2 1 _ rfl
      have a2 : w5.cell? ⟨wr.heap.size, 17, none⟩ = some (.slice none 0 0) := H5.out.2 2 _ rfl
      rcases he with rfl | rfl
      · go_wp2_with fail
        refine S5.out.mono ?_
        rintro x w7 ⟨rfl, T7⟩
        have F7 := Lib.hid (H6.out.trans T7)
        clear T7
        go_wp2_with fail
        go_ret
        exact ⟨rfl, F7.out⟩
      · go_wp2_with fail
        refine S5.out.mono ?_
        rintro x w7 ⟨rfl, T7⟩
        have F7 := Lib.hid (And.intro (H6.out.trans T7) (M6.out.turn T7))
        clear T7
        go_wp2_with fail
        exact ⟨⟨⟨F7.out.1, F7.out.2, .inr rfl⟩, fun _ => trivial⟩, by simp [intOf]⟩
    · obtain rfl := hq rfl
      have F := Lib.hid T
      clear T hm
      go_wp2_with fail
      go_ret
      exact ⟨rfl, F.out⟩
end Go.Proofs.YtfahnmnglnddcaaGreatDoor
