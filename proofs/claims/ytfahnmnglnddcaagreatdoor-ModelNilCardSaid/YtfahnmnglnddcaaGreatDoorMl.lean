/-
  Whether what calls were told is what a model tells.
-/
import Derived.Test.YtfahnmnglnddcaaGreatDoorMk
namespace Go.Proofs.YtfahnmnglnddcaaGreatDoor
open Go.ChangeShapes Go.WideShapes Go.ChangeAt Go.RowKit
set_option linter.unusedVariables false
set_option maxRecDepth 100000 in
set_option maxHeartbeats 4000000 in
theorem linear_nil (w : World) (sh ib sl qu ru ou st : Int) : Calls Tryz.prog 10 #[.agg (cfg sh ib sl qu ru ou st).toArray, .slice none 0 0] w fun x w' => x = .returned (.bool (lim sh ib sl qu ru ou st)) ∧ Turn (fun _ => False) w w' := by
  have TN := Lib.hid those_nil
  have SO := Lib.hid sort_0
  have EN := Lib.hid each_none
  have BN := Lib.hid behind_none
  have MN := Lib.hid (fun w hl => meant_none w sh ib sl qu ru ou st 0 hl)
  have RN := Lib.hid (fun w => refused_none w sh ib sl qu ru ou st)
  obtain ⟨W, hW⟩ : ∃ W, W = w.alloc (.cells (cfg sh ib sl qu ru ou st).toArray 23) := ⟨_, rfl⟩
  have T0 : Turn (fun _ => False) w W := by rw [hW]; exact (Turn.refl _ w).alloc _
  have R := range_new w (cfg sh ib sl qu ru ou st) 23
  rw [← hW] at R
  have x0 : W.cell? ⟨w.heap.size, 0, none⟩ = some (.int .i64 sh) := by have := R 0 _ rfl; rwa [Nat.zero_add] at this
  have x1 : W.cell? ⟨w.heap.size, 1, none⟩ = some (.int .i64 ib) := by have := R 1 _ rfl; rwa [Nat.zero_add] at this
  have x2 : W.cell? ⟨w.heap.size, 2, none⟩ = some (.int .i64 sl) := by have := R 2 _ rfl; rwa [Nat.zero_add] at this
  have x3 : W.cell? ⟨w.heap.size, 3, none⟩ = some (.int .i64 qu) := by have := R 3 _ rfl; rwa [Nat.zero_add] at this
  have x4 : W.cell? ⟨w.heap.size, 4, none⟩ = some (.int .i64 ru) := by have := R 4 _ rfl; rwa [Nat.zero_add] at this
  have x5 : W.cell? ⟨w.heap.size, 5, none⟩ = some (.int .i64 ou) := by have := R 5 _ rfl; rwa [Nat.zero_add] at this
  have x6 : W.cell? ⟨w.heap.size, 6, none⟩ = some (.int .i64 st) := by have := R 6 _ rfl; rwa [Nat.zero_add] at this
  have HR := Lib.hid R
  have HT := Lib.hid T0
  have LM := Lib.hid (lim_any W sh ib sl qu ru ou st)
  have HW := Lib.hid (show W = w.alloc (.cells #[.int .i64 sh, .int .i64 ib, .int .i64 sl, .int .i64 qu, .int .i64 ru, .int .i64 ou, .int .i64 st] 23) from hW)
  clear hW R T0
  unfold cfg
  go_enter Tryz.func10, Tryz.ntmps10
  go_upto_region 1 with fail
  rw [← HW.out]
  clear HW
  go_wp2_with fail
  with_reducible refine LM.out.mono ?_
  rintro x w1 ⟨rfl, T1⟩
  have HT1 := Lib.hid (HT.out.trans T1)
  have HR1 := Lib.hid (range_turn HR.out T1 id)
  clear T1 LM
  clear x0 x1 x2 x3 x4 x5 x6
  cases hl : lim sh ib sl qu ru ou st with
  | false =>
    go_wp2_with fail
    go_ret
    exact ⟨by rw [hl]; rfl, HT1.out⟩
  | true =>
    have HL := Lib.hid hl
    clear hl
    go_wp2_with fail
    with_reducible refine (TN.out _ _).mono ?_
    rintro x w2 ⟨rfl, rfl⟩
    go_wp2_with fail
    with_reducible refine (SO.out _ _ _ _).mono ?_
    rintro x w3 ⟨⟨v, rfl⟩, rfl⟩
    go_wp2_with fail
    with_reducible refine (EN.out _ _).mono ?_
    rintro x w4 ⟨rfl, rfl⟩
    go_wp2_with fail
    with_reducible refine (BN.out _ _).mono ?_
    rintro x w5 ⟨rfl, rfl⟩
    have x0 : w5.cell? ⟨w.heap.size, 0, none⟩ = some (.int .i64 sh) := by have := HR1.out 0 _ rfl; rwa [Nat.zero_add] at this
    have x1 : w5.cell? ⟨w.heap.size, 1, none⟩ = some (.int .i64 ib) := by have := HR1.out 1 _ rfl; rwa [Nat.zero_add] at this
    have x2 : w5.cell? ⟨w.heap.size, 2, none⟩ = some (.int .i64 sl) := by have := HR1.out 2 _ rfl; rwa [Nat.zero_add] at this
    have x3 : w5.cell? ⟨w.heap.size, 3, none⟩ = some (.int .i64 qu) := by have := HR1.out 3 _ rfl; rwa [Nat.zero_add] at this
    have x4 : w5.cell? ⟨w.heap.size, 4, none⟩ = some (.int .i64 ru) := by have := HR1.out 4 _ rfl; rwa [Nat.zero_add] at this
    have x5 : w5.cell? ⟨w.heap.size, 5, none⟩ = some (.int .i64 ou) := by have := HR1.out 5 _ rfl; rwa [Nat.zero_add] at this
    have x6 : w5.cell? ⟨w.heap.size, 6, none⟩ = some (.int .i64 st) := by have := HR1.out 6 _ rfl; rwa [Nat.zero_add] at this
    go_wp2_with fail
    refine (MN.out _ HL.out).mono ?_
    rintro x w6 ⟨rfl, T6⟩
    have HR6 := Lib.hid (range_turn HR1.out T6 id)
    have HT6 := Lib.hid (HT1.out.trans T6)
    clear T6 x0 x1 x2 x3 x4 x5 x6
    have x0 : w6.cell? ⟨w.heap.size, 0, none⟩ = some (.int .i64 sh) := by have := HR6.out 0 _ rfl; rwa [Nat.zero_add] at this
    have x1 : w6.cell? ⟨w.heap.size, 1, none⟩ = some (.int .i64 ib) := by have := HR6.out 1 _ rfl; rwa [Nat.zero_add] at this
    have x2 : w6.cell? ⟨w.heap.size, 2, none⟩ = some (.int .i64 sl) := by have := HR6.out 2 _ rfl; rwa [Nat.zero_add] at this
    have x3 : w6.cell? ⟨w.heap.size, 3, none⟩ = some (.int .i64 qu) := by have := HR6.out 3 _ rfl; rwa [Nat.zero_add] at this
    have x4 : w6.cell? ⟨w.heap.size, 4, none⟩ = some (.int .i64 ru) := by have := HR6.out 4 _ rfl; rwa [Nat.zero_add] at this
    have x5 : w6.cell? ⟨w.heap.size, 5, none⟩ = some (.int .i64 ou) := by have := HR6.out 5 _ rfl; rwa [Nat.zero_add] at this
    have x6 : w6.cell? ⟨w.heap.size, 6, none⟩ = some (.int .i64 st) := by have := HR6.out 6 _ rfl; rwa [Nat.zero_add] at this
    go_wp2_with fail
    refine (RN.out _).mono ?_
    rintro x w7 ⟨rfl, T7⟩
    have F := Lib.hid (HT6.out.trans T7)
    clear T7
    go_wp2_with fail
    go_ret
    exact ⟨by rw [HL.out]; rfl, F.out⟩
set_option maxRecDepth 100000 in
set_option maxHeartbeats 4000000 in
theorem linear_one (w : World) (sh ib sl qu ru ou st : Int) (hl : lim sh ib sl qu ru ou st = true) {g : Nat} {e : Int} (he : e = 0 ∨ e = 15) (hR : w.rangeAt g 0 (dn e)) : Calls Tryz.prog 10 #[.agg (cfg sh ib sl qu ru ou st).toArray, .slice (some ⟨g, 0, none⟩) 1 1] w fun x w' => x = .returned (.bool (e == 15)) ∧ Turn (fun _ => False) w w' := by
  have HD := Lib.hid hR
  have TN := Lib.hid (fun (w : World) (h : w.rangeAt g 0 (dn e)) => those_one 22 true e ent22 (fun w => stamp_is w e) w h)
  have SO := Lib.hid sort_1
  have EN := Lib.hid (fun (w : World) (g c : Nat) (h : w.rangeAt g 0 (dn e)) => each_one w (c := c) h)
  have BN := Lib.hid (fun (w : World) (g c : Nat) (h : w.rangeAt g 0 (dn e)) => behind_one w (c := c) h)
  have MN := Lib.hid (fun (w : World) (g c : Nat) (h : w.rangeAt g 0 (dn e)) => meant_one w sh ib sl qu ru ou st hl (c := c) he h)
  have RN := Lib.hid (fun (w : World) (h : w.rangeAt g 0 (dn e)) => refused_one w sh ib sl qu ru ou st h)
  have HL := Lib.hid hl
  have HE := Lib.hid he
  clear hR hl he
  obtain ⟨W, hW⟩ : ∃ W, W = w.alloc (.cells (cfg sh ib sl qu ru ou st).toArray 23) := ⟨_, rfl⟩
  have T0 : Turn (fun _ => False) w W := by rw [hW]; exact (Turn.refl _ w).alloc _
  have R := range_new w (cfg sh ib sl qu ru ou st) 23
  rw [← hW] at R
  have x0 : W.cell? ⟨w.heap.size, 0, none⟩ = some (.int .i64 sh) := by have := R 0 _ rfl; rwa [Nat.zero_add] at this
  have x1 : W.cell? ⟨w.heap.size, 1, none⟩ = some (.int .i64 ib) := by have := R 1 _ rfl; rwa [Nat.zero_add] at this
  have x2 : W.cell? ⟨w.heap.size, 2, none⟩ = some (.int .i64 sl) := by have := R 2 _ rfl; rwa [Nat.zero_add] at this
  have x3 : W.cell? ⟨w.heap.size, 3, none⟩ = some (.int .i64 qu) := by have := R 3 _ rfl; rwa [Nat.zero_add] at this
  have x4 : W.cell? ⟨w.heap.size, 4, none⟩ = some (.int .i64 ru) := by have := R 4 _ rfl; rwa [Nat.zero_add] at this
  have x5 : W.cell? ⟨w.heap.size, 5, none⟩ = some (.int .i64 ou) := by have := R 5 _ rfl; rwa [Nat.zero_add] at this
  have x6 : W.cell? ⟨w.heap.size, 6, none⟩ = some (.int .i64 st) := by have := R 6 _ rfl; rwa [Nat.zero_add] at this
  have HR := Lib.hid R
  have HT := Lib.hid T0
  have LM := Lib.hid (lim_any W sh ib sl qu ru ou st)
  have HW := Lib.hid (show W = w.alloc (.cells #[.int .i64 sh, .int .i64 ib, .int .i64 sl, .int .i64 qu, .int .i64 ru, .int .i64 ou, .int .i64 st] 23) from hW)
  clear hW R T0
  unfold cfg
  go_enter Tryz.func10, Tryz.ntmps10
  go_upto_region 1 with fail
  rw [← HW.out]
  clear HW
  go_wp2_with fail
  with_reducible refine LM.out.mono ?_
  rintro x w1 ⟨rfl, T1⟩
  have HT1 := Lib.hid (HT.out.trans T1)
  have HR1 := Lib.hid (range_turn HR.out T1 id)
  clear T1 LM
  clear x0 x1 x2 x3 x4 x5 x6
  rw [HL.out]
  have HD1 := Lib.hid (range_turn HD.out HT1.out id)
  go_wp2_with fail
  with_reducible refine (TN.out _ HD1.out).mono ?_
  rintro x w2 ⟨T2, v, rfl, ⟨-, ho⟩ | ⟨h, -⟩⟩
  rotate_left
  · cases h
  obtain ⟨a, c, rfl, hg⟩ := own_slice ho
  obtain ⟨g2, rfl⟩ := hg (by omega)
  have R2 : w2.rangeAt g2 0 (dn e) := fun k u hu => by
    have hk := (List.getElem?_eq_some_iff.1 hu).1
    rw [Nat.zero_add]
    exact (ho.cellAt k (by simpa [dn] using hk)).trans hu
  have HR2 := Lib.hid R2
  have HT2 := Lib.hid (HT1.out.trans T2)
  have HC2 := Lib.hid (range_turn HR1.out T2 id)
  clear ho hg R2 T2
  go_wp2_with fail
  with_reducible refine (SO.out _ _ _ _).mono ?_
  rintro x w3 ⟨⟨v, rfl⟩, rfl⟩
  go_wp2_with fail
  with_reducible refine (EN.out _ _ _ HR2.out).mono ?_
  rintro x w4 ⟨rfl, T4⟩
  have HR4 := Lib.hid (range_turn HR2.out T4 id)
  have HT4 := Lib.hid (HT2.out.trans T4)
  have HC4 := Lib.hid (range_turn HC2.out T4 id)
  clear T4
  go_wp2_with fail
  with_reducible refine (BN.out _ _ _ HR4.out).mono ?_
  rintro x w5 ⟨rfl, T5⟩
  have HR5 := Lib.hid (range_turn HR4.out T5 id)
  have HT5 := Lib.hid (HT4.out.trans T5)
  have HC5 := Lib.hid (range_turn HC4.out T5 id)
  clear T5
  have x0 : w5.cell? ⟨w.heap.size, 0, none⟩ = some (.int .i64 sh) := by have := HC5.out 0 _ rfl; rwa [Nat.zero_add] at this
  have x1 : w5.cell? ⟨w.heap.size, 1, none⟩ = some (.int .i64 ib) := by have := HC5.out 1 _ rfl; rwa [Nat.zero_add] at this
  have x2 : w5.cell? ⟨w.heap.size, 2, none⟩ = some (.int .i64 sl) := by have := HC5.out 2 _ rfl; rwa [Nat.zero_add] at this
  have x3 : w5.cell? ⟨w.heap.size, 3, none⟩ = some (.int .i64 qu) := by have := HC5.out 3 _ rfl; rwa [Nat.zero_add] at this
  have x4 : w5.cell? ⟨w.heap.size, 4, none⟩ = some (.int .i64 ru) := by have := HC5.out 4 _ rfl; rwa [Nat.zero_add] at this
  have x5 : w5.cell? ⟨w.heap.size, 5, none⟩ = some (.int .i64 ou) := by have := HC5.out 5 _ rfl; rwa [Nat.zero_add] at this
  have x6 : w5.cell? ⟨w.heap.size, 6, none⟩ = some (.int .i64 st) := by have := HC5.out 6 _ rfl; rwa [Nat.zero_add] at this
  go_wp2_with fail
  refine (MN.out _ _ _ HR5.out).mono ?_
  rintro x w6 ⟨rfl, T6⟩
  have HT6 := Lib.hid (HT5.out.trans T6)
  have HC6 := Lib.hid (range_turn HC5.out T6 id)
  clear T6
  clear x0 x1 x2 x3 x4 x5 x6
  have x0 : w6.cell? ⟨w.heap.size, 0, none⟩ = some (.int .i64 sh) := by have := HC6.out 0 _ rfl; rwa [Nat.zero_add] at this
  have x1 : w6.cell? ⟨w.heap.size, 1, none⟩ = some (.int .i64 ib) := by have := HC6.out 1 _ rfl; rwa [Nat.zero_add] at this
  have x2 : w6.cell? ⟨w.heap.size, 2, none⟩ = some (.int .i64 sl) := by have := HC6.out 2 _ rfl; rwa [Nat.zero_add] at this
  have x3 : w6.cell? ⟨w.heap.size, 3, none⟩ = some (.int .i64 qu) := by have := HC6.out 3 _ rfl; rwa [Nat.zero_add] at this
  have x4 : w6.cell? ⟨w.heap.size, 4, none⟩ = some (.int .i64 ru) := by have := HC6.out 4 _ rfl; rwa [Nat.zero_add] at this
  have x5 : w6.cell? ⟨w.heap.size, 5, none⟩ = some (.int .i64 ou) := by have := HC6.out 5 _ rfl; rwa [Nat.zero_add] at this
  have x6 : w6.cell? ⟨w.heap.size, 6, none⟩ = some (.int .i64 st) := by have := HC6.out 6 _ rfl; rwa [Nat.zero_add] at this
  have RF := Lib.hid (RN.out w6 (range_turn HD.out HT6.out id))
  rcases HE.out with rfl | rfl
  · go_wp2_with fail
    go_ret
    exact ⟨rfl, HT6.out⟩
  · go_wp2_with fail
    refine RF.out.mono ?_
    rintro x w7 ⟨rfl, T7⟩
    have F := Lib.hid (HT6.out.trans T7)
    clear T7
    go_wp2_with fail
    go_ret
    exact ⟨rfl, F.out⟩
end Go.Proofs.YtfahnmnglnddcaaGreatDoor
