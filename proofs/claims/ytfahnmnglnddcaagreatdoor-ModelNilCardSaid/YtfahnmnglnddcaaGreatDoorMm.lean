/-
  The chapter's examples.
-/
import Derived.Test.YtfahnmnglnddcaaGreatDoorMl
import Derived.Test.YtfahnmnglnddcaaGreatDoorMa
namespace Go.Proofs.YtfahnmnglnddcaaGreatDoor
open Go.ChangeShapes Go.WideShapes Go.ChangeAt Go.RowKit
set_option linter.unusedVariables false
theorem dn_set {w : World} {b : Nat} (h : w.rangeAt b 0 (dn 0)) : (w.setCell ⟨b, 15, none⟩ (.int .i64 15)).rangeAt b 0 (dn 15) := fun k v hv => by
  rw [Nat.zero_add]
  have e : dn 15 = (dn 0).set 15 (.int .i64 15) := rfl
  have H : ∀ (k : Nat) (v : Value), (dn 0)[k]? = some v → w.cell? ⟨b, k, none⟩ = some v := fun k v hv => by have := h k v hv; rwa [Nat.zero_add] at this
  by_cases hk : k = 15
  · subst hk
    have : v = .int .i64 15 := by
      have h1 : (dn 15)[15]? = some (.int .i64 15) := rfl
      rw [h1] at hv
      injection hv with hv
      exact hv.symm
    rw [this]
    exact World.cell?_setCell_same _ _ _ (H 15 (.int .i64 0) rfl)
  · rw [e, List.getElem?_set_ne (by omega)] at hv
    exact (cell_off _ _ _ _ _ (by omega)).trans (H k v hv)
set_option maxRecDepth 100000 in
set_option maxHeartbeats 4000000 in
theorem awake_is (w : World) : Calls Tryz.prog 5 #[] w fun x w' => x = .returned (.bool true) ∧ Turn (fun _ => False) w w' := by
  have CF := Lib.hid (conf_is w)
  have L0 := Lib.hid (fun (w : World) (g : Nat) (h : w.rangeAt g 0 (dn 0)) => linear_one w 1 1 1 1 1 1 1 (by decide) (.inl rfl) h)
  have L1 := Lib.hid (fun (w : World) (g : Nat) (h : w.rangeAt g 0 (dn 15)) => linear_one w 1 1 1 1 1 1 1 (by decide) (.inr rfl) h)
  go_enter Tryz.func5, Tryz.ntmps5
  go_wp2_with fail
  with_reducible refine CF.out.mono ?_
  rintro x w1 ⟨rfl, T1⟩
  obtain ⟨W2, hW2⟩ : ∃ W, W = w1.alloc (.cells (cfg 1 1 1 1 1 1 1).toArray 23) := ⟨_, rfl⟩
  have T2 : Turn (fun _ => False) w1 W2 := by rw [hW2]; exact (Turn.refl _ _).alloc _
  have RC := range_new w1 (cfg 1 1 1 1 1 1 1) 23
  rw [← hW2] at RC
  have HC := Lib.hid RC
  have HT2 := Lib.hid (T1.trans T2)
  have HW2 := Lib.hid (show W2 = w1.alloc (.cells #[.int .i64 1, .int .i64 1, .int .i64 1, .int .i64 1, .int .i64 1, .int .i64 1, .int .i64 1] 23) from hW2)
  clear T1 T2 RC hW2
  go_upto_region 2 with fail
  rw [← HW2.out]
  obtain ⟨W3, hW3, R3, T3, B3, TH3⟩ := var_new W2 0
  have HW3 := Lib.hid hW3
  have HR3 := Lib.hid R3
  have HT3 := Lib.hid (And.intro T3 (HT2.out.trans T3))
  have HH3 := Lib.hid TH3
  clear hW3 R3 T3 B3 TH3
  go_upto_region 3 with ((with_reducible show wpList _ _ _ ({ dst := none, op := Op.store 49 _ _, type := _, pos := _, after := _, guard := _ } :: _) _ _); refine wpList_store_mid rfl 49 _ _ rfl W2.heap.size 0 (dn 0).toArray rfl rfl HH3.out size49 (dn_one 0) ?_)
  rw [← (show W3 = (W2.alloc (.cells #[.int .i64 0, .int .i64 0, .int .i64 0, .int .i64 0, .int .i64 0, .int .i64 0, .int .i64 0, .int .i64 0, .int .i64 0, .int .i64 0, .int .i64 0, .int .i64 0, .string ⟨#[]⟩, .int .i64 0, .int .i64 0, .int .i64 0, .int .i64 0, .slice none 0 0] 49)).setCells W2.heap.size 0 (dn 0).toArray.toList from HW3.out)]
  obtain ⟨W4, hW4, R4, T4, B4, TH4⟩ := var_new W3 0
  have HW4 := Lib.hid hW4
  have c15 : W4.cell? ⟨W3.heap.size, 15, none⟩ = some (.int .i64 0) := by have := R4 15 _ rfl; rwa [Nat.zero_add] at this
  have f15 := B4.fz
  have TP := Turn.put W4 W3.heap.size 15 (.int .i64 15)
  have HR4 := Lib.hid (dn_set R4)
  have hge := HT3.out.2.size
  have hlt : W2.heap.size < W3.heap.size := Nat.lt_of_lt_of_le (by have := World.size_alloc W2 (.cells z49.toArray 49); omega) (show (W2.alloc (.cells z49.toArray 49)).heap.size ≤ W3.heap.size by rw [HW3.out]; exact (Turn.setCells (S := fun k => k = W2.heap.size) _ 0 (Turn.refl _ _) (.inl rfl)).size)
  obtain ⟨W5, hW5⟩ : ∃ W, W = W4.setCell ⟨W3.heap.size, 15, none⟩ (.int .i64 15) := ⟨_, rfl⟩
  rw [← hW5] at TP HR4
  have hcl : w1.heap.size < W2.heap.size := by have := World.size_alloc w1 (.cells (cfg 1 1 1 1 1 1 1).toArray 23); rw [HW2.out]; show w1.heap.size < (w1.alloc (.cells (cfg 1 1 1 1 1 1 1).toArray 23)).heap.size; omega
  have HT5 := Lib.hid ((HT3.out.2.trans T4).comp TP (fun i hi q => by omega))
  have HR3' := Lib.hid (range_turn (range_turn HR3.out T4 id) TP (by omega))
  have HC5 := Lib.hid (range_turn (range_turn (range_turn HC.out HT3.out.1 id) T4 id) TP (by omega))
  have HH4 := Lib.hid TH4
  have HW5 := Lib.hid hW5
  clear hW4 R4 T4 B4 TH4 TP hge hlt hcl hW5
  go_upto_region 4 with (first
    | ((with_reducible show wpList _ _ _ ({ dst := some 8, op := Op.load 49 _, type := _, pos := _, after := _, guard := _ } :: _) _ _); refine wpList_load_mid rfl 49 _ rfl W2.heap.size 0 rfl _ _ HR3.out Tryz.underlying49 rfl size49 ?_)
    | ((with_reducible show wpList _ _ _ ({ dst := none, op := Op.store 49 _ _, type := _, pos := _, after := _, guard := _ } :: _) _ _); refine wpList_store_mid rfl 49 _ _ rfl W3.heap.size 0 (dn 0).toArray rfl rfl HH4.out size49 (dn_one 0) ?_))
  rw [← (show W4 = (W3.alloc (.cells #[.int .i64 0, .int .i64 0, .int .i64 0, .int .i64 0, .int .i64 0, .int .i64 0, .int .i64 0, .int .i64 0, .int .i64 0, .int .i64 0, .int .i64 0, .int .i64 0, .string ⟨#[]⟩, .int .i64 0, .int .i64 0, .int .i64 0, .int .i64 0, .slice none 0 0] 49)).setCells W3.heap.size 0 (dn 0).toArray.toList from HW4.out)]
  go_upto_region 5 with fail
  rw [← HW5.out]
  clear c15 f15
  have x0 : W5.cell? ⟨w1.heap.size, 0, none⟩ = some (.int .i64 1) := by have := HC5.out 0 _ rfl; rwa [Nat.zero_add] at this
  have x1 : W5.cell? ⟨w1.heap.size, 1, none⟩ = some (.int .i64 1) := by have := HC5.out 1 _ rfl; rwa [Nat.zero_add] at this
  have x2 : W5.cell? ⟨w1.heap.size, 2, none⟩ = some (.int .i64 1) := by have := HC5.out 2 _ rfl; rwa [Nat.zero_add] at this
  have x3 : W5.cell? ⟨w1.heap.size, 3, none⟩ = some (.int .i64 1) := by have := HC5.out 3 _ rfl; rwa [Nat.zero_add] at this
  have x4 : W5.cell? ⟨w1.heap.size, 4, none⟩ = some (.int .i64 1) := by have := HC5.out 4 _ rfl; rwa [Nat.zero_add] at this
  have x5 : W5.cell? ⟨w1.heap.size, 5, none⟩ = some (.int .i64 1) := by have := HC5.out 5 _ rfl; rwa [Nat.zero_add] at this
  have x6 : W5.cell? ⟨w1.heap.size, 6, none⟩ = some (.int .i64 1) := by have := HC5.out 6 _ rfl; rwa [Nat.zero_add] at this
  have R6 := range_new W5 (dn 0) 49
  have T6 : Turn (fun _ => False) W5 (W5.alloc (.cells (dn 0).toArray 49)) := (Turn.refl _ _).alloc _
  have L6 := Lib.hid (L0.out _ _ R6)
  have H6 := Lib.hid (And.intro T6 (And.intro (range_turn HR4.out T6 id) (range_turn HC5.out T6 id)))
  clear R6 T6
  go_wp2_with ((with_reducible show wpList _ _ _ ({ dst := some 12, op := Op.load 49 _, type := _, pos := _, after := _, guard := _ } :: _) _ _); refine wpList_load_mid rfl 49 _ rfl W2.heap.size 0 rfl _ _ HR3'.out Tryz.underlying49 rfl size49 ?_; unfold dn)
  refine L6.out.mono ?_
  rintro x w7 ⟨rfl, T7⟩
  clear x0 x1 x2 x3 x4 x5 x6
  have C7 := range_turn H6.out.2.2 T7 id
  have R7 := range_turn H6.out.2.1 T7 id
  have HT7 := Lib.hid (HT5.out.trans (H6.out.1.trans T7))
  have HC7 := Lib.hid C7
  have HR7 := Lib.hid R7
  obtain ⟨d0, d1, d2, d3, d4, d5, d6, d7, d8, d9, d10, d11, d12, d13, d14, d15, d16, d17⟩ := dn_cells R7
  have x0 : w7.cell? ⟨w1.heap.size, 0, none⟩ = some (.int .i64 1) := by have := HC7.out 0 _ rfl; rwa [Nat.zero_add] at this
  have x1 : w7.cell? ⟨w1.heap.size, 1, none⟩ = some (.int .i64 1) := by have := HC7.out 1 _ rfl; rwa [Nat.zero_add] at this
  have x2 : w7.cell? ⟨w1.heap.size, 2, none⟩ = some (.int .i64 1) := by have := HC7.out 2 _ rfl; rwa [Nat.zero_add] at this
  have x3 : w7.cell? ⟨w1.heap.size, 3, none⟩ = some (.int .i64 1) := by have := HC7.out 3 _ rfl; rwa [Nat.zero_add] at this
  have x4 : w7.cell? ⟨w1.heap.size, 4, none⟩ = some (.int .i64 1) := by have := HC7.out 4 _ rfl; rwa [Nat.zero_add] at this
  have x5 : w7.cell? ⟨w1.heap.size, 5, none⟩ = some (.int .i64 1) := by have := HC7.out 5 _ rfl; rwa [Nat.zero_add] at this
  have x6 : w7.cell? ⟨w1.heap.size, 6, none⟩ = some (.int .i64 1) := by have := HC7.out 6 _ rfl; rwa [Nat.zero_add] at this
  have R8 := range_new w7 (dn 15) 49
  have L8 := Lib.hid (L1.out _ _ R8)
  have T8 : Turn (fun _ => False) w7 (w7.alloc (.cells (dn 15).toArray 49)) := (Turn.refl _ _).alloc _
  have HT8 := Lib.hid (HT7.out.trans T8)
  clear C7 R7 T7 R8 T8
  go_wp2_with fail
  refine L8.out.mono ?_
  rintro x w9 ⟨rfl, T9⟩
  have F := Lib.hid (HT8.out.trans T9)
  clear T9 d0 d1 d2 d3 d4 d5 d6 d7 d8 d9 d10 d11 d12 d13 d14 d15 d16 d17 x0 x1 x2 x3 x4 x5 x6
  go_wp2_with fail
  go_ret
  exact ⟨rfl, F.out⟩
end Go.Proofs.YtfahnmnglnddcaaGreatDoor
