/-
  No log: what its functions answer, further on.
-/
import Derived.Test.YteokdibfdahabaaLz
namespace Go.Proofs.Yteokdibfdahabaa
open Go.ChangeShapes Go.WideShapes Go.ChangeAt Go.RowKit
set_option linter.unusedVariables false
theorem build51 (w : World) : (Instr.build 51 #[]).run Try.prog w = .ok (.agg zc.toArray) w := run_build w 51 _ _ (by kernel_rfl)
set_option maxRecDepth 100000 in
set_option maxHeartbeats 1000000 in
theorem nil_ready (w : World) : Calls Try.prog 55 #[.pointer none] w fun e w' => e = .returned (.tuple #[.agg zc.toArray, .bool false]) ∧ Turn (fun _ => False) w w' := by
  obtain ⟨W, hW⟩ : ∃ W, W = w.alloc (.cells #[.int .i64 0, .int .i64 0, .int .i64 0, .int .i64 0, .int .i64 0, .int .i64 0, .int .i64 0, .int .i64 0, .int .i64 0, .int .i64 0, .int .i64 0, .slice none 0 0, .int .i64 0, .bool false] 51) := ⟨_, rfl⟩
  have T : Turn (fun _ => False) w W := by rw [hW]; exact (Turn.refl _ w).alloc _
  have Bk : Blk W w.heap.size 51 := by rw [hW]; exact Blk.new w zc 51
  have C : W.rangeAt w.heap.size 0 zc := by rw [hW]; exact range_new w zc 51
  have L := Lib.hid (nil_low W)
  have KX := Lib.hid (And.intro T (And.intro Bk C))
  have BU := Lib.hid build51
  have ZC := Lib.hid zc_is
  clear T Bk C
  generalize zc = z at *
  go_enter Try.func55, Try.ntmps55
  go_upto_region 1 with fail
  rw [← hW]
  clear hW
  generalize hb2 : w.heap.size = b2 at *
  have HB := Lib.hid hb2
  clear hb2
  go_wp2_with fail
  with_reducible refine L.out.mono ?_
  rintro e w1 ⟨rfl, T1⟩
  obtain ⟨W4, hW4⟩ : ∃ W4, W4 = w1.alloc (.cells #[.int .i64 0] 3) := ⟨_, rfl⟩
  have T2 : Turn (fun _ => False) W W4 := by rw [hW4]; exact T1.alloc _
  have TH : W4.there b2 0 14 := range_there (range_turn KX.out.2.2 T2 (fun f => f)) ZC.out.len (KX.out.2.1.turn T2 (fun f => f))
  have T3 : Turn (fun k => k = b2) W4 (W4.setCells b2 0 z) := Turn.setCells z 0 (Turn.refl _ W4) (.inl rfl)
  have KE := Lib.hid ((KX.out.1.trans T2).comp T3 (S := fun _ => False) (fun j hj e => by have := HB.out; omega))
  have TH' := Lib.hid TH
  clear TH T1 T2 T3 L
  go_upto_region 3 with fail
  rw [← hW4]
  clear hW4
  refine wp_region_lit ?_
  refine rl_build rfl 51 _ rfl (vs := #[]) (by simp) (BU.out _) ?_
  try simp only [Act.put, List.setIfInBounds_toArray, List.set_cons_zero, List.set_cons_succ]
  refine wpList_store_mid rfl 51 _ _ rfl b2 0 z.toArray rfl rfl (by rw [List.size_toArray, ZC.out.len]; exact TH'.out) (by rw [List.size_toArray, ZC.out.len]; exact size51) ZC.out.one ?_
  try simp only [Act.put, List.setIfInBounds_toArray, List.set_cons_zero, List.set_cons_succ]
  refine rl_val rfl (v := .bool false) rfl ?_
  try simp only [Act.put, List.setIfInBounds_toArray, List.set_cons_zero, List.set_cons_succ]
  go_wp2_with fail
  exact bodyPost_ret (v := .tuple #[.agg z.toArray, .bool false]) (res_cell_tmp (a := 2) (k := 3) rfl rfl rfl (run_loadVar_mid _ b2 0 51 z _ (World.rangeAt_setCells_same _ b2 0 z (by rw [ZC.out.len]; exact TH'.out)) Try.underlying51 rfl (by rw [ZC.out.len]; exact size51))) rfl ⟨rfl, KE.out⟩
set_option maxRecDepth 100000 in
set_option maxHeartbeats 1000000 in
theorem nil_collect (w : World) : Calls Try.prog 29 #[.pointer none] w fun e w' => e = .returned (.tuple #[.slice none 0 0, .bool false]) ∧ Turn (fun _ => False) w w' := by
  have R := Lib.hid (nil_ready w)
  have hc := Lib.hid zc_is
  go_enter Try.func29, Try.ntmps29
  go_wp2_with fail
  with_reducible refine R.out.mono ?_
  rintro e W2 ⟨rfl, T2⟩
  dsimp only
  refine (‹∀ (a : Act) (w : World), wpList _ _ _ _ a w → _›) _ _ ?_
  refine rl_val rfl (v := .tuple #[.agg zc.toArray, .bool false]) rfl ?_
  try simp only [Act.put, List.setIfInBounds_toArray, List.set_cons_zero, List.set_cons_succ]
  refine rl_val rfl (v := .agg zc.toArray) rfl ?_
  try simp only [Act.put, List.setIfInBounds_toArray, List.set_cons_zero, List.set_cons_succ]
  refine rl_val rfl (v := .bool false) rfl ?_
  try simp only [Act.put, List.setIfInBounds_toArray, List.set_cons_zero, List.set_cons_succ]
  refine rl_val rfl (alloc51 _ _ rfl) ?_
  try simp only [Act.put, List.setIfInBounds_toArray, List.set_cons_zero, List.set_cons_succ]
  obtain ⟨W3, hW3⟩ : ∃ W, W = W2.alloc (.cells zc.toArray 51) := ⟨_, rfl⟩
  rw [← hW3]
  have T3 : Turn (fun _ => False) W2 W3 := by rw [hW3]; exact (Turn.refl _ W2).alloc _
  have B3 : Blk W3 W2.heap.size 51 := by rw [hW3]; exact Blk.new W2 zc 51
  have C3 : W3.there W2.heap.size 0 14 := range_there (by rw [hW3]; exact range_new W2 zc 51) rfl B3
  have hb4 : w.heap.size ≤ W2.heap.size := T2.size
  clear hW3
  generalize W2.heap.size = b4 at *
  refine wpList_store_mid rfl 51 _ _ rfl b4 0 zc.toArray rfl rfl C3 size51 hc.out.one ?_
  try simp only [Act.put, List.setIfInBounds_toArray, List.set_cons_zero, List.set_cons_succ]
  change wpList _ _ _ _ _ (W3.setCells b4 0 zc)
  have T4 : Turn (fun k => k = b4) W3 (W3.setCells b4 0 zc) := Turn.setCells zc 0 (Turn.refl _ W3) (.inl rfl)
  have T14 := Lib.hid (show Turn (fun _ => False) w (W3.setCells b4 0 zc) from ((T2.trans T3).comp T4 (fun j hj e => by omega)))
  generalize W3.setCells b4 0 zc = W4 at *
  clear T3 B3 C3 T4 T2 R hb4
  go_wp2_with fail
  go_ret2
  exact ⟨rfl, T14.out⟩
set_option maxRecDepth 100000 in
set_option maxHeartbeats 1000000 in
theorem nil_reply (w : World) : Calls Try.prog 25 #[.pointer none, .agg #[.int .i64 0, .int .i64 0, .slice none 0 0]] w fun e w' => e = .returned (.bool false) ∧ Turn (fun _ => False) w w' := by
  obtain ⟨W, hW⟩ : ∃ W, W = w.alloc (.cells #[.int .i64 0, .int .i64 0, .slice none 0 0] 67) := ⟨_, rfl⟩
  have T0 := Lib.hid (show Turn (fun _ => False) w W by rw [hW]; exact (Turn.refl _ w).alloc _)
  have R := Lib.hid (nil_ready W)
  have hc := Lib.hid zc_is
  go_enter Try.func25, Try.ntmps25
  go_upto_region 1 with fail
  rw [← hW]
  clear hW
  go_wp2_with fail
  with_reducible refine R.out.mono ?_
  rintro e W2 ⟨rfl, T2⟩
  dsimp only
  refine (‹∀ (a : Act) (w : World), wpList _ _ _ _ a w → _›) _ _ ?_
  refine rl_val rfl (v := .tuple #[.agg zc.toArray, .bool false]) rfl ?_
  try simp only [Act.put, List.setIfInBounds_toArray, List.set_cons_zero, List.set_cons_succ]
  refine rl_val rfl (v := .agg zc.toArray) rfl ?_
  try simp only [Act.put, List.setIfInBounds_toArray, List.set_cons_zero, List.set_cons_succ]
  refine rl_val rfl (v := .bool false) rfl ?_
  try simp only [Act.put, List.setIfInBounds_toArray, List.set_cons_zero, List.set_cons_succ]
  refine rl_val rfl (alloc51 _ _ rfl) ?_
  try simp only [Act.put, List.setIfInBounds_toArray, List.set_cons_zero, List.set_cons_succ]
  obtain ⟨W3, hW3⟩ : ∃ W, W = W2.alloc (.cells zc.toArray 51) := ⟨_, rfl⟩
  rw [← hW3]
  have T3 : Turn (fun _ => False) W2 W3 := by rw [hW3]; exact (Turn.refl _ W2).alloc _
  have B3 : Blk W3 W2.heap.size 51 := by rw [hW3]; exact Blk.new W2 zc 51
  have C3 : W3.there W2.heap.size 0 14 := range_there (by rw [hW3]; exact range_new W2 zc 51) rfl B3
  have hb4 : W.heap.size ≤ W2.heap.size := T2.size
  clear hW3
  generalize W2.heap.size = b4 at *
  refine wpList_store_mid rfl 51 _ _ rfl b4 0 zc.toArray rfl rfl C3 size51 hc.out.one ?_
  try simp only [Act.put, List.setIfInBounds_toArray, List.set_cons_zero, List.set_cons_succ]
  change wpList _ _ _ _ _ (W3.setCells b4 0 zc)
  have T4 : Turn (fun k => k = b4) W3 (W3.setCells b4 0 zc) := Turn.setCells zc 0 (Turn.refl _ W3) (.inl rfl)
  have T14 := Lib.hid (T0.out.trans (show Turn (fun _ => False) W (W3.setCells b4 0 zc) from ((T2.trans T3).comp T4 (fun j hj e => by omega))))
  generalize W3.setCells b4 0 zc = W4 at *
  clear T3 B3 C3 T4 T2 R hb4
  go_wp2_with fail
  go_ret
  exact ⟨rfl, T14.out⟩
set_option maxRecDepth 100000 in
theorem nil_config (w : World) : Calls Try.prog 15 #[.pointer none] w fun e w' => e = .returned (.agg #[.int .i64 0, .int .i64 0, .int .i64 0, .int .i64 0, .int .i64 0, .int .i64 0, .int .i64 0]) ∧ Turn (fun _ => False) w w' := by
  go_enter Try.func15, Try.ntmps15
  go_wp2
  refine bodyPost_ret (v := .agg #[.int .i64 0, .int .i64 0, .int .i64 0, .int .i64 0, .int .i64 0, .int .i64 0, .int .i64 0]) (by simp [results, Try.results15, go_sem]) rfl ⟨rfl, (Turn.refl _ w).alloc _⟩
set_option maxRecDepth 100000 in
theorem nil_store (w : World) : Calls Try.prog 31 #[.pointer none] w fun e w' => e = .returned (.pointer none) ∧ Turn (fun _ => False) w w' := by
  go_enter Try.func31, Try.ntmps31
  go_wp2
  go_ret
  exact ⟨rfl, Turn.refl _ _⟩
set_option maxRecDepth 100000 in
theorem nil_epochs (w : World) : Calls Try.prog 32 #[.pointer none] w fun e w' => e = .returned (.pointer none) ∧ Turn (fun _ => False) w w' := by
  go_enter Try.func32, Try.ntmps32
  go_wp2
  go_ret
  exact ⟨rfl, Turn.refl _ _⟩
end Go.Proofs.Yteokdibfdahabaa
