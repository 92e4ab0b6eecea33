/-
  Matches that are asked for: where there is nothing to be had.
-/
import Derived.Test.YtepmealhnnoahaaQu
namespace Go.Proofs.Ytepmealhnnoahaa
open Go.ChangeShapes Go.WideShapes Go.ChangeAt Go.RowKit
set_option linter.unusedVariables false set_option linter.unusedSimpArgs false
section
variable {w : World} {d mb : Nat} {qu ou : Int} {cnt m : Nat} {Q : Int → Option Wt}
set_option maxRecDepth 100000 in
set_option maxHeartbeats 2000000 in
theorem DeskAt.poll_arg (h : DeskAt w d mb qu ou cnt m Q) {i most : Int} (hi : (Lit.int .i64 i).wf = true) (hm : most < 1) (lg : Value) :
    Calls Try.prog 32 #[.pointer (some ⟨d, 0, none⟩), .int .i64 i, .int .i64 most, lg] w fun e w' => e = .returned (.agg (ansL 1 0).toArray) ∧ Turn (fun _ => False) w w' := by
  obtain ⟨cs, hcs⟩ : ∃ cs, ansL 1 0 = cs := ⟨_, rfl⟩
  have HCS := Lib.hid hcs
  rw [hcs]
  clear hcs
  obtain ⟨W, hW⟩ : ∃ W, W = w.alloc (.cells #[.int .i64 0, .int .i64 0, .slice none 0 0] 53) := ⟨_, rfl⟩
  have T : Turn (fun _ => False) w W := by rw [hW]; exact (Turn.refl _ w).alloc _
  have Bk : Blk W w.heap.size 53 := by rw [hW]; exact Blk.new w [.int .i64 0, .int .i64 0, .slice none 0 0] 53
  have C : W.rangeAt w.heap.size 0 [.int .i64 0, .int .i64 0, .slice none 0 0] := by rw [hW]; exact range_new w [.int .i64 0, .int .i64 0, .slice none 0 0] 53
  have hh := h.keep T
  have t1 : decide (most < 1) = true := decide_eq_true hm
  have HC := Lib.hid (show cs.length = 3 ∧ cs.toArray.all (·.oneCell') = true by rw [← HCS.out]; exact ansL_is 1 0)
  have BU := Lib.hid (show ∀ w, (Instr.build 53 #[(0, .int .i64 1)]).run Try.prog w = .ok (.agg cs.toArray) w from fun w => by rw [← HCS.out]; exact build53e 1 w)
  have TX : Turn (fun _ => False) W W := Turn.refl _ W
  have TH := Lib.hid (show (W).there w.heap.size 0 3 from range_there (range_turn C TX (fun f => f)) rfl (Bk.turn TX (fun f => f)))
  have FIN := Lib.hid (show Turn (fun _ => False) w ((W).setCells w.heap.size 0 cs) from (T.trans TX).comp (Turn.setCells cs 0 (show Turn (fun k => k = w.heap.size) _ _ from Turn.refl _ _) (.inl rfl)) (fun k hk e => by omega))
  clear T Bk C hh h TX
  go_enter Try.func32, Try.ntmps32
  go_upto_region 1 with fail
  rw [← hW]
  clear hW
  generalize w.heap.size = b at *
  go_upto_region 2 with fail
  refine wp_region_lit ?_
  refine rl_build rfl 53 _ rfl (vs := #[(0, .int .i64 1)]) (v := .agg cs.toArray) (by simp [Act.eval]) (BU.out _) ?_
  try simp only [Act.put, List.setIfInBounds_toArray, List.set_cons_zero, List.set_cons_succ]
  refine wpList_store_mid rfl 53 _ _ rfl b 0 cs.toArray rfl rfl (by rw [List.size_toArray, HC.out.1]; exact TH.out) (by rw [List.size_toArray, HC.out.1]; exact size53) HC.out.2 ?_
  try simp only [Act.put, List.setIfInBounds_toArray, List.set_cons_zero, List.set_cons_succ]
  go_wp2_with fail
  exact bodyPost_ret (v := .agg cs.toArray) (res_cell (a := 8) rfl rfl (run_loadVar_mid _ b 0 53 cs _ (World.rangeAt_setCells_same _ b 0 cs (by rw [HC.out.1]; exact TH.out)) Try.underlying53 rfl (by rw [HC.out.1]; exact size53))) rfl ⟨rfl, FIN.out⟩
set_option maxRecDepth 100000 in
set_option maxHeartbeats 2000000 in
theorem DeskAt.poll_none (h : DeskAt w d mb qu ou cnt m Q) {i most : Int} (hi : (Lit.int .i64 i).wf = true) (hm : 1 ≤ most) (hq : Q i = none) (lg : Value) :
    Calls Try.prog 32 #[.pointer (some ⟨d, 0, none⟩), .int .i64 i, .int .i64 most, lg] w fun e w' => e = .returned (.agg (ansL 15 0).toArray) ∧ Turn (fun _ => False) w w' := by
  obtain ⟨cs, hcs⟩ : ∃ cs, ansL 15 0 = cs := ⟨_, rfl⟩
  have HCS := Lib.hid hcs
  rw [hcs]
  clear hcs
  obtain ⟨W, hW⟩ : ∃ W, W = w.alloc (.cells #[.int .i64 0, .int .i64 0, .slice none 0 0] 53) := ⟨_, rfl⟩
  have T : Turn (fun _ => False) w W := by rw [hW]; exact (Turn.refl _ w).alloc _
  have Bk : Blk W w.heap.size 53 := by rw [hW]; exact Blk.new w [.int .i64 0, .int .i64 0, .slice none 0 0] 53
  have C : W.rangeAt w.heap.size 0 [.int .i64 0, .int .i64 0, .slice none 0 0] := by rw [hW]; exact range_new w [.int .i64 0, .int .i64 0, .slice none 0 0] 53
  have hh := h.keep T
  have c7 := hh.c7
  have LK := hh.mp.look (t := 80) (e := 94) Try.underlying3 Try.underlying80 (zero94 W) hi
  rw [hq] at LK
  unfold Wt.zero Wt.val Wt.sl at LK
  dsimp only [Option.getD_none, Option.isSome_none, Option.map_none] at LK
  have t1 : decide (most < 1) = false := decide_eq_false (by omega)
  have HC := Lib.hid (show cs.length = 3 ∧ cs.toArray.all (·.oneCell') = true by rw [← HCS.out]; exact ansL_is 15 0)
  have BU := Lib.hid (show ∀ w, (Instr.build 53 #[(0, .int .i64 15)]).run Try.prog w = .ok (.agg cs.toArray) w from fun w => by rw [← HCS.out]; exact build53e 15 w)
  have TX : Turn (fun _ => False) W (W.alloc (.cells #[.slice none 0 0, .bool false] 94)) := (Turn.refl _ W).alloc _
  have TH := Lib.hid (show ((W.alloc (.cells #[.slice none 0 0, .bool false] 94))).there w.heap.size 0 3 from range_there (range_turn C TX (fun f => f)) rfl (Bk.turn TX (fun f => f)))
  have FIN := Lib.hid (show Turn (fun _ => False) w (((W.alloc (.cells #[.slice none 0 0, .bool false] 94))).setCells w.heap.size 0 cs) from (T.trans TX).comp (Turn.setCells cs 0 (show Turn (fun k => k = w.heap.size) _ _ from Turn.refl _ _) (.inl rfl)) (fun k hk e => by omega))
  clear T Bk C hh h TX
  go_enter Try.func32, Try.ntmps32
  go_upto_region 1 with fail
  rw [← hW]
  clear hW
  generalize w.heap.size = b at *
  go_upto_region 5 with fail
  refine wp_region_lit ?_
  refine rl_build rfl 53 _ rfl (vs := #[(0, .int .i64 15)]) (v := .agg cs.toArray) (by simp [Act.eval]) (BU.out _) ?_
  try simp only [Act.put, List.setIfInBounds_toArray, List.set_cons_zero, List.set_cons_succ]
  refine wpList_store_mid rfl 53 _ _ rfl b 0 cs.toArray rfl rfl (by rw [List.size_toArray, HC.out.1]; exact TH.out) (by rw [List.size_toArray, HC.out.1]; exact size53) HC.out.2 ?_
  try simp only [Act.put, List.setIfInBounds_toArray, List.set_cons_zero, List.set_cons_succ]
  go_wp2_with fail
  exact bodyPost_ret (v := .agg cs.toArray) (res_cell (a := 8) rfl rfl (run_loadVar_mid _ b 0 53 cs _ (World.rangeAt_setCells_same _ b 0 cs (by rw [HC.out.1]; exact TH.out)) Try.underlying53 rfl (by rw [HC.out.1]; exact size53))) rfl ⟨rfl, FIN.out⟩
set_option maxRecDepth 100000 in
set_option maxHeartbeats 2000000 in
theorem DeskAt.poll_lost (h : DeskAt w d mb qu ou cnt m Q) {i most : Int} (hi : (Lit.int .i64 i).wf = true) (hm : 1 ≤ most) {bk : Option Nat} {cap : Nat} (hq : Q i = some ⟨bk, 0, cap, true⟩) (lg : Value) :
    Calls Try.prog 32 #[.pointer (some ⟨d, 0, none⟩), .int .i64 i, .int .i64 most, lg] w fun e w' => e = .returned (.agg (ansL 20 0).toArray) ∧ Turn (fun _ => False) w w' := by
  obtain ⟨cs, hcs⟩ : ∃ cs, ansL 20 0 = cs := ⟨_, rfl⟩
  have HCS := Lib.hid hcs
  rw [hcs]
  clear hcs
  obtain ⟨W, hW⟩ : ∃ W, W = w.alloc (.cells #[.int .i64 0, .int .i64 0, .slice none 0 0] 53) := ⟨_, rfl⟩
  have T : Turn (fun _ => False) w W := by rw [hW]; exact (Turn.refl _ w).alloc _
  have Bk : Blk W w.heap.size 53 := by rw [hW]; exact Blk.new w [.int .i64 0, .int .i64 0, .slice none 0 0] 53
  have C : W.rangeAt w.heap.size 0 [.int .i64 0, .int .i64 0, .slice none 0 0] := by rw [hW]; exact range_new w [.int .i64 0, .int .i64 0, .slice none 0 0] 53
  have hh := h.keep T
  have c7 := hh.c7
  obtain ⟨ad, had⟩ : ∃ ad : Option Addr, bk.map (fun b => (⟨b, 0, none⟩ : Addr)) = ad := ⟨_, rfl⟩
  have LK := hh.mp.look (t := 80) (e := 94) Try.underlying3 Try.underlying80 (zero94 W) hi
  rw [hq] at LK
  unfold Wt.val Wt.sl at LK
  dsimp only [Option.getD_some, Option.isSome_some] at LK
  rw [had] at LK
  have t1 : decide (most < 1) = false := decide_eq_false (by omega)
  have HC := Lib.hid (show cs.length = 3 ∧ cs.toArray.all (·.oneCell') = true by rw [← HCS.out]; exact ansL_is 20 0)
  have BU := Lib.hid (show ∀ w, (Instr.build 53 #[(0, .int .i64 20)]).run Try.prog w = .ok (.agg cs.toArray) w from fun w => by rw [← HCS.out]; exact build53e 20 w)
  have TX : Turn (fun _ => False) W (W.alloc (.cells #[.slice ad 0 cap, .bool true] 94)) := (Turn.refl _ W).alloc _
  have TH := Lib.hid (show ((W.alloc (.cells #[.slice ad 0 cap, .bool true] 94))).there w.heap.size 0 3 from range_there (range_turn C TX (fun f => f)) rfl (Bk.turn TX (fun f => f)))
  have FIN := Lib.hid (show Turn (fun _ => False) w (((W.alloc (.cells #[.slice ad 0 cap, .bool true] 94))).setCells w.heap.size 0 cs) from (T.trans TX).comp (Turn.setCells cs 0 (show Turn (fun k => k = w.heap.size) _ _ from Turn.refl _ _) (.inl rfl)) (fun k hk e => by omega))
  clear T Bk C hh h TX
  go_enter Try.func32, Try.ntmps32
  go_upto_region 1 with fail
  rw [← hW]
  clear hW
  generalize w.heap.size = b at *
  go_upto_region 7 with fail
  refine wp_region_lit ?_
  refine rl_build rfl 53 _ rfl (vs := #[(0, .int .i64 20)]) (v := .agg cs.toArray) (by simp [Act.eval]) (BU.out _) ?_
  try simp only [Act.put, List.setIfInBounds_toArray, List.set_cons_zero, List.set_cons_succ]
  refine wpList_store_mid rfl 53 _ _ rfl b 0 cs.toArray rfl rfl (by rw [List.size_toArray, HC.out.1]; exact TH.out) (by rw [List.size_toArray, HC.out.1]; exact size53) HC.out.2 ?_
  try simp only [Act.put, List.setIfInBounds_toArray, List.set_cons_zero, List.set_cons_succ]
  go_wp2_with fail
  exact bodyPost_ret (v := .agg cs.toArray) (res_cell (a := 8) rfl rfl (run_loadVar_mid _ b 0 53 cs _ (World.rangeAt_setCells_same _ b 0 cs (by rw [HC.out.1]; exact TH.out)) Try.underlying53 rfl (by rw [HC.out.1]; exact size53))) rfl ⟨rfl, FIN.out⟩
end
end Go.Proofs.Ytepmealhnnoahaa
