/-
  A query is ended that is not there.
-/
import Derived.Test.YtepmealhnnoahaaQk6
namespace Go.Proofs.Ytepmealhnnoahaa
open Go.ChangeShapes Go.WideShapes Go.ChangeAt Go.RowKit
set_option linter.unusedVariables false set_option linter.unusedSimpArgs false
section
variable {w : World} {d mb : Nat} {qu ou : Int} {cnt m : Nat} {Q : Int → Option Wt}
set_option maxRecDepth 100000 in
set_option maxHeartbeats 2000000 in
theorem DeskAt.unregister_no (h : DeskAt w d mb qu ou cnt m Q) {i : Int} (hi : (Lit.int .i64 i).wf = true) (hq : Q i = none) (lg : Value) :
    Calls Try.prog 30 #[.pointer (some ⟨d, 0, none⟩), .int .i64 i, lg] w fun e w' => e = .returned (.agg (ansL 15 0).toArray) ∧ Turn (fun _ => False) w w' := by
  obtain ⟨cs, hcs⟩ : ∃ cs, ansL 15 0 = cs := ⟨_, rfl⟩
  have HCS := Lib.hid hcs
  rw [hcs]
  clear hcs
  obtain ⟨W, hW⟩ : ∃ W, W = w.alloc (.cells #[.int .i64 0, .int .i64 0, .slice none 0 0] 53) := ⟨_, rfl⟩
  have T : Turn (fun _ => False) w W := by rw [hW]; exact (Turn.refl _ w).alloc _
  have Bk : Blk W w.heap.size 53 := by rw [hW]; exact Blk.new w [.int .i64 0, .int .i64 0, .slice none 0 0] 53
  have C : W.rangeAt w.heap.size 0 [.int .i64 0, .int .i64 0, .slice none 0 0] := by rw [hW]; exact range_new w [.int .i64 0, .int .i64 0, .slice none 0 0] 53
  have hh := h.keep T
  have c7 := hh.c7
  have LK := hh.mp.look (t := 80) (e := 94) Try.underlying3 Try.underlying80 (zero94 W) hi
  rw [hq] at LK
  unfold Wt.zero Wt.val Wt.sl at LK
  dsimp only [Option.getD_none, Option.isSome_none, Option.map_none] at LK
  have HC := Lib.hid (show cs.length = 3 ∧ cs.toArray.all (·.oneCell') = true by rw [← HCS.out]; exact ansL_is 15 0)
  have BU := Lib.hid (show ∀ w, (Instr.build 53 #[(0, .int .i64 15)]).run Try.prog w = .ok (.agg cs.toArray) w from fun w => by rw [← HCS.out]; exact build53e 15 w)
  have TX : Turn (fun _ => False) W (W.alloc (.cells #[.slice none 0 0, .bool false] 94)) := (Turn.refl _ W).alloc _
  have TH := Lib.hid (show (W.alloc (.cells #[.slice none 0 0, .bool false] 94)).there w.heap.size 0 3 from range_there (range_turn C TX (fun f => f)) rfl (Bk.turn TX (fun f => f)))
  have FIN := Lib.hid (show Turn (fun _ => False) w ((W.alloc (.cells #[.slice none 0 0, .bool false] 94)).setCells w.heap.size 0 cs) from (T.trans TX).comp (Turn.setCells cs 0 (show Turn (fun k => k = w.heap.size) _ _ from Turn.refl _ _) (.inl rfl)) (fun k hk e => by omega))
  clear T Bk C hh h TX
  go_enter Try.func30, Try.ntmps30
  go_upto_region 1 with fail
  rw [← hW]
  clear hW
  generalize w.heap.size = b at *
  go_upto_region 3 with fail
  refine wp_region_lit ?_
  refine rl_build rfl 53 _ rfl (vs := #[(0, .int .i64 15)]) (v := .agg cs.toArray) (by simp [Act.eval]) (BU.out _) ?_
  try simp only [Act.put, List.setIfInBounds_toArray, List.set_cons_zero, List.set_cons_succ]
  refine wpList_store_mid rfl 53 _ _ rfl b 0 cs.toArray rfl rfl (by rw [List.size_toArray, HC.out.1]; exact TH.out) (by rw [List.size_toArray, HC.out.1]; exact size53) HC.out.2 ?_
  try simp only [Act.put, List.setIfInBounds_toArray, List.set_cons_zero, List.set_cons_succ]
  go_wp2_with fail
  exact bodyPost_ret (v := .agg cs.toArray) (res_cell (a := 6) rfl rfl (run_loadVar_mid _ b 0 53 cs _ (World.rangeAt_setCells_same _ b 0 cs (by rw [HC.out.1]; exact TH.out)) Try.underlying53 rfl (by rw [HC.out.1]; exact size53))) rfl ⟨rfl, FIN.out⟩
end
end Go.Proofs.Ytepmealhnnoahaa
