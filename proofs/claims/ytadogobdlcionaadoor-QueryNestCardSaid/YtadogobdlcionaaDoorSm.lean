/-
  A part is put on a stack.
-/
import Derived.Test.YtadogobdlcionaaDoorSl
namespace Go.Proofs.YtadogobdlcionaaDoor
open Go.ChangeShapes Go.WideShapes Go.ChangeAt Go.RowKit Go.Shelf
set_option linter.unusedVariables false
theorem info91 : (Tryd.prog.info? 91).map (fun i => (i.zero, i.size, i.bytes)) = some (some (.agg #[.pointer none, .pointer none, .int .i64 0]), 3, 24) := by kernel_rfl
theorem part_add {w : World} {base : Nat} {v : Value} {S : List (Pcs × Int)} (ho : w.ownsRow base 91 3 v S.length (stkC S)) (hn : S.length ≤ 1000000) (hb : base ≤ w.heap.size) (p : Pcs × Int) :
    ∃ v' w2, (Builtin.append_ #[88, 88] 88 #[v, .slice (some ⟨w.heap.size, 0, none⟩) 1 1]).run Tryd.prog (w.alloc (.cells (partC p).toArray 91)) = .ok v' w2 ∧ w2.ownsRow base 91 3 v' (S ++ [p]).length (stkC (S ++ [p])) ∧ Turn (fun k => v.ownBlock = some k) w w2 := by
  have T1 : Turn (fun _ => False) w (w.alloc (.cells (partC p).toArray 91)) := (Turn.refl _ w).alloc _
  have ho1 := own_turn ho T1 (fun _ _ q => q)
  obtain ⟨i3, j1, j2, j3, j4⟩ := info_parts info91
  obtain ⟨v', w2, hrun, ho2, hg, _, hbl⟩ := run_append_own_at (w.alloc (.cells (partC p).toArray 91)) base 88 88 91 i3 _ 3 24 Tryd.underlying88 j1 j2 j3 j4 rfl (by decide) _ _ _ ho1 ⟨w.heap.size, 0, none⟩ 1 1 (partC p) rfl
    (cells_new w (partC p) 91 _ rfl) (fun u hu => by
      simp only [partC, ptL, List.mem_cons, List.not_mem_nil, or_false] at hu
      rcases hu with rfl | rfl | rfl <;> rfl) (by unfold maxLen; omega) (by omega) (by rw [World.size_alloc]; omega)
  exact ⟨v', w2, hrun, by rw [List.length_append, stkC_snoc]; exact ho2, (T1.more (fun _ _ q => q.elim)).trans ((Turn.refl _ _).grown hg (fun k hk => .inl hk))⟩
set_option maxRecDepth 100000 in
set_option maxHeartbeats 2000000 in
theorem push_is (w : World) {sb base : Nat} {S : List (Pcs × Int)} {v : Value} {p : Pcs × Int} (h : StkAt w sb base S v) (hp : PartAt w p.1 p.2 (partV p)) (hd : ∀ k ∈ blP p.1, k ∉ stkB S) (hn : S.length ≤ 1000000) (hb : base ≤ w.heap.size) :
    Calls Tryd.prog 41 #[partV p, .pointer (some ⟨sb, 0, none⟩)] w fun y w' => y = .returned (.tuple #[]) ∧ ∃ v', StkAt w' sb base (S ++ [p]) v' ∧ Turn (fun k => k = sb ∨ v.ownBlock = some k) w w' := by
  obtain ⟨a, b, ha, hb2⟩ := hp.some
  have hpv : partV p = .agg #[.pointer (some a), .pointer (some b), .int .i64 p.2] := by unfold partV; rw [ha, hb2]
  have hpc : partC p = ptL (some a) (some b) p.2 := by unfold partC; rw [ha, hb2]
  obtain ⟨W, hW⟩ : ∃ W, W = w.alloc (.cells #[.pointer (some a), .pointer (some b), .int .i64 p.2] 91) := ⟨_, rfl⟩
  have T0 : Turn (fun _ => False) w W := by rw [hW]; exact (Turn.refl _ _).alloc _
  have R1 : W.rangeAt w.heap.size 0 (ptL (some a) (some b) p.2) := by rw [hW]; exact range_new w (ptL (some a) (some b) p.2) 91
  have H := h.quiet T0
  obtain ⟨v2, w2, hrun, ho2, T2⟩ := part_add H.own hn (Nat.le_trans hb T0.size) p
  rw [hpc] at hrun
  obtain ⟨a2, c2, rfl, -⟩ := own_slice ho2
  obtain ⟨av, cv, rfl, -⟩ := own_slice h.own
  have n1 : ¬ (Value.slice av S.length cv).ownBlock = some sb := fun q => (own_blk h.own q).1.ne h.bl (by decide) rfl
  have cs := H.c
  have cs2 := T2.cell n1 H.c
  have B2 := H.bl.turn T2 n1
  have f2 := B2.fz
  have TP := Turn.put w2 sb 0 (.slice a2 (S ++ [p]).length c2)
  have q0 : W.cell? ⟨w.heap.size, 0, none⟩ = some (.pointer (some a)) := R1 0 _ rfl
  have q1 : W.cell? ⟨w.heap.size, 1, none⟩ = some (.pointer (some b)) := R1 1 _ rfl
  have q2 : W.cell? ⟨w.heap.size, 2, none⟩ = some (.int .i64 p.2) := R1 2 _ rfl
  have off : ∀ k, Blk w k 104 → ¬ (Value.slice av S.length cv).ownBlock = some k := fun k hk q => (own_blk h.own q).1.ne hk (by decide) rfl
  have ST : StkAt (w2.setCell ⟨sb, 0, none⟩ (.slice a2 (S ++ [p]).length c2)) sb base (S ++ [p]) (.slice a2 (S ++ [p]).length c2) := by
    refine ⟨B2.set _ _, World.cell?_setCell_same _ _ _ cs2, own_turn ho2 TP (fun k hk q => (own_blk ho2 hk).1.ne (show Blk w2 k 88 by rw [q]; exact B2) (by decide) rfl), fun q hq => ?_, ?_⟩
    · rw [List.mem_append] at hq
      rcases hq with hq | hq
      · exact (((h.pt q hq).turn T0 (fun _ _ => id)).turn T2 (fun k hk => off k ((h.pt q hq).blk k hk))).turn TP (fun k hk e => ((h.pt q hq).blk k hk).ne h.bl (by decide) e)
      · simp only [List.mem_singleton] at hq
        subst hq
        exact ((hp.turn T0 (fun _ _ => id)).turn T2 (fun k hk => off k (hp.blk k hk))).turn TP (fun k hk e => (hp.blk k hk).ne h.bl (by decide) e)
    · rw [stkB_snoc, List.nodup_append]
      refine ⟨h.nd, ?_, fun x hx y hy e => hd y hy (e ▸ hx)⟩
      obtain ⟨_, _, _, _, _, _, n⟩ := hp
      exact n
  have TT : Turn (fun k => k = sb ∨ (Value.slice av S.length cv).ownBlock = some k) w (w2.setCell ⟨sb, 0, none⟩ (.slice a2 (S ++ [p]).length c2)) := (((T0.more (fun _ _ f => f.elim)).trans (T2.more (fun k _ q => .inr q)))).trans (TP.more (fun k _ q => .inl q))
  have F := Lib.hid (And.intro ST TT)
  have RUN := Lib.hid hrun
  have HW := Lib.hid hW
  rw [hpv]
  clear hW T0 R1 H ho2 T2 n1 B2 TP off ST TT hrun hpv hpc hp hd
  go_enter Tryd.func41, Tryd.ntmps41
  go_upto_region 1 with fail
  rw [← HW.out]
  clear HW
  go_wp2_with (refine rl_append_run (by rfl) _ _ _ (by rfl) (by rfl) (by rfl) RUN.out ?_)
  go_end0
  have FO := F.out
  have hll : (S ++ [p]).length = S.length + 1 := by simp
  simp only [hll] at FO
  exact ⟨rfl, _, FO⟩
end Go.Proofs.YtadogobdlcionaaDoor
