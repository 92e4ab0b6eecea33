/-
  A log in memory: Fill and Look.
-/
import Derived.Test.YtgfobgabdafclaaGreatLg4
namespace Go.Proofs.YtgfobgabdafclaaGreat
open Go.ChangeShapes Go.WideShapes Go.ChangeAt Go.RowKit
set_option linter.unusedVariables false
section
variable {w w' : World} {B : LB} {c : Cf} {s : LSt}
theorem updI_map {X : Int → Option (Int × Int)} {i : Int} {o : Option (Int × Int)} : updI (fun j => (X j).map cmdL) i (o.map cmdL) = fun j => (updI X i o j).map cmdL := by
  funext j
  by_cases e : j = i
  · subst e
    rw [updI_at, updI_at]
  · rw [updI_off _ _ e, updI_off _ _ e]
theorem cmd_get (o : Option (Int × Int)) : (o.map cmdL).getD zc = cmdL (o.getD (0, 0)) := by cases o <;> rfl
theorem foot_com {n k : Nat} (e : k = B.rc ∨ k = B.pc) : B.foot n k := e.elim (fun e => .inr (.inl e)) (fun e => .inr (.inr (.inl e)))
theorem LogAt.fill_yes (h : LogAt w B c s) {i : Nat} (ht : i < s.tail) (h1 : s.low ≤ i) (h2 : i < s.low + c.ib) (hx : s.X i = none) (p : Int × Int) :
    Calls Tryz.prog 29 #[.pointer (some ⟨B.l, 0, none⟩), .int .i64 (i : Int), .agg (cmdL p).toArray] w fun e w' => e = .returned (.bool true) ∧ LogAt w' B c { s with X := updI s.X i (some p) } ∧ Turn (B.foot c.sh) w w' := by
  refine h.fill_at (by omega) (cmdL_is p) rfl rfl rfl (fun W T => ?_)
  refine ((h.keep T).com.put h1 h2 (by show (s.X i).map cmdL = none; rw [hx]; rfl) (cmdL_is p)).mono ?_
  rintro e w' ⟨rfl, hc, T'⟩
  refine ⟨rfl, T', ?_, (T.more (fun _ _ f => f.elim)).trans (T'.more (fun _ _ e => foot_com e))⟩
  have hc : CR w' B.rc B.pc c.ib s.low (fun j => (updI s.X i (some p) j).map cmdL) := by rw [← updI_map]; exact hc
  exact (h.keep T).put_com T' (Nat.le_refl _) hc
theorem LogAt.fill_no (h : LogAt w B c s) {at_ : Int} (h0 : -1000000 ≤ at_) (h1 : (s.tail : Int) ≤ at_ ∨ at_ < (s.low : Int) ∨ (s.X at_).isSome = true) (p : Int × Int) :
    Calls Tryz.prog 29 #[.pointer (some ⟨B.l, 0, none⟩), .int .i64 at_, .agg (cmdL p).toArray] w fun e w' => e = .returned (.bool false) ∧ Turn (fun _ => False) w w' := by
  by_cases ht : at_ < (s.tail : Int)
  · refine h.fill_at ht (cmdL_is p) rfl rfl rfl (fun W T => ?_)
    have hb := h.st2
    refine ((h.keep T).com.put_no (at_ := at_) (by omega) ?_ (cmdL_is p)).mono ?_
    · rcases h1 with h1 | h1 | h1
      · omega
      · exact .inl h1
      · refine .inr (.inr ?_)
        show ((s.X at_).map cmdL).isSome = true
        rw [Option.isSome_map]
        exact h1
    · rintro e w' ⟨rfl, T'⟩
      exact ⟨rfl, T'.more (fun _ _ f => f.elim), T.trans T'⟩
  · exact h.fill_over ht (cmdL p)
set_option maxRecDepth 100000 in
set_option maxHeartbeats 2000000 in
theorem LogAt.look_is (h : LogAt w B c s) {at_ : Int} (h0 : -9000000000000000000 ≤ at_ ∧ at_ ≤ 9000000000000000000) :
    Calls Tryz.prog 154 #[.pointer (some ⟨B.l, 0, none⟩), .int .i64 at_] w fun e w' => e = .returned (.tuple #[.agg (cmdL ((s.X at_).getD (0, 0))).toArray, .bool (s.X at_).isSome]) ∧ Turn (fun _ => False) w w' := by
  obtain ⟨W, hW⟩ : ∃ W, W = w.alloc (.cells #[.int .i64 0, .int .i64 0, .int .i64 0, .int .i64 0, .int .i64 0, .int .i64 0, .int .i64 0, .int .i64 0, .int .i64 0, .int .i64 0, .int .i64 0, .slice none 0 0, .int .i64 0, .bool false] 60) := ⟨_, rfl⟩
  have T : Turn (fun _ => False) w W := by rw [hW]; exact (Turn.refl _ w).alloc _
  have Bk : Blk W w.heap.size 60 := by rw [hW]; exact Blk.new w zc 60
  have C : W.rangeAt w.heap.size 0 zc := by rw [hW]; exact range_new w zc 60
  have G := (h.keep T).com.get_any h0
  rw [cmd_get, Option.isSome_map] at G
  have G := Lib.hid G
  have K := Lib.hid (And.intro T (And.intro Bk C))
  have y11 := (h.keep T).k11
  have hc := Lib.hid (cmdL_is ((s.X at_).getD (0, 0)))
  have OC := Lib.hid (fun w => own_command w (cmdL_is ((s.X at_).getD (0, 0))) rfl rfl rfl)
  generalize cmdL ((s.X at_).getD (0, 0)) = cs at *
  generalize (s.X at_).isSome = t at *
  clear T Bk C h h0
  go_enter Tryz.func154, Tryz.ntmps154
  go_upto_region 3 with fail
  rw [← hW]
  clear hW
  generalize hbb : w.heap.size = b at *
  have HB := Lib.hid hbb
  clear hbb
  go_wp2_with fail
  with_reducible refine G.out.mono ?_
  rintro e W2 ⟨rfl, T2⟩
  dsimp only
  refine (‹∀ (a : Act) (w : World), wpList _ _ _ _ a w → _›) _ _ ?_
  refine rl_val rfl (v := .tuple #[.agg cs.toArray, .bool t]) rfl ?_
  try simp only [Act.put, List.setIfInBounds_toArray, List.set_cons_zero, List.set_cons_succ]
  refine rl_val rfl (v := .agg cs.toArray) rfl ?_
  try simp only [Act.put, List.setIfInBounds_toArray, List.set_cons_zero, List.set_cons_succ]
  refine rl_val rfl (v := .bool t) rfl ?_
  try simp only [Act.put, List.setIfInBounds_toArray, List.set_cons_zero, List.set_cons_succ]
  refine rl_val rfl (alloc51 _ _ rfl) ?_
  try simp only [Act.put, List.setIfInBounds_toArray, List.set_cons_zero, List.set_cons_succ]
  obtain ⟨W3, hW3⟩ : ∃ W, W = W2.alloc (.cells zc.toArray 60) := ⟨_, rfl⟩
  rw [← hW3]
  have T3 : Turn (fun _ => False) W2 W3 := by rw [hW3]; exact (Turn.refl _ W2).alloc _
  have B3 : Blk W3 W2.heap.size 60 := by rw [hW3]; exact Blk.new W2 zc 60
  have C3 : W3.there W2.heap.size 0 14 := range_there (by rw [hW3]; exact range_new W2 zc 60) rfl B3
  have hb4 : W.heap.size ≤ W2.heap.size := T2.size
  have hbw : b < W.heap.size := K.out.2.1.lt
  clear hW3
  generalize W2.heap.size = b4 at *
  refine wpList_store_mid rfl 60 _ _ rfl b4 0 cs.toArray rfl rfl (by rw [List.size_toArray, hc.out.len]; exact C3) (by rw [List.size_toArray, hc.out.len]; exact size51) hc.out.one ?_
  try simp only [Act.put, List.setIfInBounds_toArray, List.set_cons_zero, List.set_cons_succ]
  change wpList _ _ _ _ _ (W3.setCells b4 0 cs)
  have T4 : Turn (fun k => k = b4) W3 (W3.setCells b4 0 cs) := Turn.setCells cs 0 (Turn.refl _ W3) (.inl rfl)
  have R4 : (W3.setCells b4 0 cs).rangeAt b4 0 cs := World.rangeAt_setCells_same _ _ _ _ (by rw [hc.out.len]; exact C3)
  have T14 : Turn (fun _ => False) W (W3.setCells b4 0 cs) := ((T2.trans T3).comp T4 (fun j hj e => by omega))
  generalize W3.setCells b4 0 cs = W4 at *
  have OC := Lib.hid (OC.out W4)
  clear T3 B3 C3 T4 G T2
  go_upto_region 4 with fail
  refine wp_region_lit ?_
  refine wpList_load_mid rfl 60 _ rfl b4 0 rfl cs _ R4 Tryz.underlying60 rfl (by rw [hc.out.len]; exact size51) ?_
  try simp only [Act.put, List.setIfInBounds_toArray, List.set_cons_zero, List.set_cons_succ]
  go_wp2_with fail
  with_reducible refine OC.out.mono ?_
  rintro e W5 ⟨rfl, T5⟩
  dsimp only
  refine (‹∀ (a : Act) (w : World), wpList _ _ _ _ a w → _›) _ _ ?_
  refine rl_val rfl (v := .bool t) rfl ?_
  try simp only [Act.put, List.setIfInBounds_toArray, List.set_cons_zero, List.set_cons_succ]
  have T15 := T14.trans T5
  have TH : W5.there b 0 14 := range_there (range_turn K.out.2.2 T15 (fun f => f)) rfl (K.out.2.1.turn T15 (fun f => f))
  have T6 : Turn (fun k => k = b) W5 (W5.setCells b 0 cs) := Turn.setCells cs 0 (Turn.refl _ W5) (.inl rfl)
  have KE := Lib.hid ((K.out.1.trans T15).comp T6 (S := fun _ => False) (fun j hj e => by have := HB.out; omega))
  refine wpList_store_mid rfl 60 _ _ rfl b 0 cs.toArray rfl rfl (by rw [List.size_toArray, hc.out.len]; exact TH) (by rw [List.size_toArray, hc.out.len]; exact size51) hc.out.one ?_
  try simp only [Act.put, List.setIfInBounds_toArray, List.set_cons_zero, List.set_cons_succ]
  clear T6 T15 T14 T5
  go_wp2_with fail
  exact bodyPost_ret (v := .tuple #[.agg cs.toArray, .bool t]) (res_cell_tmp (a := 4) (k := 5) rfl rfl rfl (run_loadVar_mid _ b 0 60 cs _ (World.rangeAt_setCells_same _ b 0 cs (by rw [hc.out.len]; exact TH)) Tryz.underlying60 rfl (by rw [hc.out.len]; exact size51))) rfl ⟨rfl, KE.out⟩
end
end Go.Proofs.YtgfobgabdafclaaGreat
