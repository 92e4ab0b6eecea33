/-
  A ring of what workers tell: Drop, where there is nothing.
-/
import Derived.Test.YtgfobgabdafclaaGreatLo
namespace Go.Proofs.YtgfobgabdafclaaGreat
open Go.ChangeShapes Go.WideShapes Go.ChangeAt Go.RowKit
set_option linter.unusedVariables false
section
variable {w w' : World} {r pb n low : Nat} {X : Int → Option (List Value)}
set_option maxRecDepth 100000 in
set_option maxHeartbeats 2000000 in
theorem OR.drop_no (h : OR w r pb n low X) (hx : X low = none) :
    Calls Tryz.prog 260 #[.pointer (some ⟨r, 0, none⟩)] w fun e w' => (∃ v, e = .returned v) ∧ Turn (fun _ => False) w w' := by
  obtain ⟨W, hW⟩ : ∃ W, W = w.alloc (.cells #[.slice none 0 0, .slice none 0 0, .slice none 0 0, .slice none 0 0] 57) := ⟨_, rfl⟩
  have T : Turn (fun _ => False) w W := by rw [hW]; exact (Turn.refl _ w).alloc _
  have B : Blk W w.heap.size 57 := by rw [hW]; exact Blk.new w zo 57
  have C : W.rangeAt w.heap.size 0 zo := by rw [hW]; exact range_new w zo 57
  have hh := h.turn T (fun f => f) (fun f => f)
  have H := Lib.hid hh.low_is
  have G := Lib.hid (hh.get_any (at_ := (low : Int)) (by have := h.l2; omega))
  have K := Lib.hid (And.intro T (And.intro B C))
  have hc := Lib.hid (h.cmd low)
  rw [hx] at G
  have hc : Hid (IsOut zo) := Lib.hid zo_is
  clear T B C h hh hx
  have CN : Hid (∀ w : World, (w.alloc (.cells #[.slice none 0 0, .slice none 0 0, .slice none 0 0, .slice none 0 0] 57)).rangeAt w.heap.size 0 zo) := Lib.hid (fun w : World => range_new w zo 57)
  have G : Hid (Calls Tryz.prog 188 #[.pointer (some ⟨r, 0, none⟩), .int .i64 (low : Int)] W fun e w' => e = .returned (.tuple #[.agg zo.toArray, .bool false]) ∧ Turn (fun _ => False) W w') := G
  generalize hz : zo = cs at *
  have HZ := Lib.hid hz
  clear hz
  go_enter Tryz.func260, Tryz.ntmps260
  go_upto_region 1 with fail
  rw [← hW]
  clear hW
  generalize hbb : w.heap.size = b at *
  have HB := Lib.hid hbb
  clear hbb
  go_wp2_with fail
  with_reducible refine H.out.mono ?_
  rintro e W1 ⟨rfl, rfl⟩
  go_wp2_with fail
  with_reducible refine G.out.mono ?_
  rintro e W2 ⟨rfl, T2⟩
  dsimp only
  refine (‹∀ (a : Act) (w : World), wpList _ _ _ _ a w → _›) _ _ ?_
  refine rl_val rfl (v := .tuple #[.agg cs.toArray, .bool false]) rfl ?_
  try simp only [Act.put, List.setIfInBounds_toArray, List.set_cons_zero, List.set_cons_succ]
  refine rl_val rfl (v := .agg cs.toArray) rfl ?_
  try simp only [Act.put, List.setIfInBounds_toArray, List.set_cons_zero, List.set_cons_succ]
  refine rl_val rfl (v := .bool false) rfl ?_
  try simp only [Act.put, List.setIfInBounds_toArray, List.set_cons_zero, List.set_cons_succ]
  refine rl_val rfl (alloc62 _ _ rfl) ?_
  try simp only [Act.put, List.setIfInBounds_toArray, List.set_cons_zero, List.set_cons_succ]
  obtain ⟨W3, hW3⟩ : ∃ W, W = W2.alloc (.cells zo.toArray 57) := ⟨_, rfl⟩
  rw [← hW3]
  have T3 : Turn (fun _ => False) W2 W3 := by rw [hW3]; exact (Turn.refl _ W2).alloc _
  have B3 : Blk W3 W2.heap.size 57 := by rw [hW3]; exact Blk.new W2 zo 57
  have C3 : W3.there W2.heap.size 0 4 := range_there (by rw [hW3]; exact range_new W2 zo 57) rfl B3
  have hb4 : W.heap.size ≤ W2.heap.size := T2.size
  clear hW3
  generalize W2.heap.size = b4 at *
  refine wpList_store_mid rfl 57 _ _ rfl b4 0 cs.toArray rfl rfl (by rw [List.size_toArray, hc.out.len]; exact C3) (by rw [List.size_toArray, hc.out.len]; exact size62) hc.out.one ?_
  try simp only [Act.put, List.setIfInBounds_toArray, List.set_cons_zero, List.set_cons_succ]
  change wpList _ _ _ _ _ (W3.setCells b4 0 cs)
  have T4 : Turn (fun k => k = b4) W3 (W3.setCells b4 0 cs) := Turn.setCells cs 0 (Turn.refl _ W3) (.inl rfl)
  have T14 : Turn (fun _ => False) W (W3.setCells b4 0 cs) := ((T2.trans T3).comp T4 (fun j hj e => by omega))
  generalize W3.setCells b4 0 cs = W4 at *
  have K := Lib.hid (And.intro (K.out.1.trans T14) (And.intro (K.out.2.1.turn T14 (fun f => f)) (range_turn K.out.2.2 T14 (fun f => f))))
  clear T3 B3 C3 T4 T14 H G T2
  obtain ⟨W5, hW5⟩ : ∃ W, W = W4.alloc (.cells #[.slice none 0 0, .slice none 0 0, .slice none 0 0, .slice none 0 0] 57) := ⟨_, rfl⟩
  have T5 : Turn (fun _ => False) W4 W5 := by rw [hW5]; exact (Turn.refl _ W4).alloc _
  have R5 : W5.rangeAt W4.heap.size 0 cs := by rw [hW5]; exact CN.out W4
  have TH : W5.there b 0 4 := range_there (range_turn K.out.2.2 T5 (fun f => f)) hc.out.len (K.out.2.1.turn T5 (fun f => f))
  have T6 : Turn (fun k => k = b) W5 (W5.setCells b 0 cs) := Turn.setCells cs 0 (Turn.refl _ W5) (.inl rfl)
  have KE := Lib.hid ((K.out.1.trans T5).comp T6 (S := fun _ => False) (fun j hj e => by have := HB.out; omega))
  clear T5 T6
  go_upto_region 4 with fail
  rw [← hW5]
  clear hW5
  generalize W4.heap.size = b6 at *
  refine wp_region_lit ?_
  refine wpList_load_mid rfl 57 _ rfl b6 0 rfl cs _ R5 Tryz.underlying57 rfl (by rw [hc.out.len]; exact size62) ?_
  try simp only [Act.put, List.setIfInBounds_toArray, List.set_cons_zero, List.set_cons_succ]
  refine wpList_store_mid rfl 57 _ _ rfl b 0 cs.toArray rfl rfl (by rw [List.size_toArray, hc.out.len]; exact TH) (by rw [List.size_toArray, hc.out.len]; exact size62) hc.out.one ?_
  try simp only [Act.put, List.setIfInBounds_toArray, List.set_cons_zero, List.set_cons_succ]
  go_wp2_with fail
  exact bodyPost_ret (v := .tuple #[.agg cs.toArray, .bool false]) (res_cell_tmp (a := 2) (k := 3) rfl rfl rfl (run_loadVar_mid _ b 0 57 cs _ (World.rangeAt_setCells_same _ b 0 cs (by rw [hc.out.len]; exact TH)) Tryz.underlying57 rfl (by rw [hc.out.len]; exact size62))) rfl ⟨⟨_, rfl⟩, KE.out⟩
end
end Go.Proofs.YtgfobgabdafclaaGreat
