/-
  The document's own log, in memory: what is looked at.
-/
import Derived.Test.YteokdibfdahabaaRf2
namespace Go.Proofs.Yteokdibfdahabaa
open Go.ChangeShapes Go.WideShapes Go.ChangeAt Go.RowKit
set_option linter.unusedVariables false
theorem rl_rd {P : Program} {w : World} {ops : Array Oper} {rest : List Oper} {o : Oper} {a : Act} {Q : Exit → Act → World → Prop} (hgd : o.guard = none) {v : Value}
    (hr : (execOp a.eval o).run P w = .ok (.value v) w) (h : wpList P ops Q rest (a.put o.dst v) w) : wpList P ops Q (o :: rest) a w := rl_val hgd hr h
theorem build51z (w : World) : (Instr.build 51 #[]).run Try.prog w = .ok (.agg zc.toArray) w := run_build w 51 _ _ (by kernel_rfl)
section
variable {w w' : World} {R : RB} {c : Cf} {s : LSt}
set_option maxRecDepth 100000 in
set_option maxHeartbeats 1000000 in
theorem RefAt.look_yes (h : RefAt w R c s) {i : Nat} {p : Int × Int} (hi : LiesB s (i : Int)) (hx : s.X (i : Int) = some p) :
    Calls Try.prog 46 #[.pointer (some ⟨R.r, 0, none⟩), .int .i64 (i : Int)] w fun e w' => e = .returned (.tuple #[.agg (cmdL p).toArray, .bool true]) ∧ Turn (fun _ => False) w w' := by
  obtain ⟨W, hW⟩ : ∃ W, W = w.alloc (.cells #[.int .i64 0, .int .i64 0, .int .i64 0, .int .i64 0, .int .i64 0, .int .i64 0, .int .i64 0, .int .i64 0, .int .i64 0, .int .i64 0, .int .i64 0, .slice none 0 0, .int .i64 0, .bool false] 51) := ⟨_, rfl⟩
  have T : Turn (fun _ => False) w W := by rw [hW]; exact (Turn.refl _ w).alloc _
  have Bk : Blk W w.heap.size 51 := by rw [hW]; exact Blk.new w zc 51
  have C : W.rangeAt w.heap.size 0 zc := by rw [hW]; exact range_new w zc 51
  have hh := h.keep T
  have H := Lib.hid (hh.lies_yes hi)
  obtain ⟨h1, h2, _⟩ := hi
  obtain ⟨g, cap, hv, hb, _, rows⟩ := hh.row (i := i) (by omega)
  have k7 := hh.k7
  rw [hv] at k7
  have RG : W.rangeAt g (i * 20 + 2) (cmdL p) := fun j u hu => by
    rw [← hh.cm i (by omega) (by omega) p hx] at hu
    have hj : j < 14 := by
      have := (List.getElem?_eq_some_iff.1 hu).1
      rw [(cmdL_is _).len] at this
      exact this
    rw [Nat.add_assoc]
    refine rows i (by omega) (2 + j) u ?_
    rw [Nat.add_comm 2 j]
    show (cmdL (R.D i).p ++ _)[j]? = some u
    rw [List.getElem?_append_left (by rw [(cmdL_is _).len]; exact hj)]
    exact hu
  have TH : W.there w.heap.size 0 14 := range_there C rfl Bk
  have T6 : Turn (fun k => k = w.heap.size) W (W.setCells w.heap.size 0 (cmdL p)) := Turn.setCells (cmdL p) 0 (Turn.refl _ W) (.inl rfl)
  have KE := Lib.hid (T.comp T6 (S := fun _ => False) (fun j hj e => by omega))
  have hc := Lib.hid (cmdL_is p)
  have m1 : (0 : Int) ≤ (i : Int) := by omega
  have m2 : (i : Int) < (s.tail : Int) := by omega
  have TH := Lib.hid TH
  have RG := Lib.hid RG
  clear T Bk C hh h h1 h2 hb hv rows T6 hx
  generalize cmdL p = cs at *
  generalize s.tail = n at *
  go_enter Try.func46, Try.ntmps46
  go_upto_region 1 with fail
  rw [← hW]
  clear hW
  generalize w.heap.size = b at *
  go_wp2_with fail
  with_reducible refine H.out.mono ?_
  rintro e w1 ⟨rfl, rfl⟩
  go_upto_region 4 with fail
  refine wp_region_lit ?_
  refine rl_rd rfl (v := ?_) ?hz1 ?_
  case hz1 => (go_simp; try with_reducible rfl)
  try simp only [Act.put, List.setIfInBounds_toArray, List.set_cons_zero, List.set_cons_succ]
  refine rl_rd rfl (v := ?_) ?hz2 ?_
  case hz2 => (go_simp; try with_reducible rfl)
  try simp only [Act.put, List.setIfInBounds_toArray, List.set_cons_zero, List.set_cons_succ]
  refine rl_rd rfl (v := ?_) ?hz3 ?_
  case hz3 => (go_simp; try with_reducible rfl)
  try simp only [Act.put, List.setIfInBounds_toArray, List.set_cons_zero, List.set_cons_succ]
  refine rl_rd rfl (v := ?_) ?hz4 ?_
  case hz4 => (go_simp; try with_reducible rfl)
  try simp only [Act.put, List.setIfInBounds_toArray, List.set_cons_zero, List.set_cons_succ]
  refine rl_rd rfl (v := ?_) ?hz5 ?_
  case hz5 => (go_simp; try with_reducible rfl)
  try simp only [Act.put, List.setIfInBounds_toArray, List.set_cons_zero, List.set_cons_succ]
  refine rl_rd rfl (v := ?_) ?hz6 ?_
  case hz6 => (go_simp; try with_reducible rfl)
  try simp only [Act.put, List.setIfInBounds_toArray, List.set_cons_zero, List.set_cons_succ]
  refine rl_rd rfl (v := ?_) ?hz7 ?_
  case hz7 => (go_simp; try with_reducible rfl)
  try simp only [Act.put, List.setIfInBounds_toArray, List.set_cons_zero, List.set_cons_succ]
  refine wpList_load_mid rfl 51 _ rfl g (i * 20 + 2) rfl cs _ RG.out Try.underlying51 rfl (by rw [hc.out.len]; exact size51) ?_
  try simp only [Act.put, List.setIfInBounds_toArray, List.set_cons_zero, List.set_cons_succ]
  refine wpList_store_mid rfl 51 _ _ rfl b 0 cs.toArray rfl rfl (by rw [List.size_toArray, hc.out.len]; exact TH.out) (by rw [List.size_toArray, hc.out.len]; exact size51) hc.out.one ?_
  try simp only [Act.put, List.setIfInBounds_toArray, List.set_cons_zero, List.set_cons_succ]
  go_wp2_with fail
  exact bodyPost_ret (v := .tuple #[.agg cs.toArray, .bool true]) (res_cell_tmp (a := 4) (k := 5) rfl rfl rfl (run_loadVar_mid _ b 0 51 cs _ (World.rangeAt_setCells_same _ b 0 cs (by rw [hc.out.len]; exact TH.out)) Try.underlying51 rfl (by rw [hc.out.len]; exact size51))) rfl ⟨rfl, KE.out⟩
set_option maxRecDepth 100000 in
set_option maxHeartbeats 1000000 in
theorem RefAt.look_no (h : RefAt w R c s) {at_ : Int} (hi : ¬ LiesB s at_) :
    Calls Try.prog 46 #[.pointer (some ⟨R.r, 0, none⟩), .int .i64 at_] w fun e w' => e = .returned (.tuple #[.agg zc.toArray, .bool false]) ∧ Turn (fun _ => False) w w' := by
  obtain ⟨W, hW⟩ : ∃ W, W = w.alloc (.cells #[.int .i64 0, .int .i64 0, .int .i64 0, .int .i64 0, .int .i64 0, .int .i64 0, .int .i64 0, .int .i64 0, .int .i64 0, .int .i64 0, .int .i64 0, .slice none 0 0, .int .i64 0, .bool false] 51) := ⟨_, rfl⟩
  have T : Turn (fun _ => False) w W := by rw [hW]; exact (Turn.refl _ w).alloc _
  have Bk : Blk W w.heap.size 51 := by rw [hW]; exact Blk.new w zc 51
  have C : W.rangeAt w.heap.size 0 zc := by rw [hW]; exact range_new w zc 51
  have hh := h.keep T
  have H := Lib.hid (hh.lies_no hi)
  have TH : W.there w.heap.size 0 14 := range_there C rfl Bk
  obtain ⟨cs, hcs⟩ : ∃ cs, cs = zc := ⟨_, rfl⟩
  have hc : IsCmd cs := by rw [hcs]; exact zc_is
  have BU : ∀ w, (Instr.build 51 #[]).run Try.prog w = .ok (.agg cs.toArray) w := fun w => by rw [hcs]; exact build51z w
  rw [← hcs]
  have hc := Lib.hid hc
  have BU := Lib.hid BU
  have T6 : Turn (fun k => k = w.heap.size) W (W.setCells w.heap.size 0 cs) := Turn.setCells cs 0 (Turn.refl _ W) (.inl rfl)
  have KE := Lib.hid (T.comp T6 (S := fun _ => False) (fun j hj e => by omega))
  have TH := Lib.hid TH
  clear T Bk C hh h T6 hi hcs
  go_enter Try.func46, Try.ntmps46
  go_upto_region 1 with fail
  rw [← hW]
  clear hW
  generalize w.heap.size = b at *
  go_wp2_with fail
  with_reducible refine H.out.mono ?_
  rintro e w1 ⟨rfl, rfl⟩
  go_upto_region 3 with fail
  refine wp_region_lit ?_
  refine rl_build rfl 51 _ rfl (vs := #[]) (v := .agg cs.toArray) (by simp) (BU.out _) ?_
  try simp only [Act.put, List.setIfInBounds_toArray, List.set_cons_zero, List.set_cons_succ]
  refine wpList_store_mid rfl 51 _ _ rfl b 0 cs.toArray rfl rfl (by rw [List.size_toArray, hc.out.len]; exact TH.out) (by rw [List.size_toArray, hc.out.len]; exact size51) hc.out.one ?_
  try simp only [Act.put, List.setIfInBounds_toArray, List.set_cons_zero, List.set_cons_succ]
  go_wp2_with fail
  exact bodyPost_ret (v := .tuple #[.agg cs.toArray, .bool false]) (res_cell_tmp (a := 4) (k := 5) rfl rfl rfl (run_loadVar_mid _ b 0 51 cs _ (World.rangeAt_setCells_same _ b 0 cs (by rw [hc.out.len]; exact TH.out)) Try.underlying51 rfl (by rw [hc.out.len]; exact size51))) rfl ⟨rfl, KE.out⟩
theorem RefAt.look_is (h : RefAt w R c s) {at_ : Int} (hX : (s.X at_).isSome = true → LiesB s at_) :
    Calls Try.prog 46 #[.pointer (some ⟨R.r, 0, none⟩), .int .i64 at_] w fun e w' => e = .returned (.tuple #[.agg (cmdL ((s.X at_).getD (0, 0))).toArray, .bool (s.X at_).isSome]) ∧ Turn (fun _ => False) w w' := by
  cases hx : s.X at_ with
  | none => exact h.look_no (fun f => by have := f.2.2; rw [hx] at this; cases this)
  | some p =>
    have hl := hX (by rw [hx]; rfl)
    obtain ⟨i, rfl⟩ : ∃ i : Nat, at_ = (i : Int) := ⟨at_.toNat, by have := hl.1; omega⟩
    exact h.look_yes hl hx
end
end Go.Proofs.Yteokdibfdahabaa
