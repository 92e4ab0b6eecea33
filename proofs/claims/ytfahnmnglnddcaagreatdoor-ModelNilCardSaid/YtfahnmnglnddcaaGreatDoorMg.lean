/-
  A model of no query; what it tells of a query's end; what a model that is none tells.
-/
import Derived.Test.YtfahnmnglnddcaaGreatDoorMf
namespace Go.Proofs.YtfahnmnglnddcaaGreatDoor
open Go.ChangeShapes Go.WideShapes Go.ChangeAt Go.RowKit
set_option linter.unusedVariables false
set_option maxRecDepth 100000 in
theorem made_nil (w : World) : Calls Tryz.prog 12 #[.pointer none] w fun x w' => x = .returned (.bool false) ∧ w' = w := by
  go_enter Tryz.func12, Tryz.ntmps12
  go_wp2_with fail
  go_ret
  exact ⟨rfl, rfl⟩
theorem map_nil (m : Nat) (W : World) : (binOp BinOp.neq 55 (.map (some m)) (.map none)).run Tryz.prog W = .ok (.bool true) W := by kernel_rfl
set_option maxRecDepth 100000 in
theorem made_is (w : World) {b m : Nat} (h : Mod w b m) : Calls Tryz.prog 12 #[.pointer (some ⟨b, 0, none⟩)] w fun x w' => x = .returned (.bool true) ∧ w' = w := by
  have c8 := h.c8
  have mn := fun W => map_nil m W
  clear h
  go_enter Tryz.func12, Tryz.ntmps12
  go_wp2_with fail
  go_ret
  exact ⟨rfl, rfl⟩
theorem size30 : (Tryz.prog.info? 30).map (fun i => i.size) = some 3 := by kernel_rfl
theorem size52 : (Tryz.prog.info? 52).map (fun i => i.size) = some 3 := by kernel_rfl
def ans (e : Int) : List Value := [.int .i64 e, .int .i64 0, .slice none 0 0]
set_option maxRecDepth 100000 in
theorem unreg_is (w : World) {b m : Nat} (h : Mod w b m) (k : Int) : Calls Tryz.prog 15 #[.pointer (some ⟨b, 0, none⟩), .int .i64 k] w fun x w' => x = .returned (.agg (ans 15).toArray) ∧ Turn (fun _ => False) w w' := by
  have T : Turn (fun _ => False) w (w.alloc (.cells #[.int .i64 0, .int .i64 0, .slice none 0 0] 30)) := (Turn.refl _ _).alloc _
  have h2 := h.turn T
  have c8 := h2.c8
  have lk := look_empty h2.mp k
  have lt := h.bl.lt
  clear h h2 T
  go_enter Tryz.func15, Tryz.ntmps15
  go_wp2_with fail
  exact bodyPost_ret (v := .agg (ans 15).toArray) (res_cell (a := 4) rfl rfl (run_loadVar_mid _ w.heap.size 0 30 _ _ (range_new w (ans 15) 30) Tryz.underlying30 rfl size30)) rfl ⟨rfl, (Turn.refl _ _).alloc _⟩
/-- An answer is written to the result. -/
theorem ans_end {w W : World} {b : Nat} {a : Act} {Q : Ending → World → Prop} (T : Turn (fun _ => False) w W) (R : W.rangeAt b 0 (ans 0)) (B : Blk W b 30) (e : Int) (hd : a.defers = []) (hp : a.tmps.getD 6 undef = .pointer (some ⟨b, 0, none⟩)) (hb : w.heap.size ≤ b)
    (hq : Turn (fun _ => False) w (((W.setCell ⟨b, 0, none⟩ (.int .i64 e)).setCell ⟨b, 1, none⟩ (.int .i64 0)).setCell ⟨b, 2, none⟩ (.slice none 0 0)) → Q (.returned (.agg (ans e).toArray)) (((W.setCell ⟨b, 0, none⟩ (.int .i64 e)).setCell ⟨b, 1, none⟩ (.int .i64 0)).setCell ⟨b, 2, none⟩ (.slice none 0 0))) :
    bodyPost Tryz.prog Tryz.f6 Q Exit.ret a (((W.setCell ⟨b, 0, none⟩ (.int .i64 e)).setCell ⟨b, 1, none⟩ (.int .i64 0)).setCell ⟨b, 2, none⟩ (.slice none 0 0)) :=
  have R2 := World.rangeAt_setCells_same W b 0 (ans e) (range_there R rfl B)
  bodyPost_ret (v := .agg (ans e).toArray) (res_cell (a := 6) rfl hp (run_loadVar_mid _ b 0 30 _ _ R2 Tryz.underlying30 rfl size30)) hd (hq (Turn.setCells (ans e) 0 T (.inr hb)))
theorem res_cell2 {fn : Func} {tmps : Array Value} {w : World} {a1 a2 b1 b2 : Nat} {t1 t2 : TypeId} {v1 v2 : Value} (hr : fn.results = #[.cell a1 t1, .cell a2 t2]) (h1 : tmps.getD a1 undef = .pointer (some ⟨b1, 0, none⟩)) (h2 : tmps.getD a2 undef = .pointer (some ⟨b2, 0, none⟩))
    (l1 : (loadVar t1 ⟨b1, 0, none⟩).run Tryz.prog w = .ok v1 w) (l2 : (loadVar t2 ⟨b2, 0, none⟩).run Tryz.prog w = .ok v2 w) : (results fn tmps).run Tryz.prog w = .ok (.tuple #[v1, v2]) w := by
  unfold results
  rw [hr]
  simp only [List.mapM_toArray, List.mapM_cons, List.mapM_nil, bind_assoc, pure_bind, map_eq_pure_bind, h1, h2, asAddr]
  simp [Sem.run_bind, l1, l2]
def cl (k : Int) : List Value := [.int .i64 k, .int .i64 0, .int .i64 0, .int .i64 0, .int .i64 0, .int .i64 0, .int .i64 0, .string ⟨#[]⟩, .int .i64 0, .int .i64 0]
set_option maxRecDepth 100000 in
theorem do_nil (w : World) (k s : Int) : Calls Tryz.prog 6 #[.pointer none, .int .i64 s, .agg (cl k).toArray] w fun x w' => x = .returned (.agg (ans 1).toArray) ∧ Turn (fun _ => False) w w' := by
  have M := Lib.hid made_nil
  unfold cl
  obtain ⟨W1, hW1⟩ : ∃ W, W = w.alloc (.cells (cl k).toArray 36) := ⟨_, rfl⟩
  obtain ⟨W, hW⟩ : ∃ W, W = W1.alloc (.cells (ans 0).toArray 30) := ⟨_, rfl⟩
  have z1 : W1.heap.size = w.heap.size + 1 := by rw [hW1]; simp
  have T1 : Turn (fun _ => False) w W1 := by rw [hW1]; exact (Turn.refl _ w).alloc _
  have T2 : Turn (fun _ => False) W1 W := by rw [hW]; exact (Turn.refl _ _).alloc _
  have R := range_new W1 (ans 0) 30
  have B := Blk.new W1 (ans 0) 30
  rw [show W1.alloc (.cells (ans 0).toArray 30) = W from hW.symm, z1] at R B
  have y0 : W.cell? ⟨w.heap.size + 1, 0, none⟩ = some (.int .i64 0) := R 0 _ rfl
  have y1 : W.cell? ⟨w.heap.size + 1, 1, none⟩ = some (.int .i64 0) := R 1 _ rfl
  have y2 : W.cell? ⟨w.heap.size + 1, 2, none⟩ = some (.slice none 0 0) := R 2 _ rfl
  have ff := B.fz
  have HH := Lib.hid (And.intro (T1.trans T2) (And.intro R B))
  have HW := Lib.hid (show W = (w.alloc (.cells #[.int .i64 k, .int .i64 0, .int .i64 0, .int .i64 0, .int .i64 0, .int .i64 0, .int .i64 0, .string ⟨#[]⟩, .int .i64 0, .int .i64 0] 36)).alloc (.cells #[.int .i64 0, .int .i64 0, .slice none 0 0] 30) by rw [hW, hW1]; rfl)
  clear T1 T2 R B z1 hW hW1
  go_enter Tryz.func6, Tryz.ntmps6
  go_upto_region 1 with fail
  rw [← HW.out]
  go_wp2_with fail
  with_reducible refine (M.out _).mono ?_
  rintro x w1 ⟨rfl, rfl⟩
  go_wp2_with fail
  exact ans_end HH.out.1 HH.out.2.1 HH.out.2.2 1 rfl rfl (by omega) (fun T => ⟨rfl, T⟩)
set_option maxRecDepth 100000 in
theorem read_is (w : World) : Calls Tryz.prog 13 #[.agg (cl 3).toArray] w fun x w' => x = .returned (.tuple #[.agg #[.slice none 0 0, .int .i64 0, .bool false], .agg (ans 0).toArray]) ∧ Turn (fun _ => False) w w' := by
  unfold cl
  obtain ⟨W1, hW1⟩ : ∃ W, W = w.alloc (.cells (cl 3).toArray 36) := ⟨_, rfl⟩
  obtain ⟨W2, hW2⟩ : ∃ W, W = W1.alloc (.cells [.slice none 0 0, .int .i64 0, .bool false].toArray 52) := ⟨_, rfl⟩
  obtain ⟨W3, hW3⟩ : ∃ W, W = W2.alloc (.cells (ans 0).toArray 30) := ⟨_, rfl⟩
  have z1 : W1.heap.size = w.heap.size + 1 := by rw [hW1]; simp
  have z2 : W2.heap.size = w.heap.size + 1 + 1 := by rw [hW2]; simp [z1]
  have T1 : Turn (fun _ => False) w W1 := by rw [hW1]; exact (Turn.refl _ w).alloc _
  have T2 : Turn (fun _ => False) W1 W2 := by rw [hW2]; exact (Turn.refl _ _).alloc _
  have T3 : Turn (fun _ => False) W2 W3 := by rw [hW3]; exact (Turn.refl _ _).alloc _
  have RA := range_new W1 [.slice none 0 0, .int .i64 0, .bool false] 52
  rw [← hW2, z1] at RA
  have RA3 := range_turn RA T3 id
  have RB := range_new W2 (ans 0) 30
  rw [← hW3, z2] at RB
  have HH := Lib.hid (And.intro ((T1.trans T2).trans T3) (And.intro RA3 RB))
  have HW := Lib.hid (show W3 = ((w.alloc (.cells #[.int .i64 3, .int .i64 0, .int .i64 0, .int .i64 0, .int .i64 0, .int .i64 0, .int .i64 0, .string ⟨#[]⟩, .int .i64 0, .int .i64 0] 36)).alloc (.cells #[.slice none 0 0, .int .i64 0, .bool false] 52)).alloc (.cells #[.int .i64 0, .int .i64 0, .slice none 0 0] 30) by rw [hW3, hW2, hW1]; rfl)
  clear T1 T2 T3 RA RA3 RB z1 z2 hW1 hW2 hW3
  go_enter Tryz.func13, Tryz.ntmps13
  go_wp2_with fail
  rw [← HW.out]
  exact bodyPost_ret (v := .tuple #[.agg #[.slice none 0 0, .int .i64 0, .bool false], .agg (ans 0).toArray]) (res_cell2 (a1 := 2) (a2 := 3) rfl rfl rfl (run_loadVar_mid _ (w.heap.size + 1) 0 52 _ _ HH.out.2.1 Tryz.underlying52 rfl size52) (run_loadVar_mid _ (w.heap.size + 1 + 1) 0 30 _ _ HH.out.2.2 Tryz.underlying30 rfl size30)) rfl ⟨rfl, HH.out.1⟩
end Go.Proofs.YtfahnmnglnddcaaGreatDoor
