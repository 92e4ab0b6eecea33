/-
  A desk in memory: a new one, or none.
-/
import Derived.Test.YtepmealhnnoahaaQr
namespace Go.Proofs.Ytepmealhnnoahaa
open Go.ChangeShapes Go.WideShapes Go.ChangeAt Go.RowKit
set_option linter.unusedVariables false
theorem mkmap80 {a : Act} {w : World} {o : Oper} (ho : o.op = .makeMap 80 none) : (execOp a.eval o).run Try.prog w = .ok (.value (.map (some w.heap.size))) (w.alloc (.map #[] 0)) := by
  unfold execOp
  simp only [ho]
  go_simp
  rfl
theorem build82 (a b c q e o s : Int) (mb : Nat) (w : World) : (Instr.build 82 #[(0, .agg #[.int .i64 a, .int .i64 b, .int .i64 c, .int .i64 q, .int .i64 e, .int .i64 o, .int .i64 s]), (1, .map (some mb))]).run Try.prog w = .ok (.agg #[.int .i64 a, .int .i64 b, .int .i64 c, .int .i64 q, .int .i64 e, .int .i64 o, .int .i64 s, .map (some mb)]) w := run_build w 82 _ _ (by kernel_rfl)
set_option maxRecDepth 100000 in
set_option maxHeartbeats 2000000 in
theorem new_yes (w : World) (a b c e s : Int) {qu ou : Int} (h1 : 1 ≤ qu) (h2 : qu ≤ 4096) (h3 : 1 ≤ ou) (h4 : ou ≤ 4096) :
    Calls Try.prog 10 #[.agg #[.int .i64 a, .int .i64 b, .int .i64 c, .int .i64 qu, .int .i64 e, .int .i64 ou, .int .i64 s]] w fun en w' => ∃ d mb, en = .returned (.pointer (some ⟨d, 0, none⟩)) ∧ DeskAt w' d mb qu ou 0 0 (fun _ => none) ∧ w.heap.size ≤ d ∧ w.heap.size ≤ mb ∧ Turn (fun _ => False) w w' := by
  obtain ⟨W, hW⟩ : ∃ W, W = w.alloc (.cells #[.int .i64 a, .int .i64 b, .int .i64 c, .int .i64 qu, .int .i64 e, .int .i64 ou, .int .i64 s] 28) := ⟨_, rfl⟩
  have T : Turn (fun _ => False) w W := by rw [hW]; exact (Turn.refl _ w).alloc _
  have C : W.rangeAt w.heap.size 0 [.int .i64 a, .int .i64 b, .int .i64 c, .int .i64 qu, .int .i64 e, .int .i64 ou, .int .i64 s] := by rw [hW]; exact range_new w [.int .i64 a, .int .i64 b, .int .i64 c, .int .i64 qu, .int .i64 e, .int .i64 ou, .int .i64 s] 28
  have x0 : W.cell? ⟨w.heap.size, 0, none⟩ = some (.int .i64 a) := C 0 _ rfl
  have x1 : W.cell? ⟨w.heap.size, 1, none⟩ = some (.int .i64 b) := C 1 _ rfl
  have x2 : W.cell? ⟨w.heap.size, 2, none⟩ = some (.int .i64 c) := C 2 _ rfl
  have x3 : W.cell? ⟨w.heap.size, 3, none⟩ = some (.int .i64 qu) := C 3 _ rfl
  have x4 : W.cell? ⟨w.heap.size, 4, none⟩ = some (.int .i64 e) := C 4 _ rfl
  have x5 : W.cell? ⟨w.heap.size, 5, none⟩ = some (.int .i64 ou) := C 5 _ rfl
  have x6 : W.cell? ⟨w.heap.size, 6, none⟩ = some (.int .i64 s) := C 6 _ rfl
  have t1 : decide (qu < 1) = false := decide_eq_false (by omega)
  have t2 : decide (4096 < qu) = false := decide_eq_false (by omega)
  have t3 : decide (ou < 1) = false := decide_eq_false (by omega)
  have t4 : decide (4096 < ou) = false := decide_eq_false (by omega)
  obtain ⟨V, hV⟩ : ∃ V, V = W.alloc (.map #[] 0) := ⟨_, rfl⟩
  have TV : Turn (fun _ => False) W V := by rw [hV]; exact (Turn.refl _ W).alloc _
  have MV : Wts Try.prog 3 V W.heap.size 0 0 (fun _ => none) := by rw [hV]; exact Wts.made W
  obtain ⟨U, hU⟩ : ∃ U, U = V.alloc (.cells #[.int .i64 a, .int .i64 b, .int .i64 c, .int .i64 qu, .int .i64 e, .int .i64 ou, .int .i64 s, .map (some W.heap.size)] 82) := ⟨_, rfl⟩
  have TU : Turn (fun _ => False) V U := by rw [hU]; exact (Turn.refl _ V).alloc _
  have BU : Blk U V.heap.size 82 := by rw [hU]; exact Blk.new V [.int .i64 a, .int .i64 b, .int .i64 c, .int .i64 qu, .int .i64 e, .int .i64 ou, .int .i64 s, .map (some W.heap.size)] 82
  have RU : U.rangeAt V.heap.size 0 [.int .i64 a, .int .i64 b, .int .i64 c, .int .i64 qu, .int .i64 e, .int .i64 ou, .int .i64 s, .map (some W.heap.size)] := by rw [hU]; exact range_new V [.int .i64 a, .int .i64 b, .int .i64 c, .int .i64 qu, .int .i64 e, .int .i64 ou, .int .i64 s, .map (some W.heap.size)] 82
  have MU : Wts Try.prog 3 U W.heap.size 0 0 (fun _ => none) := MV.block (TU.block _ MV.lt (fun f => f))
  have FIN := Lib.hid (show DeskAt U V.heap.size W.heap.size qu ou 0 0 (fun _ => none) ∧ w.heap.size ≤ V.heap.size ∧ w.heap.size ≤ W.heap.size ∧ Turn (fun _ => False) w U from
    ⟨⟨BU, RU 3 _ rfl, RU 5 _ rfl, RU 7 _ rfl, MU⟩, (T.trans TV).size, T.size, T.trans (TV.trans TU)⟩)
  clear T C h1 h2 h3 h4 TV MV TU BU RU MU
  have HSV : V.heap.size = W.heap.size + 1 := by rw [hV, World.size_alloc]
  rw [HSV, hU, hV] at FIN
  clear hU U HSV
  have HB := Lib.hid (fun w => build82 a b c qu e ou s W.heap.size w)
  go_enter Try.func10, Try.ntmps10
  go_upto_region 1 with fail
  rw [← hW]
  clear hW
  generalize hb1 : w.heap.size = b1 at *
  have HB1 := Lib.hid hb1
  clear hb1
  go_upto_region 3 with fail
  refine wp_region_lit ?_
  refine rl_rd rfl (v := .agg #[.int .i64 a, .int .i64 b, .int .i64 c, .int .i64 qu, .int .i64 e, .int .i64 ou, .int .i64 s]) ?hz1 ?_
  case hz1 => (go_simp; try with_reducible rfl)
  try simp only [Act.put, List.setIfInBounds_toArray, List.set_cons_zero, List.set_cons_succ]
  refine rl_val rfl (mkmap80 rfl) ?_
  try simp only [Act.put, List.setIfInBounds_toArray, List.set_cons_zero, List.set_cons_succ]
  clear hV V
  refine rl_build rfl 82 _ rfl (vs := #[(0, .agg #[.int .i64 a, .int .i64 b, .int .i64 c, .int .i64 qu, .int .i64 e, .int .i64 ou, .int .i64 s]), (1, .map (some W.heap.size))]) (by simp [Act.eval]) (HB.out _) ?_
  try simp only [Act.put, List.setIfInBounds_toArray, List.set_cons_zero, List.set_cons_succ]
  go_wp2_with fail
  go_ret
  rw [HB1.out]
  exact ⟨W.heap.size + 1, W.heap.size, rfl, FIN.out⟩
set_option maxRecDepth 100000 in
set_option maxHeartbeats 2000000 in
theorem new_no (w : World) (a b c e s : Int) {qu ou : Int} (h : ¬ (1 ≤ qu ∧ qu ≤ 4096 ∧ 1 ≤ ou ∧ ou ≤ 4096)) :
    Calls Try.prog 10 #[.agg #[.int .i64 a, .int .i64 b, .int .i64 c, .int .i64 qu, .int .i64 e, .int .i64 ou, .int .i64 s]] w fun en w' => en = .returned (.pointer none) ∧ Turn (fun _ => False) w w' := by
  obtain ⟨W, hW⟩ : ∃ W, W = w.alloc (.cells #[.int .i64 a, .int .i64 b, .int .i64 c, .int .i64 qu, .int .i64 e, .int .i64 ou, .int .i64 s] 28) := ⟨_, rfl⟩
  have T : Turn (fun _ => False) w W := by rw [hW]; exact (Turn.refl _ w).alloc _
  have C : W.rangeAt w.heap.size 0 [.int .i64 a, .int .i64 b, .int .i64 c, .int .i64 qu, .int .i64 e, .int .i64 ou, .int .i64 s] := by rw [hW]; exact range_new w [.int .i64 a, .int .i64 b, .int .i64 c, .int .i64 qu, .int .i64 e, .int .i64 ou, .int .i64 s] 28
  have x3 : W.cell? ⟨w.heap.size, 3, none⟩ = some (.int .i64 qu) := C 3 _ rfl
  have x5 : W.cell? ⟨w.heap.size, 5, none⟩ = some (.int .i64 ou) := C 5 _ rfl
  have K := Lib.hid T
  clear T C
  by_cases h1 : 1 ≤ qu
  · have t1 : decide (qu < 1) = false := decide_eq_false (by omega)
    by_cases h2 : qu ≤ 4096
    · have t2 : decide (4096 < qu) = false := decide_eq_false (by omega)
      by_cases h3 : 1 ≤ ou
      · have t3 : decide (ou < 1) = false := decide_eq_false (by omega)
        have t4 : decide (4096 < ou) = true := decide_eq_true (by
          by_cases h4 : ou ≤ 4096
          · exact absurd ⟨h1, h2, h3, h4⟩ h
          · omega)
        clear h h1 h2 h3
        go_enter Try.func10, Try.ntmps10
        go_upto_region 1 with fail
        rw [← hW]
        clear hW
        go_wp2
        go_ret
        exact ⟨rfl, K.out⟩
      · have t3 : decide (ou < 1) = true := decide_eq_true (by omega)
        clear h h1 h2 h3
        go_enter Try.func10, Try.ntmps10
        go_upto_region 1 with fail
        rw [← hW]
        clear hW
        go_wp2
        go_ret
        exact ⟨rfl, K.out⟩
    · have t2 : decide (4096 < qu) = true := decide_eq_true (by omega)
      clear h h1 h2
      go_enter Try.func10, Try.ntmps10
      go_upto_region 1 with fail
      rw [← hW]
      clear hW
      go_wp2
      go_ret
      exact ⟨rfl, K.out⟩
  · have t1 : decide (qu < 1) = true := decide_eq_true (by omega)
    clear h h1
    go_enter Try.func10, Try.ntmps10
    go_upto_region 1 with fail
    rw [← hW]
    clear hW
    go_wp2
    go_ret
    exact ⟨rfl, K.out⟩
end Go.Proofs.Ytepmealhnnoahaa
