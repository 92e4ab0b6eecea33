/-
  What a code needs.
-/
import Derived.Test.YtadogobdlcionaaDoorSi
import Derived.Test.YtadogobdlcionaaDoorShelg
namespace Go.Proofs.YtadogobdlcionaaDoor
open Go.ChangeShapes Go.WideShapes Go.ChangeAt Go.RowKit Go.Shelf
set_option linter.unusedVariables false
/-- How many values a code takes, and may it be. -/
def needsT (c : CD) : Int × Bool :=
  if c.op = 6 then (0, decide (0 ≤ c.n)) else if c.op = 7 then (0, decide (0 ≤ c.field) && (decide (c.field < 4) && nameT c.var)) else if c.op = 8 then (0, nameT c.var)
  else if c.op = 9 then (1, true) else if 1 ≤ c.op ∧ c.op ≤ 5 then (2, true) else (0, false)
theorem beq_no {a b : Int} (h : a ≠ b) : (a == b) = false := beq_eq_false_iff_ne.2 h
theorem beq_yes {a b : Int} (h : a = b) : (a == b) = true := beq_iff_eq.2 h
set_option maxRecDepth 100000 in
set_option maxHeartbeats 4000000 in
theorem needs_is (w : World) (c : CD) (hs : c.var.size ≤ 140737488355328) (hE : ErrAt w) :
    Calls Tryd.prog 42 #[.agg c.cells.toArray] w fun y w' => y = .returned (.tuple #[.int .i64 (needsT c).1, .bool (needsT c).2]) ∧ Turn (fun _ => False) w w' := by
  obtain ⟨op, n, v, f⟩ := c
  unfold CD.cells
  dsimp only at hs ⊢
  obtain ⟨W, hW⟩ : ∃ W, W = w.alloc (.cells #[.int .i64 op, .int .i64 n, .string v, .int .i64 f, .int .i64 0] 95) := ⟨_, rfl⟩
  have T0 : Turn (fun _ => False) w W := by rw [hW]; exact (Turn.refl _ _).alloc _
  have R : W.rangeAt w.heap.size 0 [.int .i64 op, .int .i64 n, .string v, .int .i64 f, .int .i64 0] := by rw [hW]; exact range_new w [.int .i64 op, .int .i64 n, .string v, .int .i64 f, .int .i64 0] 95
  have d0 : W.cell? ⟨w.heap.size, 0, none⟩ = some (.int .i64 op) := R 0 _ rfl
  have d1 : W.cell? ⟨w.heap.size, 1, none⟩ = some (.int .i64 n) := R 1 _ rfl
  have d2 : W.cell? ⟨w.heap.size, 2, none⟩ = some (.string v) := R 2 _ rfl
  have d3 : W.cell? ⟨w.heap.size, 3, none⟩ = some (.int .i64 f) := R 3 _ rfl
  have NM := Lib.hid (name_is W v hs (hE.turn T0 id))
  have HT := Lib.hid T0
  have HW := Lib.hid hW
  obtain ⟨r, hr⟩ : ∃ r, r = needsT ⟨op, n, v, f⟩ := ⟨_, rfl⟩
  rw [← hr]
  have HR := Lib.hid hr
  clear R hs hE T0 hW hr
  by_cases h6 : op = 6
  · have hr : r = (0, decide (0 ≤ n)) := by rw [HR.out]; unfold needsT; exact if_pos h6
    subst hr
    subst h6
    go_enter Tryd.func42, Tryd.ntmps42
    go_upto_region 1 with fail
    rw [← HW.out]
    clear HW
    go_upto_region 3 with fail
    have hge : decide (n ≥ 0) = decide (0 ≤ n) := rfl
    go_region
    all_goals go_wp2_with fail
    all_goals go_ret2
    all_goals exact ⟨rfl, HT.out.trans ((Turn.refl _ _).drewN 1)⟩
  have b6 := beq_no h6
  by_cases h7 : op = 7
  · have hr : r = (0, decide (0 ≤ f) && (decide (f < 4) && nameT v)) := by rw [HR.out]; unfold needsT; rw [if_neg h6]; exact if_pos h7
    subst hr
    subst h7
    clear h6 b6
    by_cases f0 : 0 ≤ f
    · by_cases f4 : f < 4
      · have u1 : decide (0 ≤ f) = true := decide_eq_true f0
        have u2 : decide (f < 4) = true := decide_eq_true f4
        go_enter Tryd.func42, Tryd.ntmps42
        go_upto_region 1 with fail
        rw [← HW.out]
        clear HW
        go_wp2_with fail
        with_reducible refine NM.out.mono ?_
        rintro y w1 ⟨rfl, T1⟩
        have F := Lib.hid (HT.out.trans T1)
        clear T1
        go_wp2_with fail
        go_ret2
        refine ⟨?_, F.out⟩
        rw [u1, u2]
        rfl
      · have u1 : decide (0 ≤ f) = true := decide_eq_true f0
        have u2 : decide (f < 4) = false := decide_eq_false f4
        go_enter Tryd.func42, Tryd.ntmps42
        go_upto_region 1 with fail
        rw [← HW.out]
        clear HW
        go_wp2_with fail
        go_ret2
        refine ⟨?_, HT.out⟩
        rfl
    · have u1 : decide (0 ≤ f) = false := decide_eq_false f0
      go_enter Tryd.func42, Tryd.ntmps42
      go_upto_region 1 with fail
      rw [← HW.out]
      clear HW
      go_wp2_with fail
      go_ret2
      refine ⟨?_, HT.out⟩
      rfl
  have b7 := beq_no h7
  by_cases h8 : op = 8
  · have hr : r = (0, nameT v) := by rw [HR.out]; unfold needsT; rw [if_neg h6, if_neg h7]; exact if_pos h8
    subst hr
    subst h8
    go_enter Tryd.func42, Tryd.ntmps42
    go_upto_region 1 with fail
    rw [← HW.out]
    clear HW
    go_wp2_with fail
    with_reducible refine NM.out.mono ?_
    rintro y w1 ⟨rfl, T1⟩
    have F := Lib.hid (HT.out.trans T1)
    clear T1
    go_wp2_with fail
    go_ret2
    exact ⟨rfl, F.out⟩
  have b8 := beq_no h8
  by_cases h9 : op = 9
  · have hr : r = (1, true) := by rw [HR.out]; unfold needsT; rw [if_neg h6, if_neg h7, if_neg h8]; exact if_pos h9
    subst hr
    subst h9
    go_enter Tryd.func42, Tryd.ntmps42
    go_upto_region 1 with fail
    rw [← HW.out]
    clear HW
    go_wp2_with fail
    go_ret2
    exact ⟨rfl, HT.out⟩
  have b9 := beq_no h9
  by_cases hin : 1 ≤ op ∧ op ≤ 5
  · have hr : r = (2, true) := by rw [HR.out]; unfold needsT; rw [if_neg h6, if_neg h7, if_neg h8, if_neg h9]; exact if_pos hin
    subst hr
    have h5 : op = 1 ∨ op = 2 ∨ op = 3 ∨ op = 4 ∨ op = 5 := by omega
    clear hin h6 h7 h8 h9 b6 b7 b8 b9
    rcases h5 with rfl | rfl | rfl | rfl | rfl
    all_goals
      go_enter Tryd.func42, Tryd.ntmps42
      go_upto_region 1 with fail
      rw [← HW.out]
      go_wp2_with fail
      go_ret2
      exact ⟨rfl, HT.out⟩
  · have hr : r = (0, false) := by rw [HR.out]; unfold needsT; rw [if_neg h6, if_neg h7, if_neg h8, if_neg h9]; exact if_neg hin
    subst hr
    have b1 : (op == 1) = false := beq_no (by omega)
    have b2 : (op == 2) = false := beq_no (by omega)
    have b3 : (op == 3) = false := beq_no (by omega)
    have b4 : (op == 4) = false := beq_no (by omega)
    have b5 : (op == 5) = false := beq_no (by omega)
    clear hin h6 h7 h8 h9
    go_enter Tryd.func42, Tryd.ntmps42
    go_upto_region 1 with fail
    rw [← HW.out]
    clear HW
    go_wp2_with fail
    go_ret2
    exact ⟨rfl, HT.out⟩
end Go.Proofs.YtadogobdlcionaaDoor
