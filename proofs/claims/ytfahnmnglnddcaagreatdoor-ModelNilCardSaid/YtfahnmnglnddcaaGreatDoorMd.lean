/-
  A row of one, or of none, is sorted.
-/
import Derived.Test.YtfahnmnglnddcaaGreatDoorBase
namespace Go.Proofs.YtfahnmnglnddcaaGreatDoor
open Go.ChangeShapes Go.WideShapes Go.ChangeAt Go.RowKit
set_option linter.unusedVariables false
set_option maxRecDepth 100000 in
theorem len64_is (w : World) (n : Int) (h : n = 0 ∨ n = 1) : Calls Tryz.prog 79 #[.int .u64 n] w fun x w' => (∃ k, x = .returned (.int .i64 k)) ∧ w' = w := by
  rcases h with rfl | rfl
  all_goals
    go_enter Tryz.func79, Tryz.ntmps79
    go_wp2_with fail
    go_ret
    exact ⟨⟨_, rfl⟩, rfl⟩
set_option maxRecDepth 100000 in
theorem len_is (w : World) (n : Int) (h : n = 0 ∨ n = 1) : Calls Tryz.prog 44 #[.int .u64 n] w fun x w' => (∃ k, x = .returned (.int .i64 k)) ∧ w' = w := by
  have L := Lib.hid (len64_is w n h)
  rcases h with rfl | rfl
  all_goals
    go_enter Tryz.func44, Tryz.ntmps44
    go_wp2_with fail
    with_reducible refine L.out.mono ?_
    rintro x w1 ⟨⟨k, rfl⟩, rfl⟩
    go_wp2_with fail
    go_ret
    exact ⟨⟨_, rfl⟩, rfl⟩
set_option maxRecDepth 100000 in
theorem ins_is (w : World) (v f : Value) (n : Int) (h : n = 0 ∨ n = 1) : Calls Tryz.prog 70 #[v, .int .i64 0, .int .i64 n, f] w fun x w' => (∃ v, x = .returned v) ∧ w' = w := by
  rcases h with rfl | rfl
  all_goals
    go_enter Tryz.func70, Tryz.ntmps70
    go_wp2_with fail
    go_rounds 1
    go_end0
    exact ⟨⟨_, rfl⟩, rfl⟩
set_option maxRecDepth 100000 in
theorem pdq_is (w : World) (v f : Value) (n k : Int) (h : n = 0 ∨ n = 1) : Calls Tryz.prog 43 #[v, .int .i64 0, .int .i64 n, .int .i64 k, f] w fun x w' => (∃ v, x = .returned v) ∧ w' = w := by
  have L := Lib.hid (ins_is w v f n h)
  rcases h with rfl | rfl
  · go_enter Tryz.func43, Tryz.ntmps43
    go_wp2_with fail
    go_loopg [1, 2, 3] 0 (fun gh v1 v2 v3 wr => v1 = .int .i64 0 ∧ v2 = .int .i64 0 ∧ wr = w)
    case atStart => exact ⟨rfl, rfl, rfl⟩
    case round =>
      obtain ⟨rfl, rfl, rfl⟩ := hrel
      go_wp2_with fail
      with_reducible refine L.out.mono ?_
      rintro x w1 ⟨⟨v, rfl⟩, rfl⟩
      go_wp2_with fail
      refine bodyPost_ret (results_none rfl _ _ _) rfl ?_
      exact ⟨⟨_, rfl⟩, rfl⟩
  · go_enter Tryz.func43, Tryz.ntmps43
    go_wp2_with fail
    go_loopg [1, 2, 3] 0 (fun gh v1 v2 v3 wr => v1 = .int .i64 0 ∧ v2 = .int .i64 1 ∧ wr = w)
    case atStart => exact ⟨rfl, rfl, rfl⟩
    case round =>
      obtain ⟨rfl, rfl, rfl⟩ := hrel
      go_wp2_with fail
      with_reducible refine L.out.mono ?_
      rintro x w1 ⟨⟨v, rfl⟩, rfl⟩
      go_wp2_with fail
      refine bodyPost_ret (results_none rfl _ _ _) rfl ?_
      exact ⟨⟨_, rfl⟩, rfl⟩
set_option maxRecDepth 100000 in
theorem sort_0 (w : World) (a : Option Addr) (c : Nat) (f : Value) : Calls Tryz.prog 23 #[.slice a 0 c, f] w fun x w' => (∃ v, x = .returned v) ∧ w' = w := by
  have L := Lib.hid (fun w => len_is w 0 (.inl rfl))
  have P := Lib.hid (fun w k => pdq_is w (.slice a 0 c) f 0 k (.inl rfl))
  go_enter Tryz.func23, Tryz.ntmps23
  go_wp2_with fail
  with_reducible refine (L.out _).mono ?_
  rintro x w1 ⟨⟨k, rfl⟩, rfl⟩
  go_wp2_with fail
  with_reducible refine (P.out _ _).mono ?_
  rintro x w1 ⟨⟨v, rfl⟩, rfl⟩
  go_wp2_with fail
  go_end0
  exact ⟨⟨_, rfl⟩, rfl⟩
set_option maxRecDepth 100000 in
theorem sort_1 (w : World) (a : Option Addr) (c : Nat) (f : Value) : Calls Tryz.prog 23 #[.slice a 1 c, f] w fun x w' => (∃ v, x = .returned v) ∧ w' = w := by
  have L := Lib.hid (fun w => len_is w 1 (.inr rfl))
  have P := Lib.hid (fun w k => pdq_is w (.slice a 1 c) f 1 k (.inr rfl))
  go_enter Tryz.func23, Tryz.ntmps23
  go_wp2_with fail
  with_reducible refine (L.out _).mono ?_
  rintro x w1 ⟨⟨k, rfl⟩, rfl⟩
  go_wp2_with fail
  with_reducible refine (P.out _ _).mono ?_
  rintro x w1 ⟨⟨v, rfl⟩, rfl⟩
  go_wp2_with fail
  go_end0
  exact ⟨⟨_, rfl⟩, rfl⟩
set_option maxRecDepth 100000 in
theorem ins2_is (w : World) (v : Value) (n : Int) (h : n = 0 ∨ n = 1) : Calls Tryz.prog 96 #[v, .int .i64 0, .int .i64 n] w fun x w' => (∃ v, x = .returned v) ∧ w' = w := by
  rcases h with rfl | rfl
  all_goals
    go_enter Tryz.func96, Tryz.ntmps96
    go_wp2_with fail
    go_rounds 1
    go_end0
    exact ⟨⟨_, rfl⟩, rfl⟩
set_option maxRecDepth 100000 in
theorem pdq2_is (w : World) (v : Value) (n k : Int) (h : n = 0 ∨ n = 1) : Calls Tryz.prog 59 #[v, .int .i64 0, .int .i64 n, .int .i64 k] w fun x w' => (∃ v, x = .returned v) ∧ w' = w := by
  have L := Lib.hid (ins2_is w v n h)
  rcases h with rfl | rfl
  · go_enter Tryz.func59, Tryz.ntmps59
    go_wp2_with fail
    go_loopg [1, 2, 3] 0 (fun gh v1 v2 v3 wr => v1 = .int .i64 0 ∧ v2 = .int .i64 0 ∧ wr = w)
    case atStart => exact ⟨rfl, rfl, rfl⟩
    case round =>
      obtain ⟨rfl, rfl, rfl⟩ := hrel
      go_wp2_with fail
      with_reducible refine L.out.mono ?_
      rintro x w1 ⟨⟨v, rfl⟩, rfl⟩
      go_wp2_with fail
      refine bodyPost_ret (results_none rfl _ _ _) rfl ?_
      exact ⟨⟨_, rfl⟩, rfl⟩
  · go_enter Tryz.func59, Tryz.ntmps59
    go_wp2_with fail
    go_loopg [1, 2, 3] 0 (fun gh v1 v2 v3 wr => v1 = .int .i64 0 ∧ v2 = .int .i64 1 ∧ wr = w)
    case atStart => exact ⟨rfl, rfl, rfl⟩
    case round =>
      obtain ⟨rfl, rfl, rfl⟩ := hrel
      go_wp2_with fail
      with_reducible refine L.out.mono ?_
      rintro x w1 ⟨⟨v, rfl⟩, rfl⟩
      go_wp2_with fail
      refine bodyPost_ret (results_none rfl _ _ _) rfl ?_
      exact ⟨⟨_, rfl⟩, rfl⟩
set_option maxRecDepth 100000 in
theorem isort_0 (w : World) (a : Option Addr) (c : Nat) : Calls Tryz.prog 35 #[.slice a 0 c] w fun x w' => (∃ v, x = .returned v) ∧ w' = w := by
  have L := Lib.hid (fun w => len_is w 0 (.inl rfl))
  have P := Lib.hid (fun w k => pdq2_is w (.slice a 0 c) 0 k (.inl rfl))
  go_enter Tryz.func35, Tryz.ntmps35
  go_wp2_with fail
  with_reducible refine (L.out _).mono ?_
  rintro x w1 ⟨⟨k, rfl⟩, rfl⟩
  go_wp2_with fail
  with_reducible refine (P.out _ _).mono ?_
  rintro x w1 ⟨⟨v, rfl⟩, rfl⟩
  go_wp2_with fail
  go_end0
  exact ⟨⟨_, rfl⟩, rfl⟩
set_option maxRecDepth 100000 in
theorem isort_1 (w : World) (a : Option Addr) (c : Nat) : Calls Tryz.prog 35 #[.slice a 1 c] w fun x w' => (∃ v, x = .returned v) ∧ w' = w := by
  have L := Lib.hid (fun w => len_is w 1 (.inr rfl))
  have P := Lib.hid (fun w k => pdq2_is w (.slice a 1 c) 1 k (.inr rfl))
  go_enter Tryz.func35, Tryz.ntmps35
  go_wp2_with fail
  with_reducible refine (L.out _).mono ?_
  rintro x w1 ⟨⟨k, rfl⟩, rfl⟩
  go_wp2_with fail
  with_reducible refine (P.out _ _).mono ?_
  rintro x w1 ⟨⟨v, rfl⟩, rfl⟩
  go_wp2_with fail
  go_end0
  exact ⟨⟨_, rfl⟩, rfl⟩
end Go.Proofs.YtfahnmnglnddcaaGreatDoor
