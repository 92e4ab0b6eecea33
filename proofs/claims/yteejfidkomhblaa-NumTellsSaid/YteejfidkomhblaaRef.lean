/-
  The document's answer for layer 1 and the program's are the same, op by op: contracts for the walk of NumTells.
-/
import Derived.Test.YteejfidkomhblaaRows
import Derived.WalkKit
import Derived.ProofKit
import Derived.OpenShut
import Derived.ShutString
import Derived.Handy
import Derived.Lib.Hide
import Derived.Test.YteejfidkomhblaaNum
namespace Go.Proofs.Yteejfidkomhblaa
open Go.ChangeShapes Go.WideShapes Go.ChangeAt Go.RowKit
set_option linter.unusedVariables false

theorem less_is (a b : Int) : wrap64 (a + wrap64 (-b)) = wrap64 (a - b) := by
  unfold wrap64
  omega

theorem ref_add (a b : Int) (w : World) : Calls Try.prog 27 #[.int .i64 1, .int .i64 a, .int .i64 b] w fun e w' => e = .returned (.agg #[.int .i64 (wrap64 (a + b)), .bool true]) ∧ Grown w w' := by
  go_enter Try.func27, Try.ntmps27
  go_wp2
  exact bodyPost_ret (v := .agg #[.int .i64 (wrap64 (a + b)), .bool true]) (by simp [results, Try.results27, go_sem]) rfl ⟨rfl, by go_grown⟩

theorem ref_sub (a b : Int) (w : World) : Calls Try.prog 27 #[.int .i64 2, .int .i64 a, .int .i64 b] w fun e w' => e = .returned (.agg #[.int .i64 (wrap64 (a - b)), .bool true]) ∧ Grown w w' := by
  go_enter Try.func27, Try.ntmps27
  go_wp2
  exact bodyPost_ret (v := .agg #[.int .i64 (wrap64 (a - b)), .bool true]) (by simp [results, Try.results27, go_sem]) rfl ⟨rfl, by go_grown⟩

theorem ref_mul (a b : Int) (w : World) : Calls Try.prog 27 #[.int .i64 3, .int .i64 a, .int .i64 b] w fun e w' => e = .returned (.agg #[.int .i64 (wrap64 (a * b)), .bool true]) ∧ Grown w w' := by
  go_enter Try.func27, Try.ntmps27
  go_wp2
  exact bodyPost_ret (v := .agg #[.int .i64 (wrap64 (a * b)), .bool true]) (by simp [results, Try.results27, go_sem]) rfl ⟨rfl, by go_grown⟩

theorem ref_zero (op a : Int) (w : World) (h1 : ¬ op = 1) (h2 : ¬ op = 2) (h3 : ¬ op = 3) : Calls Try.prog 27 #[.int .i64 op, .int .i64 a, .int .i64 0] w fun e w' => e = .returned (.agg #[.int .i64 0, .bool false]) ∧ Grown w w' := by
  have k1 : (op == 1) = false := by simpa using h1
  have k2 : (op == 2) = false := by simpa using h2
  have k3 : (op == 3) = false := by simpa using h3
  clear h1 h2 h3
  go_enter Try.func27, Try.ntmps27
  go_wp2
  exact bodyPost_ret (v := .agg #[.int .i64 0, .bool false]) (by simp [results, Try.results27, go_sem]) rfl ⟨rfl, by go_grown⟩

theorem ref_none (op a b : Int) (w : World) (h0 : ¬ b = 0) (h1 : ¬ op = 1) (h2 : ¬ op = 2) (h3 : ¬ op = 3) (h4 : ¬ op = 4) (h5 : ¬ op = 5) : Calls Try.prog 27 #[.int .i64 op, .int .i64 a, .int .i64 b] w fun e w' => e = .returned (.agg #[.int .i64 0, .bool false]) ∧ Grown w w' := by
  have k0 : (b == 0) = false := by simpa using h0
  have k1 : (op == 1) = false := by simpa using h1
  have k2 : (op == 2) = false := by simpa using h2
  have k3 : (op == 3) = false := by simpa using h3
  have k4 : (op == 4) = false := by simpa using h4
  have k5 : (op == 5) = false := by simpa using h5
  have l4 : (op != 4) = true := by simpa using h4
  have l5 : (op != 5) = true := by simpa using h5
  clear h0 h1 h2 h3 h4 h5
  go_enter Try.func27, Try.ntmps27
  go_wp2
  exact bodyPost_ret (v := .agg #[.int .i64 0, .bool false]) (by simp [results, Try.results27, go_sem]) rfl ⟨rfl, by go_grown⟩

theorem ref_div (a b : Int) (w : World) (h0 : ¬ b = 0) (h1 : ¬ b = -1) : Calls Try.prog 27 #[.int .i64 4, .int .i64 a, .int .i64 b] w fun e w' => e = .returned (.agg #[.int .i64 (wrap64 (a.tdiv b)), .bool true]) ∧ Grown w w' := by
  have k0 : (b == 0) = false := by simpa using h0
  have k1 : (b == -1) = false := by simpa using h1
  clear h1
  go_enter Try.func27, Try.ntmps27
  go_wp2
  exact bodyPost_ret (v := .agg #[.int .i64 (wrap64 (a.tdiv b)), .bool true]) (by simp [results, Try.results27, go_sem]) rfl ⟨rfl, by go_grown⟩

theorem ref_rem (a b : Int) (w : World) (h0 : ¬ b = 0) (h1 : ¬ b = -1) : Calls Try.prog 27 #[.int .i64 5, .int .i64 a, .int .i64 b] w fun e w' => e = .returned (.agg #[.int .i64 (a.tmod b), .bool true]) ∧ Grown w w' := by
  have k0 : (b == 0) = false := by simpa using h0
  have k1 : (b == -1) = false := by simpa using h1
  clear h1
  go_enter Try.func27, Try.ntmps27
  go_wp2
  exact bodyPost_ret (v := .agg #[.int .i64 (a.tmod b), .bool true]) (by simp [results, Try.results27, go_sem]) rfl ⟨rfl, by go_grown⟩

theorem ref_div1 (a : Int) (w : World) : Calls Try.prog 27 #[.int .i64 4, .int .i64 a, .int .i64 (-1)] w fun e w' => e = .returned (.agg #[.int .i64 (wrap64 (-a)), .bool true]) ∧ Grown w w' := by
  go_enter Try.func27, Try.ntmps27
  go_wp2
  exact bodyPost_ret (v := .agg #[.int .i64 (wrap64 (-a)), .bool true]) (by simp [results, Try.results27, go_sem]) rfl ⟨rfl, by go_grown⟩

theorem ref_rem1 (a : Int) (w : World) : Calls Try.prog 27 #[.int .i64 5, .int .i64 a, .int .i64 (-1)] w fun e w' => e = .returned (.agg #[.int .i64 0, .bool true]) ∧ Grown w w' := by
  go_enter Try.func27, Try.ntmps27
  go_wp2
  exact bodyPost_ret (v := .agg #[.int .i64 0, .bool true]) (by simp [results, Try.results27, go_sem]) rfl ⟨rfl, by go_grown⟩

theorem do_none (op a b : Int) (w : World) (h1 : ¬ op = 1) (h2 : ¬ op = 2) (h3 : ¬ op = 3) (h4 : ¬ op = 4) (h5 : ¬ op = 5) : Calls Try.prog 15 #[.int .i64 op, .int .i64 a, .int .i64 b] w fun e w' => e = .returned (.tuple #[.int .i64 0, .bool false]) ∧ w = w' := by
  have k1 : (op == 1) = false := by simpa using h1
  have k2 : (op == 2) = false := by simpa using h2
  have k3 : (op == 3) = false := by simpa using h3
  have k4 : (op == 4) = false := by simpa using h4
  have k5 : (op == 5) = false := by simpa using h5
  clear h1 h2 h3 h4 h5
  go_enter Try.func15, Try.ntmps15
  go_wp2
  go_ret2
  exact ⟨rfl, rfl⟩

def SameDo (op a b : Int) : Prop := ∃ (n : Int) (ok : Bool), (∀ w, Calls Try.prog 15 #[.int .i64 op, .int .i64 a, .int .i64 b] w fun e w' => e = .returned (.tuple #[.int .i64 n, .bool ok]) ∧ w = w') ∧
  (∀ w, Calls Try.prog 27 #[.int .i64 op, .int .i64 a, .int .i64 b] w fun e w' => e = .returned (.agg #[.int .i64 n, .bool ok]) ∧ Grown w w')

theorem same_do (op a b : Int) : SameDo op a b := by
  by_cases h1 : op = 1
  · subst h1
    exact ⟨_, _, fun w => do_add a b w, fun w => ref_add a b w⟩
  by_cases h2 : op = 2
  · subst h2
    refine ⟨_, _, fun w => do_sub a b w, fun w => ?_⟩
    rw [less_is]
    exact ref_sub a b w
  by_cases h3 : op = 3
  · subst h3
    exact ⟨_, _, fun w => do_mul a b w, fun w => ref_mul a b w⟩
  by_cases hb : b = 0
  · subst hb
    by_cases h4 : op = 4
    · subst h4
      exact ⟨_, _, fun w => do_div0 a w, fun w => ref_zero 4 a w h1 h2 h3⟩
    by_cases h5 : op = 5
    · subst h5
      exact ⟨_, _, fun w => do_rem0 a w, fun w => ref_zero 5 a w h1 h2 h3⟩
    exact ⟨_, _, fun w => do_none op a 0 w h1 h2 h3 h4 h5, fun w => ref_zero op a w h1 h2 h3⟩
  by_cases h4 : op = 4
  · subst h4
    by_cases hm : b = -1
    · subst hm
      refine ⟨_, _, fun w => do_div a (-1) w hb, fun w => ?_⟩
      rw [show a.tdiv (-1) = -a from by rw [Int.tdiv_neg, Int.tdiv_one]]
      exact ref_div1 a w
    exact ⟨_, _, fun w => do_div a b w hb, fun w => ref_div a b w hb hm⟩
  by_cases h5 : op = 5
  · subst h5
    by_cases hm : b = -1
    · subst hm
      refine ⟨_, _, fun w => do_rem a (-1) w hb, fun w => ?_⟩
      rw [show a.tmod (-1) = 0 from by rw [Int.tmod_neg, Int.tmod_one]]
      exact ref_rem1 a w
    exact ⟨_, _, fun w => do_rem a b w hb, fun w => ref_rem a b w hb hm⟩
  exact ⟨_, _, fun w => do_none op a b w h1 h2 h3 h4 h5, fun w => ref_none op a b w hb h1 h2 h3 h4 h5⟩

theorem rtest_lt (a b : Int) (w : World) (v : Bool) (h : decide (a < b) = v) : Calls Try.prog 28 #[.int .i64 3, .int .i64 a, .int .i64 b] w fun e w' => e = .returned (.bool v) ∧ w = w' := by
  subst h
  go_enter Try.func28, Try.ntmps28
  go_wp2
  go_ret
  exact ⟨rfl, rfl⟩

theorem rtest_gt (a b : Int) (w : World) (v : Bool) (h : decide (b < a) = v) : Calls Try.prog 28 #[.int .i64 5, .int .i64 a, .int .i64 b] w fun e w' => e = .returned (.bool v) ∧ w = w' := by
  subst h
  go_enter Try.func28, Try.ntmps28
  go_wp2
  go_ret
  exact ⟨rfl, rfl⟩

theorem rtest_le (a b : Int) (w : World) (v : Bool) (h : decide (a ≤ b) = v) : Calls Try.prog 28 #[.int .i64 4, .int .i64 a, .int .i64 b] w fun e w' => e = .returned (.bool v) ∧ w = w' := by
  subst h
  go_enter Try.func28, Try.ntmps28
  go_wp2
  go_ret
  exact ⟨rfl, rfl⟩

theorem rtest_ge (a b : Int) (w : World) (v : Bool) (h : decide (b ≤ a) = v) : Calls Try.prog 28 #[.int .i64 6, .int .i64 a, .int .i64 b] w fun e w' => e = .returned (.bool v) ∧ w = w' := by
  subst h
  go_enter Try.func28, Try.ntmps28
  go_wp2
  go_ret
  exact ⟨rfl, rfl⟩

theorem rtest_eq (a b : Int) (w : World) (v : Bool) (h : (a == b) = v) : Calls Try.prog 28 #[.int .i64 1, .int .i64 a, .int .i64 b] w fun e w' => e = .returned (.bool v) ∧ w = w' := by
  subst h
  go_enter Try.func28, Try.ntmps28
  go_wp2
  go_ret
  exact ⟨rfl, rfl⟩

theorem rtest_ne (a b : Int) (w : World) (v : Bool) (h : (a != b) = v) : Calls Try.prog 28 #[.int .i64 2, .int .i64 a, .int .i64 b] w fun e w' => e = .returned (.bool v) ∧ w = w' := by
  subst h
  go_enter Try.func28, Try.ntmps28
  go_wp2
  go_ret
  exact ⟨rfl, rfl⟩

theorem test_none (op a b : Int) (w : World) (h1 : ¬ op = 1) (h2 : ¬ op = 2) (h3 : ¬ op = 3) (h4 : ¬ op = 4) (h5 : ¬ op = 5) (h6 : ¬ op = 6) : Calls Try.prog 16 #[.int .i64 op, .int .i64 a, .int .i64 b] w fun e w' => e = .returned (.bool false) ∧ w = w' := by
  have k1 : (op == 1) = false := by simpa using h1
  have k2 : (op == 2) = false := by simpa using h2
  have k3 : (op == 3) = false := by simpa using h3
  have k4 : (op == 4) = false := by simpa using h4
  have k5 : (op == 5) = false := by simpa using h5
  have k6 : (op == 6) = false := by simpa using h6
  clear h1 h2 h3 h4 h5 h6
  go_enter Try.func16, Try.ntmps16
  go_wp2
  go_ret
  exact ⟨rfl, rfl⟩

theorem rtest_none (op a b : Int) (w : World) (h1 : ¬ op = 1) (h2 : ¬ op = 2) (h3 : ¬ op = 3) (h4 : ¬ op = 4) (h5 : ¬ op = 5) (h6 : ¬ op = 6) : Calls Try.prog 28 #[.int .i64 op, .int .i64 a, .int .i64 b] w fun e w' => e = .returned (.bool false) ∧ w = w' := by
  have k1 : (op == 1) = false := by simpa using h1
  have k2 : (op == 2) = false := by simpa using h2
  have k3 : (op == 3) = false := by simpa using h3
  have k4 : (op == 4) = false := by simpa using h4
  have k5 : (op == 5) = false := by simpa using h5
  have k6 : (op == 6) = false := by simpa using h6
  clear h1 h2 h3 h4 h5 h6
  go_enter Try.func28, Try.ntmps28
  go_wp2
  go_ret
  exact ⟨rfl, rfl⟩

def SameTest (op a b : Int) : Prop := ∃ t : Bool, (∀ w, Calls Try.prog 16 #[.int .i64 op, .int .i64 a, .int .i64 b] w fun e w' => e = .returned (.bool t) ∧ w = w') ∧
  (∀ w, Calls Try.prog 28 #[.int .i64 op, .int .i64 a, .int .i64 b] w fun e w' => e = .returned (.bool t) ∧ w = w')

theorem same_test (op a b : Int) : SameTest op a b := by
  by_cases h1 : op = 1
  · subst h1
    exact ⟨(a == b), fun w => test_eq a b w _ rfl, fun w => rtest_eq a b w _ rfl⟩
  by_cases h2 : op = 2
  · subst h2
    exact ⟨(a != b), fun w => test_ne a b w _ rfl, fun w => rtest_ne a b w _ rfl⟩
  by_cases h3 : op = 3
  · subst h3
    exact ⟨decide (a < b), fun w => test_lt a b w _ rfl, fun w => rtest_lt a b w _ rfl⟩
  by_cases h4 : op = 4
  · subst h4
    exact ⟨decide (a ≤ b), fun w => test_le a b w _ rfl, fun w => rtest_le a b w _ rfl⟩
  by_cases h5 : op = 5
  · subst h5
    exact ⟨decide (b < a), fun w => test_gt a b w _ rfl, fun w => rtest_gt a b w _ rfl⟩
  by_cases h6 : op = 6
  · subst h6
    exact ⟨decide (b ≤ a), fun w => test_ge a b w _ rfl, fun w => rtest_ge a b w _ rfl⟩
  exact ⟨false, fun w => test_none op a b w h1 h2 h3 h4 h5 h6, fun w => rtest_none op a b w h1 h2 h3 h4 h5 h6⟩

theorem num_tells (op a b : Int) (w : World) : Calls Try.prog 14 #[.int .i64 op, .int .i64 a, .int .i64 b] w fun e w' => e = .returned (.bool true) ∧ Grown w w' := by
  obtain ⟨n, ok, h1, h2⟩ := same_do op a b
  obtain ⟨t, h3, h4⟩ := same_test op a b
  have H1 := Lib.hid h1
  have H2 := Lib.hid h2
  have H3 := Lib.hid h3
  have H4 := Lib.hid h4
  clear h1 h2 h3 h4
  go_enter Try.func14, Try.ntmps14
  go_wp2_with fail
  refine (H1.out _).mono ?_
  rintro e w' ⟨rfl, rfl⟩
  go_wp2_with fail
  refine (H2.out _).mono ?_
  rintro e w1 ⟨rfl, hg⟩
  go_wp2_with fail
  refine (H3.out _).mono ?_
  rintro e w' ⟨rfl, rfl⟩
  go_wp2_with fail
  refine (H4.out _).mono ?_
  rintro e w' ⟨rfl, rfl⟩
  go_wp2
  go_ret
  exact ⟨rfl, by go_grown⟩
end Go.Proofs.Yteejfidkomhblaa
