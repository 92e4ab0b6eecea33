/-
  Of any three numbers and any three texts the Go function NumClamps of layer 1 answers true. No conditions.
-/
import Derived.Test.YteejfidkomhblaaRows
import Derived.WalkKit
import Derived.ProofKit
import Derived.OpenShut
import Derived.ShutString
import Derived.Handy
import Derived.WalkLawsBesides
import Derived.Lib.Hide
import Derived.Test.YteejfidkomhblaaNum
import Derived.Test.YteejfidkomhblaaArr
import Derived.Test.YteejfidkomhblaaClamp
namespace Go.Proofs.Yteejfidkomhblaa.numClamps
open Go.ChangeShapes Go.WideShapes Go.ChangeAt Go.RowKit
set_option linter.unusedVariables false

theorem own : ownKnob Try.prog.godebug = none := by kernel_rfl
theorem c27 : Try.prog.cellsOf 27 = 3 := by kernel_rfl
theorem c2 : Try.prog.cellsOf 2 = 1 := by kernel_rfl
theorem c29 : Try.prog.cellsOf 29 = 3 := by kernel_rfl
theorem c9 : Try.prog.cellsOf 9 = 1 := by kernel_rfl

def LawAt (x l h : Int) (s m n : ByteArray) (w : World) : Prop :=
  Calls Try.prog 7 #[.agg #[.int .i64 x, .int .i64 l, .int .i64 h], .agg #[.string s, .string m, .string n]] w fun e w' => e = .returned (.bool true) ∧ Grown w w'

theorem walk_a_lo (x l h : Int) (s m n : ByteArray) (h1 : x < l) (h2 : h < l) (t1 : Op.bytesLess s.toList m.toList = true) (w : World) : LawAt x l h s m n w := by
  unfold LawAt
  have H0 := Lib.hid num_awake
  have H1 := Lib.hid fun w => clamp_lo x l h w h1
  have H2 := Lib.hid fun w => text_lo s m n w t1
  go_enter Try.func7, Try.ntmps7
  go_wp2_with fail
  refine (H0.out _).mono ?_
  rintro e w' ⟨rfl, rfl⟩
  go_wp2_with fail
  refine (H1.out _).mono ?_
  rintro e w' ⟨rfl, rfl⟩
  go_wp2_with fail
  refine (H2.out _).mono ?_
  rintro e w' ⟨rfl, rfl⟩
  go_wp2
  go_ret
  exact ⟨rfl, by go_grown⟩

theorem walk_a_hi (x l h : Int) (s m n : ByteArray) (h1 : x < l) (h2 : h < l) (t1 : Op.bytesLess s.toList m.toList = false) (t2 : Op.bytesLess s.toList n.toList = false) (t3 : (s.toList == n.toList) = false) (w : World) : LawAt x l h s m n w := by
  unfold LawAt
  have H0 := Lib.hid num_awake
  have H1 := Lib.hid fun w => clamp_lo x l h w h1
  have H2 := Lib.hid fun w => text_hi s m n w t1 t2 t3
  go_enter Try.func7, Try.ntmps7
  go_wp2_with fail
  refine (H0.out _).mono ?_
  rintro e w' ⟨rfl, rfl⟩
  go_wp2_with fail
  refine (H1.out _).mono ?_
  rintro e w' ⟨rfl, rfl⟩
  go_wp2_with fail
  refine (H2.out _).mono ?_
  rintro e w' ⟨rfl, rfl⟩
  go_wp2
  go_ret
  exact ⟨rfl, by go_grown⟩

theorem walk_a_in1 (x l h : Int) (s m n : ByteArray) (h1 : x < l) (h2 : h < l) (t1 : Op.bytesLess s.toList m.toList = false) (t2 : Op.bytesLess s.toList n.toList = true) (w : World) : LawAt x l h s m n w := by
  unfold LawAt
  have H0 := Lib.hid num_awake
  have H1 := Lib.hid fun w => clamp_lo x l h w h1
  have H2 := Lib.hid fun w => text_in1 s m n w t1 t2
  go_enter Try.func7, Try.ntmps7
  go_wp2_with fail
  refine (H0.out _).mono ?_
  rintro e w' ⟨rfl, rfl⟩
  go_wp2_with fail
  refine (H1.out _).mono ?_
  rintro e w' ⟨rfl, rfl⟩
  go_wp2_with fail
  refine (H2.out _).mono ?_
  rintro e w' ⟨rfl, rfl⟩
  go_wp2
  go_ret
  exact ⟨rfl, by go_grown⟩

theorem walk_a_in2 (x l h : Int) (s m n : ByteArray) (h1 : x < l) (h2 : h < l) (t1 : Op.bytesLess s.toList m.toList = false) (t2 : Op.bytesLess s.toList n.toList = false) (t3 : (s.toList == n.toList) = true) (w : World) : LawAt x l h s m n w := by
  unfold LawAt
  have H0 := Lib.hid num_awake
  have H1 := Lib.hid fun w => clamp_lo x l h w h1
  have H2 := Lib.hid fun w => text_in2 s m n w t1 t2 t3
  go_enter Try.func7, Try.ntmps7
  go_wp2_with fail
  refine (H0.out _).mono ?_
  rintro e w' ⟨rfl, rfl⟩
  go_wp2_with fail
  refine (H1.out _).mono ?_
  rintro e w' ⟨rfl, rfl⟩
  go_wp2_with fail
  refine (H2.out _).mono ?_
  rintro e w' ⟨rfl, rfl⟩
  go_wp2
  go_ret
  exact ⟨rfl, by go_grown⟩

theorem walk_b_lo (x l h : Int) (s m n : ByteArray) (h1 : x < l) (h2 : ¬ h < l) (t1 : Op.bytesLess s.toList m.toList = true) (w : World) : LawAt x l h s m n w := by
  unfold LawAt
  have H0 := Lib.hid num_awake
  have H1 := Lib.hid fun w => clamp_lo x l h w h1
  have H2 := Lib.hid fun w => text_lo s m n w t1
  have H3 := Lib.hid fun w => clamp_in l l h w (by omega) h2
  go_enter Try.func7, Try.ntmps7
  go_wp2_with fail
  refine (H0.out _).mono ?_
  rintro e w' ⟨rfl, rfl⟩
  go_wp2_with fail
  refine (H1.out _).mono ?_
  rintro e w' ⟨rfl, rfl⟩
  go_wp2_with fail
  refine (H2.out _).mono ?_
  rintro e w' ⟨rfl, rfl⟩
  go_wp2_with fail
  refine (H3.out _).mono ?_
  rintro e w' ⟨rfl, rfl⟩
  go_wp2
  go_ret
  exact ⟨rfl, by go_grown⟩

theorem walk_b_hi (x l h : Int) (s m n : ByteArray) (h1 : x < l) (h2 : ¬ h < l) (t1 : Op.bytesLess s.toList m.toList = false) (t2 : Op.bytesLess s.toList n.toList = false) (t3 : (s.toList == n.toList) = false) (w : World) : LawAt x l h s m n w := by
  unfold LawAt
  have H0 := Lib.hid num_awake
  have H1 := Lib.hid fun w => clamp_lo x l h w h1
  have H2 := Lib.hid fun w => text_hi s m n w t1 t2 t3
  have H3 := Lib.hid fun w => clamp_in l l h w (by omega) h2
  go_enter Try.func7, Try.ntmps7
  go_wp2_with fail
  refine (H0.out _).mono ?_
  rintro e w' ⟨rfl, rfl⟩
  go_wp2_with fail
  refine (H1.out _).mono ?_
  rintro e w' ⟨rfl, rfl⟩
  go_wp2_with fail
  refine (H2.out _).mono ?_
  rintro e w' ⟨rfl, rfl⟩
  go_wp2_with fail
  refine (H3.out _).mono ?_
  rintro e w' ⟨rfl, rfl⟩
  go_wp2
  go_ret
  exact ⟨rfl, by go_grown⟩

theorem walk_b_in1 (x l h : Int) (s m n : ByteArray) (h1 : x < l) (h2 : ¬ h < l) (t1 : Op.bytesLess s.toList m.toList = false) (t2 : Op.bytesLess s.toList n.toList = true) (w : World) : LawAt x l h s m n w := by
  unfold LawAt
  have H0 := Lib.hid num_awake
  have H1 := Lib.hid fun w => clamp_lo x l h w h1
  have H2 := Lib.hid fun w => text_in1 s m n w t1 t2
  have H3 := Lib.hid fun w => clamp_in l l h w (by omega) h2
  go_enter Try.func7, Try.ntmps7
  go_wp2_with fail
  refine (H0.out _).mono ?_
  rintro e w' ⟨rfl, rfl⟩
  go_wp2_with fail
  refine (H1.out _).mono ?_
  rintro e w' ⟨rfl, rfl⟩
  go_wp2_with fail
  refine (H2.out _).mono ?_
  rintro e w' ⟨rfl, rfl⟩
  go_wp2_with fail
  refine (H3.out _).mono ?_
  rintro e w' ⟨rfl, rfl⟩
  go_wp2
  go_ret
  exact ⟨rfl, by go_grown⟩

theorem walk_b_in2 (x l h : Int) (s m n : ByteArray) (h1 : x < l) (h2 : ¬ h < l) (t1 : Op.bytesLess s.toList m.toList = false) (t2 : Op.bytesLess s.toList n.toList = false) (t3 : (s.toList == n.toList) = true) (w : World) : LawAt x l h s m n w := by
  unfold LawAt
  have H0 := Lib.hid num_awake
  have H1 := Lib.hid fun w => clamp_lo x l h w h1
  have H2 := Lib.hid fun w => text_in2 s m n w t1 t2 t3
  have H3 := Lib.hid fun w => clamp_in l l h w (by omega) h2
  go_enter Try.func7, Try.ntmps7
  go_wp2_with fail
  refine (H0.out _).mono ?_
  rintro e w' ⟨rfl, rfl⟩
  go_wp2_with fail
  refine (H1.out _).mono ?_
  rintro e w' ⟨rfl, rfl⟩
  go_wp2_with fail
  refine (H2.out _).mono ?_
  rintro e w' ⟨rfl, rfl⟩
  go_wp2_with fail
  refine (H3.out _).mono ?_
  rintro e w' ⟨rfl, rfl⟩
  go_wp2
  go_ret
  exact ⟨rfl, by go_grown⟩

theorem walk_c_lo (x l h : Int) (s m n : ByteArray) (h1 : ¬ x < l) (h2 : h < x) (h3 : h < l) (t1 : Op.bytesLess s.toList m.toList = true) (w : World) : LawAt x l h s m n w := by
  unfold LawAt
  have H0 := Lib.hid num_awake
  have H1 := Lib.hid fun w => clamp_hi x l h w h1 h2
  have H2 := Lib.hid fun w => text_lo s m n w t1
  go_enter Try.func7, Try.ntmps7
  go_wp2_with fail
  refine (H0.out _).mono ?_
  rintro e w' ⟨rfl, rfl⟩
  go_wp2_with fail
  refine (H1.out _).mono ?_
  rintro e w' ⟨rfl, rfl⟩
  go_wp2_with fail
  refine (H2.out _).mono ?_
  rintro e w' ⟨rfl, rfl⟩
  go_wp2
  go_ret
  exact ⟨rfl, by go_grown⟩

theorem walk_c_hi (x l h : Int) (s m n : ByteArray) (h1 : ¬ x < l) (h2 : h < x) (h3 : h < l) (t1 : Op.bytesLess s.toList m.toList = false) (t2 : Op.bytesLess s.toList n.toList = false) (t3 : (s.toList == n.toList) = false) (w : World) : LawAt x l h s m n w := by
  unfold LawAt
  have H0 := Lib.hid num_awake
  have H1 := Lib.hid fun w => clamp_hi x l h w h1 h2
  have H2 := Lib.hid fun w => text_hi s m n w t1 t2 t3
  go_enter Try.func7, Try.ntmps7
  go_wp2_with fail
  refine (H0.out _).mono ?_
  rintro e w' ⟨rfl, rfl⟩
  go_wp2_with fail
  refine (H1.out _).mono ?_
  rintro e w' ⟨rfl, rfl⟩
  go_wp2_with fail
  refine (H2.out _).mono ?_
  rintro e w' ⟨rfl, rfl⟩
  go_wp2
  go_ret
  exact ⟨rfl, by go_grown⟩

theorem walk_c_in1 (x l h : Int) (s m n : ByteArray) (h1 : ¬ x < l) (h2 : h < x) (h3 : h < l) (t1 : Op.bytesLess s.toList m.toList = false) (t2 : Op.bytesLess s.toList n.toList = true) (w : World) : LawAt x l h s m n w := by
  unfold LawAt
  have H0 := Lib.hid num_awake
  have H1 := Lib.hid fun w => clamp_hi x l h w h1 h2
  have H2 := Lib.hid fun w => text_in1 s m n w t1 t2
  go_enter Try.func7, Try.ntmps7
  go_wp2_with fail
  refine (H0.out _).mono ?_
  rintro e w' ⟨rfl, rfl⟩
  go_wp2_with fail
  refine (H1.out _).mono ?_
  rintro e w' ⟨rfl, rfl⟩
  go_wp2_with fail
  refine (H2.out _).mono ?_
  rintro e w' ⟨rfl, rfl⟩
  go_wp2
  go_ret
  exact ⟨rfl, by go_grown⟩

theorem walk_c_in2 (x l h : Int) (s m n : ByteArray) (h1 : ¬ x < l) (h2 : h < x) (h3 : h < l) (t1 : Op.bytesLess s.toList m.toList = false) (t2 : Op.bytesLess s.toList n.toList = false) (t3 : (s.toList == n.toList) = true) (w : World) : LawAt x l h s m n w := by
  unfold LawAt
  have H0 := Lib.hid num_awake
  have H1 := Lib.hid fun w => clamp_hi x l h w h1 h2
  have H2 := Lib.hid fun w => text_in2 s m n w t1 t2 t3
  go_enter Try.func7, Try.ntmps7
  go_wp2_with fail
  refine (H0.out _).mono ?_
  rintro e w' ⟨rfl, rfl⟩
  go_wp2_with fail
  refine (H1.out _).mono ?_
  rintro e w' ⟨rfl, rfl⟩
  go_wp2_with fail
  refine (H2.out _).mono ?_
  rintro e w' ⟨rfl, rfl⟩
  go_wp2
  go_ret
  exact ⟨rfl, by go_grown⟩

theorem walk_d_lo (x l h : Int) (s m n : ByteArray) (h1 : ¬ x < l) (h2 : h < x) (h3 : ¬ h < l) (t1 : Op.bytesLess s.toList m.toList = true) (w : World) : LawAt x l h s m n w := by
  unfold LawAt
  have H0 := Lib.hid num_awake
  have H1 := Lib.hid fun w => clamp_hi x l h w h1 h2
  have H2 := Lib.hid fun w => text_lo s m n w t1
  have H3 := Lib.hid fun w => clamp_in h l h w h3 (by omega)
  go_enter Try.func7, Try.ntmps7
  go_wp2_with fail
  refine (H0.out _).mono ?_
  rintro e w' ⟨rfl, rfl⟩
  go_wp2_with fail
  refine (H1.out _).mono ?_
  rintro e w' ⟨rfl, rfl⟩
  go_wp2_with fail
  refine (H2.out _).mono ?_
  rintro e w' ⟨rfl, rfl⟩
  go_wp2_with fail
  refine (H3.out _).mono ?_
  rintro e w' ⟨rfl, rfl⟩
  go_wp2
  go_ret
  exact ⟨rfl, by go_grown⟩

theorem walk_d_hi (x l h : Int) (s m n : ByteArray) (h1 : ¬ x < l) (h2 : h < x) (h3 : ¬ h < l) (t1 : Op.bytesLess s.toList m.toList = false) (t2 : Op.bytesLess s.toList n.toList = false) (t3 : (s.toList == n.toList) = false) (w : World) : LawAt x l h s m n w := by
  unfold LawAt
  have H0 := Lib.hid num_awake
  have H1 := Lib.hid fun w => clamp_hi x l h w h1 h2
  have H2 := Lib.hid fun w => text_hi s m n w t1 t2 t3
  have H3 := Lib.hid fun w => clamp_in h l h w h3 (by omega)
  go_enter Try.func7, Try.ntmps7
  go_wp2_with fail
  refine (H0.out _).mono ?_
  rintro e w' ⟨rfl, rfl⟩
  go_wp2_with fail
  refine (H1.out _).mono ?_
  rintro e w' ⟨rfl, rfl⟩
  go_wp2_with fail
  refine (H2.out _).mono ?_
  rintro e w' ⟨rfl, rfl⟩
  go_wp2_with fail
  refine (H3.out _).mono ?_
  rintro e w' ⟨rfl, rfl⟩
  go_wp2
  go_ret
  exact ⟨rfl, by go_grown⟩

theorem walk_d_in1 (x l h : Int) (s m n : ByteArray) (h1 : ¬ x < l) (h2 : h < x) (h3 : ¬ h < l) (t1 : Op.bytesLess s.toList m.toList = false) (t2 : Op.bytesLess s.toList n.toList = true) (w : World) : LawAt x l h s m n w := by
  unfold LawAt
  have H0 := Lib.hid num_awake
  have H1 := Lib.hid fun w => clamp_hi x l h w h1 h2
  have H2 := Lib.hid fun w => text_in1 s m n w t1 t2
  have H3 := Lib.hid fun w => clamp_in h l h w h3 (by omega)
  go_enter Try.func7, Try.ntmps7
  go_wp2_with fail
  refine (H0.out _).mono ?_
  rintro e w' ⟨rfl, rfl⟩
  go_wp2_with fail
  refine (H1.out _).mono ?_
  rintro e w' ⟨rfl, rfl⟩
  go_wp2_with fail
  refine (H2.out _).mono ?_
  rintro e w' ⟨rfl, rfl⟩
  go_wp2_with fail
  refine (H3.out _).mono ?_
  rintro e w' ⟨rfl, rfl⟩
  go_wp2
  go_ret
  exact ⟨rfl, by go_grown⟩

theorem walk_d_in2 (x l h : Int) (s m n : ByteArray) (h1 : ¬ x < l) (h2 : h < x) (h3 : ¬ h < l) (t1 : Op.bytesLess s.toList m.toList = false) (t2 : Op.bytesLess s.toList n.toList = false) (t3 : (s.toList == n.toList) = true) (w : World) : LawAt x l h s m n w := by
  unfold LawAt
  have H0 := Lib.hid num_awake
  have H1 := Lib.hid fun w => clamp_hi x l h w h1 h2
  have H2 := Lib.hid fun w => text_in2 s m n w t1 t2 t3
  have H3 := Lib.hid fun w => clamp_in h l h w h3 (by omega)
  go_enter Try.func7, Try.ntmps7
  go_wp2_with fail
  refine (H0.out _).mono ?_
  rintro e w' ⟨rfl, rfl⟩
  go_wp2_with fail
  refine (H1.out _).mono ?_
  rintro e w' ⟨rfl, rfl⟩
  go_wp2_with fail
  refine (H2.out _).mono ?_
  rintro e w' ⟨rfl, rfl⟩
  go_wp2_with fail
  refine (H3.out _).mono ?_
  rintro e w' ⟨rfl, rfl⟩
  go_wp2
  go_ret
  exact ⟨rfl, by go_grown⟩

theorem walk_e_lo (x l h : Int) (s m n : ByteArray) (h1 : ¬ x < l) (h2 : ¬ h < x) (t1 : Op.bytesLess s.toList m.toList = true) (w : World) : LawAt x l h s m n w := by
  unfold LawAt
  have H0 := Lib.hid num_awake
  have H1 := Lib.hid fun w => clamp_in x l h w h1 h2
  have H2 := Lib.hid fun w => text_lo s m n w t1
  have H3 := Lib.hid fun w => clamp_in x l h w h1 h2
  go_enter Try.func7, Try.ntmps7
  go_wp2_with fail
  refine (H0.out _).mono ?_
  rintro e w' ⟨rfl, rfl⟩
  go_wp2_with fail
  refine (H1.out _).mono ?_
  rintro e w' ⟨rfl, rfl⟩
  go_wp2_with fail
  refine (H2.out _).mono ?_
  rintro e w' ⟨rfl, rfl⟩
  go_wp2_with fail
  refine (H3.out _).mono ?_
  rintro e w' ⟨rfl, rfl⟩
  go_wp2
  go_ret
  exact ⟨rfl, by go_grown⟩

theorem walk_e_hi (x l h : Int) (s m n : ByteArray) (h1 : ¬ x < l) (h2 : ¬ h < x) (t1 : Op.bytesLess s.toList m.toList = false) (t2 : Op.bytesLess s.toList n.toList = false) (t3 : (s.toList == n.toList) = false) (w : World) : LawAt x l h s m n w := by
  unfold LawAt
  have H0 := Lib.hid num_awake
  have H1 := Lib.hid fun w => clamp_in x l h w h1 h2
  have H2 := Lib.hid fun w => text_hi s m n w t1 t2 t3
  have H3 := Lib.hid fun w => clamp_in x l h w h1 h2
  go_enter Try.func7, Try.ntmps7
  go_wp2_with fail
  refine (H0.out _).mono ?_
  rintro e w' ⟨rfl, rfl⟩
  go_wp2_with fail
  refine (H1.out _).mono ?_
  rintro e w' ⟨rfl, rfl⟩
  go_wp2_with fail
  refine (H2.out _).mono ?_
  rintro e w' ⟨rfl, rfl⟩
  go_wp2_with fail
  refine (H3.out _).mono ?_
  rintro e w' ⟨rfl, rfl⟩
  go_wp2
  go_ret
  exact ⟨rfl, by go_grown⟩

theorem walk_e_in1 (x l h : Int) (s m n : ByteArray) (h1 : ¬ x < l) (h2 : ¬ h < x) (t1 : Op.bytesLess s.toList m.toList = false) (t2 : Op.bytesLess s.toList n.toList = true) (w : World) : LawAt x l h s m n w := by
  unfold LawAt
  have H0 := Lib.hid num_awake
  have H1 := Lib.hid fun w => clamp_in x l h w h1 h2
  have H2 := Lib.hid fun w => text_in1 s m n w t1 t2
  have H3 := Lib.hid fun w => clamp_in x l h w h1 h2
  go_enter Try.func7, Try.ntmps7
  go_wp2_with fail
  refine (H0.out _).mono ?_
  rintro e w' ⟨rfl, rfl⟩
  go_wp2_with fail
  refine (H1.out _).mono ?_
  rintro e w' ⟨rfl, rfl⟩
  go_wp2_with fail
  refine (H2.out _).mono ?_
  rintro e w' ⟨rfl, rfl⟩
  go_wp2_with fail
  refine (H3.out _).mono ?_
  rintro e w' ⟨rfl, rfl⟩
  go_wp2
  go_ret
  exact ⟨rfl, by go_grown⟩

theorem walk_e_in2 (x l h : Int) (s m n : ByteArray) (h1 : ¬ x < l) (h2 : ¬ h < x) (t1 : Op.bytesLess s.toList m.toList = false) (t2 : Op.bytesLess s.toList n.toList = false) (t3 : (s.toList == n.toList) = true) (w : World) : LawAt x l h s m n w := by
  unfold LawAt
  have H0 := Lib.hid num_awake
  have H1 := Lib.hid fun w => clamp_in x l h w h1 h2
  have H2 := Lib.hid fun w => text_in2 s m n w t1 t2 t3
  have H3 := Lib.hid fun w => clamp_in x l h w h1 h2
  go_enter Try.func7, Try.ntmps7
  go_wp2_with fail
  refine (H0.out _).mono ?_
  rintro e w' ⟨rfl, rfl⟩
  go_wp2_with fail
  refine (H1.out _).mono ?_
  rintro e w' ⟨rfl, rfl⟩
  go_wp2_with fail
  refine (H2.out _).mono ?_
  rintro e w' ⟨rfl, rfl⟩
  go_wp2_with fail
  refine (H3.out _).mono ?_
  rintro e w' ⟨rfl, rfl⟩
  go_wp2
  go_ret
  exact ⟨rfl, by go_grown⟩

theorem texts (x l h : Int) (s m n : ByteArray) (w : World)
    (q1 : Op.bytesLess s.toList m.toList = true → LawAt x l h s m n w)
    (q2 : Op.bytesLess s.toList m.toList = false → Op.bytesLess s.toList n.toList = false → (s.toList == n.toList) = false → LawAt x l h s m n w)
    (q3 : Op.bytesLess s.toList m.toList = false → Op.bytesLess s.toList n.toList = true → LawAt x l h s m n w)
    (q4 : Op.bytesLess s.toList m.toList = false → Op.bytesLess s.toList n.toList = false → (s.toList == n.toList) = true → LawAt x l h s m n w) : LawAt x l h s m n w := by
  cases h1 : Op.bytesLess s.toList m.toList with
  | true => exact q1 h1
  | false =>
    cases h2 : Op.bytesLess s.toList n.toList with
    | true => exact q3 h1 h2
    | false =>
      cases h3 : (s.toList == n.toList) with
      | true => exact q4 h1 h2 h3
      | false => exact q2 h1 h2 h3

theorem walk (x l h : Int) (s m n : ByteArray) (w : World) : LawAt x l h s m n w := by
  by_cases h1 : x < l
  · by_cases h2 : h < l
    · exact texts x l h s m n w (walk_a_lo x l h s m n h1 h2 · w) (walk_a_hi x l h s m n h1 h2 · · · w) (walk_a_in1 x l h s m n h1 h2 · · w) (walk_a_in2 x l h s m n h1 h2 · · · w)
    · exact texts x l h s m n w (walk_b_lo x l h s m n h1 h2 · w) (walk_b_hi x l h s m n h1 h2 · · · w) (walk_b_in1 x l h s m n h1 h2 · · w) (walk_b_in2 x l h s m n h1 h2 · · · w)
  · by_cases h2 : h < x
    · by_cases h3 : h < l
      · exact texts x l h s m n w (walk_c_lo x l h s m n h1 h2 h3 · w) (walk_c_hi x l h s m n h1 h2 h3 · · · w) (walk_c_in1 x l h s m n h1 h2 h3 · · w) (walk_c_in2 x l h s m n h1 h2 h3 · · · w)
      · exact texts x l h s m n w (walk_d_lo x l h s m n h1 h2 h3 · w) (walk_d_hi x l h s m n h1 h2 h3 · · · w) (walk_d_in1 x l h s m n h1 h2 h3 · · w) (walk_d_in2 x l h s m n h1 h2 h3 · · · w)
    · exact texts x l h s m n w (walk_e_lo x l h s m n h1 h2 · w) (walk_e_hi x l h s m n h1 h2 · · · w) (walk_e_in1 x l h s m n h1 h2 · · w) (walk_e_in2 x l h s m n h1 h2 · · · w)

set_option maxRecDepth 100000 in
theorem lifted (os : Os) (started : os.Started) (H : Type) (enc : TypeId × Value → H) :
    ReturnsInHanded {} Try.checked os 7 .any (Rows.numClampsSpec.pre6 enc Try.prog Try.f7 Rows.numClampsRow.domain false) (Rows.numClampsSpec.post enc Try.prog Try.f7 false true false false) := by
  refine returnsInHanded_of_change (C := Try.checked) own started (by kernel_rfl) Try.func7
    (ChangeSpec.witness6 (enc := enc) (C := Try.checked) false ⟨#[], #[.agg #[.int .i64 0, .int .i64 0, .int .i64 0], .agg #[.string ByteArray.empty, .string ByteArray.empty, .string ByteArray.empty]], []⟩ 8 (by kernel_rfl) (by kernel_rfl) (by kernel_rfl) (by kernel_rfl)) ?_
  intro W base args ds gs before hval0 hW hcnd _
  have hval : ∀ (j : Nat) t v, Try.f7.params[j]? = some t → args[j]? = some v → Value.okWide Try.prog W .any base t v := hval0
  have hW' := hW
  obtain ⟨p, q, hA0, hV, rfl, hfz, hnd⟩ := hW
  have hA : DataW.TrodAll enc Try.prog W 0 (fun _ => true) true Try.f7.params.toList args.toList ds p := hA0
  rw [Try.params7] at hA hval
  obtain ⟨v0, vs0, d0, ds0, p0, q0, hargs, rfl, rfl, h0, r0⟩ := trodAll_cons hA
  obtain ⟨v1, vs1, d1, ds1, p1, q1, rfl, rfl, rfl, h1, r1⟩ := trodAll_cons r0
  obtain ⟨rfl, rfl, rfl⟩ := trodAll_nil r1
  obtain rfl : args = #[v0, v1] := by cases args; simp_all
  obtain ⟨rfl, rfl⟩ := trodVars_none hV
  obtain ⟨a, b, c, rfl, rfl, rfl, wa, wb, wc⟩ := open_int3 Try.underlying27 Try.underlying2 c27 c2 (hval 0 27 v0 rfl rfl) h0
  obtain ⟨s, m, n, rfl, rfl, rfl, ws, wm, wn⟩ := open_str3 Try.underlying29 Try.underlying9 c29 c9 (hval 1 29 v1 rfl rfl) h1
  clear hA0 hval0
  simp only [List.append_nil] at hW'
  refine (walk a b c s m n W).mono fun e W' ⟨he, hg⟩ => ?_
  subst he
  exact ⟨_, rfl, post_of_same (pa := []) (pv := []) hW' (fun _ _ _ => (trodAll_cons_mk (shut_bool Try.underlying4 _) trodAll_mk0)) (fun sp _ => (trodAll_cons_mk (shut_int3 Try.underlying27 Try.underlying2 c27 c2 wa wb wc) (trodAll_cons_mk (shut_str3 Try.underlying29 Try.underlying9 c29 c9 ws wm wn) trodAll_mk0))) (fun _ _ => rfl) rfl
    (hg.frame _) hg.2.1 (ok_one (by kernel_rfl) rfl (okWide_bool_mk Try.underlying4 _))⟩

theorem over : Rows.numClampsRow.holds Try.pinned (OpenSpec.ofChange Rows.numClampsSpec) :=
  OpenClaim.holds_of_wide 7 Try.f7 rfl rfl rfl rfl rfl rfl rfl ⟨rfl, rfl, rfl, rfl, rfl⟩ rfl rfl rfl rfl rfl (by kernel_rfl) Try.func7 (by kernel_rfl)
    (of_decide_eq_true (by kernel_rfl)) (by unfold Func.isWrapper; first | (rw [if_pos (by decide +kernel)]; kernel_rfl) | (rw [if_neg (by decide +kernel)]; exact ⟨rfl, rfl⟩))
    (fun os started H enc _ => lifted os started H enc)

theorem proved : Rows.NumClampsSaid :=
  over
#print axioms proved
end Go.Proofs.Yteejfidkomhblaa.numClamps
