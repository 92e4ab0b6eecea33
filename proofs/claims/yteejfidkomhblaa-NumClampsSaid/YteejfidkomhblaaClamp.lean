/-
  What num.Clamp answers, at integers and at texts: contracts for the walk of NumClamps.
-/
import Derived.Test.YteejfidkomhblaaRows
import Derived.WalkKit
import Derived.ProofKit
import Derived.OpenShut
import Derived.WalkLawsBesides
namespace Go.Proofs.Yteejfidkomhblaa
open Go.ChangeShapes Go.WideShapes Go.ChangeAt Go.RowKit
set_option linter.unusedVariables false

theorem clamp_lo (x l h : Int) (w : World) (h1 : x < l) : Calls Try.prog 17 #[.int .i64 x, .int .i64 l, .int .i64 h] w fun e w' => e = .returned (.int .i64 l) ∧ w = w' := by
  go_enter Try.func17, Try.ntmps17
  go_wp2
  go_ret
  exact ⟨rfl, rfl⟩

theorem clamp_hi (x l h : Int) (w : World) (h1 : ¬ x < l) (h2 : h < x) : Calls Try.prog 17 #[.int .i64 x, .int .i64 l, .int .i64 h] w fun e w' => e = .returned (.int .i64 h) ∧ w = w' := by
  go_enter Try.func17, Try.ntmps17
  go_wp2
  go_ret
  exact ⟨rfl, rfl⟩

theorem clamp_in (x l h : Int) (w : World) (h1 : ¬ x < l) (h2 : ¬ h < x) : Calls Try.prog 17 #[.int .i64 x, .int .i64 l, .int .i64 h] w fun e w' => e = .returned (.int .i64 x) ∧ w = w' := by
  go_enter Try.func17, Try.ntmps17
  go_wp2
  go_ret
  exact ⟨rfl, rfl⟩

/-- Go's x > h of two texts, as the walk writes it. -/
theorem text_lo (x l h : ByteArray) (w : World) (h1 : Op.bytesLess x.toList l.toList = true) : Calls Try.prog 18 #[.string x, .string l, .string h] w fun e w' => e = .returned (.string l) ∧ w = w' := by
  go_enter Try.func18, Try.ntmps18
  go_wp2
  go_ret
  exact ⟨rfl, rfl⟩

theorem text_hi (x l h : ByteArray) (w : World) (h1 : Op.bytesLess x.toList l.toList = false) (h2 : Op.bytesLess x.toList h.toList = false) (h3 : (x.toList == h.toList) = false) : Calls Try.prog 18 #[.string x, .string l, .string h] w fun e w' => e = .returned (.string h) ∧ w = w' := by
  go_enter Try.func18, Try.ntmps18
  go_wp2
  go_ret
  exact ⟨rfl, rfl⟩

theorem text_in1 (x l h : ByteArray) (w : World) (h1 : Op.bytesLess x.toList l.toList = false) (h2 : Op.bytesLess x.toList h.toList = true) : Calls Try.prog 18 #[.string x, .string l, .string h] w fun e w' => e = .returned (.string x) ∧ w = w' := by
  go_enter Try.func18, Try.ntmps18
  go_wp2
  go_ret
  exact ⟨rfl, rfl⟩

theorem text_in2 (x l h : ByteArray) (w : World) (h1 : Op.bytesLess x.toList l.toList = false) (h2 : Op.bytesLess x.toList h.toList = false) (h3 : (x.toList == h.toList) = true) : Calls Try.prog 18 #[.string x, .string l, .string h] w fun e w' => e = .returned (.string x) ∧ w = w' := by
  go_enter Try.func18, Try.ntmps18
  go_wp2
  go_ret
  exact ⟨rfl, rfl⟩
end Go.Proofs.Yteejfidkomhblaa
