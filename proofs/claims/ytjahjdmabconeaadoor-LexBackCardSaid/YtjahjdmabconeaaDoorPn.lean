/-
  What is left below the greatest number.
-/
import Derived.Test.YtjahjdmabconeaaDoorPm
namespace Go.Proofs.YtjahjdmabconeaaDoor
open Go.ChangeShapes Go.WideShapes Go.ChangeAt Go.RowKit
set_option linter.unusedVariables false
theorem lim_is {d q : Nat} (h : d < 10) (hq : q = (9223372036854775807 - d) / 10) : wrap64 ((wrap64 (9223372036854775807 - (d : Int))).tdiv 10) = (q : Int) := by
  rw [wrap_max h, (quo_max h).1, ← hq]
  exact wrap_q2 hq
end Go.Proofs.YtjahjdmabconeaaDoor
