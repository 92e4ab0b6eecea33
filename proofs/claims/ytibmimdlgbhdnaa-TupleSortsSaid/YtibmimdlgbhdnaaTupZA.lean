/-
  The walk of TupleSorts, for any rows.
-/
import Derived.Test.YtibmimdlgbhdnaaTupZ
namespace Go.Proofs.Ytibmimdlgbhdnaa
open Go.ChangeShapes Go.WideShapes Go.ChangeAt Go.RowKit
set_option linter.unusedVariables false

def InRowsZ (W : World) (v : Value) : Prop := ∃ LL, RowsAt W v LL ∧ LL.length ≤ 9223372036854775807 ∧ ∀ x ∈ LL, x.length ≤ 9223372036854775807
theorem sorts_any (a0 : Option Addr) (l0 c0 : Nat) (w : World) (h0 : InRowsZ w (.slice a0 l0 c0)) :
    Calls Try.prog 5 #[.slice a0 l0 c0] w fun e w' => e = .returned (.bool true) ∧ Below w.heap.size w w' := by
  obtain ⟨A, ha, la, ra⟩ := h0
  exact sorts_walk ha la ra
end Go.Proofs.Ytibmimdlgbhdnaa
