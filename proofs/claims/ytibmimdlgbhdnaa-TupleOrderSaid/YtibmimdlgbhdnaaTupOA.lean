/-
  The walk of TupleOrder, for any rows.
-/
import Derived.Test.YtibmimdlgbhdnaaTupW
import Derived.Test.YtibmimdlgbhdnaaTupOW
import Derived.Test.YtibmimdlgbhdnaaTupA
namespace Go.Proofs.Ytibmimdlgbhdnaa
open Go.ChangeShapes Go.WideShapes Go.ChangeAt Go.RowKit
set_option linter.unusedVariables false

def InRows (W : World) (v : Value) : Prop := ∃ LL, RowsAt W v LL ∧ LL.length ≤ 9223372036854775807 ∧ ∀ x ∈ LL, x.length ≤ 9223372036854775807
theorem order_any (a0 : Option Addr) (l0 c0 : Nat) (a1 : Option Addr) (l1 c1 : Nat) (a2 : Option Addr) (l2 c2 : Nat) (w : World) (h0 : InRows w (.slice a0 l0 c0)) (h1 : InRows w (.slice a1 l1 c1)) (h2 : InRows w (.slice a2 l2 c2)) :
    Calls Try.prog 4 #[.slice a0 l0 c0, .slice a1 l1 c1, .slice a2 l2 c2] w fun e w' => e = .returned (.bool true) ∧ Below w.heap.size w w' := by
  obtain ⟨A, ha, la, ra⟩ := h0
  obtain ⟨B, hb, lb, rb⟩ := h1
  obtain ⟨C, hc, lc, rc⟩ := h2
  exact order_walk tuple_awake ha hb hc la lb lc ra rb rc
end Go.Proofs.Ytibmimdlgbhdnaa
