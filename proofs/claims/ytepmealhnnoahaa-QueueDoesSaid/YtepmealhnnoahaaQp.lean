/-
  Which of two matches comes first.
-/
import Derived.Test.YtepmealhnnoahaaQo
namespace Go.Proofs.Ytepmealhnnoahaa
open Go.ChangeShapes Go.WideShapes Go.ChangeAt Go.RowKit
set_option linter.unusedVariables false
set_option maxRecDepth 100000 in
theorem less_is (w : World) (a b : Int) (x1 x2 y1 y2 : Option Addr) (n1 n2 m1 m2 c1 c2 e1 e2 : Nat) :
    Calls Try.prog 38 #[.agg #[.int .i64 a, .slice x1 n1 c1, .slice x2 n2 c2], .agg #[.int .i64 b, .slice y1 m1 e1, .slice y2 m2 e2]] w fun e w' => e = .returned (.bool (decide (a < b))) ∧ Turn (fun _ => False) w w' := by
  have FIN := Lib.hid (show Turn (fun _ => False) w ((w.alloc (.cells #[.int .i64 a, .slice x1 n1 c1, .slice x2 n2 c2] 73)).alloc (.cells #[.int .i64 b, .slice y1 m1 e1, .slice y2 m2 e2] 73)) from ((Turn.refl _ w).alloc _).alloc _)
  go_enter Try.func38, Try.ntmps38
  go_wp2
  go_ret
  exact ⟨rfl, FIN.out⟩
end Go.Proofs.Ytepmealhnnoahaa
