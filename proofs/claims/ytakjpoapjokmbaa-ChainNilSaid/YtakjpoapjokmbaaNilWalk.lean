/-
  The walk of ChainNil: of no chain nothing comes.
-/
import Derived.Test.YtakjpoapjokmbaaAwake
namespace Go.Proofs.Ytakjpoapjokmbaa
open Go.ChangeShapes Go.WideShapes Go.ChangeAt Go.RowKit
set_option linter.unusedVariables false

set_option maxRecDepth 100000 in
set_option maxHeartbeats 1000000 in
theorem nil_walk (id : Int) (hi : (Lit.int .i64 id).wf = true) (w : World) : Calls Try.prog 6 #[.int .i64 id] w fun e w' => e = .returned (.bool true) ∧ Below w.heap.size w w' := by
  have P := Lib.hid (fun w => push_nil (-1) 0 id 0 0 w)
  have D := Lib.hid (fun w => drop_nil id w)
  have A := Lib.hid (fun w => chain_awake w)
  have K := Lib.hid (fun w => keep_nil id w)
  have S := Lib.hid (fun w => sets_nil id hi w)
  have B := Lib.hid (fun w => back_nil id hi w)
  have C := Lib.hid (fun w => count_nil id w)
  have L := Lib.hid (fun w => live_nil w)
  go_enter Try.func6, Try.ntmps6
  go_wp2_with fail
  refine (P.out _).mono ?_
  rintro e w1 ⟨rfl, b1⟩
  have B1 := Lib.hid b1
  clear b1
  go_wp2_with fail
  refine (D.out _).mono ?_
  rintro e w2 ⟨rfl, b2⟩
  have B2 := Lib.hid (B1.out.trans (b2.mono B1.out.size))
  clear b2 B1
  go_wp2_with fail
  refine (A.out _).mono ?_
  rintro e w3 ⟨rfl, b3⟩
  have B3 := Lib.hid (B2.out.trans (b3.mono B2.out.size))
  clear b3 B2
  go_wp2_with fail
  refine (K.out _).mono ?_
  rintro e w4 ⟨rfl, b4⟩
  have B4 := Lib.hid (B3.out.trans (b4.mono B3.out.size))
  clear b4 B3
  go_wp2_with fail
  refine (S.out _).mono ?_
  rintro e w5 ⟨⟨a5, c5, rfl⟩, b5⟩
  have B5 := Lib.hid (B4.out.trans (b5.mono B4.out.size))
  clear b5 B4
  go_wp2_with fail
  refine (B.out _).mono ?_
  rintro e w6 ⟨⟨a6, c6, rfl⟩, b6⟩
  have B6 := Lib.hid (B5.out.trans (b6.mono B5.out.size))
  clear b6 B5
  go_wp2_with fail
  refine (C.out _).mono ?_
  rintro e w7 ⟨rfl, b7⟩
  have B7 := Lib.hid (B6.out.trans (b7.mono B6.out.size))
  clear b7 B6
  go_wp2_with fail
  refine (L.out _).mono ?_
  rintro e w8 ⟨rfl, rfl⟩
  go_wp2_with fail
  go_ret
  exact ⟨rfl, B7.out⟩
end Go.Proofs.Ytakjpoapjokmbaa
