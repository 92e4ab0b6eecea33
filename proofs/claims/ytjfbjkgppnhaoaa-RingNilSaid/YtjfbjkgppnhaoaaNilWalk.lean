/-
  The walk of RingNil: of no ring nothing comes.
-/
import Derived.Test.YtjfbjkgppnhaoaaItm
namespace Go.Proofs.Ytjfbjkgppnhaoaa
open Go.ChangeShapes Go.WideShapes Go.ChangeAt Go.RowKit
set_option linter.unusedVariables false

theorem low_nil (w : World) : Calls Try.prog 35 #[.pointer none] w fun e w' => e = .returned (.int .i64 0) ∧ w = w' := by
  go_enter Try.func35, Try.ntmps35
  go_wp2
  go_ret
  exact ⟨rfl, rfl⟩
theorem len_nil (w : World) : Calls Try.prog 36 #[.pointer none] w fun e w' => e = .returned (.int .i64 0) ∧ w = w' := by
  go_enter Try.func36, Try.ntmps36
  go_wp2
  go_ret
  exact ⟨rfl, rfl⟩
theorem drop_nil (w : World) : Calls Try.prog 27 #[.pointer none] w fun e w' => e = .returned (.tuple #[.int .i64 0, .bool false]) ∧ ∃ k, w' = w.drewN k := by
  have L := Lib.hid (fun w => low_nil w)
  have G := Lib.hid (fun w => get_none none 0 w (find_nil 0 w))
  go_enter Try.func27, Try.ntmps27
  go_wp2_with fail
  refine (L.out _).mono ?_
  rintro e w1 ⟨rfl, rfl⟩
  go_wp2_with fail
  refine (G.out _).mono ?_
  rintro e w1 ⟨rfl, d, rfl⟩
  go_wp2
  go_ret2
  exact ⟨rfl, _, rfl⟩

set_option maxHeartbeats 1000000 in
theorem nil_walk (at_ x : Int) (w : World) : Calls Try.prog 11 #[.int .i64 at_, .int .i64 x] w fun e w' => e = .returned (.bool true) ∧ Below w.heap.size w w' := by
  have G := Lib.hid (fun w => get_none none at_ w (find_nil at_ w))
  have D := Lib.hid (fun w => drop_nil w)
  have A := Lib.hid (fun w => ring_awake w)
  have U := Lib.hid (fun w => put_no none at_ x w (find_nil at_ w))
  have L := Lib.hid (fun w => low_nil w)
  have N := Lib.hid (fun w => len_nil w)
  have I := Lib.hid (fun w => items_any none [] (fun _ => False) w (fun _ h => h.elim) (.inl ⟨rfl, rfl⟩))
  go_enter Try.func11, Try.ntmps11
  go_wp2_with fail
  refine (G.out _).mono ?_
  rintro e w1 ⟨rfl, d1, rfl⟩
  go_wp2_with fail
  refine (D.out _).mono ?_
  rintro e w1 ⟨rfl, d2, rfl⟩
  go_wp2_with fail
  refine (A.out _).mono ?_
  rintro e w1 ⟨rfl, b1⟩
  have B := Lib.hid b1
  clear b1
  go_wp2_with fail
  refine (U.out _).mono ?_
  rintro e w2 ⟨rfl, d3, rfl⟩
  go_wp2_with fail
  refine (L.out _).mono ?_
  rintro e w2 ⟨rfl, rfl⟩
  go_wp2_with fail
  refine (N.out _).mono ?_
  rintro e w2 ⟨rfl, rfl⟩
  go_wp2_with fail
  refine (I.out _).mono ?_
  rintro e w2 ⟨v, rfl, hrow, b2⟩
  obtain ⟨a, cap, rfl, _⟩ := row_slice hrow
  have B2 := Lib.hid b2
  clear hrow b2
  go_wp2
  go_ret
  have h1 := B.out
  have h2 := B2.out
  exact ⟨rfl, ⟨h2.os.trans h1.os, h2.tape.trans h1.tape, h2.output.trans h1.output, Nat.le_trans h1.size h2.size, fun k hk => (h2.block k (Nat.lt_of_lt_of_le hk h1.size)).trans (h1.block k hk)⟩⟩
end Go.Proofs.Ytjfbjkgppnhaoaa
