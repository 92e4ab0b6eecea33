/-
  What may begin a part that stands alone.
-/
import Derived.Test.YtadogobdlcionaaDoorRf
namespace Go.Proofs.YtadogobdlcionaaDoor
open Go.ChangeShapes Go.WideShapes Go.ChangeAt Go.RowKit Go.Shelf
set_option linter.unusedVariables false
/-- May a part that stands alone begin so? -/
def unaryB (s : ByteArray) (x : Nat × Tok) : Bool := ((textOf s x).toList == [45]) || ((textOf s x).toList == [40]) || ((textOf s x).toList == [35]) || decide (x.2.kind = 3) || nameB s x
set_option maxRecDepth 100000 in
set_option maxHeartbeats 2000000 in
theorem unary_tells (s : ByteArray) : Tells 84 s (unaryB s) := by
  refine ⟨enters 84 Tryd.func84 (by kernel_rfl) rfl, fun w x => ?_⟩
  have NT := Lib.hid (fun w => (name_tells s).2 w x)
  unfold unaryB
  unfold tokC tokL at NT ⊢
  rw [show s.extract x.1 (x.1 + x.2.len) = textOf s x from rfl] at NT ⊢
  rw [← dec_int]
  generalize nameB s x = nb at *
  generalize textOf s x = tx at *
  obtain ⟨W, hW⟩ : ∃ W, W = w.alloc (.cells #[.int .i64 (x.2.kind : Int), .int .i64 (x.1 : Int), .string tx, .int .i64 (x.2.n : Int)] 67) := ⟨_, rfl⟩
  have T0 : Turn (fun _ => False) w W := by rw [hW]; exact (Turn.refl _ _).alloc _
  have c0 : W.cell? ⟨w.heap.size, 0, none⟩ = some (.int .i64 (x.2.kind : Int)) := by rw [hW]; exact cell_new rfl rfl
  have c1 : W.cell? ⟨w.heap.size, 1, none⟩ = some (.int .i64 (x.1 : Int)) := by rw [hW]; exact cell_new rfl rfl
  have c2 : W.cell? ⟨w.heap.size, 2, none⟩ = some (.string tx) := by rw [hW]; exact cell_new rfl rfl
  have c3 : W.cell? ⟨w.heap.size, 3, none⟩ = some (.int .i64 (x.2.n : Int)) := by rw [hW]; exact cell_new rfl rfl
  have F := Lib.hid T0
  have HW := Lib.hid hW
  clear T0 hW
  cases h1 : (tx.toList == [45]) with
  | true =>
    go_enter Tryd.func84, Tryd.ntmps84
    go_upto_region 1 with fail
    rw [← HW.out]
    go_wp2_with fail
    go_ret
    exact ⟨rfl, F.out⟩
  | false =>
    cases h2 : (tx.toList == [40]) with
    | true =>
      go_enter Tryd.func84, Tryd.ntmps84
      go_upto_region 1 with fail
      rw [← HW.out]
      go_wp2_with fail
      go_ret
      exact ⟨rfl, F.out⟩
    | false =>
      cases h3 : (tx.toList == [35]) with
      | true =>
        go_enter Tryd.func84, Tryd.ntmps84
        go_upto_region 1 with fail
        rw [← HW.out]
        go_wp2_with fail
        go_ret
        exact ⟨rfl, F.out⟩
      | false =>
        cases h4 : ((x.2.kind : Int) == ((3 : Nat) : Int)) with
        | true =>
          have h4 : ((x.2.kind : Int) == 3) = true := h4
          go_enter Tryd.func84, Tryd.ntmps84
          go_upto_region 1 with fail
          rw [← HW.out]
          go_wp2_with fail
          go_ret
          exact ⟨rfl, F.out⟩
        | false =>
          have h4 : ((x.2.kind : Int) == 3) = false := h4
          go_enter Tryd.func84, Tryd.ntmps84
          go_upto_region 1 with fail
          rw [← HW.out]
          go_wp2_with fail
          with_reducible refine (NT.out _).mono ?_
          rintro y w1 ⟨rfl, T1⟩
          have G := Lib.hid (F.out.trans T1)
          clear T1
          go_wp2_with fail
          go_ret
          exact ⟨rfl, G.out⟩
end Go.Proofs.YtadogobdlcionaaDoor
