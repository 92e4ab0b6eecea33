/-
  Both logs, side by side: what lies, which cursors there are.
-/
import Derived.Test.YteokdibfdahabaaMi
namespace Go.Proofs.Yteokdibfdahabaa
open Go.ChangeShapes Go.WideShapes Go.ChangeAt Go.RowKit
set_option linter.unusedVariables false
section
variable {w : World} {B : LB} {R : RB} {c : Cf} {s : LSt}
theorem LogAt.look2 (h : LogAt w B c s) {a : Int} (ha : -1000 ≤ a ∧ a ≤ 1000) : ∃ x y : Int, ∀ W, Turn (fun _ => False) w W → Calls Try.prog 19 #[.pointer (some ⟨B.l, 0, none⟩), .int .i64 a] W fun e w' => e = .returned (.tuple #[.agg #[.int .i64 x, .int .i64 0, .int .i64 y, .int .i64 0, .int .i64 0, .int .i64 0, .int .i64 0, .int .i64 0, .int .i64 0, .int .i64 0, .int .i64 0, .slice none 0 0, .int .i64 0, .bool false], .bool (s.X a).isSome]) ∧ Turn (fun _ => False) W w' :=
  ⟨((s.X a).getD (0, 0)).1, ((s.X a).getD (0, 0)).2, fun W T => (h.keep T).look_is (by omega)⟩
/-- All workers ahead of that one have left, or have seen the command at low. -/
def seenB (s : LSt) : Nat → Bool
  | 0 => true
  | k + 1 => seenB s k && (s.left k || decide (s.low < s.cur k))
theorem seenB_ready {kind : Int} : ∀ {n : Nat}, allTold s kind n = true → seenB s n = true
  | 0, _ => rfl
  | n + 1, h => by
    unfold allTold at h
    simp only [Bool.and_eq_true] at h
    unfold seenB
    rw [seenB_ready h.1]
    have := h.2
    unfold told at this
    cases hl : s.left n with
    | true => rfl
    | false =>
      rw [hl] at this
      simp at this
      simp [this.2]
end
end Go.Proofs.Yteokdibfdahabaa
