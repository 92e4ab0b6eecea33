/-
  What the functions of layer 16, and the document's answers for it, return, each beside the other: nothing that was there is written.
-/
import Derived.Test.YteejfidkomhblaaRoute
namespace Go.Proofs.Yteejfidkomhblaa
open Go.ChangeShapes Go.WideShapes Go.ChangeAt Go.RowKit
set_option linter.unusedVariables false

/-- A call that answers v, and writes nothing that was there. -/
def Tells (f : FuncId) (args : Array Value) (v : Value) : Prop := ∀ w : World, Calls Try.prog f args w fun e w' => e = .returned v ∧ Below w.heap.size w w'

theorem tells_of {f : FuncId} {args : Array Value} {v : Value} (h : ∀ w : World, Calls Try.prog f args w fun e w' => e = .returned v ∧ w = w') : Tells f args v :=
  fun w => (h w).mono fun e w' ⟨a, b⟩ => ⟨a, by subst b; exact Below.refl _ _⟩

theorem below_on {a b c : World} (h : Below a.heap.size a b) (k : Below b.heap.size b c) : Below a.heap.size a c := h.trans (k.mono h.size)

theorem b_mix (x : Int) : Tells 20 #[.int .i64 x] (.int .u64 (mixI x)) := by
  intro w
  have hmf : ∀ (fn : Fn) (first cap : Array Value) (w : World), (Instr.makeFunc fn first cap).run Try.prog w = .ok (.func fn first cap) w := fun _ _ _ _ => rfl
  have i0 : ∀ w, (Instr.index 47 (.agg #[.int .u64 30, .int .u64 13787848793156543929, .int .u64 27, .int .u64 10723151780598845931, .int .u64 31, .int .u64 1]) (.int .i64 0)).run Try.prog w = .ok (.agg #[.int .u64 30, .int .u64 13787848793156543929]) w := fun _ => by kernel_rfl
  have i1 : ∀ w, (Instr.index 47 (.agg #[.int .u64 30, .int .u64 13787848793156543929, .int .u64 27, .int .u64 10723151780598845931, .int .u64 31, .int .u64 1]) (.int .i64 1)).run Try.prog w = .ok (.agg #[.int .u64 27, .int .u64 10723151780598845931]) w := fun _ => by kernel_rfl
  have i2 : ∀ w, (Instr.index 47 (.agg #[.int .u64 30, .int .u64 13787848793156543929, .int .u64 27, .int .u64 10723151780598845931, .int .u64 31, .int .u64 1]) (.int .i64 2)).run Try.prog w = .ok (.agg #[.int .u64 31, .int .u64 1]) w := fun _ => by kernel_rfl
  go_enter Try.func20, Try.ntmps20
  go_wp2
  go_rounds 4
  go_ret
  exact ⟨ret_u64 (mix_wrap x), by go_grown⟩

theorem b_refmix (x : Int) : Tells 21 #[.int .i64 x] (.int .u64 (mixI x)) := tells_of (refmix x)

theorem b_shard_none (x n : Int) (h : n < 1) : Tells 22 #[.int .i64 x, .int .i64 n] (.int .i64 0) := by
  intro w
  go_enter Try.func22, Try.ntmps22
  go_wp2
  go_ret
  exact ⟨rfl, Below.refl _ _⟩

theorem b_shard_pos (x n : Int) (h : 1 ≤ n) (h2 : n ≤ 9223372036854775807) : Tells 22 #[.int .i64 x, .int .i64 n] (.int .i64 (shI x n)) := by
  intro w
  have H := Lib.hid (b_mix x)
  have hn : ¬ n < 1 := by omega
  have nz : (n == 0) = false := by simp; omega
  go_enter Try.func22, Try.ntmps22
  go_wp2_with fail
  refine (H.out _).mono ?_
  rintro e w1 ⟨rfl, hg⟩
  go_wp2
  go_ret
  exact ⟨ret_i64 (sh_of x n h h2), hg⟩

theorem shards (x n : Int) (h2 : n ≤ 9223372036854775807) : ∃ r, Tells 22 #[.int .i64 x, .int .i64 n] (.int .i64 r) ∧ Tells 23 #[.int .i64 x, .int .i64 n] (.int .i64 r) := by
  by_cases h : n < 1
  · exact ⟨0, b_shard_none x n h, tells_of (refshard_none x n h)⟩
  · exact ⟨shI x n, b_shard_pos x n (by omega) h2, tells_of (refshard_pos x n (by omega) h2)⟩

theorem b_owner (byKey : Bool) (id key n r : Int) (h : Tells 22 #[.int .i64 (if byKey then key else id), .int .i64 n] (.int .i64 r)) : Tells 24 #[.bool byKey, .int .i64 id, .int .i64 key, .int .i64 n] (.int .i64 r) := by
  intro w
  have H := Lib.hid h
  clear h
  cases byKey with
  | true =>
    go_enter Try.func24, Try.ntmps24
    go_wp2_with fail
    refine (H.out _).mono ?_
    rintro e w1 ⟨rfl, hg⟩
    go_wp2
    go_ret
    exact ⟨rfl, hg⟩
  | false =>
    go_enter Try.func24, Try.ntmps24
    go_wp2_with fail
    refine (H.out _).mono ?_
    rintro e w1 ⟨rfl, hg⟩
    go_wp2
    go_ret
    exact ⟨rfl, hg⟩

theorem b_refowner (byKey : Bool) (id key n r : Int) (h : Tells 23 #[.int .i64 (if byKey then key else id), .int .i64 n] (.int .i64 r)) : Tells 25 #[.bool byKey, .int .i64 id, .int .i64 key, .int .i64 n] (.int .i64 r) := by
  intro w
  have H := Lib.hid h
  clear h
  cases byKey with
  | true =>
    go_enter Try.func25, Try.ntmps25
    go_wp2_with fail
    refine (H.out _).mono ?_
    rintro e w1 ⟨rfl, hg⟩
    go_wp2
    go_ret
    exact ⟨rfl, hg⟩
  | false =>
    go_enter Try.func25, Try.ntmps25
    go_wp2_with fail
    refine (H.out _).mono ?_
    rintro e w1 ⟨rfl, hg⟩
    go_wp2
    go_ret
    exact ⟨rfl, hg⟩

theorem owners (byKey : Bool) (id key n : Int) (h2 : n ≤ 9223372036854775807) : ∃ r, Tells 24 #[.bool byKey, .int .i64 id, .int .i64 key, .int .i64 n] (.int .i64 r) ∧ Tells 25 #[.bool byKey, .int .i64 id, .int .i64 key, .int .i64 n] (.int .i64 r) := by
  obtain ⟨r, h, k⟩ := shards (if byKey then key else id) n h2
  exact ⟨r, b_owner byKey id key n r h, b_refowner byKey id key n r k⟩

theorem b_awake : Tells 19 #[] (.bool true) := by
  intro w
  have H := Lib.hid (b_mix 0)
  have K := Lib.hid (b_shard_pos 0 1 (by omega) (by omega))
  rw [mix_zero] at H
  rw [sh_one] at K
  go_enter Try.func19, Try.ntmps19
  go_wp2_with fail
  refine (H.out _).mono ?_
  rintro e w1 ⟨rfl, g1⟩
  go_wp2_with fail
  refine (K.out _).mono ?_
  rintro e w2 ⟨rfl, g2⟩
  go_wp2
  go_ret
  exact ⟨rfl, below_on g1 g2⟩
end Go.Proofs.Yteejfidkomhblaa
