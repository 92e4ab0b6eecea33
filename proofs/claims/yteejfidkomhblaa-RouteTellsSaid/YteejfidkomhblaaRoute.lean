/-
  What the functions of layer 16, and the document's answers for it, return: contracts for the walks of its statements.
-/
import Derived.Test.YteejfidkomhblaaRows
import Derived.WalkKit
import Derived.ProofKit
import Derived.OpenShut
import Derived.Handy
import Derived.WalkLawsBesides
import Derived.Lib.Hide
import Derived.Test.YteejfidkomhblaaMix
namespace Go.Proofs.Yteejfidkomhblaa
open Go.ChangeShapes Go.WideShapes Go.ChangeAt Go.RowKit
set_option linter.unusedVariables false

theorem grown_on {a b c : World} (h : Grown a b) (k : Grown b c) : Grown a c :=
  ⟨World.keptBut_trans h.1 k.1, fun x => (k.2.1 x).trans (h.2.1 x), Nat.le_trans h.2.2 k.2.2⟩

theorem kept_cell {a b : World} (g : Grown a b) {n i : Nat} {v : Value} (h : a.cell? ⟨n, i, none⟩ = some v) : b.cell? ⟨n, i, none⟩ = some v :=
  (g.1.cell (block_lt_of_cell h) (fun f => f)).trans h

/-- Three integers lie in one block. -/
def Has3 (w : World) (n : Nat) (x y z : Int) : Prop := w.cell? ⟨n, 0, none⟩ = some (.int .i64 x) ∧ w.cell? ⟨n, 1, none⟩ = some (.int .i64 y) ∧ w.cell? ⟨n, 2, none⟩ = some (.int .i64 z)
theorem Has3.next {a b : World} {n : Nat} {x y z : Int} (h : Has3 a n x y z) (g : Grown a b) : Has3 b n x y z := ⟨kept_cell g h.1, kept_cell g h.2.1, kept_cell g h.2.2⟩
theorem has3 (w : World) (x y z : Int) (t : TypeId) : Has3 (w.alloc (.cells #[.int .i64 x, .int .i64 y, .int .i64 z] t)) w.heap.size x y z :=
  ⟨World.cell?_alloc_new .., World.cell?_alloc_new .., World.cell?_alloc_new ..⟩

theorem ret_bool {a b : Bool} (h : a = b) : Ending.returned (.bool a) = .returned (.bool b) := by rw [h]
theorem ret_u64 {a b : Int} (h : a = b) : Ending.returned (.int .u64 a) = .returned (.int .u64 b) := by rw [h]
theorem ret_i64 {a b : Int} (h : a = b) : Ending.returned (.int .i64 a) = .returned (.int .i64 b) := by rw [h]

theorem mix_any (x : Int) (w : World) :
    Calls Try.prog 20 #[.int .i64 x] w fun e w' => e = .returned (.int .u64 (mixI x)) ∧ Grown w w' := by
  have hmf : ∀ (fn : Fn) (first cap : Array Value) (w : World), (Instr.makeFunc fn first cap).run Try.prog w = .ok (.func fn first cap) w := fun _ _ _ _ => rfl
  have i0 : ∀ w, (Instr.index 47 (.agg #[.int .u64 30, .int .u64 13787848793156543929, .int .u64 27, .int .u64 10723151780598845931, .int .u64 31, .int .u64 1]) (.int .i64 0)).run Try.prog w = .ok (.agg #[.int .u64 30, .int .u64 13787848793156543929]) w := fun _ => by kernel_rfl
  have i1 : ∀ w, (Instr.index 47 (.agg #[.int .u64 30, .int .u64 13787848793156543929, .int .u64 27, .int .u64 10723151780598845931, .int .u64 31, .int .u64 1]) (.int .i64 1)).run Try.prog w = .ok (.agg #[.int .u64 27, .int .u64 10723151780598845931]) w := fun _ => by kernel_rfl
  have i2 : ∀ w, (Instr.index 47 (.agg #[.int .u64 30, .int .u64 13787848793156543929, .int .u64 27, .int .u64 10723151780598845931, .int .u64 31, .int .u64 1]) (.int .i64 2)).run Try.prog w = .ok (.agg #[.int .u64 31, .int .u64 1]) w := fun _ => by kernel_rfl
  go_enter Try.func20, Try.ntmps20
  go_wp2
  go_rounds 4
  go_ret
  exact ⟨ret_u64 (mix_wrap x), by go_grown⟩

theorem refmix (x : Int) (w : World) :
    Calls Try.prog 21 #[.int .i64 x] w fun e w' => e = .returned (.int .u64 (mixI x)) ∧ w = w' := by
  go_enter Try.func21, Try.ntmps21
  go_wp2
  go_ret
  exact ⟨rfl, rfl⟩

theorem undone_31 (z : Int) (w : World) : Calls Try.prog 26 #[.int .u64 z, .int .i64 31] w fun e w' => e = .returned (.int .u64 (und 2147483648 z)) ∧ w = w' := by
  go_enter Try.func26, Try.ntmps26
  go_wp2
  go_rounds 4
  go_ret
  exact ⟨rfl, rfl⟩
theorem undone_27 (z : Int) (w : World) : Calls Try.prog 26 #[.int .u64 z, .int .i64 27] w fun e w' => e = .returned (.int .u64 (und 134217728 z)) ∧ w = w' := by
  go_enter Try.func26, Try.ntmps26
  go_wp2
  go_rounds 4
  go_ret
  exact ⟨rfl, rfl⟩
theorem undone_30 (z : Int) (w : World) : Calls Try.prog 26 #[.int .u64 z, .int .i64 30] w fun e w' => e = .returned (.int .u64 (und 1073741824 z)) ∧ w = w' := by
  go_enter Try.func26, Try.ntmps26
  go_wp2
  go_rounds 4
  go_ret
  exact ⟨rfl, rfl⟩

theorem shard_none (x n : Int) (h : n < 1) (w : World) : Calls Try.prog 22 #[.int .i64 x, .int .i64 n] w fun e w' => e = .returned (.int .i64 0) ∧ Grown w w' := by
  go_enter Try.func22, Try.ntmps22
  go_wp2
  go_ret
  exact ⟨rfl, Grown.refl _⟩
theorem refshard_none (x n : Int) (h : n < 1) (w : World) : Calls Try.prog 23 #[.int .i64 x, .int .i64 n] w fun e w' => e = .returned (.int .i64 0) ∧ w = w' := by
  go_enter Try.func23, Try.ntmps23
  go_wp2
  go_ret
  exact ⟨rfl, rfl⟩

theorem shard_pos (x n : Int) (h : 1 ≤ n) (h2 : n ≤ 9223372036854775807) (w : World) : Calls Try.prog 22 #[.int .i64 x, .int .i64 n] w fun e w' => e = .returned (.int .i64 (shI x n)) ∧ Grown w w' := by
  have H := Lib.hid (mix_any x)
  have hn : ¬ n < 1 := by omega
  have nz : (n == 0) = false := by simp; omega
  go_enter Try.func22, Try.ntmps22
  go_wp2_with fail
  refine (H.out _).mono ?_
  rintro e w1 ⟨rfl, hg⟩
  go_wp2
  go_ret
  exact ⟨ret_i64 (sh_of x n h h2), hg⟩

theorem refshard_pos (x n : Int) (h : 1 ≤ n) (h2 : n ≤ 9223372036854775807) (w : World) : Calls Try.prog 23 #[.int .i64 x, .int .i64 n] w fun e w' => e = .returned (.int .i64 (shI x n)) ∧ w = w' := by
  have H := Lib.hid (refmix x)
  have hn : ¬ n < 1 := by omega
  have nz : (n == 0) = false := by simp; omega
  go_enter Try.func23, Try.ntmps23
  go_wp2_with fail
  refine (H.out _).mono ?_
  rintro e w1 ⟨rfl, rfl⟩
  go_wp2
  go_ret
  exact ⟨ret_i64 (sh_of x n h h2), rfl⟩

theorem owner_true (id key n r : Int) (h : ∀ w, Calls Try.prog 22 #[.int .i64 key, .int .i64 n] w fun e w' => e = .returned (.int .i64 r) ∧ Grown w w') (w : World) :
    Calls Try.prog 24 #[.bool true, .int .i64 id, .int .i64 key, .int .i64 n] w fun e w' => e = .returned (.int .i64 r) ∧ Grown w w' := by
  have H := Lib.hid h
  clear h
  go_enter Try.func24, Try.ntmps24
  go_wp2_with fail
  refine (H.out _).mono ?_
  rintro e w1 ⟨rfl, hg⟩
  go_wp2
  go_ret
  exact ⟨rfl, hg⟩

theorem owner_false (id key n r : Int) (h : ∀ w, Calls Try.prog 22 #[.int .i64 id, .int .i64 n] w fun e w' => e = .returned (.int .i64 r) ∧ Grown w w') (w : World) :
    Calls Try.prog 24 #[.bool false, .int .i64 id, .int .i64 key, .int .i64 n] w fun e w' => e = .returned (.int .i64 r) ∧ Grown w w' := by
  have H := Lib.hid h
  clear h
  go_enter Try.func24, Try.ntmps24
  go_wp2_with fail
  refine (H.out _).mono ?_
  rintro e w1 ⟨rfl, hg⟩
  go_wp2
  go_ret
  exact ⟨rfl, hg⟩

theorem refowner_true (id key n r : Int) (h : ∀ w, Calls Try.prog 23 #[.int .i64 key, .int .i64 n] w fun e w' => e = .returned (.int .i64 r) ∧ w = w') (w : World) :
    Calls Try.prog 25 #[.bool true, .int .i64 id, .int .i64 key, .int .i64 n] w fun e w' => e = .returned (.int .i64 r) ∧ w = w' := by
  have H := Lib.hid h
  clear h
  go_enter Try.func25, Try.ntmps25
  go_wp2_with fail
  refine (H.out _).mono ?_
  rintro e w1 ⟨rfl, rfl⟩
  go_wp2
  go_ret
  exact ⟨rfl, rfl⟩

theorem refowner_false (id key n r : Int) (h : ∀ w, Calls Try.prog 23 #[.int .i64 id, .int .i64 n] w fun e w' => e = .returned (.int .i64 r) ∧ w = w') (w : World) :
    Calls Try.prog 25 #[.bool false, .int .i64 id, .int .i64 key, .int .i64 n] w fun e w' => e = .returned (.int .i64 r) ∧ w = w' := by
  have H := Lib.hid h
  clear h
  go_enter Try.func25, Try.ntmps25
  go_wp2_with fail
  refine (H.out _).mono ?_
  rintro e w1 ⟨rfl, rfl⟩
  go_wp2
  go_ret
  exact ⟨rfl, rfl⟩

theorem mix_zero : mixI 0 = 16294208416658607535 := by decide +kernel

theorem route_awake (w : World) : Calls Try.prog 19 #[] w fun e w' => e = .returned (.bool true) ∧ Grown w w' := by
  have H := Lib.hid (mix_any 0)
  have K := Lib.hid (shard_pos 0 1 (by omega) (by omega))
  rw [mix_zero] at H
  rw [sh_one] at K
  go_enter Try.func19, Try.ntmps19
  go_wp2_with fail
  refine (H.out _).mono ?_
  rintro e w1 ⟨rfl, g1⟩
  go_wp2_with fail
  refine (K.out _).mono ?_
  rintro e w2 ⟨rfl, g2⟩
  go_wp2
  go_ret
  exact ⟨rfl, grown_on g1 g2⟩
end Go.Proofs.Yteejfidkomhblaa
