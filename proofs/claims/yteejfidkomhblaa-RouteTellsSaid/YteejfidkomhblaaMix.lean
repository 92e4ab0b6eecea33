/-
  The plain arithmetic of the mixing of layer 16: it stays within 64 bits, and each of its steps can be undone.
-/
import Derived.Laws.Bits64
import Derived.OpenShut
import Derived.WalkKit
namespace Go.Proofs.Yteejfidkomhblaa
open Go.RowKit

def z0 (x : Int) : Int := IntKind.u64.wrap (IntKind.u64.wrap x + 11400714819323198485)
def z1 (x : Int) : Int := IntKind.u64.wrap (bits .xor .u64 (z0 x) (z0 x / 1073741824) * 13787848793156543929)
def z2 (x : Int) : Int := IntKind.u64.wrap (bits .xor .u64 (z1 x) (z1 x / 134217728) * 10723151780598845931)
def mixI (x : Int) : Int := bits .xor .u64 (z2 x) (z2 x / 2147483648)
def und (n z : Int) : Int := bits .xor .u64 z (bits .xor .u64 z (bits .xor .u64 z (z / n) / n) / n)
def shI (x n : Int) : Int := mixI x % n

theorem xor_bd (a b : Int) : 0 ≤ bits .xor .u64 a b ∧ bits .xor .u64 a b ≤ 18446744073709551615 := bounds_u64 (wf_bits .xor .u64 a b)
theorem u64_bd (a : Int) : 0 ≤ IntKind.u64.wrap a ∧ IntKind.u64.wrap a ≤ 18446744073709551615 := bounds_u64 (wf_wrap .u64 a)
theorem u64_in (a : Int) (h : 0 ≤ a ∧ a ≤ 18446744073709551615) : IntKind.u64.wrap a = a := by
  rw [IntKind.wrap_u64]
  omega
theorem mix_bd (x : Int) : 0 ≤ mixI x ∧ mixI x ≤ 18446744073709551615 := xor_bd _ _
theorem mix_wrap (x : Int) : IntKind.u64.wrap (mixI x) = mixI x := u64_in _ (mix_bd x)
theorem sh_bd (x n : Int) (h : 1 ≤ n) : 0 ≤ shI x n ∧ shI x n < n := ⟨Int.emod_nonneg _ (by omega), Int.emod_lt_of_pos _ (by omega)⟩
theorem sh_one (x : Int) : shI x 1 = 0 := by
  unfold shI
  omega

theorem sh_of (x n : Int) (h : 1 ≤ n) (h2 : n ≤ 9223372036854775807) : wrap64 ((mixI x).tmod n) = shI x n := by
  rw [Int.tmod_eq_emod_of_nonneg (mix_bd x).1]
  have hb := sh_bd x n h
  show wrap64 (shI x n) = shI x n
  generalize shI x n = r at hb
  unfold wrap64
  omega

/-- In plain numbers: a number put over itself, moved down, three times over, is the number again. -/
theorem und_nat (A k : Nat) (hk : 22 ≤ k) (hA : A < 18446744073709551616) :
    (A ^^^ A / 2 ^ k) ^^^ ((A ^^^ A / 2 ^ k) ^^^ ((A ^^^ A / 2 ^ k) ^^^ (A ^^^ A / 2 ^ k) / 2 ^ k) / 2 ^ k) / 2 ^ k = A := by
  apply Nat.eq_of_testBit_eq
  intro i
  have hz : A.testBit (i + k + k + k + k) = false := Nat.testBit_lt_two_pow (Nat.lt_of_lt_of_le (show A < 2 ^ 64 from hA) (Nat.pow_le_pow_right (by decide) (by omega)))
  simp only [Nat.testBit_xor, Nat.testBit_div_two_pow, hz]
  generalize A.testBit i = a
  generalize A.testBit (i + k) = b
  generalize A.testBit (i + k + k) = c
  generalize A.testBit (i + k + k + k) = d
  cases a <;> cases b <;> cases c <;> cases d <;> rfl

theorem nat_of (a : Int) (h : 0 ≤ a ∧ a ≤ 18446744073709551615) : ∃ A : Nat, a = (A : Int) ∧ A < 18446744073709551616 :=
  ⟨a.toNat, by omega, by omega⟩

theorem over_nat (X k : Nat) (hX : X < 18446744073709551616) : bits .xor .u64 (X : Int) ((X : Int) / ((2 ^ k : Nat) : Int)) = ((X ^^^ X / 2 ^ k : Nat) : Int) := xorShift_u64 X (2 ^ k) hX

theorem und_over (a : Int) (k : Nat) (hk : 22 ≤ k) (h : 0 ≤ a ∧ a ≤ 18446744073709551615) :
    und ((2 ^ k : Nat) : Int) (bits .xor .u64 a (a / ((2 ^ k : Nat) : Int))) = a := by
  obtain ⟨A, rfl, hA⟩ := nat_of a h
  have lt : ∀ X Y : Nat, X < 18446744073709551616 → Y < 18446744073709551616 → X ^^^ Y < 18446744073709551616 := fun X Y hx hy => Nat.xor_lt_two_pow (n := 64) hx hy
  have dv : ∀ X : Nat, X < 18446744073709551616 → X / 2 ^ k < 18446744073709551616 := fun X hx => Nat.lt_of_le_of_lt (Nat.div_le_self _ _) hx
  have hZ := lt _ _ hA (dv _ hA)
  unfold und
  rw [over_nat A k hA, over_nat _ k hZ, ← Int.natCast_ediv, bits_xor_u64_nat _ _ hZ (dv _ (lt _ _ hZ (dv _ hZ))), ← Int.natCast_ediv,
    bits_xor_u64_nat _ _ hZ (dv _ (lt _ _ hZ (dv _ (lt _ _ hZ (dv _ hZ))))), und_nat A k hk hA]

theorem back1 (a : Int) (h : 0 ≤ a ∧ a ≤ 18446744073709551615) : IntKind.u64.wrap (IntKind.u64.wrap (a * 13787848793156543929) * 10871156337175269513) = a := by
  simp only [IntKind.wrap_u64]
  omega
theorem back2 (a : Int) (h : 0 ≤ a ∧ a ≤ 18446744073709551615) : IntKind.u64.wrap (IntKind.u64.wrap (a * 10723151780598845931) * 3573116690164977347) = a := by
  simp only [IntKind.wrap_u64]
  omega
theorem back0 (x : Int) : IntKind.u64.wrap (z0 x - 11400714819323198485) = IntKind.u64.wrap x := by
  unfold z0
  simp only [IntKind.wrap_u64]
  omega

theorem step3 (x : Int) : IntKind.u64.wrap (und 2147483648 (mixI x) * 3573116690164977347) = bits .xor .u64 (z1 x) (z1 x / 134217728) := by
  have e : und 2147483648 (mixI x) = z2 x := und_over (z2 x) 31 (by decide) (u64_bd _)
  rw [e]
  exact back2 _ (xor_bd _ _)
theorem step2 (x : Int) : IntKind.u64.wrap (und 134217728 (bits .xor .u64 (z1 x) (z1 x / 134217728)) * 10871156337175269513) = bits .xor .u64 (z0 x) (z0 x / 1073741824) := by
  have e : und 134217728 (bits .xor .u64 (z1 x) (z1 x / 134217728)) = z1 x := und_over (z1 x) 27 (by decide) (u64_bd _)
  rw [e]
  exact back1 _ (xor_bd _ _)
theorem step1 (x : Int) : IntKind.u64.wrap (und 1073741824 (bits .xor .u64 (z0 x) (z0 x / 1073741824)) - 11400714819323198485) = IntKind.u64.wrap x := by
  have e : und 1073741824 (bits .xor .u64 (z0 x) (z0 x / 1073741824)) = z0 x := und_over (z0 x) 30 (by decide) (u64_bd _)
  rw [e]
  exact back0 x

theorem mix_apart (x y : Int) (h : mixI x = mixI y) : IntKind.u64.wrap x = IntKind.u64.wrap y := by
  have h2 := step3 x
  rw [h, step3 y] at h2
  have h1 := step2 x
  rw [← h2, step2 y] at h1
  have h0 := step1 x
  rw [← h1, step1 y] at h0
  exact h0.symm

theorem mix_same (x y : Int) (hx : -9223372036854775808 ≤ x ∧ x ≤ 9223372036854775807) (hy : -9223372036854775808 ≤ y ∧ y ≤ 9223372036854775807) : (mixI x == mixI y) = (x == y) := by
  by_cases e : x = y
  · subst e
    simp
  · have n : mixI x ≠ mixI y := fun h => by
      have := mix_apart x y h
      simp only [IntKind.wrap_u64] at this
      omega
    rw [beq_eq_false_iff_ne.mpr e, beq_eq_false_iff_ne.mpr n]

theorem and_bd (x : Int) (m : Nat) (hm : m < 1073741824) : 0 ≤ bits .and .i64 x (m : Int) ∧ bits .and .i64 x (m : Int) ≤ (m : Int) := by
  have h2 : (BitVec.ofInt 64 (m : Int)).toNat = m := by
    rw [BitVec.ofInt_natCast, BitVec.toNat_ofNat]
    exact Nat.mod_eq_of_lt (by omega)
  have e : bits .and .i64 x (m : Int) = IntKind.i64.wrap (((BitVec.ofInt 64 x).toNat &&& m : Nat) : Int) := by
    show IntKind.i64.wrap ((BitVec.ofInt 64 x &&& BitVec.ofInt 64 (m : Int)).toNat : Int) = _
    rw [BitVec.toNat_and, h2]
  have hl : (BitVec.ofInt 64 x).toNat &&& m ≤ m := Nat.and_le_right
  rw [e, IntKind.wrap_i64]
  omega
end Go.Proofs.Yteejfidkomhblaa
