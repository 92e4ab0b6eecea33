/-
  Bits of a number.
-/
import Derived.Test.YteokdibfdahabaaBase
namespace Go.Proofs.Yteokdibfdahabaa
open Go.ChangeShapes Go.WideShapes Go.ChangeAt Go.RowKit
set_option linter.unusedVariables false
/-- A number's bit. -/
def bit (x : Int) (w : Nat) : Bool := decide (x / 2 ^ w % 2 = 1)
theorem fdiv_pow (x : Int) (w : Nat) : x.fdiv (2 ^ w) = x / 2 ^ w := Int.fdiv_eq_ediv_of_nonneg _ (Int.le_of_lt (Int.pow_pos (by decide)))
theorem and_one (y : Int) : IntKind.i64.wrap (((BitVec.ofInt 64 y &&& BitVec.ofInt 64 1).toNat : Nat) : Int) = y % 2 := by
  have h1 : (BitVec.ofInt 64 1).toNat = 1 := by decide
  rw [BitVec.toNat_and, h1, Nat.and_one_is_mod, BitVec.toNat_ofInt, IntKind.wrap_i64]
  omega
theorem bit_test (x : Int) (w : Nat) : decide (IntKind.i64.wrap (((BitVec.ofInt 64 (x.fdiv (2 ^ w)) &&& BitVec.ofInt 64 1).toNat : Nat) : Int) = 1) = bit x w := by
  rw [and_one, fdiv_pow]
  rfl
theorem bit_lsb (x : Int) (w : Nat) (hw : w < 5) : (BitVec.ofInt 64 x).getLsbD w = bit x w := by
  unfold bit BitVec.getLsbD
  rw [Nat.testBit_eq_decide_div_mod_eq, BitVec.toNat_ofInt]
  congr 1
  match w, hw with
  | 0, _ => apply propext; omega
  | 1, _ => apply propext; omega
  | 2, _ => apply propext; omega
  | 3, _ => apply propext; omega
  | 4, _ => apply propext; omega
theorem ofInt_wrap (r : BitVec 64) : BitVec.ofInt 64 (IntKind.i64.wrap ((r.toNat : Nat) : Int)) = r := by
  apply BitVec.eq_of_toNat_eq
  rw [BitVec.toNat_ofInt, IntKind.wrap_i64]
  have := r.isLt
  omega
theorem bit_or (x y : Int) (w : Nat) (hw : w < 5) : bit (IntKind.i64.wrap (((BitVec.ofInt 64 x ||| BitVec.ofInt 64 y).toNat : Nat) : Int)) w = (bit x w || bit y w) := by
  rw [← bit_lsb _ w hw, ofInt_wrap, BitVec.getLsbD_or, bit_lsb _ w hw, bit_lsb _ w hw]
/-- The bits of two numbers together. -/
def orI (x y : Int) : Int := IntKind.i64.wrap (((BitVec.ofInt 64 x ||| BitVec.ofInt 64 y).toNat : Nat) : Int)
theorem bit_orI (x y : Int) (w : Nat) (hw : w < 5) : bit (orI x y) w = (bit x w || bit y w) := bit_or x y w hw
theorem and_run (y : Int) (w : World) : (binOp BinOp.and 3 (.int .i64 y) (.int .i64 1)).run Try.prog w = .ok (.int .i64 (y % 2)) w := by
  rw [← and_one]
  kernel_rfl
theorem or_run (x y : Int) (w : World) : (binOp BinOp.or 3 (.int .i64 x) (.int .i64 y)).run Try.prog w = .ok (.int .i64 (orI x y)) w := by
  unfold orI
  kernel_rfl
theorem u64_small (i : Nat) (hi : i < 5) : IntKind.u64.wrap (i : Int) = (i : Int) := by
  match i, hi with
  | 0, _ => rfl
  | 1, _ => rfl
  | 2, _ => rfl
  | 3, _ => rfl
  | 4, _ => rfl
/-- The kit's simp writes 'and' and 'or' as 'bits'. -/
theorem bits_and (y : Int) : Go.bits BinOp.and .i64 y 1 = y % 2 := by
  rw [← and_one]
  rfl
theorem bits_set {x : Int} {i : Nat} (h : bit x i = true) : Go.bits BinOp.and .i64 (x / 2 ^ i) 1 = 1 := by
  rw [bits_and]
  exact of_decide_eq_true h
theorem bits_clear {x : Int} {i : Nat} (h : ¬ bit x i = true) : Go.bits BinOp.and .i64 (x / 2 ^ i) 1 = 0 := by
  rw [bits_and]
  have h : ¬ x / 2 ^ i % 2 = 1 := fun e => h (decide_eq_true e)
  generalize x / 2 ^ i = y at *
  omega
theorem bits_or (x y : Int) : Go.bits BinOp.or .i64 x y = orI x y := rfl
end Go.Proofs.Yteokdibfdahabaa
