/-
  LexMany.
-/
import Derived.Test.YtjahjdmabconeaaDoorPj
import Derived.Lib.SmallJoins
namespace Go.Proofs.YtjahjdmabconeaaDoor
open Go.ChangeShapes Go.WideShapes Go.ChangeAt Go.RowKit
set_option linter.unusedVariables false
theorem and_3 (x : Int) : 0 ≤ bits BinOp.and IntKind.i64 x 3 ∧ bits BinOp.and IntKind.i64 x 3 ≤ 3 := by
  have h3 : (BitVec.ofInt 64 3).toNat = 2 ^ 2 - 1 := by decide
  have key : (BitVec.ofInt 64 x &&& BitVec.ofInt 64 3).toNat = (BitVec.ofInt 64 x).toNat % 2 ^ 2 := by
    rw [BitVec.toNat_and, h3, Nat.and_two_pow_sub_one_eq_mod]
  show 0 ≤ IntKind.i64.wrap ((BitVec.ofInt 64 x &&& BitVec.ofInt 64 3).toNat : Nat) ∧ IntKind.i64.wrap ((BitVec.ofInt 64 x &&& BitVec.ofInt 64 3).toNat : Nat) ≤ 3
  rw [key, IntKind.wrap_i64]
  omega
theorem rem_nat (x : Int) (k : Nat) (hk : 1 ≤ k ∧ k ≤ 1000) : ∃ n : Nat, (wrap64 (x.tmod (k : Int) + (k : Int))).tmod (k : Int) = (n : Int) ∧ n < k := by
  have h1 := Int.tmod_lt_of_pos x (show (0 : Int) < (k : Int) by omega)
  have h2 : -(k : Int) < x.tmod (k : Int) := by
    have := Int.tmod_lt_of_pos (-x) (show (0 : Int) < (k : Int) by omega)
    rw [Int.neg_tmod] at this
    omega
  have h3 : wrap64 (x.tmod (k : Int) + (k : Int)) = x.tmod (k : Int) + (k : Int) := by unfold wrap64; omega
  rw [h3, Int.tmod_eq_emod_of_nonneg (by omega)]
  have h4 := Int.emod_lt_of_pos (x.tmod (k : Int) + (k : Int)) (show (0 : Int) < (k : Int) by omega)
  have h5 := Int.emod_nonneg (x.tmod (k : Int) + (k : Int)) (show (k : Int) ≠ 0 by omega)
  exact ⟨((x.tmod (k : Int) + (k : Int)) % (k : Int)).toNat, by omega, by omega⟩
theorem str_to {s : ByteArray} {j : Nat} (h1 : j ≤ s.size) (W : World) : (Instr.slice 9 (.string s) none (some (.int .i64 (j : Int))) none).run Tryd.prog W = .ok (.string (s.extract 0 j)) W := by
  have := run_slice_string_to_if (P := Tryd.prog) W 9 s .i64 (j : Int) Tryd.underlying9
  rw [this, if_pos ⟨by omega, by omega⟩]
  simp
theorem spaces (g : Nat) (h : g ≤ 3) : ((⟨#[32, 32, 32]⟩ : ByteArray).extract 0 g).data.toList = List.replicate g 32 := by
  have : g = 0 ∨ g = 1 ∨ g = 2 ∨ g = 3 := by omega
  rcases this with rfl | rfl | rfl | rfl <;> decide +kernel
def ManyRel (n g : Nat) (v8 v9 : Value) : Prop := ∃ i b, v8 = .string b ∧ b.data.toList = manyL i g ∧ v9 = .int .i64 ((i : Nat) : Int) ∧ i ≤ n
set_option maxRecDepth 100000 in
set_option maxHeartbeats 2000000 in
theorem many_is (w : World) (hE : ErrAt w) (x y : Int) : Calls Tryd.prog 6 #[.int .i64 x, .int .i64 y] w fun e w' => e = .returned (.bool true) ∧ Turn (fun _ => False) w w' := by
  have AW := Lib.hid (awake_is w hE)
  have HE := Lib.hid hE
  clear hE
  obtain ⟨n, hn, hn2⟩ := rem_nat x 261 (by omega)
  obtain ⟨g, hg⟩ : ∃ g : Nat, bits BinOp.and IntKind.i64 y 3 = (g : Int) := ⟨(bits BinOp.and IntKind.i64 y 3).toNat, by have := and_3 y; omega⟩
  have hg3 : g ≤ 3 := by have := and_3 y; omega
  have hsp := str_to (s := ⟨#[32, 32, 32]⟩) (j := g) hg3
  have hsl := spaces g hg3
  generalize (⟨#[32, 32, 32]⟩ : ByteArray).extract 0 g = sp at hsp hsl
  have HN := Lib.hid (And.intro hn2 (And.intro hg3 hsl))
  clear hn2 hg3 hsl
  have hn : (wrap64 (x.tmod 261 + 261)).tmod 261 = (n : Int) := hn
  go_enter Tryd.func6, Tryd.ntmps6
  go_wp2_with fail
  with_reducible refine AW.out.mono ?_
  rintro e w1 ⟨rfl, T1⟩
  have TT := Lib.hid T1
  clear AW T1
  go_wp2_with fail
  go_loop [8, 9] (fun v8 v9 => ManyRel n g v8 v9) (fun _ v9 => n + 1 - (intOf v9).toNat)
  case atStart => exact ⟨0, _, rfl, by simp [manyL], rfl, Nat.zero_le _⟩
  case round =>
    obtain ⟨i, b, rfl, hb, rfl, hi⟩ := hrel
    have HB := Lib.hid (And.intro hb hi)
    by_cases hin : i < n
    · have u1 : decide ((i : Int) < (n : Int)) = true := decide_eq_true (by omega)
      have u2 : decide (i < n) = true := decide_eq_true hin
      have hw : wrap64 ((i : Int) + 1) = ((i + 1 : Nat) : Int) := by have := HN.out.1; unfold wrap64; omega
      have hbs : b.size ≤ 1040 := by
        rw [str_len, hb, manyL_len]
        have := HN.out.1
        have h1 : i * (1 + g) ≤ 260 * 4 := Nat.mul_le_mul (by omega) (by have := HN.out.2.1; omega)
        omega
      have hss : sp.size ≤ 3 := by rw [str_len, HN.out.2.2, List.length_replicate]; exact HN.out.2.1
      have v1 : ¬ 9223372036854775807 < b.size + 1 := by omega
      have v2 : ¬ 9223372036854775807 < b.size + 1 + sp.size := by omega
      clear hb hi hbs hss
      go_wp2_with fail
      refine ⟨⟨i + 1, _, rfl, ?_, by rw [hw], hin⟩, ?_⟩
      · rw [Go.Joins.data_append, Go.Joins.data_append, HB.out.1, HN.out.2.2, manyL_succ, List.append_assoc]
      · rw [hw]
        simp only [intOf]
        omega
    · obtain rfl : i = n := by omega
      have u1 : decide ((i : Int) < (i : Int)) = false := decide_eq_false (by omega)
      have u2 : decide (i < i) = false := decide_eq_false (by omega)
      have hbs : b.size = i * (1 + g) := by rw [str_len, hb, manyL_len]
      have h1 : i * (1 + g) ≤ 260 * 4 := Nat.mul_le_mul (by have := HN.out.1; omega) (by have := HN.out.2.1; omega)
      have hL : toksB b.data.toList = (List.range i).map fun j => (j * (1 + g), (⟨4, 1, 0⟩ : Tok)) := by rw [hb]; exact many_toks i g
      have hE1 := HE.out.turn TT.out (fun f => f)
      have x1 : wrap64 ((1 : Int) + (g : Int)) = ((1 + g : Nat) : Int) := by have := HN.out.2.1; unfold wrap64; omega
      have x2 : wrap64 ((200 : Int) * ((1 + g : Nat) : Int)) = ((200 * (1 + g) : Nat) : Int) := by have := HN.out.2.1; unfold wrap64; omega
      obtain ⟨q, hq⟩ : ∃ q : Int, q = ((1 + g : Nat) : Int) := ⟨_, rfl⟩
      rw [← hq] at x1 x2
      obtain ⟨z, hz⟩ : ∃ z : Int, z = ((200 * (1 + g) : Nat) : Int) := ⟨_, rfl⟩
      rw [← hz] at x2
      by_cases h200 : 200 < i
      · have LM := lex_many w1 b (by omega) hE1 hL (x := (200 * (1 + g), ⟨4, 1, 0⟩)) (by rw [List.getElem?_map, List.getElem?_range h200]; rfl)
        rw [← hz] at LM
        have LM := Lib.hid LM
        have w3 : decide ((i : Int) > 200) = true := decide_eq_true (by omega)
        have w4 : decide ((200 : Int) < (i : Int)) = true := decide_eq_true (by omega)
        have w5 : decide (200 < i) = true := decide_eq_true h200
        clear hE1 hbs h1 hL hb hq hz hi
        go_wp2_with fail
        with_reducible refine LM.out.mono ?_
        rintro e w9 ⟨T9, rfl⟩
        have FIN := Lib.hid (TT.out.trans T9)
        clear T9
        go_wp2_with fail
        go_ret
        exact ⟨rfl, FIN.out⟩
      · have hsk : skipB (endB ((List.range i).map fun j => (j * (1 + g), (⟨4, 1, 0⟩ : Tok)))) b.data.toList = b.size := by
          rw [hb, hbs]
          cases i with
          | zero => simp [manyL, skipB, spanB, endB]
          | succ k =>
            rw [List.range_succ, List.map_append, List.map_singleton, endB_snoc]
            have := many_skip (n := k + 1) (g := g) (i := k + 1) (Nat.le_refl _) (k := g) (.inr ⟨rfl, by omega⟩)
            have e : (k + 1) * (1 + g) - g = k * (1 + g) + 1 := by rw [Nat.add_mul, Nat.one_mul]; omega
            rw [e] at this
            exact this
        have LA := lex_all w1 b (by omega) hE1 hL (by rw [List.length_map, List.length_range]; omega) hsk
        rw [List.length_map, List.length_range] at LA
        have LA := Lib.hid LA
        have w3 : decide ((i : Int) > 200) = false := decide_eq_false (by omega)
        have w4 : decide ((200 : Int) < (i : Int)) = false := decide_eq_false (by omega)
        have w5 : decide (200 < i) = false := decide_eq_false h200
        clear hE1 hbs h1 hL hb hq hz hi hsk
        go_wp2_with fail
        with_reducible refine LA.out.mono ?_
        rintro e w9 ⟨T9, v, rfl, ho⟩
        obtain ⟨a, cap, rfl, -⟩ := own_slice ho
        have FIN := Lib.hid (TT.out.trans T9)
        clear T9 ho
        go_wp2_with fail
        go_ret
        exact ⟨rfl, FIN.out⟩
end Go.Proofs.YtjahjdmabconeaaDoor
