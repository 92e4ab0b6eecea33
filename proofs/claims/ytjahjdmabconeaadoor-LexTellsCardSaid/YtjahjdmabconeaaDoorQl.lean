/-
  LexTells.
-/
import Derived.Test.YtjahjdmabconeaaDoorQk
import Derived.Test.YtjahjdmabconeaaDoorPk
namespace Go.Proofs.YtjahjdmabconeaaDoor
open Go.ChangeShapes Go.WideShapes Go.ChangeAt Go.RowKit
set_option linter.unusedVariables false
def TlRel (n : Nat) (v8 v9 : Value) : Prop := ∃ i b, v8 = .string b ∧ b.size ≤ 180 * i ∧ v9 = .int .i64 ((i : Nat) : Int) ∧ i ≤ n + 1
theorem tl_big {a b : Nat} (h : a + b ≤ 10000) : ¬ 9223372036854775807 < a + b := by omega
theorem meas_two {i n : Nat} (h : i ≤ n) : n + 2 - (intOf (.int .i64 ((i + 1 : Nat) : Int))).toNat < n + 2 - (intOf (.int .i64 (i : Int))).toNat := by simp only [intOf]; omega
set_option maxRecDepth 100000 in
set_option maxHeartbeats 2000000 in
theorem tells3_is (w : World) (hE : ErrAt w) (s0 t0 : ByteArray) (x : Int) : Calls Tryd.prog 3 #[.string s0, .string t0, .int .i64 x] w fun e w' => e = .returned (.bool true) ∧ Turn (fun _ => False) w w' := by
  have AW := Lib.hid (awake_is w hE)
  have HE := Lib.hid hE
  clear hE
  obtain ⟨n, hn, hn2⟩ := rem_nat x 6 (by omega)
  have hn : (wrap64 (x.tmod 6 + 6)).tmod 6 = (n : Int) := hn
  have SH := Lib.hid (fun w => short_is w s0)
  have SH2 := Lib.hid (fun w => short_is w t0)
  have HN := Lib.hid hn2
  clear hn2
  go_enter Tryd.func3, Tryd.ntmps3
  go_wp2_with fail
  with_reducible refine AW.out.mono ?_
  rintro e w1 ⟨rfl, T1⟩
  go_wp2_with fail
  with_reducible refine (SH.out _).mono ?_
  rintro e w2 ⟨⟨s, rfl, hs⟩, rfl⟩
  have E1 := HE.out.turn T1 (fun f => f)
  have TS := Lib.hid (tells_is w1 s (Nat.le_trans hs (by decide)) E1)
  have TL := Lib.hid (fun w2 (T : Turn (fun _ => False) w1 w2) b hb => tells_is w2 b hb (E1.turn T id))
  have TT := Lib.hid T1
  have HS := Lib.hid hs
  clear AW SH T1 hs E1
  go_wp2_with fail
  go_loop [8, 9] (fun v8 v9 => TlRel n v8 v9) (fun _ v9 => n + 2 - (intOf v9).toNat)
  case atStart => exact ⟨0, ⟨#[]⟩, rfl, Nat.le_refl 0, rfl, Nat.zero_le _⟩
  case round =>
    obtain ⟨i, b, rfl, hb, rfl, hi⟩ := hrel
    by_cases hin : i ≤ n
    · have u1 : decide ((i : Int) ≤ (n : Int)) = true := decide_eq_true (by omega)
      have u2 : decide (i ≤ n) = true := decide_eq_true hin
      have hw := wrap_one (a := i) (by have := HN.out; omega)
      have HB := Lib.hid (And.intro hb hin)
      have v1 := tl_big (a := b.size) (b := s.size) (by have := HN.out; have := HS.out; omega)
      clear hb hi hin
      go_wp2_with fail
      with_reducible refine (SH2.out _).mono ?_
      rintro e w3 ⟨⟨t, rfl, ht⟩, rfl⟩
      have v2 : ¬ 9223372036854775807 < b.size + s.size + t.size := tl_big (by have := HN.out; have := HS.out; have := HB.out; omega)
      have HT := Lib.hid ht
      clear ht
      go_wp2_with fail
      refine ⟨⟨i + 1, _, rfl, ?_, by rw [hw], Nat.succ_le_succ HB.out.2⟩, by rw [hw]; exact meas_two HB.out.2⟩
      have h1 := HS.out
      have h2 := HT.out
      have h3 := HB.out.1
      simp only [ByteArray.size_append]
      omega
    · have u1 : decide ((i : Int) ≤ (n : Int)) = false := decide_eq_false (by omega)
      have u2 : decide (i ≤ n) = false := decide_eq_false hin
      have HB := Lib.hid (show b.size ≤ 1000000 by have := HN.out; omega)
      clear hb hi hin
      go_wp2_with fail
      with_reducible refine TS.out.mono ?_
      rintro e w3 ⟨rfl, T3⟩
      have TL3 := Lib.hid (TL.out w3 T3 b HB.out)
      have T33 := Lib.hid (TT.out.trans T3)
      clear T3 TS
      go_wp2_with fail
      with_reducible refine TL3.out.mono ?_
      rintro e w4 ⟨rfl, T4⟩
      have FIN := Lib.hid (T33.out.trans T4)
      clear T4
      go_wp2_with fail
      go_ret
      exact ⟨rfl, FIN.out⟩
end Go.Proofs.YtjahjdmabconeaaDoor
