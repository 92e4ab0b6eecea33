/-
  Bytes: what they are.
-/
import Derived.Test.YtadogobdlcionaaDoorBase
import Derived.Test.YtadogobdlcionaaDoorLexS
namespace Go.Proofs.YtadogobdlcionaaDoor
open Go.ChangeShapes Go.WideShapes Go.ChangeAt Go.RowKit
set_option linter.unusedVariables false
theorem u8 (c : UInt8) : 0 ≤ (c.toNat : Int) ∧ (c.toNat : Int) ≤ 255 := by
  have := c.toNat_lt
  omega
set_option maxRecDepth 100000 in
theorem small_is (w : World) (c : UInt8) : Calls Tryd.prog 51 #[.int .u8 (c.toNat : Int)] w fun e w' => e = .returned (.bool (isSmall c)) ∧ w = w' := by
  unfold isSmall
  obtain ⟨n, hn⟩ : ∃ n : Int, n = (c.toNat : Int) := ⟨_, rfl⟩
  have e1 : decide (97 ≤ c.toNat) = decide ((97 : Int) ≤ n) := by rw [hn]; apply decide_eq_decide.2; omega
  have e2 : decide (c.toNat ≤ 122) = decide (n ≤ (122 : Int)) := by rw [hn]; apply decide_eq_decide.2; omega
  rw [e1, e2, ← hn]
  clear hn e1 e2
  cases h1 : decide ((97 : Int) ≤ n) <;> cases h2 : decide (n ≤ (122 : Int)) <;>
  · go_enter Tryd.func51, Tryd.ntmps51
    go_wp2
    go_ret
    exact ⟨rfl, rfl⟩
set_option maxRecDepth 100000 in
theorem digit_is (w : World) (c : UInt8) : Calls Tryd.prog 53 #[.int .u8 (c.toNat : Int)] w fun e w' => e = .returned (.bool (isDigit c)) ∧ w = w' := by
  unfold isDigit
  obtain ⟨n, hn⟩ : ∃ n : Int, n = (c.toNat : Int) := ⟨_, rfl⟩
  have e1 : decide (48 ≤ c.toNat) = decide ((48 : Int) ≤ n) := by rw [hn]; apply decide_eq_decide.2; omega
  have e2 : decide (c.toNat ≤ 57) = decide (n ≤ (57 : Int)) := by rw [hn]; apply decide_eq_decide.2; omega
  rw [e1, e2, ← hn]
  clear hn e1 e2
  cases h1 : decide ((48 : Int) ≤ n) <;> cases h2 : decide (n ≤ (57 : Int)) <;>
  · go_enter Tryd.func53, Tryd.ntmps53
    go_wp2
    go_ret
    exact ⟨rfl, rfl⟩
set_option maxRecDepth 100000 in
theorem letter_is (w : World) (c : UInt8) : Calls Tryd.prog 55 #[.int .u8 (c.toNat : Int)] w fun e w' => e = .returned (.bool (isLetter c)) ∧ w = w' := by
  have S := Lib.hid (small_is w c)
  unfold isLetter isCap
  obtain ⟨n, hn⟩ : ∃ n : Int, n = (c.toNat : Int) := ⟨_, rfl⟩
  have e1 : decide (65 ≤ c.toNat) = decide ((65 : Int) ≤ n) := by rw [hn]; apply decide_eq_decide.2; omega
  have e2 : decide (c.toNat ≤ 90) = decide (n ≤ (90 : Int)) := by rw [hn]; apply decide_eq_decide.2; omega
  rw [e1, e2]
  rw [← hn] at S ⊢
  generalize isSmall c = b at *
  clear hn e1 e2
  cases b with
  | true =>
    go_enter Tryd.func55, Tryd.ntmps55
    go_wp2_with fail
    with_reducible refine S.out.mono ?_
    rintro e w1 ⟨rfl, rfl⟩
    go_wp2_with fail
    go_ret
    exact ⟨rfl, rfl⟩
  | false =>
    cases h1 : decide ((65 : Int) ≤ n) <;> cases h2 : decide (n ≤ (90 : Int)) <;>
    · go_enter Tryd.func55, Tryd.ntmps55
      go_wp2_with fail
      with_reducible refine S.out.mono ?_
      rintro e w1 ⟨rfl, rfl⟩
      go_wp2_with fail
      go_ret
      exact ⟨rfl, rfl⟩
set_option maxRecDepth 100000 in
theorem word_is (w : World) (c : UInt8) : Calls Tryd.prog 52 #[.int .u8 (c.toNat : Int)] w fun e w' => e = .returned (.bool (isWord c)) ∧ w = w' := by
  have S := Lib.hid (small_is w c)
  have D := Lib.hid (digit_is w c)
  unfold isWord
  generalize (c.toNat : Int) = n at *
  generalize isSmall c = b at *
  generalize isDigit c = d at *
  cases b with
  | true =>
    go_enter Tryd.func52, Tryd.ntmps52
    go_wp2_with fail
    with_reducible refine S.out.mono ?_
    rintro e w1 ⟨rfl, rfl⟩
    go_wp2_with fail
    go_ret
    exact ⟨rfl, rfl⟩
  | false =>
    cases d <;>
    · go_enter Tryd.func52, Tryd.ntmps52
      go_wp2_with fail
      with_reducible refine S.out.mono ?_
      rintro e w1 ⟨rfl, rfl⟩
      go_wp2_with fail
      with_reducible refine D.out.mono ?_
      rintro e w1 ⟨rfl, rfl⟩
      go_wp2_with fail
      go_ret
      exact ⟨rfl, rfl⟩
set_option maxRecDepth 100000 in
theorem both_is (w : World) (c : UInt8) : Calls Tryd.prog 54 #[.int .u8 (c.toNat : Int)] w fun e w' => e = .returned (.bool (isBoth c)) ∧ w = w' := by
  have S := Lib.hid (letter_is w c)
  have D := Lib.hid (digit_is w c)
  unfold isBoth
  generalize (c.toNat : Int) = n at *
  generalize isLetter c = b at *
  generalize isDigit c = d at *
  cases b with
  | true =>
    go_enter Tryd.func54, Tryd.ntmps54
    go_wp2_with fail
    with_reducible refine S.out.mono ?_
    rintro e w1 ⟨rfl, rfl⟩
    go_wp2_with fail
    go_ret
    exact ⟨rfl, rfl⟩
  | false =>
    cases d <;>
    · go_enter Tryd.func54, Tryd.ntmps54
      go_wp2_with fail
      with_reducible refine S.out.mono ?_
      rintro e w1 ⟨rfl, rfl⟩
      go_wp2_with fail
      with_reducible refine D.out.mono ?_
      rintro e w1 ⟨rfl, rfl⟩
      go_wp2_with fail
      go_ret
      exact ⟨rfl, rfl⟩
end Go.Proofs.YtadogobdlcionaaDoor
