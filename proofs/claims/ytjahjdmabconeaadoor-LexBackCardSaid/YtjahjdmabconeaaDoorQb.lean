/-
  How far digits, or words, go on; the number that digits are.
-/
import Derived.Test.YtjahjdmabconeaaDoorQa
import Derived.Lib.Hide
namespace Go.Proofs.YtjahjdmabconeaaDoor
open Go.ChangeShapes Go.WideShapes Go.ChangeAt Go.RowKit
set_option linter.unusedVariables false
/-- Letters too, or digits alone. -/
def kindB (b : Bool) (c : UInt8) : Bool := isDigit c || (b && isSmall c)
theorem kindB_word (c : UInt8) : kindB true c = isWord c := by unfold kindB isWord; cases isDigit c <;> cases isSmall c <;> rfl
theorem kindB_digit (c : UInt8) : kindB false c = isDigit c := by unfold kindB; cases isDigit c <;> rfl
theorem span_step {p : UInt8 → Bool} {l : List UInt8} {i j : Nat} (h : j < spanB p (l.drop i)) : ∃ c, l[i + j]? = some c ∧ p c = true := by
  have hl := spanB_le p (l.drop i)
  obtain ⟨c, hc⟩ : ∃ c, (l.drop i)[j]? = some c := ⟨_, List.getElem?_eq_getElem (by omega)⟩
  exact ⟨c, by rw [← List.getElem?_drop]; exact hc, spanB_all p _ j c h hc⟩
def GoRel (n : Nat) (v : Value) : Prop := ∃ j : Nat, v = .int .i64 (j : Int) ∧ j ≤ n
theorem wrap_sum {a b : Nat} (h : a + b ≤ 140737488355329) : wrap64 ((a : Int) + (b : Int)) = ((a + b : Nat) : Int) := by unfold wrap64; omega
theorem wrap_one {a : Nat} (h : a ≤ 140737488355329) : wrap64 ((a : Int) + 1) = ((a + 1 : Nat) : Int) := by unfold wrap64; omega
theorem dec_ilt {a b : Nat} (h : a < b) : decide ((a : Int) < (b : Int)) = true := decide_eq_true (by omega)
theorem dec_inlt {a b : Nat} (h : ¬ a < b) : decide ((a : Int) < (b : Int)) = false := decide_eq_false (by omega)
set_option maxRecDepth 100000 in
set_option maxHeartbeats 1000000 in
theorem goes_is (w : World) (s : ByteArray) {i : Nat} (b : Bool) (hi : i ≤ s.size) (hs : s.size ≤ 140737488355328) : Calls Tryd.prog 29 #[.string s, .int .i64 (i : Int), .bool b] w fun e w' => e = .returned (.int .i64 (spanB (kindB b) (s.data.toList.drop i) : Int)) ∧ w = w' := by
  obtain ⟨n, hn⟩ : ∃ n, n = spanB (kindB b) (s.data.toList.drop i) := ⟨_, rfl⟩
  rw [← hn]
  have hle : i + n ≤ s.size := by
    have := spanB_le (kindB b) (s.data.toList.drop i)
    rw [List.length_drop, ← str_len] at this
    omega
  have IN : Hid (∀ j, j < n → ∃ c, s.data.toList[i + j]? = some c ∧ kindB b c = true) := Lib.hid fun j hj => span_step (by rw [← hn]; exact hj)
  have EN : Hid (i + n < s.size → ∃ c, s.data.toList[i + n]? = some c ∧ kindB b c = false) := Lib.hid fun hlt => by
    obtain ⟨c, hc⟩ : ∃ c, s.data.toList[i + n]? = some c := ⟨_, List.getElem?_eq_getElem (by rw [← str_len]; exact hlt)⟩
    exact ⟨c, hc, spanB_end (kindB b) (s.data.toList.drop i) c (by rw [← hn, List.getElem?_drop]; exact hc)⟩
  have LE := Lib.hid (And.intro hle hs)
  have SA := Lib.hid (fun (j : Nat) (c : UInt8) (h : s.data.toList[j]? = some c) => str_at (s := s) h)
  have CS := Lib.hid (fun c => And.intro (rsmall_is w c) (rdigit_is w c))
  clear hn hi hle hs
  generalize s.data.toList = l at *
  go_enter Tryd.func29, Tryd.ntmps29
  go_wp2_with fail
  go_loop [7] (fun v => GoRel n v) (fun v => n + 1 - (intOf v).toNat)
  case atStart => exact ⟨0, by simp, Nat.zero_le _⟩
  case round =>
    obtain ⟨j, rfl, hj⟩ := hrel
    have JJ := Lib.hid hj
    have hw1 := wrap_sum (a := i) (b := j) (by have := LE.out; omega)
    have hw2 := wrap_one (a := j) (by have := LE.out; omega)
    by_cases hjn : j < n
    · obtain ⟨c, hc, hb⟩ := IN.out j hjn
      have hx := SA.out _ c hc
      have u1 := dec_ilt (a := i + j) (b := s.size) (by have := LE.out; omega)
      have u2 : decide (i + j < s.size) = true := decide_eq_true (by have := LE.out; omega)
      have D := Lib.hid (CS.out c).2
      have S := Lib.hid (CS.out c).1
      unfold kindB at hb
      obtain ⟨p, hp⟩ : ∃ p : Int, p = ((i + j : Nat) : Int) := ⟨_, rfl⟩
      rw [← hp] at hx u1 hw1
      have HJ := Lib.hid hjn
      generalize (c.toNat : Int) = m at *
      generalize isDigit c = d1 at *
      generalize isSmall c = d2 at *
      clear hp hc hj hjn u2
      have hb : d1 = true ∨ (d1 = false ∧ b = true ∧ d2 = true) := by cases b <;> cases d1 <;> cases d2 <;> simp_all
      rcases hb with rfl | ⟨rfl, rfl, rfl⟩
      all_goals
        go_wp2_with fail
        with_reducible refine D.out.mono ?_
        rintro e w1 ⟨rfl, rfl⟩
        go_wp2_with fail
        with_reducible refine S.out.mono ?_
        rintro e w1 ⟨rfl, rfl⟩
        go_wp2_with fail
        go_round
        case rel => exact ⟨j + 1, congrArg _ hw2, by have := HJ.out; omega⟩
        case measure => rw [hw2]; have := HJ.out; simp [intOf]; omega
    · obtain rfl : j = n := by omega
      by_cases hlt : i + j < s.size
      · obtain ⟨c, hc, hb⟩ := EN.out hlt
        have hx := SA.out _ c hc
        have u1 := dec_ilt hlt
        have D := Lib.hid (CS.out c).2
        have S := Lib.hid (CS.out c).1
        unfold kindB at hb
        obtain ⟨p, hp⟩ : ∃ p : Int, p = ((i + j : Nat) : Int) := ⟨_, rfl⟩
        rw [← hp] at hx u1 hw1
        generalize (c.toNat : Int) = m at *
        generalize isDigit c = d1 at *
        generalize isSmall c = d2 at *
        clear hp hc hj hjn hlt
        have hb : (d1 = false ∧ b = false) ∨ (d1 = false ∧ b = true ∧ d2 = false) := by cases b <;> cases d1 <;> cases d2 <;> simp_all
        rcases hb with ⟨rfl, rfl⟩ | ⟨rfl, rfl, rfl⟩
        all_goals
          go_wp2_with fail
          with_reducible refine D.out.mono ?_
          rintro e w1 ⟨rfl, rfl⟩
          go_wp2_with fail
          with_reducible refine S.out.mono ?_
          rintro e w1 ⟨rfl, rfl⟩
          go_wp2_with fail
          go_ret
          exact ⟨rfl, rfl⟩
      · have u1 := dec_inlt hlt
        obtain ⟨p, hp⟩ : ∃ p : Int, p = ((i + j : Nat) : Int) := ⟨_, rfl⟩
        rw [← hp] at u1 hw1
        clear hp hj hjn hlt
        go_wp2_with fail
        go_ret
        exact ⟨rfl, rfl⟩
end Go.Proofs.YtjahjdmabconeaaDoor
