/-
  The document's words for bytes, and how far they go on.
-/
import Derived.Test.YtjahjdmabconeaaDoorPb
namespace Go.Proofs.YtjahjdmabconeaaDoor
open Go.ChangeShapes Go.WideShapes Go.ChangeAt Go.RowKit
set_option linter.unusedVariables false
theorem dec_beq (a k : Nat) : decide (a = k) = ((a : Int) == (k : Int)) := by rw [Bool.eq_iff_iff]; simp; omega
set_option maxRecDepth 100000 in
theorem rsmall_is (w : World) (c : UInt8) : Calls Tryd.prog 28 #[.int .u8 (c.toNat : Int)] w fun e w' => e = .returned (.bool (isSmall c)) ∧ w = w' := by
  unfold isSmall
  obtain ⟨n, hn⟩ : ∃ n : Int, n = (c.toNat : Int) := ⟨_, rfl⟩
  have e1 : decide (97 ≤ c.toNat) = decide ((97 : Int) ≤ n) := by rw [hn]; apply decide_eq_decide.2; omega
  have e2 : decide (c.toNat ≤ 122) = decide (n ≤ (122 : Int)) := by rw [hn]; apply decide_eq_decide.2; omega
  rw [e1, e2, ← hn]
  clear hn e1 e2
  cases h1 : decide ((97 : Int) ≤ n) <;> cases h2 : decide (n ≤ (122 : Int)) <;>
  · go_enter Tryd.func28, Tryd.ntmps28
    go_wp2
    go_ret
    exact ⟨rfl, rfl⟩
set_option maxRecDepth 100000 in
theorem rdigit_is (w : World) (c : UInt8) : Calls Tryd.prog 30 #[.int .u8 (c.toNat : Int)] w fun e w' => e = .returned (.bool (isDigit c)) ∧ w = w' := by
  unfold isDigit
  obtain ⟨n, hn⟩ : ∃ n : Int, n = (c.toNat : Int) := ⟨_, rfl⟩
  have e1 : decide (48 ≤ c.toNat) = decide ((48 : Int) ≤ n) := by rw [hn]; apply decide_eq_decide.2; omega
  have e2 : decide (c.toNat ≤ 57) = decide (n ≤ (57 : Int)) := by rw [hn]; apply decide_eq_decide.2; omega
  rw [e1, e2, ← hn]
  clear hn e1 e2
  cases h1 : decide ((48 : Int) ≤ n) <;> cases h2 : decide (n ≤ (57 : Int)) <;>
  · go_enter Tryd.func30, Tryd.ntmps30
    go_wp2
    go_ret
    exact ⟨rfl, rfl⟩
set_option maxRecDepth 100000 in
theorem rcap_is (w : World) (c : UInt8) : Calls Tryd.prog 44 #[.int .u8 (c.toNat : Int)] w fun e w' => e = .returned (.bool (isCap c)) ∧ w = w' := by
  unfold isCap
  obtain ⟨n, hn⟩ : ∃ n : Int, n = (c.toNat : Int) := ⟨_, rfl⟩
  have e1 : decide (65 ≤ c.toNat) = decide ((65 : Int) ≤ n) := by rw [hn]; apply decide_eq_decide.2; omega
  have e2 : decide (c.toNat ≤ 90) = decide (n ≤ (90 : Int)) := by rw [hn]; apply decide_eq_decide.2; omega
  rw [e1, e2, ← hn]
  clear hn e1 e2
  cases h1 : decide ((65 : Int) ≤ n) <;> cases h2 : decide (n ≤ (90 : Int)) <;>
  · go_enter Tryd.func44, Tryd.ntmps44
    go_wp2
    go_ret
    exact ⟨rfl, rfl⟩
set_option maxRecDepth 100000 in
theorem rblank_is (w : World) (c : UInt8) : Calls Tryd.prog 23 #[.int .u8 (c.toNat : Int)] w fun e w' => e = .returned (.bool (isBlank c)) ∧ w = w' := by
  unfold isBlank
  obtain ⟨n, hn⟩ : ∃ n : Int, n = (c.toNat : Int) := ⟨_, rfl⟩
  have e1 : decide (c.toNat = 32) = (n == 32) := by rw [hn]; exact dec_beq _ _
  have e2 : decide (c.toNat = 9) = (n == 9) := by rw [hn]; exact dec_beq _ _
  have e3 : decide (c.toNat = 10) = (n == 10) := by rw [hn]; exact dec_beq _ _
  rw [e1, e2, e3, ← hn]
  clear hn e1 e2 e3
  cases h1 : (n == 32) <;> cases h2 : (n == 9) <;> cases h3 : (n == 10) <;>
  · go_enter Tryd.func23, Tryd.ntmps23
    go_wp2
    go_ret
    exact ⟨rfl, rfl⟩
/-- Does a letter stand at a place? -/
def letterB (l : List UInt8) : Bool := headB isLetter l
set_option maxRecDepth 100000 in
theorem rletter_is (w : World) (s : ByteArray) {i : Nat} (hi : i ≤ s.size) (hs : s.size ≤ 140737488355328) : Calls Tryd.prog 32 #[.string s, .int .i64 (i : Int)] w fun e w' => e = .returned (.bool (headB isLetter (s.data.toList.drop i))) ∧ w = w' := by
  by_cases hlt : i < s.size
  · obtain ⟨c, hc⟩ : ∃ c, s.data.toList[i]? = some c := ⟨_, List.getElem?_eq_getElem (by rw [← str_len]; exact hlt)⟩
    have hb : headB isLetter (s.data.toList.drop i) = (isSmall c || isCap c) := by
      cases hd : s.data.toList.drop i with
      | nil => have := congrArg (fun l => l[0]?) hd; simp only [List.getElem?_drop, Nat.add_zero, hc] at this; cases this
      | cons x r => have := congrArg (fun l => l[0]?) hd; simp only [List.getElem?_drop, Nat.add_zero, hc] at this; simp at this; subst this; rfl
    rw [hb]
    have hx := fun W => str_at hc W
    have S := Lib.hid (rsmall_is w c)
    have K := Lib.hid (rcap_is w c)
    have u1 : decide ((i : Int) ≥ (s.size : Int)) = false := decide_eq_false (by omega)
    have u2 : decide ((s.size : Int) ≤ (i : Int)) = false := decide_eq_false (by omega)
    have u3 : decide (s.size ≤ i) = false := decide_eq_false (by omega)
    generalize (c.toNat : Int) = n at *
    generalize isSmall c = b at *
    generalize isCap c = d at *
    clear hb hc hi hlt
    cases b <;> cases d <;>
    · go_enter Tryd.func32, Tryd.ntmps32
      go_wp2_with fail
      with_reducible refine S.out.mono ?_
      rintro e w1 ⟨rfl, rfl⟩
      go_wp2_with fail
      with_reducible refine K.out.mono ?_
      rintro e w1 ⟨rfl, rfl⟩
      go_wp2_with fail
      go_ret
      exact ⟨rfl, rfl⟩
  · have hb : headB isLetter (s.data.toList.drop i) = false := by rw [List.drop_eq_nil_of_le (by rw [← str_len]; omega)]; rfl
    rw [hb]
    have u1 : decide ((i : Int) ≥ (s.size : Int)) = true := decide_eq_true (by omega)
    have u2 : decide ((s.size : Int) ≤ (i : Int)) = true := decide_eq_true (by omega)
    have u3 : decide (s.size ≤ i) = true := decide_eq_true (by omega)
    clear hb hi hlt
    go_enter Tryd.func32, Tryd.ntmps32
    go_wp2_with fail
    go_ret
    exact ⟨rfl, rfl⟩
end Go.Proofs.YtjahjdmabconeaaDoor
