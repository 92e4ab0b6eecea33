/-
  Signs.
-/
import Derived.Test.YtadogobdlcionaaDoorPc
import Derived.Test.YtadogobdlcionaaDoorShelf
namespace Go.Proofs.YtadogobdlcionaaDoor
open Go.ChangeShapes Go.WideShapes Go.ChangeAt Go.RowKit
set_option linter.unusedVariables false
def signsL : List UInt8 := [44, 43, 45, 42, 47, 37, 61, 60, 62, 46, 35, 33, 40, 41]
theorem index_sign (c : UInt8) : decide ((0 : Int) ≤ Lib.indexByte signsL c) = isSign c := by
  have h : ∀ n : Fin 256, decide ((0 : Int) ≤ Lib.indexByte signsL (UInt8.ofNat n.val)) = isSign (UInt8.ofNat n.val) := by decide +kernel
  have := h ⟨c.toNat, c.toNat_lt⟩
  simpa using this
theorem size_cons {t : ByteArray} {c : UInt8} {r : List UInt8} (h : t.data.toList = c :: r) : t.size = r.length + 1 := by rw [str_len, h]; rfl
set_option maxRecDepth 100000 in
set_option maxHeartbeats 1000000 in
theorem sign_is (w : World) {t : ByteArray} {c : UInt8} {r : List UInt8} (h : t.data.toList = c :: r) : Calls Tryd.prog 57 #[.string t] w fun e w' => e = .returned (.int .i64 (signB (c :: r) : Int)) ∧ w = w' := by
  have hx0 : ∀ W, (Instr.index 9 (.string t) (.int .i64 0)).run Tryd.prog W = .ok (.int .u8 (c.toNat : Int)) W := fun W => str_at (i := 0) (by rw [h]; rfl) W
  have IX : Calls Tryd.prog 71 #[.string ⟨#[44, 43, 45, 42, 47, 37, 61, 60, 62, 46, 35, 33, 40, 41]⟩, .int .u8 (c.toNat : Int)] w fun e w' => e = .returned (.int .i64 (Lib.indexByte signsL c)) ∧ w' = w := by
    have := Tryd.strings_IndexByte ⟨#[44, 43, 45, 42, 47, 37, 61, 60, 62, 46, 35, 33, 40, 41]⟩ (c.toNat : Int) w
    have e : (c.toNat : Int).toNat.toUInt8 = c := by simp
    rw [e] at this
    exact this
  have IX := Lib.hid IX
  have u2 := index_sign c
  generalize Lib.indexByte signsL c = ix at *
  have hs := size_cons h
  -- the second byte
  have key : ∀ (b1 b2 : Bool), (b1 = true → b2 = false → signB (c :: r) = (if isSign c then 1 else 0)) → True := fun _ _ _ => trivial
  by_cases hr : ∃ d r', r = d :: r'
  · obtain ⟨d, r', rfl⟩ := hr
    have hx1 : ∀ W, (Instr.index 9 (.string t) (.int .i64 1)).run Tryd.prog W = .ok (.int .u8 (d.toNat : Int)) W := fun W => str_at (i := 1) (by rw [h]; rfl) W
    have u1 : decide ((1 : Int) < (t.size : Int)) = true := decide_eq_true (by rw [hs]; simp; omega)
    have sg : signB (c :: d :: r') = if d.toNat = 61 ∧ (c.toNat = 33 ∨ c.toNat = 60 ∨ c.toNat = 62) then 2 else if isSign c then 1 else 0 := rfl
    rw [sg]
    generalize isSign c = sc at *
    obtain ⟨m, hm⟩ : ∃ m : Int, m = (c.toNat : Int) := ⟨_, rfl⟩
    obtain ⟨k, hk⟩ : ∃ k : Int, k = (d.toNat : Int) := ⟨_, rfl⟩
    rw [← hm] at hx0 IX
    rw [← hk] at hx1
    generalize hR : (if d.toNat = 61 ∧ (c.toNat = 33 ∨ c.toNat = 60 ∨ c.toNat = 62) then 2 else if sc = true then 1 else 0) = R
    clear sg hs h key
    by_cases h1 : k = 61
    · by_cases h2 : m = 33 ∨ m = 60 ∨ m = 62
      · rw [if_pos ⟨by omega, by omega⟩] at hR
        subst hR
        clear hm hk
        have q1 : (k == 61) = true := by simp [h1]
        subst h1
        rcases h2 with rfl | rfl | rfl
        all_goals
          go_enter Tryd.func57, Tryd.ntmps57
          go_wp2_with fail
          go_ret
          exact ⟨rfl, rfl⟩
      · rw [if_neg (fun e => h2 (by have := e.2; omega))] at hR
        subst hR
        clear hm hk
        have q1 : (k == 61) = true := by simp [h1]
        have q2 : (m == 33) = false := by simp; omega
        have q3 : (m == 60) = false := by simp; omega
        have q4 : (m == 62) = false := by simp; omega
        subst h1
        clear h2
        cases sc <;>
        · go_enter Tryd.func57, Tryd.ntmps57
          go_wp2_with fail
          with_reducible refine IX.out.mono ?_
          rintro e w1 ⟨rfl, rfl⟩
          go_wp2_with fail
          go_ret
          exact ⟨rfl, rfl⟩
    · rw [if_neg (fun e => h1 (by have := e.1; omega))] at hR
      subst hR
      clear hm hk
      have q1 : (k == 61) = false := by simp [h1]
      clear h1
      cases sc <;>
      · go_enter Tryd.func57, Tryd.ntmps57
        go_wp2_with fail
        with_reducible refine IX.out.mono ?_
        rintro e w1 ⟨rfl, rfl⟩
        go_wp2_with fail
        go_ret
        exact ⟨rfl, rfl⟩
  · have hr0 : r = [] := by
      cases r with
      | nil => rfl
      | cons d r' => exact absurd ⟨d, r', rfl⟩ hr
    subst hr0
    have u1 : decide ((1 : Int) < (t.size : Int)) = false := decide_eq_false (by rw [hs]; simp)
    have sg : signB [c] = if isSign c then 1 else 0 := rfl
    rw [sg]
    generalize isSign c = sc at *
    obtain ⟨m, hm⟩ : ∃ m : Int, m = (c.toNat : Int) := ⟨_, rfl⟩
    rw [← hm] at hx0 IX
    clear hm sg hs h key hr
    cases sc <;>
    · go_enter Tryd.func57, Tryd.ntmps57
      go_wp2_with fail
      with_reducible refine IX.out.mono ?_
      rintro e w1 ⟨rfl, rfl⟩
      go_wp2_with fail
      go_ret
      exact ⟨rfl, rfl⟩
end Go.Proofs.YtadogobdlcionaaDoor
