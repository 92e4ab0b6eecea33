/-
  Blanks are skipped; bytes of a kind are gone over.
-/
import Derived.Test.YtadogobdlcionaaDoorPa
namespace Go.Proofs.YtadogobdlcionaaDoor
open Go.ChangeShapes Go.WideShapes Go.ChangeAt Go.RowKit
set_option linter.unusedVariables false
theorem str_len (s : ByteArray) : s.size = s.data.toList.length := by cases s; rfl
theorem str_at {s : ByteArray} {i : Nat} {c : UInt8} (h : s.data.toList[i]? = some c) (W : World) : (Instr.index 9 (.string s) (.int .i64 (i : Int))).run Tryd.prog W = .ok (.int .u8 (c.toNat : Int)) W := by
  have hi : i < s.size := by rw [str_len]; exact (List.getElem?_eq_some_iff.1 h).1
  rw [run_index_string (P := Tryd.prog) W 9 s .i64 (i : Int) Tryd.underlying9, dif_pos ⟨by omega, by omega⟩]
  have e : s[(i : Int).toNat]'(by omega) = c := by
    obtain ⟨h1, h2⟩ := List.getElem?_eq_some_iff.1 h
    rw [← h2]
    cases s
    rfl
  rw [e]
theorem skipB_step {l : List UInt8} {i j : Nat} (h : j < spanB isBlank (l.drop i)) : ∃ c, l[i + j]? = some c ∧ isBlank c = true := by
  have hl := spanB_le isBlank (l.drop i)
  obtain ⟨c, hc⟩ : ∃ c, (l.drop i)[j]? = some c := ⟨_, List.getElem?_eq_getElem (by omega)⟩
  exact ⟨c, by rw [← List.getElem?_drop]; exact hc, spanB_all isBlank _ j c h hc⟩
def SkRel (i n : Nat) (v : Value) : Prop := ∃ j : Nat, v = .int .i64 ((i + j : Nat) : Int) ∧ j ≤ n
set_option maxRecDepth 100000 in
set_option maxHeartbeats 1000000 in
theorem skip_is (w : World) (s : ByteArray) {i : Nat} (hi : i ≤ s.size) (hs : s.size ≤ 140737488355328) : Calls Tryd.prog 17 #[.string s, .int .i64 (i : Int)] w fun e w' => e = .returned (.int .i64 (skipB i s.data.toList : Int)) ∧ w = w' := by
  obtain ⟨n, hn⟩ : ∃ n, n = spanB isBlank (s.data.toList.drop i) := ⟨_, rfl⟩
  have hsk : skipB i s.data.toList = i + n := by rw [hn]; rfl
  have hle : i + n ≤ s.size := by
    have := skipB_le (i := i) (l := s.data.toList) (by rw [← str_len]; exact hi)
    rw [← str_len] at this
    omega
  have IN : Hid (∀ j, j < n → ∃ c, s.data.toList[i + j]? = some c ∧ isBlank c = true) := Lib.hid fun j hj => skipB_step (by rw [← hn]; exact hj)
  have EN : Hid (i + n < s.size → ∃ c, s.data.toList[i + n]? = some c ∧ isBlank c = false) := Lib.hid fun hlt => by
    obtain ⟨c, hc⟩ : ∃ c, s.data.toList[i + n]? = some c := ⟨_, List.getElem?_eq_getElem (by rw [← str_len]; exact hlt)⟩
    exact ⟨c, hc, spanB_end isBlank (s.data.toList.drop i) c (by rw [← hn, List.getElem?_drop]; exact hc)⟩
  rw [hsk]
  have LE := Lib.hid (And.intro hle hs)
  have SA := Lib.hid (fun (j : Nat) (c : UInt8) (h : s.data.toList[j]? = some c) => str_at (s := s) h)
  clear hn hsk hi hle hs
  generalize s.data.toList = l at *
  go_enter Tryd.func17, Tryd.ntmps17
  go_wp2_with fail
  go_loop [1] (fun v => SkRel i n v) (fun v => i + n + 1 - (intOf v).toNat)
  case atStart => exact ⟨0, by simp, Nat.zero_le _⟩
  case round =>
    obtain ⟨j, rfl, hj⟩ := hrel
    have JJ := Lib.hid hj
    by_cases hjn : j < n
    · obtain ⟨c, hc, hb⟩ := IN.out j hjn
      have hx := SA.out _ c hc
      have u1 : decide (((i + j : Nat) : Int) < (s.size : Int)) = true := decide_eq_true (by have := LE.out.1; omega)
      have u2 : decide (i + j < s.size) = true := decide_eq_true (by have := LE.out.1; omega)
      have hw : wrap64 (((i + j : Nat) : Int) + 1) = ((i + (j + 1) : Nat) : Int) := by have := LE.out.1; have := LE.out.2; unfold wrap64; omega
      have hcc : c.toNat = 32 ∨ c.toNat = 9 ∨ c.toNat = 10 := by simpa [isBlank, or_assoc] using hb
      obtain ⟨m, hm⟩ : ∃ m : Int, m = (c.toNat : Int) := ⟨_, rfl⟩
      rw [← hm] at hx
      have HJ := Lib.hid hjn
      obtain ⟨p, hp⟩ : ∃ p : Int, p = ((i + j : Nat) : Int) := ⟨_, rfl⟩
      rw [← hp] at hx u1 hw ⊢
      have HP := Lib.hid hp
      clear hp hc hb hj hjn u2
      rcases hcc with h | h | h
      all_goals
        obtain rfl : m = _ := by rw [hm, h]
        clear hm h
        go_wp2_with fail
        go_round
        case rel => exact ⟨j + 1, by go_num, by have := HJ.out; omega⟩
        case measure => have := HJ.out; have := HP.out; simp [intOf]; omega
    · obtain rfl : j = n := by omega
      by_cases hlt : i + j < s.size
      · obtain ⟨c, hc, hb⟩ := EN.out hlt
        have hx := SA.out _ c hc
        have u1 : decide (((i + j : Nat) : Int) < (s.size : Int)) = true := decide_eq_true (by omega)
        have hcc : c.toNat ≠ 32 ∧ c.toNat ≠ 9 ∧ c.toNat ≠ 10 := by simpa [isBlank, and_assoc] using hb
        obtain ⟨m, hm⟩ : ∃ m : Int, m = (c.toNat : Int) := ⟨_, rfl⟩
        rw [← hm] at hx
        have q1 : (m == 32) = false := by simp; omega
        have q2 : (m == 9) = false := by simp; omega
        have q3 : (m == 10) = false := by simp; omega
        obtain ⟨p, hp⟩ : ∃ p : Int, p = ((i + j : Nat) : Int) := ⟨_, rfl⟩
        rw [← hp] at hx u1 ⊢
        have HP := Lib.hid hp
        clear hp hc hb hj hjn hlt hcc hm
        go_wp2_with fail
        go_ret
        exact ⟨by show Ending.returned (.int .i64 p) = _; rw [HP.out]; simp, rfl⟩
      · have u1 : decide (((i + j : Nat) : Int) < (s.size : Int)) = false := decide_eq_false (by omega)
        obtain ⟨p, hp⟩ : ∃ p : Int, p = ((i + j : Nat) : Int) := ⟨_, rfl⟩
        rw [← hp] at u1 ⊢
        have HP := Lib.hid hp
        clear hp hj hjn hlt
        go_wp2_with fail
        go_ret
        exact ⟨by show Ending.returned (.int .i64 p) = _; rw [HP.out]; simp, rfl⟩
end Go.Proofs.YtadogobdlcionaaDoor
