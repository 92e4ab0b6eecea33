/-
  Bytes: what they are.
  Blanks are skipped; bytes of a kind are gone over.
  The lexer's closures.
-/
import Derived.Test.YtadogobdlcionaaGreatDoorKaa
set_option linter.unusedSimpArgs false
namespace Go.Proofs.YtadogobdlcionaaGreatDoor
open Go.ChangeShapes Go.WideShapes Go.ChangeAt Go.RowKit
set_option linter.unusedVariables false
theorem u8 (c : UInt8) : 0 ≤ (c.toNat : Int) ∧ (c.toNat : Int) ≤ 255 := by
  have := c.toNat_lt
  omega
set_option maxRecDepth 100000 in
theorem small_is (w : World) (c : UInt8) : Calls Tryz.prog 91 #[.int .u8 (c.toNat : Int)] w fun e w' => e = .returned (.bool (isSmall c)) ∧ w = w' := by
  unfold isSmall
  obtain ⟨n, hn⟩ : ∃ n : Int, n = (c.toNat : Int) := ⟨_, rfl⟩
  have e1 : decide (97 ≤ c.toNat) = decide ((97 : Int) ≤ n) := by rw [hn]; apply decide_eq_decide.2; omega
  have e2 : decide (c.toNat ≤ 122) = decide (n ≤ (122 : Int)) := by rw [hn]; apply decide_eq_decide.2; omega
  rw [e1, e2, ← hn]
  clear hn e1 e2
  cases h1 : decide ((97 : Int) ≤ n) <;> cases h2 : decide (n ≤ (122 : Int)) <;>
  · go_enter Tryz.func91, Tryz.ntmps91
    go_wp2
    go_ret
    exact ⟨rfl, rfl⟩
set_option maxRecDepth 100000 in
theorem digit_is (w : World) (c : UInt8) : Calls Tryz.prog 93 #[.int .u8 (c.toNat : Int)] w fun e w' => e = .returned (.bool (isDigit c)) ∧ w = w' := by
  unfold isDigit
  obtain ⟨n, hn⟩ : ∃ n : Int, n = (c.toNat : Int) := ⟨_, rfl⟩
  have e1 : decide (48 ≤ c.toNat) = decide ((48 : Int) ≤ n) := by rw [hn]; apply decide_eq_decide.2; omega
  have e2 : decide (c.toNat ≤ 57) = decide (n ≤ (57 : Int)) := by rw [hn]; apply decide_eq_decide.2; omega
  rw [e1, e2, ← hn]
  clear hn e1 e2
  cases h1 : decide ((48 : Int) ≤ n) <;> cases h2 : decide (n ≤ (57 : Int)) <;>
  · go_enter Tryz.func93, Tryz.ntmps93
    go_wp2
    go_ret
    exact ⟨rfl, rfl⟩
set_option maxRecDepth 100000 in
theorem letter_is (w : World) (c : UInt8) : Calls Tryz.prog 95 #[.int .u8 (c.toNat : Int)] w fun e w' => e = .returned (.bool (isLetter c)) ∧ w = w' := by
  have S := Lib.hid (small_is w c)
  unfold isLetter isCap
  obtain ⟨n, hn⟩ : ∃ n : Int, n = (c.toNat : Int) := ⟨_, rfl⟩
  have e1 : decide (65 ≤ c.toNat) = decide ((65 : Int) ≤ n) := by rw [hn]; apply decide_eq_decide.2; omega
  have e2 : decide (c.toNat ≤ 90) = decide (n ≤ (90 : Int)) := by rw [hn]; apply decide_eq_decide.2; omega
  rw [e1, e2]
  rw [← hn] at S ⊢
  generalize isSmall c = b at *
  clear hn e1 e2
  cases b with
  | true =>
    go_enter Tryz.func95, Tryz.ntmps95
    go_wp2_with fail
    with_reducible refine S.out.mono ?_
    rintro e w1 ⟨rfl, rfl⟩
    go_wp2_with fail
    go_ret
    exact ⟨rfl, rfl⟩
  | false =>
    cases h1 : decide ((65 : Int) ≤ n) <;> cases h2 : decide (n ≤ (90 : Int)) <;>
    · go_enter Tryz.func95, Tryz.ntmps95
      go_wp2_with fail
      with_reducible refine S.out.mono ?_
      rintro e w1 ⟨rfl, rfl⟩
      go_wp2_with fail
      go_ret
      exact ⟨rfl, rfl⟩
set_option maxRecDepth 100000 in
theorem word_is (w : World) (c : UInt8) : Calls Tryz.prog 92 #[.int .u8 (c.toNat : Int)] w fun e w' => e = .returned (.bool (isWord c)) ∧ w = w' := by
  have S := Lib.hid (small_is w c)
  have D := Lib.hid (digit_is w c)
  unfold isWord
  generalize (c.toNat : Int) = n at *
  generalize isSmall c = b at *
  generalize isDigit c = d at *
  cases b with
  | true =>
    go_enter Tryz.func92, Tryz.ntmps92
    go_wp2_with fail
    with_reducible refine S.out.mono ?_
    rintro e w1 ⟨rfl, rfl⟩
    go_wp2_with fail
    go_ret
    exact ⟨rfl, rfl⟩
  | false =>
    cases d <;>
    · go_enter Tryz.func92, Tryz.ntmps92
      go_wp2_with fail
      with_reducible refine S.out.mono ?_
      rintro e w1 ⟨rfl, rfl⟩
      go_wp2_with fail
      with_reducible refine D.out.mono ?_
      rintro e w1 ⟨rfl, rfl⟩
      go_wp2_with fail
      go_ret
      exact ⟨rfl, rfl⟩
set_option maxRecDepth 100000 in
theorem both_is (w : World) (c : UInt8) : Calls Tryz.prog 94 #[.int .u8 (c.toNat : Int)] w fun e w' => e = .returned (.bool (isBoth c)) ∧ w = w' := by
  have S := Lib.hid (letter_is w c)
  have D := Lib.hid (digit_is w c)
  unfold isBoth
  generalize (c.toNat : Int) = n at *
  generalize isLetter c = b at *
  generalize isDigit c = d at *
  cases b with
  | true =>
    go_enter Tryz.func94, Tryz.ntmps94
    go_wp2_with fail
    with_reducible refine S.out.mono ?_
    rintro e w1 ⟨rfl, rfl⟩
    go_wp2_with fail
    go_ret
    exact ⟨rfl, rfl⟩
  | false =>
    cases d <;>
    · go_enter Tryz.func94, Tryz.ntmps94
      go_wp2_with fail
      with_reducible refine S.out.mono ?_
      rintro e w1 ⟨rfl, rfl⟩
      go_wp2_with fail
      with_reducible refine D.out.mono ?_
      rintro e w1 ⟨rfl, rfl⟩
      go_wp2_with fail
      go_ret
      exact ⟨rfl, rfl⟩
end Go.Proofs.YtadogobdlcionaaGreatDoor
namespace Go.Proofs.YtadogobdlcionaaGreatDoor
open Go.ChangeShapes Go.WideShapes Go.ChangeAt Go.RowKit
set_option linter.unusedVariables false
theorem str_len (s : ByteArray) : s.size = s.data.toList.length := by cases s; rfl
theorem str_at {s : ByteArray} {i : Nat} {c : UInt8} (h : s.data.toList[i]? = some c) (W : World) : (Instr.index 9 (.string s) (.int .i64 (i : Int))).run Tryz.prog W = .ok (.int .u8 (c.toNat : Int)) W := by
  have hi : i < s.size := by rw [str_len]; exact (List.getElem?_eq_some_iff.1 h).1
  rw [run_index_string (P := Tryz.prog) W 9 s .i64 (i : Int) Tryz.underlying9, dif_pos ⟨by omega, by omega⟩]
  have e : s[(i : Int).toNat]'(by omega) = c := by
    obtain ⟨h1, h2⟩ := List.getElem?_eq_some_iff.1 h
    rw [← h2]
    cases s
    rfl
  rw [e]
theorem skipB_step {l : List UInt8} {i j : Nat} (h : j < spanB isBlank (l.drop i)) : ∃ c, l[i + j]? = some c ∧ isBlank c = true := by
  have hl := spanB_le isBlank (l.drop i)
  obtain ⟨c, hc⟩ : ∃ c, (l.drop i)[j]? = some c := ⟨_, List.getElem?_eq_getElem (by omega)⟩
  exact ⟨c, by rw [← List.getElem?_drop]; exact hc, spanB_all isBlank _ j c h hc⟩
def SkRel (i n : Nat) (v : Value) : Prop := ∃ j : Nat, v = .int .i64 ((i + j : Nat) : Int) ∧ j ≤ n
set_option maxRecDepth 100000 in
set_option maxHeartbeats 1000000 in
theorem skip_is (w : World) (s : ByteArray) {i : Nat} (hi : i ≤ s.size) (hs : s.size ≤ 140737488355328) : Calls Tryz.prog 50 #[.string s, .int .i64 (i : Int)] w fun e w' => e = .returned (.int .i64 (skipB i s.data.toList : Int)) ∧ w = w' := by
  obtain ⟨n, hn⟩ : ∃ n, n = spanB isBlank (s.data.toList.drop i) := ⟨_, rfl⟩
  have hsk : skipB i s.data.toList = i + n := by rw [hn]; rfl
  have hle : i + n ≤ s.size := by
    have := skipB_le (i := i) (l := s.data.toList) (by rw [← str_len]; exact hi)
    rw [← str_len] at this
    omega
  have IN : Hid (∀ j, j < n → ∃ c, s.data.toList[i + j]? = some c ∧ isBlank c = true) := Lib.hid fun j hj => skipB_step (by rw [← hn]; exact hj)
  have EN : Hid (i + n < s.size → ∃ c, s.data.toList[i + n]? = some c ∧ isBlank c = false) := Lib.hid fun hlt => by
    obtain ⟨c, hc⟩ : ∃ c, s.data.toList[i + n]? = some c := ⟨_, List.getElem?_eq_getElem (by rw [← str_len]; exact hlt)⟩
    exact ⟨c, hc, spanB_end isBlank (s.data.toList.drop i) c (by rw [← hn, List.getElem?_drop]; exact hc)⟩
  rw [hsk]
  have LE := Lib.hid (And.intro hle hs)
  have SA := Lib.hid (fun (j : Nat) (c : UInt8) (h : s.data.toList[j]? = some c) => str_at (s := s) h)
  clear hn hsk hi hle hs
  generalize s.data.toList = l at *
  go_enter Tryz.func50, Tryz.ntmps50
  go_wp2_with fail
  go_loop [1] (fun v => SkRel i n v) (fun v => i + n + 1 - (intOf v).toNat)
  case atStart => exact ⟨0, by simp, Nat.zero_le _⟩
  case round =>
    obtain ⟨j, rfl, hj⟩ := hrel
    have JJ := Lib.hid hj
    by_cases hjn : j < n
    · obtain ⟨c, hc, hb⟩ := IN.out j hjn
      have hx := SA.out _ c hc
      have u1 : decide (((i + j : Nat) : Int) < (s.size : Int)) = true := decide_eq_true (by have := LE.out.1; omega)
      have u2 : decide (i + j < s.size) = true := decide_eq_true (by have := LE.out.1; omega)
      have hw : wrap64 (((i + j : Nat) : Int) + 1) = ((i + (j + 1) : Nat) : Int) := by have := LE.out.1; have := LE.out.2; unfold wrap64; omega
      have hcc : c.toNat = 32 ∨ c.toNat = 9 ∨ c.toNat = 10 := by simpa [isBlank, or_assoc] using hb
      obtain ⟨m, hm⟩ : ∃ m : Int, m = (c.toNat : Int) := ⟨_, rfl⟩
      rw [← hm] at hx
      have HJ := Lib.hid hjn
      obtain ⟨p, hp⟩ : ∃ p : Int, p = ((i + j : Nat) : Int) := ⟨_, rfl⟩
      rw [← hp] at hx u1 hw ⊢
      have HP := Lib.hid hp
      clear hp hc hb hj hjn u2
      rcases hcc with h | h | h
      all_goals
        obtain rfl : m = _ := by rw [hm, h]
        clear hm h
        go_wp2_with fail
        go_round
        case rel => exact ⟨j + 1, by go_num, by have := HJ.out; omega⟩
        case measure => have := HJ.out; have := HP.out; simp [intOf]; omega
    · obtain rfl : j = n := by omega
      by_cases hlt : i + j < s.size
      · obtain ⟨c, hc, hb⟩ := EN.out hlt
        have hx := SA.out _ c hc
        have u1 : decide (((i + j : Nat) : Int) < (s.size : Int)) = true := decide_eq_true (by omega)
        have hcc : c.toNat ≠ 32 ∧ c.toNat ≠ 9 ∧ c.toNat ≠ 10 := by simpa [isBlank, and_assoc] using hb
        obtain ⟨m, hm⟩ : ∃ m : Int, m = (c.toNat : Int) := ⟨_, rfl⟩
        rw [← hm] at hx
        have q1 : (m == 32) = false := by simp; omega
        have q2 : (m == 9) = false := by simp; omega
        have q3 : (m == 10) = false := by simp; omega
        obtain ⟨p, hp⟩ : ∃ p : Int, p = ((i + j : Nat) : Int) := ⟨_, rfl⟩
        rw [← hp] at hx u1 ⊢
        have HP := Lib.hid hp
        clear hp hc hb hj hjn hlt hcc hm
        go_wp2_with fail
        go_ret
        exact ⟨by show Ending.returned (.int .i64 p) = _; rw [HP.out]; simp, rfl⟩
      · have u1 : decide (((i + j : Nat) : Int) < (s.size : Int)) = false := decide_eq_false (by omega)
        obtain ⟨p, hp⟩ : ∃ p : Int, p = ((i + j : Nat) : Int) := ⟨_, rfl⟩
        rw [← hp] at u1 ⊢
        have HP := Lib.hid hp
        clear hp hj hjn hlt
        go_wp2_with fail
        go_ret
        exact ⟨by show Ending.returned (.int .i64 p) = _; rw [HP.out]; simp, rfl⟩
end Go.Proofs.YtadogobdlcionaaGreatDoor
namespace Go.Proofs.YtadogobdlcionaaGreatDoor
open Go.ChangeShapes Go.WideShapes Go.ChangeAt Go.RowKit
set_option linter.unusedVariables false
/-- A box of an int, a box of a text. -/
structure Bx (w : World) (eb sb : Nat) (e : Nat) (s : ByteArray) : Prop where
  be : Blk w eb 3
  ce : w.cell? ⟨eb, 0, none⟩ = some (.int .i64 (e : Int))
  cs : w.cell? ⟨sb, 0, none⟩ = some (.string s)
  ne : eb ≠ sb
theorem Bx.turn {S : Nat → Prop} {w w' : World} {eb sb e : Nat} {s : ByteArray} (h : Bx w eb sb e s) (T : Turn S w w') (h1 : ¬ S eb) (h2 : ¬ S sb) : Bx w' eb sb e s := ⟨h.be.turn T h1, T.cell h1 h.ce, T.cell h2 h.cs, h.ne⟩
theorem Bx.put {w : World} {eb sb e : Nat} {s : ByteArray} (h : Bx w eb sb e s) (k : Nat) : Bx (w.setCell ⟨eb, 0, none⟩ (.int .i64 (k : Int))) eb sb k s :=
  ⟨h.be.set _ _, World.cell?_setCell_same _ _ _ h.ce, (cell_far _ _ _ _ _ _ h.ne).trans h.cs, h.ne⟩
def WhRel (w : World) (eb sb e n : Nat) (s : ByteArray) (gh : Nat) (wr : World) : Prop := ∃ j : Nat, j ≤ n ∧ gh = n - j ∧ Bx wr eb sb (e + j) s ∧ Turn (fun k => k = eb) w wr
set_option maxRecDepth 100000 in
set_option maxHeartbeats 1000000 in
theorem while37_is (w : World) {eb sb e : Nat} {s : ByteArray} (h : Bx w eb sb e s) (he : e ≤ s.size) (hs : s.size ≤ 140737488355328) :
    Calls Tryz.prog 89 #[.func (.func 92) #[] #[], .pointer (some ⟨eb, 0, none⟩), .pointer (some ⟨sb, 0, none⟩)] w fun en w' => en = .returned (.tuple #[]) ∧ Bx w' eb sb (e + spanB isWord (s.data.toList.drop e)) s ∧ Turn (fun k => k = eb) w w' := by
  obtain ⟨n, hn⟩ : ∃ n, n = spanB isWord (s.data.toList.drop e) := ⟨_, rfl⟩
  have hle : e + n ≤ s.size := by
    have := spanB_le isWord (s.data.toList.drop e)
    rw [List.length_drop, ← str_len] at this
    omega
  have IN : Hid (∀ j, j < n → ∃ c, s.data.toList[e + j]? = some c ∧ isWord c = true) := Lib.hid fun j hj => by
    obtain ⟨c, hc⟩ : ∃ c, (s.data.toList.drop e)[j]? = some c := ⟨_, List.getElem?_eq_getElem (by rw [List.length_drop, ← str_len]; omega)⟩
    exact ⟨c, by rw [← List.getElem?_drop]; exact hc, spanB_all isWord _ j c (by omega) hc⟩
  have EN : Hid (e + n < s.size → ∃ c, s.data.toList[e + n]? = some c ∧ isWord c = false) := Lib.hid fun hlt => by
    obtain ⟨c, hc⟩ : ∃ c, s.data.toList[e + n]? = some c := ⟨_, List.getElem?_eq_getElem (by rw [← str_len]; exact hlt)⟩
    exact ⟨c, hc, spanB_end isWord (s.data.toList.drop e) c (by rw [← hn, List.getElem?_drop]; exact hc)⟩
  rw [← hn]
  have LE := Lib.hid (And.intro hle hs)
  have SA := Lib.hid (fun (j : Nat) (c : UInt8) (h : s.data.toList[j]? = some c) => str_at (s := s) h)
  have PR := Lib.hid (fun (w : World) (c : UInt8) => word_is w c)
  clear hn hle hs he
  generalize s.data.toList = l at *
  have R0 : WhRel w eb sb e n s n w := ⟨0, Nat.zero_le _, rfl, h, Turn.refl _ _⟩
  clear h
  go_enter Tryz.func89, Tryz.ntmps89
  go_wp2_with fail
  go_loopg [] n (fun gh wr => WhRel w eb sb e n s gh wr)
  case atStart => exact R0
  case round =>
    clear R0
    obtain ⟨j, hj, hg, hB, hT⟩ := hrel
    have GG := Lib.hid (And.intro hj hg)
    have BB := Lib.hid hB
    have TT := Lib.hid hT
    have ce := hB.ce
    have cs := hB.cs
    have fz := hB.be.fz
    obtain ⟨p, hp⟩ : ∃ p : Int, p = ((e + j : Nat) : Int) := ⟨_, rfl⟩
    have HP := Lib.hid hp
    by_cases hjn : j < n
    · obtain ⟨c, hc, hb⟩ := IN.out j hjn
      have hx := SA.out _ c hc
      have PC := PR.out wr c
      rw [hb] at PC
      have PC := Lib.hid PC
      have u1 : decide (((e + j : Nat) : Int) < (s.size : Int)) = true := decide_eq_true (by have := LE.out.1; omega)
      have hw : wrap64 (((e + j : Nat) : Int) + 1) = ((e + (j + 1) : Nat) : Int) := by have := LE.out.1; have := LE.out.2; unfold wrap64; omega
      obtain ⟨m, hm⟩ : ∃ m : Int, m = (c.toNat : Int) := ⟨_, rfl⟩
      obtain ⟨p', hp'⟩ : ∃ p' : Int, p' = ((e + (j + 1) : Nat) : Int) := ⟨_, rfl⟩
      have HJ := Lib.hid hjn
      have FIN := Lib.hid (And.intro (hB.put (e + (j + 1))) (hT.trans (Turn.put wr eb 0 (.int .i64 ((e + (j + 1) : Nat) : Int)))))
      rw [← hm] at hx PC
      rw [← hp] at hx u1 hw ce
      rw [← hp'] at hw FIN
      clear hp hp' hm hc hb hj hjn hB hT hg
      go_wp2_with fail
      with_reducible refine PC.out.mono ?_
      rintro en w1 ⟨rfl, rfl⟩
      go_wp2_with fail
      go_roundg (n - (j + 1))
      case measure => have := GG.out.1; have := GG.out.2; have := HJ.out; omega
      case rel => exact ⟨j + 1, by have := HJ.out; omega, rfl, FIN.out.1, FIN.out.2⟩
    · obtain rfl : j = n := by omega
      by_cases hlt : e + j < s.size
      · obtain ⟨c, hc, hb⟩ := EN.out hlt
        have hx := SA.out _ c hc
        have PC := PR.out wr c
        rw [hb] at PC
        have PC := Lib.hid PC
        have u1 : decide (((e + j : Nat) : Int) < (s.size : Int)) = true := decide_eq_true (by omega)
        obtain ⟨m, hm⟩ : ∃ m : Int, m = (c.toNat : Int) := ⟨_, rfl⟩
        rw [← hm] at hx PC
        rw [← hp] at hx u1 ce
        clear hp hm hc hb hj hjn hB hT hg hlt
        go_wp2_with fail
        with_reducible refine PC.out.mono ?_
        rintro en w1 ⟨rfl, rfl⟩
        go_wp2_with fail
        exact bodyPost_end (by simp [results, Tryz.results34]) rfl ⟨rfl, BB.out, TT.out⟩
      · have u1 : decide (((e + j : Nat) : Int) < (s.size : Int)) = false := decide_eq_false (by omega)
        rw [← hp] at u1 ce
        clear hp hj hjn hB hT hg hlt
        go_wp2_with fail
        exact bodyPost_end (by simp [results, Tryz.results34]) rfl ⟨rfl, BB.out, TT.out⟩
set_option maxRecDepth 100000 in
set_option maxHeartbeats 1000000 in
theorem while38_is (w : World) {eb sb e : Nat} {s : ByteArray} (h : Bx w eb sb e s) (he : e ≤ s.size) (hs : s.size ≤ 140737488355328) :
    Calls Tryz.prog 89 #[.func (.func 93) #[] #[], .pointer (some ⟨eb, 0, none⟩), .pointer (some ⟨sb, 0, none⟩)] w fun en w' => en = .returned (.tuple #[]) ∧ Bx w' eb sb (e + spanB isDigit (s.data.toList.drop e)) s ∧ Turn (fun k => k = eb) w w' := by
  obtain ⟨n, hn⟩ : ∃ n, n = spanB isDigit (s.data.toList.drop e) := ⟨_, rfl⟩
  have hle : e + n ≤ s.size := by
    have := spanB_le isDigit (s.data.toList.drop e)
    rw [List.length_drop, ← str_len] at this
    omega
  have IN : Hid (∀ j, j < n → ∃ c, s.data.toList[e + j]? = some c ∧ isDigit c = true) := Lib.hid fun j hj => by
    obtain ⟨c, hc⟩ : ∃ c, (s.data.toList.drop e)[j]? = some c := ⟨_, List.getElem?_eq_getElem (by rw [List.length_drop, ← str_len]; omega)⟩
    exact ⟨c, by rw [← List.getElem?_drop]; exact hc, spanB_all isDigit _ j c (by omega) hc⟩
  have EN : Hid (e + n < s.size → ∃ c, s.data.toList[e + n]? = some c ∧ isDigit c = false) := Lib.hid fun hlt => by
    obtain ⟨c, hc⟩ : ∃ c, s.data.toList[e + n]? = some c := ⟨_, List.getElem?_eq_getElem (by rw [← str_len]; exact hlt)⟩
    exact ⟨c, hc, spanB_end isDigit (s.data.toList.drop e) c (by rw [← hn, List.getElem?_drop]; exact hc)⟩
  rw [← hn]
  have LE := Lib.hid (And.intro hle hs)
  have SA := Lib.hid (fun (j : Nat) (c : UInt8) (h : s.data.toList[j]? = some c) => str_at (s := s) h)
  have PR := Lib.hid (fun (w : World) (c : UInt8) => digit_is w c)
  clear hn hle hs he
  generalize s.data.toList = l at *
  have R0 : WhRel w eb sb e n s n w := ⟨0, Nat.zero_le _, rfl, h, Turn.refl _ _⟩
  clear h
  go_enter Tryz.func89, Tryz.ntmps89
  go_wp2_with fail
  go_loopg [] n (fun gh wr => WhRel w eb sb e n s gh wr)
  case atStart => exact R0
  case round =>
    clear R0
    obtain ⟨j, hj, hg, hB, hT⟩ := hrel
    have GG := Lib.hid (And.intro hj hg)
    have BB := Lib.hid hB
    have TT := Lib.hid hT
    have ce := hB.ce
    have cs := hB.cs
    have fz := hB.be.fz
    obtain ⟨p, hp⟩ : ∃ p : Int, p = ((e + j : Nat) : Int) := ⟨_, rfl⟩
    have HP := Lib.hid hp
    by_cases hjn : j < n
    · obtain ⟨c, hc, hb⟩ := IN.out j hjn
      have hx := SA.out _ c hc
      have PC := PR.out wr c
      rw [hb] at PC
      have PC := Lib.hid PC
      have u1 : decide (((e + j : Nat) : Int) < (s.size : Int)) = true := decide_eq_true (by have := LE.out.1; omega)
      have hw : wrap64 (((e + j : Nat) : Int) + 1) = ((e + (j + 1) : Nat) : Int) := by have := LE.out.1; have := LE.out.2; unfold wrap64; omega
      obtain ⟨m, hm⟩ : ∃ m : Int, m = (c.toNat : Int) := ⟨_, rfl⟩
      obtain ⟨p', hp'⟩ : ∃ p' : Int, p' = ((e + (j + 1) : Nat) : Int) := ⟨_, rfl⟩
      have HJ := Lib.hid hjn
      have FIN := Lib.hid (And.intro (hB.put (e + (j + 1))) (hT.trans (Turn.put wr eb 0 (.int .i64 ((e + (j + 1) : Nat) : Int)))))
      rw [← hm] at hx PC
      rw [← hp] at hx u1 hw ce
      rw [← hp'] at hw FIN
      clear hp hp' hm hc hb hj hjn hB hT hg
      go_wp2_with fail
      with_reducible refine PC.out.mono ?_
      rintro en w1 ⟨rfl, rfl⟩
      go_wp2_with fail
      go_roundg (n - (j + 1))
      case measure => have := GG.out.1; have := GG.out.2; have := HJ.out; omega
      case rel => exact ⟨j + 1, by have := HJ.out; omega, rfl, FIN.out.1, FIN.out.2⟩
    · obtain rfl : j = n := by omega
      by_cases hlt : e + j < s.size
      · obtain ⟨c, hc, hb⟩ := EN.out hlt
        have hx := SA.out _ c hc
        have PC := PR.out wr c
        rw [hb] at PC
        have PC := Lib.hid PC
        have u1 : decide (((e + j : Nat) : Int) < (s.size : Int)) = true := decide_eq_true (by omega)
        obtain ⟨m, hm⟩ : ∃ m : Int, m = (c.toNat : Int) := ⟨_, rfl⟩
        rw [← hm] at hx PC
        rw [← hp] at hx u1 ce
        clear hp hm hc hb hj hjn hB hT hg hlt
        go_wp2_with fail
        with_reducible refine PC.out.mono ?_
        rintro en w1 ⟨rfl, rfl⟩
        go_wp2_with fail
        exact bodyPost_end (by simp [results, Tryz.results34]) rfl ⟨rfl, BB.out, TT.out⟩
      · have u1 : decide (((e + j : Nat) : Int) < (s.size : Int)) = false := decide_eq_false (by omega)
        rw [← hp] at u1 ce
        clear hp hj hjn hB hT hg hlt
        go_wp2_with fail
        exact bodyPost_end (by simp [results, Tryz.results34]) rfl ⟨rfl, BB.out, TT.out⟩
set_option maxRecDepth 100000 in
theorem ends39_is (w : World) {eb sb e : Nat} {s : ByteArray} (h : Bx w eb sb e s) (he : e ≤ s.size) :
    Calls Tryz.prog 90 #[.func (.func 94) #[] #[], .pointer (some ⟨eb, 0, none⟩), .pointer (some ⟨sb, 0, none⟩)] w fun en w' => en = .returned (.bool (!headB isBoth (s.data.toList.drop e))) ∧ w = w' := by
  have ce := h.ce
  have cs := h.cs
  obtain ⟨p, hp⟩ : ∃ p : Int, p = (e : Int) := ⟨_, rfl⟩
  by_cases hlt : e < s.size
  · obtain ⟨c, hc⟩ : ∃ c, s.data.toList[e]? = some c := ⟨_, List.getElem?_eq_getElem (by rw [← str_len]; exact hlt)⟩
    have hd : headB isBoth (s.data.toList.drop e) = isBoth c := by
      have : (s.data.toList.drop e)[0]? = some c := by rw [List.getElem?_drop]; exact hc
      cases hD : s.data.toList.drop e with
      | nil => rw [hD] at this; cases this
      | cons x r => rw [hD] at this; simp at this; subst this; rfl
    rw [hd]
    have hx := str_at hc
    have PC := Lib.hid (both_is w c)
    generalize isBoth c = b at *
    have u1 : ((e : Int) == (s.size : Int)) = false := by simp; omega
    obtain ⟨m, hm⟩ : ∃ m : Int, m = (c.toNat : Int) := ⟨_, rfl⟩
    rw [← hm] at hx PC
    rw [← hp] at hx u1 ce
    clear hp hm hc hd h he hlt
    go_enter Tryz.func90, Tryz.ntmps90
    go_wp2_with fail
    with_reducible refine PC.out.mono ?_
    rintro en w1 ⟨rfl, rfl⟩
    go_wp2_with fail
    go_ret
    exact ⟨rfl, rfl⟩
  · have hd : headB isBoth (s.data.toList.drop e) = false := by
      rw [List.drop_eq_nil_of_le (by rw [← str_len]; omega)]
      rfl
    rw [hd]
    have u1 : ((e : Int) == (s.size : Int)) = true := by simp; omega
    rw [← hp] at u1 ce
    clear hp hd h he hlt
    go_enter Tryz.func90, Tryz.ntmps90
    go_wp2_with fail
    go_ret
    exact ⟨rfl, rfl⟩
set_option maxRecDepth 100000 in
theorem ends40_is (w : World) {eb sb e : Nat} {s : ByteArray} (h : Bx w eb sb e s) (he : e ≤ s.size) :
    Calls Tryz.prog 90 #[.func (.func 95) #[] #[], .pointer (some ⟨eb, 0, none⟩), .pointer (some ⟨sb, 0, none⟩)] w fun en w' => en = .returned (.bool (!headB isLetter (s.data.toList.drop e))) ∧ w = w' := by
  have ce := h.ce
  have cs := h.cs
  obtain ⟨p, hp⟩ : ∃ p : Int, p = (e : Int) := ⟨_, rfl⟩
  by_cases hlt : e < s.size
  · obtain ⟨c, hc⟩ : ∃ c, s.data.toList[e]? = some c := ⟨_, List.getElem?_eq_getElem (by rw [← str_len]; exact hlt)⟩
    have hd : headB isLetter (s.data.toList.drop e) = isLetter c := by
      have : (s.data.toList.drop e)[0]? = some c := by rw [List.getElem?_drop]; exact hc
      cases hD : s.data.toList.drop e with
      | nil => rw [hD] at this; cases this
      | cons x r => rw [hD] at this; simp at this; subst this; rfl
    rw [hd]
    have hx := str_at hc
    have PC := Lib.hid (letter_is w c)
    generalize isLetter c = b at *
    have u1 : ((e : Int) == (s.size : Int)) = false := by simp; omega
    obtain ⟨m, hm⟩ : ∃ m : Int, m = (c.toNat : Int) := ⟨_, rfl⟩
    rw [← hm] at hx PC
    rw [← hp] at hx u1 ce
    clear hp hm hc hd h he hlt
    go_enter Tryz.func90, Tryz.ntmps90
    go_wp2_with fail
    with_reducible refine PC.out.mono ?_
    rintro en w1 ⟨rfl, rfl⟩
    go_wp2_with fail
    go_ret
    exact ⟨rfl, rfl⟩
  · have hd : headB isLetter (s.data.toList.drop e) = false := by
      rw [List.drop_eq_nil_of_le (by rw [← str_len]; omega)]
      rfl
    rw [hd]
    have u1 : ((e : Int) == (s.size : Int)) = true := by simp; omega
    rw [← hp] at u1 ce
    clear hp hd h he hlt
    go_enter Tryz.func90, Tryz.ntmps90
    go_wp2_with fail
    go_ret
    exact ⟨rfl, rfl⟩
end Go.Proofs.YtadogobdlcionaaGreatDoor
