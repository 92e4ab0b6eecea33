/-
  The lexer's closures.
-/
import Derived.Test.YtadogobdlcionaaDoorPb
namespace Go.Proofs.YtadogobdlcionaaDoor
open Go.ChangeShapes Go.WideShapes Go.ChangeAt Go.RowKit
set_option linter.unusedVariables false
/-- A box of an int, a box of a text. -/
structure Bx (w : World) (eb sb : Nat) (e : Nat) (s : ByteArray) : Prop where
  be : Blk w eb 3
  ce : w.cell? ⟨eb, 0, none⟩ = some (.int .i64 (e : Int))
  cs : w.cell? ⟨sb, 0, none⟩ = some (.string s)
  ne : eb ≠ sb
theorem Bx.turn {S : Nat → Prop} {w w' : World} {eb sb e : Nat} {s : ByteArray} (h : Bx w eb sb e s) (T : Turn S w w') (h1 : ¬ S eb) (h2 : ¬ S sb) : Bx w' eb sb e s := ⟨h.be.turn T h1, T.cell h1 h.ce, T.cell h2 h.cs, h.ne⟩
theorem Bx.put {w : World} {eb sb e : Nat} {s : ByteArray} (h : Bx w eb sb e s) (k : Nat) : Bx (w.setCell ⟨eb, 0, none⟩ (.int .i64 (k : Int))) eb sb k s :=
  ⟨h.be.set _ _, World.cell?_setCell_same _ _ _ h.ce, (cell_far _ _ _ _ _ _ h.ne).trans h.cs, h.ne⟩
def WhRel (w : World) (eb sb e n : Nat) (s : ByteArray) (gh : Nat) (wr : World) : Prop := ∃ j : Nat, j ≤ n ∧ gh = n - j ∧ Bx wr eb sb (e + j) s ∧ Turn (fun k => k = eb) w wr
set_option maxRecDepth 100000 in
set_option maxHeartbeats 1000000 in
theorem while37_is (w : World) {eb sb e : Nat} {s : ByteArray} (h : Bx w eb sb e s) (he : e ≤ s.size) (hs : s.size ≤ 140737488355328) :
    Calls Tryd.prog 49 #[.func (.func 52) #[] #[], .pointer (some ⟨eb, 0, none⟩), .pointer (some ⟨sb, 0, none⟩)] w fun en w' => en = .returned (.tuple #[]) ∧ Bx w' eb sb (e + spanB isWord (s.data.toList.drop e)) s ∧ Turn (fun k => k = eb) w w' := by
  obtain ⟨n, hn⟩ : ∃ n, n = spanB isWord (s.data.toList.drop e) := ⟨_, rfl⟩
  have hle : e + n ≤ s.size := by
    have := spanB_le isWord (s.data.toList.drop e)
    rw [List.length_drop, ← str_len] at this
    omega
  have IN : Hid (∀ j, j < n → ∃ c, s.data.toList[e + j]? = some c ∧ isWord c = true) := Lib.hid fun j hj => by
    obtain ⟨c, hc⟩ : ∃ c, (s.data.toList.drop e)[j]? = some c := ⟨_, List.getElem?_eq_getElem (by rw [List.length_drop, ← str_len]; omega)⟩
    exact ⟨c, by rw [← List.getElem?_drop]; exact hc, spanB_all isWord _ j c (by omega) hc⟩
  have EN : Hid (e + n < s.size → ∃ c, s.data.toList[e + n]? = some c ∧ isWord c = false) := Lib.hid fun hlt => by
    obtain ⟨c, hc⟩ : ∃ c, s.data.toList[e + n]? = some c := ⟨_, List.getElem?_eq_getElem (by rw [← str_len]; exact hlt)⟩
    exact ⟨c, hc, spanB_end isWord (s.data.toList.drop e) c (by rw [← hn, List.getElem?_drop]; exact hc)⟩
  rw [← hn]
  have LE := Lib.hid (And.intro hle hs)
  have SA := Lib.hid (fun (j : Nat) (c : UInt8) (h : s.data.toList[j]? = some c) => str_at (s := s) h)
  have PR := Lib.hid (fun (w : World) (c : UInt8) => word_is w c)
  clear hn hle hs he
  generalize s.data.toList = l at *
  have R0 : WhRel w eb sb e n s n w := ⟨0, Nat.zero_le _, rfl, h, Turn.refl _ _⟩
  clear h
  go_enter Tryd.func49, Tryd.ntmps49
  go_wp2_with fail
  go_loopg [] n (fun gh wr => WhRel w eb sb e n s gh wr)
  case atStart => exact R0
  case round =>
    clear R0
    obtain ⟨j, hj, hg, hB, hT⟩ := hrel
    have GG := Lib.hid (And.intro hj hg)
    have BB := Lib.hid hB
    have TT := Lib.hid hT
    have ce := hB.ce
    have cs := hB.cs
    have fz := hB.be.fz
    obtain ⟨p, hp⟩ : ∃ p : Int, p = ((e + j : Nat) : Int) := ⟨_, rfl⟩
    have HP := Lib.hid hp
    by_cases hjn : j < n
    · obtain ⟨c, hc, hb⟩ := IN.out j hjn
      have hx := SA.out _ c hc
      have PC := PR.out wr c
      rw [hb] at PC
      have PC := Lib.hid PC
      have u1 : decide (((e + j : Nat) : Int) < (s.size : Int)) = true := decide_eq_true (by have := LE.out.1; omega)
      have hw : wrap64 (((e + j : Nat) : Int) + 1) = ((e + (j + 1) : Nat) : Int) := by have := LE.out.1; have := LE.out.2; unfold wrap64; omega
      obtain ⟨m, hm⟩ : ∃ m : Int, m = (c.toNat : Int) := ⟨_, rfl⟩
      obtain ⟨p', hp'⟩ : ∃ p' : Int, p' = ((e + (j + 1) : Nat) : Int) := ⟨_, rfl⟩
      have HJ := Lib.hid hjn
      have FIN := Lib.hid (And.intro (hB.put (e + (j + 1))) (hT.trans (Turn.put wr eb 0 (.int .i64 ((e + (j + 1) : Nat) : Int)))))
      rw [← hm] at hx PC
      rw [← hp] at hx u1 hw ce
      rw [← hp'] at hw FIN
      clear hp hp' hm hc hb hj hjn hB hT hg
      go_wp2_with fail
      with_reducible refine PC.out.mono ?_
      rintro en w1 ⟨rfl, rfl⟩
      go_wp2_with fail
      go_roundg (n - (j + 1))
      case measure => have := GG.out.1; have := GG.out.2; have := HJ.out; omega
      case rel => exact ⟨j + 1, by have := HJ.out; omega, rfl, FIN.out.1, FIN.out.2⟩
    · obtain rfl : j = n := by omega
      by_cases hlt : e + j < s.size
      · obtain ⟨c, hc, hb⟩ := EN.out hlt
        have hx := SA.out _ c hc
        have PC := PR.out wr c
        rw [hb] at PC
        have PC := Lib.hid PC
        have u1 : decide (((e + j : Nat) : Int) < (s.size : Int)) = true := decide_eq_true (by omega)
        obtain ⟨m, hm⟩ : ∃ m : Int, m = (c.toNat : Int) := ⟨_, rfl⟩
        rw [← hm] at hx PC
        rw [← hp] at hx u1 ce
        clear hp hm hc hb hj hjn hB hT hg hlt
        go_wp2_with fail
        with_reducible refine PC.out.mono ?_
        rintro en w1 ⟨rfl, rfl⟩
        go_wp2_with fail
        exact bodyPost_end (by simp [results, Tryd.results34]) rfl ⟨rfl, BB.out, TT.out⟩
      · have u1 : decide (((e + j : Nat) : Int) < (s.size : Int)) = false := decide_eq_false (by omega)
        rw [← hp] at u1 ce
        clear hp hj hjn hB hT hg hlt
        go_wp2_with fail
        exact bodyPost_end (by simp [results, Tryd.results34]) rfl ⟨rfl, BB.out, TT.out⟩
set_option maxRecDepth 100000 in
set_option maxHeartbeats 1000000 in
theorem while38_is (w : World) {eb sb e : Nat} {s : ByteArray} (h : Bx w eb sb e s) (he : e ≤ s.size) (hs : s.size ≤ 140737488355328) :
    Calls Tryd.prog 49 #[.func (.func 53) #[] #[], .pointer (some ⟨eb, 0, none⟩), .pointer (some ⟨sb, 0, none⟩)] w fun en w' => en = .returned (.tuple #[]) ∧ Bx w' eb sb (e + spanB isDigit (s.data.toList.drop e)) s ∧ Turn (fun k => k = eb) w w' := by
  obtain ⟨n, hn⟩ : ∃ n, n = spanB isDigit (s.data.toList.drop e) := ⟨_, rfl⟩
  have hle : e + n ≤ s.size := by
    have := spanB_le isDigit (s.data.toList.drop e)
    rw [List.length_drop, ← str_len] at this
    omega
  have IN : Hid (∀ j, j < n → ∃ c, s.data.toList[e + j]? = some c ∧ isDigit c = true) := Lib.hid fun j hj => by
    obtain ⟨c, hc⟩ : ∃ c, (s.data.toList.drop e)[j]? = some c := ⟨_, List.getElem?_eq_getElem (by rw [List.length_drop, ← str_len]; omega)⟩
    exact ⟨c, by rw [← List.getElem?_drop]; exact hc, spanB_all isDigit _ j c (by omega) hc⟩
  have EN : Hid (e + n < s.size → ∃ c, s.data.toList[e + n]? = some c ∧ isDigit c = false) := Lib.hid fun hlt => by
    obtain ⟨c, hc⟩ : ∃ c, s.data.toList[e + n]? = some c := ⟨_, List.getElem?_eq_getElem (by rw [← str_len]; exact hlt)⟩
    exact ⟨c, hc, spanB_end isDigit (s.data.toList.drop e) c (by rw [← hn, List.getElem?_drop]; exact hc)⟩
  rw [← hn]
  have LE := Lib.hid (And.intro hle hs)
  have SA := Lib.hid (fun (j : Nat) (c : UInt8) (h : s.data.toList[j]? = some c) => str_at (s := s) h)
  have PR := Lib.hid (fun (w : World) (c : UInt8) => digit_is w c)
  clear hn hle hs he
  generalize s.data.toList = l at *
  have R0 : WhRel w eb sb e n s n w := ⟨0, Nat.zero_le _, rfl, h, Turn.refl _ _⟩
  clear h
  go_enter Tryd.func49, Tryd.ntmps49
  go_wp2_with fail
  go_loopg [] n (fun gh wr => WhRel w eb sb e n s gh wr)
  case atStart => exact R0
  case round =>
    clear R0
    obtain ⟨j, hj, hg, hB, hT⟩ := hrel
    have GG := Lib.hid (And.intro hj hg)
    have BB := Lib.hid hB
    have TT := Lib.hid hT
    have ce := hB.ce
    have cs := hB.cs
    have fz := hB.be.fz
    obtain ⟨p, hp⟩ : ∃ p : Int, p = ((e + j : Nat) : Int) := ⟨_, rfl⟩
    have HP := Lib.hid hp
    by_cases hjn : j < n
    · obtain ⟨c, hc, hb⟩ := IN.out j hjn
      have hx := SA.out _ c hc
      have PC := PR.out wr c
      rw [hb] at PC
      have PC := Lib.hid PC
      have u1 : decide (((e + j : Nat) : Int) < (s.size : Int)) = true := decide_eq_true (by have := LE.out.1; omega)
      have hw : wrap64 (((e + j : Nat) : Int) + 1) = ((e + (j + 1) : Nat) : Int) := by have := LE.out.1; have := LE.out.2; unfold wrap64; omega
      obtain ⟨m, hm⟩ : ∃ m : Int, m = (c.toNat : Int) := ⟨_, rfl⟩
      obtain ⟨p', hp'⟩ : ∃ p' : Int, p' = ((e + (j + 1) : Nat) : Int) := ⟨_, rfl⟩
      have HJ := Lib.hid hjn
      have FIN := Lib.hid (And.intro (hB.put (e + (j + 1))) (hT.trans (Turn.put wr eb 0 (.int .i64 ((e + (j + 1) : Nat) : Int)))))
      rw [← hm] at hx PC
      rw [← hp] at hx u1 hw ce
      rw [← hp'] at hw FIN
      clear hp hp' hm hc hb hj hjn hB hT hg
      go_wp2_with fail
      with_reducible refine PC.out.mono ?_
      rintro en w1 ⟨rfl, rfl⟩
      go_wp2_with fail
      go_roundg (n - (j + 1))
      case measure => have := GG.out.1; have := GG.out.2; have := HJ.out; omega
      case rel => exact ⟨j + 1, by have := HJ.out; omega, rfl, FIN.out.1, FIN.out.2⟩
    · obtain rfl : j = n := by omega
      by_cases hlt : e + j < s.size
      · obtain ⟨c, hc, hb⟩ := EN.out hlt
        have hx := SA.out _ c hc
        have PC := PR.out wr c
        rw [hb] at PC
        have PC := Lib.hid PC
        have u1 : decide (((e + j : Nat) : Int) < (s.size : Int)) = true := decide_eq_true (by omega)
        obtain ⟨m, hm⟩ : ∃ m : Int, m = (c.toNat : Int) := ⟨_, rfl⟩
        rw [← hm] at hx PC
        rw [← hp] at hx u1 ce
        clear hp hm hc hb hj hjn hB hT hg hlt
        go_wp2_with fail
        with_reducible refine PC.out.mono ?_
        rintro en w1 ⟨rfl, rfl⟩
        go_wp2_with fail
        exact bodyPost_end (by simp [results, Tryd.results34]) rfl ⟨rfl, BB.out, TT.out⟩
      · have u1 : decide (((e + j : Nat) : Int) < (s.size : Int)) = false := decide_eq_false (by omega)
        rw [← hp] at u1 ce
        clear hp hj hjn hB hT hg hlt
        go_wp2_with fail
        exact bodyPost_end (by simp [results, Tryd.results34]) rfl ⟨rfl, BB.out, TT.out⟩
set_option maxRecDepth 100000 in
theorem ends39_is (w : World) {eb sb e : Nat} {s : ByteArray} (h : Bx w eb sb e s) (he : e ≤ s.size) :
    Calls Tryd.prog 50 #[.func (.func 54) #[] #[], .pointer (some ⟨eb, 0, none⟩), .pointer (some ⟨sb, 0, none⟩)] w fun en w' => en = .returned (.bool (!headB isBoth (s.data.toList.drop e))) ∧ w = w' := by
  have ce := h.ce
  have cs := h.cs
  obtain ⟨p, hp⟩ : ∃ p : Int, p = (e : Int) := ⟨_, rfl⟩
  by_cases hlt : e < s.size
  · obtain ⟨c, hc⟩ : ∃ c, s.data.toList[e]? = some c := ⟨_, List.getElem?_eq_getElem (by rw [← str_len]; exact hlt)⟩
    have hd : headB isBoth (s.data.toList.drop e) = isBoth c := by
      have : (s.data.toList.drop e)[0]? = some c := by rw [List.getElem?_drop]; exact hc
      cases hD : s.data.toList.drop e with
      | nil => rw [hD] at this; cases this
      | cons x r => rw [hD] at this; simp at this; subst this; rfl
    rw [hd]
    have hx := str_at hc
    have PC := Lib.hid (both_is w c)
    generalize isBoth c = b at *
    have u1 : ((e : Int) == (s.size : Int)) = false := by simp; omega
    obtain ⟨m, hm⟩ : ∃ m : Int, m = (c.toNat : Int) := ⟨_, rfl⟩
    rw [← hm] at hx PC
    rw [← hp] at hx u1 ce
    clear hp hm hc hd h he hlt
    go_enter Tryd.func50, Tryd.ntmps50
    go_wp2_with fail
    with_reducible refine PC.out.mono ?_
    rintro en w1 ⟨rfl, rfl⟩
    go_wp2_with fail
    go_ret
    exact ⟨rfl, rfl⟩
  · have hd : headB isBoth (s.data.toList.drop e) = false := by
      rw [List.drop_eq_nil_of_le (by rw [← str_len]; omega)]
      rfl
    rw [hd]
    have u1 : ((e : Int) == (s.size : Int)) = true := by simp; omega
    rw [← hp] at u1 ce
    clear hp hd h he hlt
    go_enter Tryd.func50, Tryd.ntmps50
    go_wp2_with fail
    go_ret
    exact ⟨rfl, rfl⟩
set_option maxRecDepth 100000 in
theorem ends40_is (w : World) {eb sb e : Nat} {s : ByteArray} (h : Bx w eb sb e s) (he : e ≤ s.size) :
    Calls Tryd.prog 50 #[.func (.func 55) #[] #[], .pointer (some ⟨eb, 0, none⟩), .pointer (some ⟨sb, 0, none⟩)] w fun en w' => en = .returned (.bool (!headB isLetter (s.data.toList.drop e))) ∧ w = w' := by
  have ce := h.ce
  have cs := h.cs
  obtain ⟨p, hp⟩ : ∃ p : Int, p = (e : Int) := ⟨_, rfl⟩
  by_cases hlt : e < s.size
  · obtain ⟨c, hc⟩ : ∃ c, s.data.toList[e]? = some c := ⟨_, List.getElem?_eq_getElem (by rw [← str_len]; exact hlt)⟩
    have hd : headB isLetter (s.data.toList.drop e) = isLetter c := by
      have : (s.data.toList.drop e)[0]? = some c := by rw [List.getElem?_drop]; exact hc
      cases hD : s.data.toList.drop e with
      | nil => rw [hD] at this; cases this
      | cons x r => rw [hD] at this; simp at this; subst this; rfl
    rw [hd]
    have hx := str_at hc
    have PC := Lib.hid (letter_is w c)
    generalize isLetter c = b at *
    have u1 : ((e : Int) == (s.size : Int)) = false := by simp; omega
    obtain ⟨m, hm⟩ : ∃ m : Int, m = (c.toNat : Int) := ⟨_, rfl⟩
    rw [← hm] at hx PC
    rw [← hp] at hx u1 ce
    clear hp hm hc hd h he hlt
    go_enter Tryd.func50, Tryd.ntmps50
    go_wp2_with fail
    with_reducible refine PC.out.mono ?_
    rintro en w1 ⟨rfl, rfl⟩
    go_wp2_with fail
    go_ret
    exact ⟨rfl, rfl⟩
  · have hd : headB isLetter (s.data.toList.drop e) = false := by
      rw [List.drop_eq_nil_of_le (by rw [← str_len]; omega)]
      rfl
    rw [hd]
    have u1 : ((e : Int) == (s.size : Int)) = true := by simp; omega
    rw [← hp] at u1 ce
    clear hp hd h he hlt
    go_enter Tryd.func50, Tryd.ntmps50
    go_wp2_with fail
    go_ret
    exact ⟨rfl, rfl⟩
end Go.Proofs.YtadogobdlcionaaDoor
