/-
  LexPlaces.
-/
import Derived.Test.YtjahjdmabconeaaDoorPo
import Derived.Test.YtjahjdmabconeaaDoorHl
namespace Go.Proofs.YtjahjdmabconeaaDoor
open Go.ChangeShapes Go.WideShapes Go.ChangeAt Go.RowKit
set_option linter.unusedVariables false
theorem wrap_le {k : Nat} (h : k ≤ 1000) : wrap64 ((k : Int) + 1) = ((k + 1 : Nat) : Int) := by unfold wrap64; omega
theorem dec_ile {a b : Nat} (h : a ≤ b) : decide ((a : Int) ≤ (b : Int)) = true := decide_eq_true (by omega)
theorem dec_nle {a b : Nat} (h : ¬ a ≤ b) : decide ((a : Int) ≤ (b : Int)) = false := decide_eq_false (by omega)
theorem meas_le {i n : Nat} (h : i ≤ n) : n + 2 - (intOf (.int .i64 ((i + 1 : Nat) : Int))).toNat < n + 2 - (intOf (.int .i64 (i : Int))).toNat := by
  simp only [intOf]
  omega
/-- What a round knows. -/
structure PlF (w : World) (s : ByteArray) (L : List (Nat × Tok)) (g : Nat) : Prop where
  len : L.length ≤ 200
  sz : s.size ≤ 90
  st : ∀ j x, L[j]? = some x → x.1 = skipB (endAt L 0 j) s.data.toList ∧ x.1 + x.2.len ≤ s.size ∧ 1 ≤ x.2.len
  en : skipB (endAt L 0 L.length) s.data.toList = s.size
  cell : ∀ j x, L[j]? = some x → w.cell? ⟨g, j * 4 + 1, none⟩ = some (.int .i64 (x.1 : Int)) ∧ w.cell? ⟨g, j * 4 + 2, none⟩ = some (.string (s.extract x.1 (x.1 + x.2.len)))
def PlRel (w : World) (L : List (Nat × Tok)) (v7 v8 : Value) (wr : World) : Prop :=
  ∃ i z : Nat, v7 = .int .i64 (z : Int) ∧ v8 = .int .i64 (i : Int) ∧ i ≤ L.length + 1 ∧ (i ≤ L.length → z = endAt L 0 i) ∧ Turn (fun _ => False) w wr
def BlRel (e t : Nat) (v7 : Value) : Prop := ∃ k : Nat, v7 = .int .i64 (k : Int) ∧ e ≤ k ∧ k ≤ t
theorem plf_of {w w' : World} {s : ByteArray} {a : Option Addr} {cap : Nat} (hs : s.size ≤ 90) (hlen : (toksB s.data.toList).length ≤ 200) (hsk : skipB (endB (toksB s.data.toList)) s.data.toList = s.size)
    (ho : w'.ownsRow w.heap.size 30 4 (.slice a (toksB s.data.toList).length cap) (toksB s.data.toList).length (toksC s (toksB s.data.toList))) : ∃ g, (0 < (toksB s.data.toList).length → a = some ⟨g, 0, none⟩) ∧ PlF w' s (toksB s.data.toList) g := by
  obtain ⟨a', cap', he, hg⟩ := own_slice ho
  cases he
  by_cases h0 : 0 < (toksB s.data.toList).length
  · obtain ⟨g, rfl⟩ := hg h0
    refine ⟨g, fun _ => rfl, hlen, hs, fun j x hx => ?_, by rw [endAt_last]; exact hsk, fun j x hx => ?_⟩
    · have hm := eachB_mem _ _ _ x (List.mem_of_getElem? hx)
      refine ⟨eachB_start _ _ _ j x hx, by rw [str_len]; exact hm.1, (findB_len hm.2).1⟩
    · have hj := (List.getElem?_eq_some_iff.1 hx).1
      have h1 := toksC_at s _ j 1 x hx (by omega)
      have h2 := toksC_at s _ j 2 x hx (by omega)
      exact ⟨(ho.cellAt (j * 4 + 1) (by omega)).trans h1, (ho.cellAt (j * 4 + 2) (by omega)).trans h2⟩
  · have e : toksB s.data.toList = [] := List.eq_nil_of_length_eq_zero (by omega)
    refine ⟨0, fun h => absurd h h0, hlen, hs, fun j x hx => ?_, by rw [endAt_last]; exact hsk, fun j x hx => ?_⟩ <;> (rw [e] at hx; simp at hx)
set_option maxRecDepth 100000 in
set_option maxHeartbeats 2000000 in
theorem places_is (w : World) (hE : ErrAt w) (s0 : ByteArray) : Calls Tryd.prog 5 #[.string s0] w fun e w' => e = .returned (.bool true) ∧ Turn (fun _ => False) w w' := by
  have AW := Lib.hid (awake_is w hE)
  have HE := Lib.hid hE
  clear hE
  have SH := Lib.hid (fun w => short_is w s0)
  go_enter Tryd.func5, Tryd.ntmps5
  go_wp2_with fail
  with_reducible refine AW.out.mono ?_
  rintro e w1 ⟨rfl, T1⟩
  go_wp2_with fail
  with_reducible refine (SH.out _).mono ?_
  rintro e w2 ⟨⟨s, rfl, hs⟩, rfl⟩
  have LX := Lib.hid (lex_is w1 s (Nat.le_trans hs (by decide)) (HE.out.turn T1 (fun f => f)))
  have TT := Lib.hid T1
  have HS := Lib.hid hs
  clear AW SH T1 hs
  go_wp2_with fail
  with_reducible refine LX.out.mono ?_
  rintro e w3 ⟨T3, ⟨x, r, pre, h, hl, rfl⟩ | ⟨hl, hk, rfl⟩ | ⟨hl, hk, v, rfl, ho⟩⟩
  · have hm : x.1 < s.size := by
      have h1 := eachB_mem _ _ _ x (show x ∈ toksB s.data.toList by rw [h]; simp)
      have h2 := (findB_len h1.2).1
      have h3 := h1.1
      rw [← str_len] at h3
      omega
    have u1 := dec_lt hm
    have u2 : decide (x.1 < s.size) = true := decide_eq_true hm
    have u3 : decide ((0 : Int) ≤ (x.1 : Int)) = true := decide_eq_true (Int.natCast_nonneg _)
    have FIN := Lib.hid (TT.out.trans T3)
    clear T3 h hl hm
    go_wp2_with fail
    go_ret
    exact ⟨rfl, FIN.out⟩
  · obtain ⟨k, hk2⟩ : ∃ k, k = skipB (endB (toksB s.data.toList)) s.data.toList := ⟨_, rfl⟩
    rw [← hk2] at hk ⊢
    have u1 := dec_lt hk
    have u2 : decide (k < s.size) = true := decide_eq_true hk
    have u3 : decide ((0 : Int) ≤ (k : Int)) = true := decide_eq_true (Int.natCast_nonneg _)
    have FIN := Lib.hid (TT.out.trans T3)
    clear T3 hl hk hk2
    go_wp2_with fail
    go_ret
    exact ⟨rfl, FIN.out⟩
  · obtain ⟨a, cap, rfl, -⟩ := own_slice ho
    obtain ⟨g, hga, PF⟩ := plf_of HS.out hl hk ho
    have HP := Lib.hid PF
    have HG := Lib.hid hga
    have T0 := Lib.hid (TT.out.trans T3)
    clear ho hl hk PF hga T3
    obtain ⟨L, hL⟩ : ∃ L, L = toksB s.data.toList := ⟨_, rfl⟩
    rw [← hL] at HP HG ⊢
    clear hL
    go_wp2_with fail
    go_loopw [7, 8] (fun v7 v8 wr => PlRel w3 L v7 v8 wr) (fun _ v8 _ => L.length + 2 - (intOf v8).toNat)
    case atStart => exact ⟨0, 0, rfl, rfl, Nat.zero_le _, fun _ => rfl, Turn.refl _ _⟩
    case round =>
      obtain ⟨i, z, rfl, rfl, hi, hz, TR⟩ := hrel
      have HT := Lib.hid TR
      clear TR
      by_cases hin : i ≤ L.length
      · have hz := hz hin
        have u1 := dec_ile hin
        have u2 : decide (i ≤ L.length) = true := decide_eq_true hin
        by_cases hlt : i < L.length
        · obtain ⟨x, hx⟩ : ∃ x, L[i]? = some x := ⟨_, List.getElem?_eq_getElem hlt⟩
          obtain ⟨st1, st2, st3⟩ := HP.out.st i x hx
          obtain ⟨cc1, cc2⟩ := HP.out.cell i x hx
          have ha := HG.out (Nat.lt_of_le_of_lt (Nat.zero_le _) hlt)
          subst ha
          obtain ⟨tq, hto⟩ : ∃ t, t = x.1 := ⟨_, rfl⟩
          obtain ⟨ln, hln⟩ : ∃ t, t = x.2.len := ⟨_, rfl⟩
          rw [← hto, ← hln] at st2 cc2
          rw [← hto] at st1 cc1
          rw [← hln] at st3
          have NX := Lib.hid (show endAt L 0 (i + 1) = tq + ln by simp only [endAt, hx]; rw [hto, hln])
          rw [← hz] at st1
          have TZ := Lib.hid st1
          have ZT := Lib.hid (show z ≤ tq by rw [st1]; exact skip_ge _ _)
          have LE := Lib.hid (show tq ≤ 90 by have := HP.out.sz; omega)
          have c1 := HT.out.cell (fun f => f) cc1
          have c2 := HT.out.cell (fun f => f) cc2
          have hss := str_sub (s := s) (i := tq) (j := tq + ln) (Nat.le_add_right _ _) st2
          have hts : (s.extract tq (tq + ln)).size = ln := by rw [ByteArray.size_extract]; omega
          obtain ⟨tx, htx⟩ : ∃ t, t = s.extract tq (tq + ln) := ⟨_, rfl⟩
          rw [← htx] at c2 hss hts
          obtain ⟨p, hp⟩ : ∃ p : Int, p = ((tq + ln : Nat) : Int) := ⟨_, rfl⟩
          have hw : wrap64 ((tq : Int) + (tx.size : Int)) = p := by rw [hts, hp]; exact wrap_add (by have := LE.out; have := HP.out.sz; omega)
          rw [← hp] at hss
          have t1 := dec_lt hlt
          have t2 : decide (i < L.length) = true := decide_eq_true hlt
          have t3 : decide ((tq : Int) < (z : Int)) = false := dec_nlt (Nat.not_lt.2 ZT.out)
          have t4 : decide ((s.size : Int) < (tq : Int)) = false := dec_nlt (Nat.not_lt.2 (Nat.le_trans (Nat.le_add_right tq ln) st2))
          have t3' : decide (tq < z) = false := decide_eq_false (Nat.not_lt.2 ZT.out)
          have t4' : decide (s.size < tq) = false := decide_eq_false (Nat.not_lt.2 (Nat.le_trans (Nat.le_add_right tq ln) st2))
          have t5 : (tx.size == 0) = false := by rw [hts]; simp; omega
          have t6 : ((tx.size : Int) == 0) = false := by rw [hts]; simp; omega
          have t7 : decide ((s.size : Int) < p) = false := by rw [hp]; exact dec_nlt (Nat.not_lt.2 st2)
          have i0 : (0 : Int) ≤ (i : Int) := Int.natCast_nonneg i
          have i1 : (i : Int) < (L.length : Int) := Int.ofNat_lt.2 hlt
          have hwi := wrap_le (k := i) (by have := HP.out.len; omega)
          have HLN := Lib.hid (And.intro hlt hp)
          have TD := Lib.hid (HT.out.drewN 1)
          clear hi hz hin hlt hx st1 st2 st3 cc1 cc2 hto hln hts htx hp
          go_wp2_with fail
          go_loop [7] (fun v7 => BlRel z tq v7) (fun v7 => tq + 1 - (intOf v7).toNat)
          case atStart => exact ⟨z, rfl, Nat.le_refl _, ZT.out⟩
          case round =>
            obtain ⟨k, rfl, hk1, hk2⟩ := hrel
            by_cases hkt : k < tq
            · obtain ⟨c, hc, hb⟩ := skip_blank (D := s.data.toList) (e := z) hk1 (by rw [← TZ.out]; exact hkt)
              have hx := str_at hc
              have v1 := dec_lt hkt
              have v2 : decide (k < tq) = true := decide_eq_true hkt
              have hw9 := wrap_le (k := k) (by have := LE.out; omega)
              have BK := Lib.hid (show BlRel z tq (.int .i64 ((k + 1 : Nat) : Int)) from ⟨k + 1, rfl, Nat.le_succ_of_le hk1, hkt⟩)
              have ME := Lib.hid (show tq + 1 - (intOf (.int .i64 ((k + 1 : Nat) : Int))).toNat < tq + 1 - (intOf (.int .i64 (k : Int))).toNat by simp only [intOf]; omega)
              have hcc : c.toNat = 32 ∨ c.toNat = 9 ∨ c.toNat = 10 := by simpa [isBlank, or_assoc] using hb
              obtain ⟨m, hm⟩ : ∃ m : Int, m = (c.toNat : Int) := ⟨_, rfl⟩
              rw [← hm] at hx
              have hmm : m = 32 ∨ m = 9 ∨ m = 10 := by omega
              obtain ⟨p9, hp9⟩ : ∃ p : Int, p = ((k + 1 : Nat) : Int) := ⟨_, rfl⟩
              rw [← hp9] at hw9 BK ME
              clear hc hb hcc hm hk1 hk2 hkt hp9
              rcases hmm with rfl | rfl | rfl
              all_goals
                go_wp2_with fail
                rw [hw9]
                exact ⟨BK.out, ME.out⟩
            · obtain rfl : k = tq := Nat.le_antisymm hk2 (Nat.le_of_not_lt hkt)
              have v1 := dec_nlt hkt
              have v2 : decide (k < k) = false := decide_eq_false hkt
              go_wp2_with fail
              go_region
              go_wp2_with fail
              rw [hwi]
              exact ⟨⟨i + 1, k + ln, by rw [HLN.out.2], rfl, Nat.succ_le_succ (Nat.le_of_lt HLN.out.1), fun _ => NX.out.symm, TD⟩, meas_le (Nat.le_of_lt HLN.out.1)⟩
        · have hil : i = L.length := Nat.le_antisymm hin (Nat.le_of_not_lt hlt)
          have TZ := Lib.hid (show s.size = skipB z s.data.toList by rw [hz, hil]; exact HP.out.en.symm)
          have ZT := Lib.hid (show z ≤ s.size by rw [TZ.out]; exact skip_ge _ _)
          have LE := Lib.hid HP.out.sz
          have t1 := dec_nlt hlt
          have t2 : decide (i < L.length) = false := decide_eq_false hlt
          have t3 : decide ((s.size : Int) < (z : Int)) = false := dec_nlt (Nat.not_lt.2 ZT.out)
          have t3' : decide (s.size < z) = false := decide_eq_false (Nat.not_lt.2 ZT.out)
          have t4 : decide ((s.size : Int) < (s.size : Int)) = false := dec_nlt (Nat.lt_irrefl _)
          have hwi := wrap_le (k := i) (by have := HP.out.len; omega)
          have HLN := Lib.hid (And.intro hil hin)
          clear hi hz hin hlt hil
          go_wp2_with fail
          go_loop [7] (fun v7 => BlRel z s.size v7) (fun v7 => s.size + 1 - (intOf v7).toNat)
          case atStart => exact ⟨z, rfl, Nat.le_refl _, ZT.out⟩
          case round =>
            obtain ⟨k, rfl, hk1, hk2⟩ := hrel
            by_cases hkt : k < s.size
            · obtain ⟨c, hc, hb⟩ := skip_blank (D := s.data.toList) (e := z) hk1 (by rw [← TZ.out]; exact hkt)
              have hx := str_at hc
              have v1 := dec_lt hkt
              have v2 : decide (k < s.size) = true := decide_eq_true hkt
              have hw9 := wrap_le (k := k) (by have := LE.out; omega)
              have BK := Lib.hid (show BlRel z s.size (.int .i64 ((k + 1 : Nat) : Int)) from ⟨k + 1, rfl, Nat.le_succ_of_le hk1, hkt⟩)
              have ME := Lib.hid (show s.size + 1 - (intOf (.int .i64 ((k + 1 : Nat) : Int))).toNat < s.size + 1 - (intOf (.int .i64 (k : Int))).toNat by simp only [intOf]; omega)
              have hcc : c.toNat = 32 ∨ c.toNat = 9 ∨ c.toNat = 10 := by simpa [isBlank, or_assoc] using hb
              obtain ⟨m, hm⟩ : ∃ m : Int, m = (c.toNat : Int) := ⟨_, rfl⟩
              rw [← hm] at hx
              have hmm : m = 32 ∨ m = 9 ∨ m = 10 := by omega
              obtain ⟨p9, hp9⟩ : ∃ p : Int, p = ((k + 1 : Nat) : Int) := ⟨_, rfl⟩
              rw [← hp9] at hw9 BK ME
              clear hc hb hcc hm hk1 hk2 hkt hp9
              rcases hmm with rfl | rfl | rfl
              all_goals
                go_wp2_with fail
                rw [hw9]
                exact ⟨BK.out, ME.out⟩
            · obtain hks : k = s.size := Nat.le_antisymm hk2 (Nat.le_of_not_lt hkt)
              subst hks
              have v1 := dec_nlt hkt
              have v2 : decide (s.size < s.size) = false := decide_eq_false hkt
              go_wp2_with fail
              rw [hwi]
              exact ⟨⟨i + 1, s.size, rfl, rfl, Nat.succ_le_succ HLN.out.2, fun h => absurd h (by rw [HLN.out.1]; exact Nat.not_succ_le_self _), HT.out⟩, meas_le HLN.out.2⟩
      · have u1 := dec_nle hin
        have u2 : decide (i ≤ L.length) = false := decide_eq_false hin
        clear hi hz hin
        have FIN := Lib.hid (T0.out.trans HT.out)
        go_wp2_with fail
        go_ret
        exact ⟨rfl, FIN.out⟩
end Go.Proofs.YtjahjdmabconeaaDoor
