/-
  LexNumbers.
-/
import Derived.Test.YtjahjdmabconeaaDoorPn
namespace Go.Proofs.YtjahjdmabconeaaDoor
open Go.ChangeShapes Go.WideShapes Go.ChangeAt Go.RowKit
set_option linter.unusedVariables false
set_option maxRecDepth 100000 in
set_option maxHeartbeats 2000000 in
theorem numbers_is (w : World) (hE : ErrAt w) (x y z : Int) : Calls Tryd.prog 7 #[.int .i64 x, .int .i64 y, .int .i64 z] w fun e w' => e = .returned (.bool true) ∧ Turn (fun _ => False) w w' := by
  have AW := Lib.hid (awake_is w hE)
  have HE := Lib.hid hE
  clear hE
  obtain ⟨X, hX⟩ : ∃ g : Nat, bits BinOp.and IntKind.i64 x 9223372036854775807 = (g : Int) := ⟨(bits BinOp.and IntKind.i64 x 9223372036854775807).toNat, by have := and_63 x; omega⟩
  have hX2 := Lib.hid (show X ≤ 9223372036854775807 by have := and_63 x; omega)
  go_enter Tryd.func7, Tryd.ntmps7
  go_wp2_with fail
  with_reducible refine AW.out.mono ?_
  rintro e w1 ⟨rfl, T1⟩
  have TT := Lib.hid T1
  clear AW T1
  go_wp2_with fail
  go_loopw [9, 10] (fun v9 v10 wr => NumRel w X v9 v10 wr) (fun v9 v10 _ => numM v9 v10)
  case atStart => exact ⟨X, _, rfl, rfl, by simp [decV], by simp, by simp, TT.out⟩
  case round =>
    obtain ⟨K, b, rfl, rfl, hK, hd, hl, T⟩ := hrel
    have HB := Lib.hid (And.intro hK (And.intro hd (And.intro hl T)))
    have bl : b.size ≤ 19 := by rw [str_len]; exact hl
    clear hK hd hl T
    by_cases hgo : 0 < K ∨ b.data.toList = []
    · obtain ⟨c, hc⟩ := c_is (K := K)
      have ST := Lib.hid (num_step hX2.out HB.out.1 HB.out.2.1 HB.out.2.2.1 hgo hc)
      have CB := byte_str (c_int hc)
      have v1 := small_add (a := 1) (b := b.size) (le19 bl)
      have HG := Lib.hid hgo
      have TA := Lib.hid (HB.out.2.2.2.alloc (.cells #[.int .u8 (48 + (K : Int) % 10)] 5))
      have WD := Lib.hid (wrap_div (K := K) (Nat.le_trans (K_le HB.out.1) hX2.out))
      clear hc bl
      rcases Nat.eq_zero_or_pos K with h0 | h0
      · have u1 : decide ((0 : Int) < (K : Int)) = false := dec_z h0
        have u2 : decide (0 < K) = false := decide_eq_false (by rw [h0]; exact Nat.lt_irrefl 0)
        have hb0 : b = ⟨#[]⟩ := by
          rcases hgo with h | h
          · rw [h0] at h; cases h
          · cases b with | mk d => cases d with | mk l => simp at h; rw [h]
        clear hgo h0
        subst hb0
        go_wp2_with fail
        exact ⟨⟨K / 10, _, rfl, WD.out, ST.out.1, ST.out.2.1, ST.out.2.2, TA.out⟩, num_meas WD.out HG.out⟩
      · have u1 : decide ((0 : Int) < (K : Int)) = true := dec_p h0
        have u2 : decide (0 < K) = true := decide_eq_true h0
        clear hgo h0
        go_wp2_with fail
        exact ⟨⟨K / 10, _, rfl, WD.out, ST.out.1, ST.out.2.1, ST.out.2.2, TA.out⟩, num_meas WD.out HG.out⟩
    · obtain rfl : K = 0 := Nat.eq_zero_of_not_pos (fun h => hgo (.inl h))
      have hnb : b.data.toList ≠ [] := fun h => hgo (.inr h)
      have hne : b.toList.isEmpty = false := not_empty hnb
      have hV : decV 0 b.data.toList = X := by have := HB.out.1; rw [Nat.zero_mul, Nat.zero_add] at this; exact this.symm
      obtain ⟨g, hg, hg9⟩ := rem_nat y 10 ⟨by decide, by decide⟩
      obtain ⟨d, hdd, hd9⟩ := rem_nat z 10 ⟨by decide, by decide⟩
      have hg : (wrap64 (y.tmod 10 + 10)).tmod 10 = (g : Int) := hg
      have hdd : (wrap64 (z.tmod 10 + 10)).tmod 10 = (d : Int) := hdd
      have hzs := str_to (s := ⟨#[48, 48, 48, 48, 48, 48, 48, 48, 48]⟩) (j := g) (show g ≤ 9 from Nat.le_of_lt_succ hg9)
      have hzl := noughts g (Nat.le_of_lt_succ hg9)
      generalize (⟨#[48, 48, 48, 48, 48, 48, 48, 48, 48]⟩ : ByteArray).extract 0 g = zs at hzs hzl
      have TX := text_is hzl (Nat.le_of_lt_succ hg9) HB.out.2.1 HB.out.2.2.1 hnb hV
      obtain ⟨c, hc⟩ := dig_c hd9
      have MX := more_is TX.1 TX.2.2.1 TX.2.2.2.1 hc hd9
      have v1 : ¬ 9223372036854775807 < zs.size + b.size := small_add (le28 TX.2.2.2.2.2.1 TX.2.2.2.2.2.2)
      have L1 := Lib.hid (lex_num wr (zs ++ b) (Nat.le_trans TX.2.2.2.1 (by decide)) (HE.out.turn HB.out.2.2.2 (fun f => f)) TX.1 TX.2.1 TX.2.2.1 (Nat.lt_succ_of_le hX2.out))
      have szs := TX.2.2.2.1
      obtain ⟨S, hS⟩ : ∃ S, S = zs ++ b := ⟨_, rfl⟩
      rw [← hS] at L1 MX szs
      have SZ := szs
      clear szs
      have v2 : ¬ 9223372036854775807 < S.size + 1 := small_add (le29 SZ)
      have HM := Lib.hid MX
      have CB := byte_str (dig_int hc)
      have w1 := wrap_dig hd9
      have w2 := u8_dig hd9
      have HD := Lib.hid (And.intro hd9 (And.intro hc hS))
      have hSb := hS.symm
      obtain ⟨q, hq⟩ : ∃ q, q = (9223372036854775807 - d) / 10 := ⟨_, rfl⟩
      have w3 := lim_is hd9 hq
      have HQ := Lib.hid (show q < X ↔ ¬ X * 10 + d < 9223372036854775808 by rw [hq]; exact big_iff hd9)
      clear hgo hnb hV hg9 hd9 hzl TX hc MX bl hS hq
      go_wp2_with fail
      with_reducible refine L1.out.mono ?_
      rintro e w2 ⟨T2, g2, cap2, rfl, c0, c2, c3⟩
      have TB := Lib.hid ((HB.out.2.2.2.trans T2).alloc (.cells #[.int .u8 (48 + (d : Int))] 5))
      have HE3 := Lib.hid (HE.out.turn TB.out (fun f => f))
      have p0 := Lib.hid (past (o := .cells #[.int .u8 (48 + (d : Int))] 5) c0)
      have p2 := Lib.hid (past (o := .cells #[.int .u8 (48 + (d : Int))] 5) c2)
      have p3 := Lib.hid (past (o := .cells #[.int .u8 (48 + (d : Int))] 5) c3)
      clear T2 c0 c2 c3 L1
      by_cases hq2 : q < X
      · have LB := Lib.hid (lex_big _ (S ++ ⟨#[c]⟩) (Nat.le_trans HM.out.2.2.2 (by decide)) HE3.out HM.out.1 HM.out.2.1 (by rw [HM.out.2.2.1]; exact HQ.out.1 hq2))
        have u3 : decide ((q : Int) < (X : Int)) = true := dec_lt hq2
        have u4 : decide (q < X) = true := decide_eq_true hq2
        clear hq2
        go_wp2_with fail
        with_reducible refine LB.out.mono ?_
        rintro e w3 ⟨T3, rfl⟩
        have e0 := T3.cell (fun f => f) p0.out
        have e2 := T3.cell (fun f => f) p2.out
        have e3 := T3.cell (fun f => f) p3.out
        have FIN := Lib.hid (TB.out.trans T3)
        clear T3 LB
        go_wp2_with fail
        go_ret
        exact ⟨rfl, FIN.out⟩
      · have hlt := not_big HQ.out hq2
        have LA := Lib.hid (lex_num _ (S ++ ⟨#[c]⟩) (Nat.le_trans HM.out.2.2.2 (by decide)) HE3.out HM.out.1 HM.out.2.1 HM.out.2.2.1 hlt)
        have w7 := (wrap_ten hlt).1
        have w8 := (wrap_ten hlt).2
        have u3 : decide ((q : Int) < (X : Int)) = false := dec_nlt hq2
        have u4 : decide (q < X) = false := decide_eq_false hq2
        clear hq2 hlt
        go_wp2_with fail
        with_reducible refine LA.out.mono ?_
        rintro e w3 ⟨T3, g3, cap3, rfl, f0, f2, f3⟩
        have e0 := T3.cell (fun f => f) p0.out
        have e2 := T3.cell (fun f => f) p2.out
        have e3 := T3.cell (fun f => f) p3.out
        have FIN := Lib.hid (TB.out.trans T3)
        clear T3 LA
        go_wp2_with fail
        go_ret
        exact ⟨rfl, FIN.out⟩
end Go.Proofs.YtjahjdmabconeaaDoor
