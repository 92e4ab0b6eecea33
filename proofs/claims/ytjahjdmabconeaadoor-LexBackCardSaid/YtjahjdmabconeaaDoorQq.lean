/-
  LexBack: the walk.
-/
import Derived.Test.YtjahjdmabconeaaDoorQp
namespace Go.Proofs.YtjahjdmabconeaaDoor
open Go.ChangeShapes Go.WideShapes Go.ChangeAt Go.RowKit
set_option linter.unusedVariables false
theorem wrap_less {i j : Nat} (h : i = j + 1) (hi : i ≤ 90) : wrap64 ((i : Int) - 1) = (j : Int) := by unfold wrap64; omega
theorem wrap_off {a b : Nat} (h : a + b ≤ 8190) : wrap64 ((a : Int) + (b : Int)) = ((a + b : Nat) : Int) ∧ wrap64 (((a + b : Nat) : Int) + 1) = ((a + b + 1 : Nat) : Int) := by constructor <;> (unfold wrap64; omega)
set_option maxRecDepth 100000 in
set_option maxHeartbeats 4000000 in
theorem back_is (w : World) (hE : ErrAt w) (s0 : ByteArray) : Calls Tryd.prog 4 #[.string s0] w fun e w' => e = .returned (.bool true) ∧ Turn (fun _ => False) w w' := by
  have AW := Lib.hid (awake_is w hE)
  have HE := Lib.hid hE
  clear hE
  have SH := Lib.hid (fun w => short_is w s0)
  go_enter Tryd.func4, Tryd.ntmps4
  go_wp2_with fail
  with_reducible refine AW.out.mono ?_
  rintro e w1 ⟨rfl, T1⟩
  have TT1 := Lib.hid T1
  clear T1 AW
  go_wp2_with fail
  with_reducible refine (SH.out _).mono ?_
  rintro e w2 ⟨⟨s, rfl, hs⟩, rfl⟩
  have HS := Lib.hid hs
  have CL := Lib.hid (col_is w1 s (Nat.le_trans hs (by decide)) (HE.out.turn TT1.out id))
  clear hs SH
  go_wp2_with fail
  with_reducible refine CL.out.mono ?_
  rintro e w3 ⟨T3, v, rfl, ol⟩
  have TT3 := Lib.hid (TT1.out.trans T3)
  obtain ⟨a, cap, rfl, ga⟩ := own_slice ol
  obtain ⟨L, hL⟩ : ∃ L, L = toksB s.data.toList := ⟨_, rfl⟩
  rw [← hL] at ol ga ⊢
  have PJ := Lib.hid (pjoin_is ol (by rw [hL]; exact fits_of s HS.out))
  have OL := Lib.hid ol
  have HL := Lib.hid hL
  have GA := Lib.hid ga
  clear T3 ol CL hL ga
  obtain ⟨n, hn⟩ : ∃ n, n = L.length := ⟨_, rfl⟩
  rw [← hn] at PJ OL GA ⊢
  have HN := Lib.hid hn
  clear hn
  go_wp2_with fail
  with_reducible refine PJ.out.mono ?_
  rintro e w4 ⟨rfl, T4⟩
  have TT4 := Lib.hid (TT3.out.trans T4)
  have OL4 := Lib.hid (own_turn OL.out T4 (fun _ _ f => f))
  obtain ⟨t, ht⟩ : ∃ t, t = joinS s L := ⟨_, rfl⟩
  rw [← ht]
  have HT := Lib.hid ht
  have CM := Lib.hid (col_is w4 t (by rw [ht, HL.out]; exact Nat.le_trans (join_size s HS.out) (by decide)) (HE.out.turn TT4.out id))
  clear T4 PJ OL ht
  go_wp2_with fail
  with_reducible refine CM.out.mono ?_
  rintro e w5 ⟨T5, v, rfl, om⟩
  have TT5 := Lib.hid (TT4.out.trans T5)
  have OL5 := Lib.hid (own_turn OL4.out T5 (fun _ _ f => f))
  obtain ⟨b, cap2, rfl, gb⟩ := own_slice om
  obtain ⟨M, hM⟩ : ∃ M, M = toksB t.data.toList := ⟨_, rfl⟩
  rw [← hM] at om gb ⊢
  have hMl : M.length = n := by rw [hM, HT.out, HL.out, back_len, ← HL.out, HN.out]
  have PM := Lib.hid (pjoin_is om (by rw [hM, HT.out, HL.out]; exact fits_back s HS.out))
  have jm : joinS t M = t := by rw [hM, HT.out, HL.out]; exact join_back s
  rw [jm] at PM
  rw [hMl] at om gb PM ⊢
  have OM := Lib.hid om
  have HM := Lib.hid (And.intro hM hMl)
  have GB := Lib.hid gb
  clear T5 om CM hM gb OL4 jm hMl
  go_wp2_with fail
  with_reducible refine PM.out.mono ?_
  rintro e w6 ⟨rfl, T6⟩
  have TT6 := Lib.hid (TT5.out.trans T6)
  have OL6 := Lib.hid (own_turn OL5.out T6 (fun _ _ f => f))
  have OM6 := Lib.hid (own_turn OM.out T6 (fun _ _ f => f))
  clear T6 PM OL5 OM
  have n90 := Lib.hid (show n ≤ 90 by have := (fits_of s HS.out).1; rw [HN.out, HL.out]; exact this)
  go_wp2_with fail
  go_loopw [7] (fun v wr => SmRel w6 n v wr) (fun v _ => n + 1 - (intOf v).toNat)
  case atStart => exact ⟨0, by simp, Nat.zero_le _, Turn.refl _ _⟩
  case round =>
    obtain ⟨i, rfl, hj, TT⟩ := hrel
    by_cases hjn : i < n
    · obtain ⟨x, hx⟩ : ∃ x, L[i]? = some x := ⟨_, List.getElem?_eq_getElem (by rw [← HN.out]; exact hjn)⟩
      have hx' := hx
      rw [HL.out] at hx'
      obtain ⟨k1, k2⟩ := back_get s hx'
      rw [← HL.out, ← HT.out, ← HM.out.1] at k1
      rw [← HL.out, ← HT.out] at k2
      obtain ⟨g1, rfl⟩ := GA.out (by omega)
      obtain ⟨g2, rfl⟩ := GB.out (by omega)
      obtain ⟨p0, p1, p2, p3⟩ := tok_cells OL6.out HN.out.symm hx
      obtain ⟨q0, q1, q2, q3⟩ := tok_cells OM6.out HM.out.2 k1
      obtain ⟨tx, htx⟩ : ∃ tx, tx = textOf s x := ⟨_, rfl⟩
      rw [show s.extract x.1 (x.1 + x.2.len) = tx from htx.symm] at p2
      rw [show t.extract (offT (backX s L) i, x.2).1 ((offT (backX s L) i, x.2).1 + (offT (backX s L) i, x.2).2.len) = tx from k2.trans htx.symm] at q2
      simp only at q0 q1 q3
      replace p0 := TT.cell id p0
      replace p2 := TT.cell id p2
      replace p3 := TT.cell id p3
      replace q0 := TT.cell id q0
      replace q1 := TT.cell id q1
      replace q2 := TT.cell id q2
      replace q3 := TT.cell id q3
      have u1 := dec_ilt hjn
      have u2 : decide (i < n) = true := decide_eq_true hjn
      have i0 : (0 : Int) ≤ (i : Int) := Int.natCast_nonneg i
      have i1 : (i : Int) < (n : Int) := Int.ofNat_lt.2 hjn
      have hw := wrap_one (a := i) (by have := n90.out; omega)
      have FIN := Lib.hid (And.intro hjn TT)
      have ME := Lib.hid (meas_j hjn)
      by_cases h0 : i = 0
      · have u3 : decide ((i : Int) > 0) = false := decide_eq_false (by omega)
        have u4 : decide ((0 : Int) < (i : Int)) = false := decide_eq_false (by omega)
        have u5 : decide (0 < i) = false := decide_eq_false (by omega)
        clear hx hx' k1 k2 hj hjn htx h0 TT p1
        go_wp2_with fail
        go_region
        all_goals go_wp2_with fail
        all_goals exact ⟨by rw [hw]; exact ⟨i + 1, rfl, FIN.out.1, FIN.out.2.drewN 1⟩, by rw [hw]; exact ME.out⟩
      · obtain ⟨j, hji⟩ : ∃ j, i = j + 1 := ⟨i - 1, by omega⟩
        obtain ⟨y, hy⟩ : ∃ y, L[j]? = some y := ⟨_, List.getElem?_eq_getElem (by rw [← HN.out]; omega)⟩
        have hy' := hy
        rw [HL.out] at hy'
        obtain ⟨m1, m2⟩ := back_get s hy'
        obtain ⟨o1, o2⟩ := back_off s HS.out hy'
        rw [← HL.out, ← HT.out, ← HM.out.1] at m1
        rw [← HL.out, ← HT.out] at m2
        rw [← HL.out] at o1 o2
        obtain ⟨-, r1, r2, -⟩ := tok_cells OM6.out HM.out.2 m1
        obtain ⟨ty, hty⟩ : ∃ ty, ty = textOf s y := ⟨_, rfl⟩
        rw [show t.extract (offT (backX s L) j, y.2).1 ((offT (backX s L) j, y.2).1 + (offT (backX s L) j, y.2).2.len) = ty from m2.trans hty.symm] at r2
        simp only at r1
        rw [← hty] at o1 o2
        rw [← hji] at o1
        replace r1 := TT.cell id r1
        replace r2 := TT.cell id r2
        obtain ⟨A, hA⟩ : ∃ A, A = offT (backX s L) j := ⟨_, rfl⟩
        obtain ⟨C, hC⟩ : ∃ C, C = offT (backX s L) i := ⟨_, rfl⟩
        rw [← hA] at r1 o1 o2
        rw [← hC] at q1 o1
        obtain ⟨w1', w2'⟩ := wrap_off o2
        rw [← o1] at w2'
        obtain ⟨z, hz⟩ : ∃ z : Int, z = ((A + ty.size : Nat) : Int) := ⟨_, rfl⟩
        rw [← hz] at w1' w2'
        have hwj := wrap_less hji (by have := n90.out; omega)
        have j0 : (0 : Int) ≤ (j : Int) := Int.natCast_nonneg j
        have j1 : (j : Int) < (n : Int) := Int.ofNat_lt.2 (by omega)
        have u3 : decide ((i : Int) > 0) = true := decide_eq_true (by omega)
        have u4 : decide ((0 : Int) < (i : Int)) = true := decide_eq_true (by omega)
        have u5 : decide (0 < i) = true := decide_eq_true (by omega)
        clear hx hx' k1 k2 hj hjn htx h0 TT hy hy' m1 m2 o1 o2 hty hji hA hC hz p1
        go_wp2_with fail
        go_region
        all_goals go_wp2_with fail
        all_goals exact ⟨by rw [hw]; exact ⟨i + 1, rfl, FIN.out.1, FIN.out.2.drewN 1⟩, by rw [hw]; exact ME.out⟩
    · obtain rfl : i = n := by omega
      have u1 := dec_inlt hjn
      have u2 : decide (i < i) = false := decide_eq_false hjn
      have RJ := Lib.hid (rjoin_is (by rw [← HN.out]; exact own_turn OL6.out TT (fun _ _ f => f)) (show Fits s L by rw [HL.out]; exact fits_of s HS.out))
      rw [← HT.out] at RJ
      have FIN := Lib.hid (TT6.out.trans TT)
      clear hj hjn TT
      go_wp2_with fail
      with_reducible refine RJ.out.mono ?_
      rintro e w7 ⟨rfl, rfl⟩
      go_wp2_with fail
      go_ret
      exact ⟨rfl, FIN.out⟩
end Go.Proofs.YtjahjdmabconeaaDoor
