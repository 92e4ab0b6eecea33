/-
  The walk of PredLast: what is reckoned hangs on the last event of a set, and on how many it has, alone.
-/
import Derived.Test.YtjfbjkgppnhaoaaLastSt
namespace Go.Proofs.Ytjfbjkgppnhaoaa
open Go.ChangeShapes Go.WideShapes Go.ChangeAt Go.RowKit
set_option linter.unusedVariables false

def LOut (W : World) (ta : Option Addr) (m : Nat) (L : Nat → Nat) (env : Env) (g : Nat) (EA : Nat → Option Addr) (H C : Nat → Nat) (gh : Nat) (v10 : Value) (wr : World) : Prop :=
  ∃ i : Nat, v10 = .int .i64 (i : Int) ∧ i ≤ m ∧ gh = m - i ∧ TSt W ta m L env g EA H C wr
def LIn (W : World) (ta : Option Addr) (m : Nat) (L : Nat → Nat) (env : Env) (g : Nat) (EA : Nat → Option Addr) (H C : Nat → Nat) (n : Nat) (gh : Nat) (v11 : Value) (wr : World) : Prop :=
  ∃ k : Nat, v11 = .int .i64 (k : Int) ∧ k ≤ n ∧ gh = n - k ∧ TSt W ta m L env g EA H C wr

set_option maxRecDepth 100000 in
set_option maxHeartbeats 8000000 in
theorem last_walk (a0 : Option Addr) (len0 cap0 : Nat) (a1 : Option Addr) (len1 cap1 : Nat) (other : Int) (w : World) (hst : StepsX w a0 len0) (hrw : ∃ L X, RowsX w a1 len1 L X ∧ ∀ r c, r < len1 → c < L r → I64 (X r c)) :
    Calls Try.prog 5 #[.slice a0 len0 cap0, .slice a1 len1 cap1, .int .i64 other] w fun e w' => e = .returned (.bool true) ∧ Below w.heap.size w w' := by
  obtain ⟨L, X, hR, hX⟩ := hrw
  obtain ⟨cs, hc12, hcn, hcall⟩ := codes_any_x hst
  have hi6 := Lib.hid (show (Try.prog.info? 51).map (·.size) = some 6 by kernel_rfl)
  have AW := Lib.hid (pred_awake w)
  have HR := Lib.hid hR
  have HC := Lib.hid hcall
  clear hR hX hcn hcall hst
  go_enter Try.func5, Try.ntmps5
  go_wp2_with fail
  refine AW.out.mono ?_
  rintro e w1 ⟨rfl, b1⟩
  have SS := Lib.hid (sets_any_x HR.out b1 cap1)
  have B1 := Lib.hid b1
  clear b1 AW
  go_wp2_with fail
  refine SS.out.mono ?_
  rintro e w2 ⟨v, us, rfl, hs, hlen, hmade, b2⟩
  obtain ⟨a, c2, rfl, hE⟩ := hs.env
  have B2 := Lib.hid ((B1.out).trans (b2.mono B1.out.size))
  have TT := Lib.hid (sets_t HR.out B2.out cap1)
  have E2 := Lib.hid hE
  clear hs hlen hmade b2 hE SS
  generalize envOf (lsOf len1 L X) = env at *
  generalize us.length = ms at *
  go_wp2_with fail
  refine TT.out.mono ?_
  rintro e w3 ⟨ta, c3, g, EA, H, C, rfl, ht⟩
  have m4 := ht.m4
  generalize nSets len1 = m at *
  have R0 : LOut w2 ta m L env g EA H C m (.int .i64 0) w3 := ⟨0, rfl, Nat.zero_le _, rfl, ht⟩
  clear ht TT
  go_wp2_with fail
  go_loopg [10] m (fun gh v10 wr => LOut w2 ta m L env g EA H C gh v10 wr)
  case atStart => exact R0
  case round =>
    clear R0
    obtain ⟨i, rfl, him, hg, ht⟩ := hrel
    have T := Lib.hid ht
    clear ht
    by_cases hil : i < m
    · obtain rfl := T.out.base (by omega)
      have hcell := (T.out.row i hil).1
      have hn3 := setLen_le L i
      have I0 : LIn w2 (some ⟨g, 0, none⟩) m L env g EA H C (setLen L i) (setLen L i) (.int .i64 0) wr := ⟨0, rfl, Nat.zero_le _, rfl, T.out⟩
      have i4 : (i : Int) < 4 := by omega
      clear T
      go_wp2_with fail
      clear hcell
      obtain ⟨wo, rfl⟩ : ∃ wo : World, wo = wr := ⟨_, rfl⟩
      go_loopg [11] (setLen L i) (fun gh v11 wz => LIn w2 (some ⟨g, 0, none⟩) m L env g EA H C (setLen L i) gh v11 wz)
      case atStart => exact I0
      case round =>
        clear I0
        obtain ⟨k, rfl, hk, hg3, ht⟩ := hrel
        have T := Lib.hid ht
        have hcell := (T.out.row i hil).1
        clear ht
        by_cases hkn : k + 1 < setLen L i
        · have EAH := (T.out.ea i hil (by omega)).1
          rw [EAH] at hcell
          have TH := Lib.hid (fun (j : Nat) (hj : j < 6) => show _ from (by have := T.out.there i hil (by omega) (k * 6 + j) (by omega); rw [Nat.zero_add] at this; exact this))
          have XX := Lib.hid (And.intro hil (And.intro hkn hg3))
          have gd : decide ((k : Int) + 1 < ((setLen L i : Nat) : Int)) = true := by simp; omega
          generalize hnn : setLen L i = n at *
          have NN := Lib.hid hnn
          clear hnn EAH
          generalize hhh : H i = hh at *
          have HH := Lib.hid hhh
          clear hhh
          go_wp2_with ((with_reducible show wpList _ _ _ ({ dst := none, op := Op.store 51 (.tmp 47) (.tmp 46), type := 0, pos := "law.go:122", after := _, guard := none } :: _) _ _); refine wpList_store_mid rfl 51 (.tmp 47) (.tmp 46) rfl hh (k * 6) #[.int .i64 3, .int .i64 0, .int .i64 other, .int .i64 other, .int .i64 7, .int .i64 other] rfl rfl TH.out hi6.out (by simp [Value.oneCell']) ?_)
          go_roundg (n - (k + 1))
          case measure => omega
          case rel =>
            have h6 := T.out.put XX.out.1 (k := k) (by rw [NN.out]; exact XX.out.2.1) [.int .i64 3, .int .i64 0, .int .i64 other, .int .i64 other, .int .i64 7, .int .i64 other] rfl
            rw [HH.out] at h6
            exact ⟨k + 1, by go_num, by omega, rfl, h6⟩
        · have gd : decide ((k : Int) + 1 < ((setLen L i : Nat) : Int)) = false := by simp; omega
          go_wp2_with fail
          go_roundg (m - (i + 1))
          case measure => omega
          case rel => exact ⟨i + 1, by go_num, by omega, rfl, T.out⟩
    · obtain rfl : i = m := by omega
      have E5 := Lib.hid T.out.envAt
      have B5 := Lib.hid (B2.out.trans (T.out.bel.mono B2.out.size))
      have E3 := Lib.hid (E2.out.keep T.out.bel)
      have CC := Lib.hid (HC.out wr cap0 B5.out)
      clear T
      go_wp2_with fail
      refine CC.out.mono ?_
      rintro e w6 ⟨v6, rfl, hrow, b6⟩
      obtain ⟨ad6, c6, rfl, hC6⟩ := codes_at hrow
      obtain ⟨x0, o0, hx0, hk0⟩ := eval_let (E3.out.keep b6) hC6 rfl (by omega) c6 c2
      have K0 := Lib.hid hk0
      have X0 := Lib.hid hx0
      have B6 := Lib.hid (B5.out.trans (b6.mono B5.out.size))
      have E6 := Lib.hid (E5.out.keep b6)
      clear hrow b6 hC6 hx0 hk0 CC
      go_wp2_with fail
      refine K0.out.mono ?_
      rintro e w7 ⟨rfl, b7⟩
      have B7 := Lib.hid (B6.out.trans (b7.mono B6.out.size))
      have E7 := Lib.hid (E6.out.keep b7)
      have CC := Lib.hid (HC.out w7 cap0 B7.out)
      clear b7 K0
      go_wp2_with fail
      refine CC.out.mono ?_
      rintro e w8 ⟨v8, rfl, hrow, b8⟩
      obtain ⟨ad8, c8, rfl, hC8⟩ := codes_at hrow
      obtain ⟨x1, o1, hx1, hk1⟩ := eval_let (E7.out.keep b8) hC8 rfl (by omega) c8 c3
      have K1 := Lib.hid hk1
      have B8 := Lib.hid (B7.out.trans (b8.mono B7.out.size))
      obtain rfl : x1 = x0 := by rw [hx1.1, X0.out.1]
      obtain rfl : o1 = o0 := by rw [hx1.2, X0.out.2]
      clear hrow b8 hC8 hx1 hk1 CC X0
      go_wp2_with fail
      refine K1.out.mono ?_
      rintro e w9 ⟨rfl, b9⟩
      have B9 := Lib.hid (B8.out.trans (b9.mono B8.out.size))
      clear b9 K1
      cases o1 with
      | true =>
        go_wp2_with fail
        go_ret
        exact ⟨rfl, B9.out⟩
      | false =>
        go_wp2_with fail
        go_ret
        exact ⟨rfl, B9.out⟩
end Go.Proofs.Ytjfbjkgppnhaoaa
