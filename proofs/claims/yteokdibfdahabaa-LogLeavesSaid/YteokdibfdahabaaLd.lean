/-
  LogAnswers: the walk.
-/
import Derived.Test.YteokdibfdahabaaLc
namespace Go.Proofs.Yteokdibfdahabaa
open Go.ChangeShapes Go.WideShapes Go.ChangeAt Go.RowKit
set_option linter.unusedVariables false
def AnRel (w : World) (B : LB) (K : Nat → Int) (n : Nat) (gh : Nat) (v8 : Value) (wr : World) : Prop :=
  ∃ (i : Nat) (s : LSt), v8 = .int .i64 (i : Int) ∧ i ≤ n ∧ gh = n - i ∧ LogAt wr B cB s ∧ AnsInv s K i ∧ Turn (fun _ => False) w wr
def AskRel (w : World) (B : LB) (K : Nat → Int) (n r : Nat) (gh : Nat) (v10 : Value) (wr : World) : Prop :=
  ∃ (k : Nat) (s : LSt), v10 = .int .i64 (k : Int) ∧ k ≤ n ∧ gh = n - k ∧ LogAt wr B cB s ∧ AskInv s K n r k ∧ Turn (fun _ => False) w wr
theorem wf_nat {n : Nat} (h : n ≤ 100000) : (Lit.int .i64 (n : Int)).wf = true := by
  simp only [Lit.wf, Bool.and_eq_true, decide_eq_true_eq]
  show (-9223372036854775808 : Int) ≤ (n : Int) ∧ (n : Int) ≤ 9223372036854775807
  omega
set_option maxRecDepth 100000 in
set_option maxHeartbeats 4000000 in
theorem answers_walk (a : Option Addr) (len cap : Nat) (first : Int) (w : World) (hA : IntArg w a len) : Calls Try.prog 6 #[.slice a len cap, .int .i64 first] w fun e w' => e = .returned (.bool true) ∧ Below w.heap.size w w' := by
  have H0 := Lib.hid (log_awake w)
  obtain ⟨n, hn⟩ : ∃ n : Nat, min len 20 = n := ⟨_, rfl⟩
  have hn20 : n ≤ 20 := by omega
  have hnl : n ≤ len := by omega
  have hmin : (if (20 : Int) < (len : Int) then (20 : Int) else (len : Int)) = (n : Int) := by split <;> omega
  obtain ⟨b, off, X, hadr, hcell, hbw, hlen, _⟩ := hA
  obtain ⟨K, hK⟩ : ∃ K : Nat → Int, K = fun i => 1 + (restN (X i) 4 : Int) := ⟨_, rfl⟩
  have HK := Lib.hid hK
  have HA := Lib.hid (And.intro hadr (And.intro hcell hbw))
  have HN := Lib.hid (And.intro hn (And.intro hn20 hnl))
  clear hn hadr hcell hbw hK
  go_enter Try.func6, Try.ntmps6
  go_wp2_with fail
  refine H0.out.mono ?_
  rintro e w1 ⟨rfl, b1⟩
  have T1 := Lib.hid (show Turn (fun _ => False) w w1 from Turn.of_below b1)
  have N0 : Calls Try.prog 10 #[.agg #[.int .i64 1, .int .i64 2, .int .i64 1, .int .i64 1, .int .i64 1, .int .i64 1, .int .i64 99]] w1 fun e w' => NewPost w1 w' cB e := new_yes w1 cB_ok
  have N0 := Lib.hid N0
  clear b1 H0
  go_wp2_with fail
  with_reducible refine N0.out.mono ?_
  rintro e w2 ⟨B, rfl, L0, lo, T2⟩
  have LO := Lib.hid (show ∀ b, B.foot cB.sh b → w.heap.size ≤ b from fun b hb => Nat.le_trans T1.out.size (lo b hb))
  have T02 := Lib.hid (T1.out.trans T2)
  have R0 : AnRel w B K n n (.int .i64 0) w2 := ⟨0, LSt.zero, rfl, Nat.zero_le _, rfl, L0, AnsInv.zero K, T02.out⟩
  clear N0 L0 lo T2
  go_upto_region 4 with fail
  go_wp2_with fail
  go_loopg [8] n (fun gh v8 wr => AnRel w B K n gh v8 wr)
  case atStart => exact R0
  case round =>
    clear R0
    obtain ⟨i, s, rfl, hi, hg, hL, hI, hT⟩ := hrel
    by_cases hin : i < n
    · have u1 : decide ((i : Int) < (n : Int)) = true := decide_eq_true (by omega)
      have hi20 : i < 20 := by omega
      have GG := Lib.hid (And.intro hg hin)
      have hil : i < len := by omega
      obtain rfl := HA.out.1.resolve_left (by omega)
      have A : Calls Try.prog 22 #[.pointer (some ⟨B.l, 0, none⟩), .int .i64 (i : Int), .bool false] wr fun e w' => e = .returned (.bool true) ∧ LogAt w' B cB (an1 s) ∧ Turn (B.foot cB.sh) wr w' := hL.take_yes (t := (i : Int)) (cl := false) ⟨by rw [hI.tail], by show (i : Int) < 99; omega, by rw [hI.low]; show (i : Int) - i < 2; omega, by simp⟩ (by rw [hI.tail]; omega)
      have A := Lib.hid A
      have II := Lib.hid hI
      have TT := Lib.hid hT
      have hi0 : (0 : Int) ≤ (i : Int) := by omega
      have hi1 : (i : Int) < (len : Int) := by omega
      clear hL hI hT hg hin
      go_wp2_with fail
      with_reducible refine A.out.mono ?_
      rintro e w3 ⟨rfl, L1, T3⟩
      have T03 := TT.out.comp T3 (fun j hj e => by have := LO.out j e; omega)
      have x0 : w3.cell? ⟨b, off + i, none⟩ = some (.int .i64 (X i)) := T03.cell (fun f => f) (HA.out.2.1 i hil)
      obtain ⟨R, hR⟩ : ∃ R, restN (X i) 4 = R := ⟨_, rfl⟩
      have hR4 : R < 4 := by rw [← hR]; exact restN_lt _ (by decide)
      have hKi : 1 + (R : Int) = K i := by rw [HK.out, ← hR]
      have A : Calls Try.prog 20 #[.int .i64 (X i), .int .i64 4] w3 fun e w' => e = .returned (.int .i64 (R : Int)) ∧ w3 = w' := by rw [← hR]; exact rest_is w3 (X i) (n := 4) (by decide) (by decide)
      have A := Lib.hid A
      have hw1 : wrap64 (1 + (R : Int)) = 1 + (R : Int) := by unfold wrap64; omega
      have F : ∀ q, q = K i → Calls Try.prog 23 #[.pointer (some ⟨B.l, 0, none⟩), .int .i64 (i : Int), .agg #[.int .i64 q, .int .i64 0, .int .i64 0, .int .i64 0, .int .i64 0, .int .i64 0, .int .i64 0, .int .i64 0, .int .i64 0, .int .i64 0, .int .i64 0, .slice none 0 0, .int .i64 0, .bool false]] w3 fun e w' => e = .returned (.bool true) ∧ LogAt w' B cB (an2 s i (K i)) ∧ Turn (B.foot cB.sh) w3 w' := fun q hq => by
        subst hq
        exact L1.fill_yes (i := i) (by show i < s.tail + 1; rw [II.out.tail]; omega) (by show s.low ≤ i; rw [II.out.low]; omega) (by show i < s.low + 2; rw [II.out.low]; omega) (II.out.X i) (K i, 0)
      have F := Lib.hid (F _ hKi)
      have KI := Lib.hid (And.intro hKi hR4)
      have TT := Lib.hid T03
      clear L1 T3 T03 hR hKi
      go_wp2_with fail
      with_reducible refine A.out.mono ?_
      rintro e w4 ⟨rfl, rfl⟩
      clear A
      go_wp2_with fail
      with_reducible refine F.out.mono ?_
      rintro e w5 ⟨rfl, L2, T5⟩
      have T05 := TT.out.comp T5 (fun j hj e => by have := LO.out j e; omega)
      have hcur : (an2 s i (K i)).cur 0 = i := II.out.cur
      have hx : ((an2 s i (K i)).X ((an2 s i (K i)).cur 0 : Nat)).isSome = true := by
        rw [hcur]
        show (updI s.X (i : Int) (some (K i, 0)) (i : Int)).isSome = true
        rw [updI_at]
        rfl
      have A : Calls Try.prog 24 #[.pointer (some ⟨B.l, 0, none⟩), .int .i64 0, .agg #[.slice none 0 0, .slice none 0 0, .slice none 0 0, .slice none 0 0]] w5 fun e w' => ((an2 s i (K i)).X ((an2 s i (K i)).cur 0 : Nat) = none ∧ e = .returned (.bool false) ∧ Turn (fun _ => False) w5 w') ∨ (((an2 s i (K i)).X ((an2 s i (K i)).cur 0 : Nat)).isSome = true ∧ e = .returned (.bool true) ∧ LogAt w' B cB (an3 s i (K i)) ∧ Turn (B.foot cB.sh) w5 w') :=
        L2.post_is (i := 0) (by decide) II.out.left (by rw [hcur]; omega) (a := none) (n := 0) (m := 0) (o := none) rfl (fun _ => ⟨by rw [hcur]; show s.rl 0 ≤ i; rw [II.out.rl]; omega, by rw [hcur]; show i < s.rl 0 + 2; rw [II.out.rl]; omega, by rw [hcur]; exact II.out.Y i⟩)
      have A := Lib.hid A
      have HX := Lib.hid hx
      have TT := Lib.hid T05
      clear L2 T5 T05 hcur hx F x0
      go_wp2_with fail
      with_reducible refine A.out.mono ?_
      rintro e w6 (⟨hno, _⟩ | ⟨_, rfl, L3, T6⟩)
      · have := HX.out
        rw [hno] at this
        cases this
      · have T06 := TT.out.comp T6 (fun j hj e => by have := LO.out j e; omega)
        have hw2 : wrap64 (100 + (i : Int)) = 100 + (i : Int) := by unfold wrap64; omega
        have A : Calls Try.prog 25 #[.pointer (some ⟨B.l, 0, none⟩), .agg #[.int .i64 0, .int .i64 (100 + (i : Int)), .slice none 0 0]] w6 fun e w' => (readyB cB (an3 s i (K i)) = false ∧ e = .returned (.bool false) ∧ Turn (fun _ => False) w6 w') ∨ (readyB cB (an3 s i (K i)) = true ∧ e = .returned (.bool true) ∧ LogAt w' B cB (replied cB (an3 s i (K i)) 0 (100 + (i : Int))) ∧ Turn (B.foot cB.sh) w6 w') :=
          L3.reply_is 0 (100 + (i : Int)) (by show s.low ≤ 100000; rw [II.out.low]; omega) (by show s.cnt ≤ 100000; have := II.out.cnt; omega) (fun j hj => by
            obtain rfl : j = 0 := by have : j < 1 := hj; omega
            show s.rl 0 ≤ 100000
            rw [II.out.rl]
            omega)
        have A := Lib.hid A
        have TT := Lib.hid T06
        clear L3 T6 T06 HX
        go_wp2_with fail
        with_reducible refine A.out.mono ?_
        rintro e w7 (⟨hno, _⟩ | ⟨_, rfl, L4, T7⟩)
        · rw [II.out.ready (by have := KI.out.1; have := KI.out.2; omega)] at hno
          cases hno
        · have T07 := Lib.hid (TT.out.comp T7 (S := fun _ => False) (fun j hj e => by have := LO.out j e; omega))
          have F4 := Lib.hid L4
          clear L4 T7 A
          go_wp2_with fail
          go_roundg (n - (i + 1))
          case measure => have := GG.out.1; have := GG.out.2; omega
          case rel => exact ⟨i + 1, _, by go_num, by have := GG.out.2; omega, rfl, F4.out, II.out.next, T07.out⟩
    · obtain rfl : i = n := by omega
      have u1 : decide ((i : Int) < (i : Int)) = false := decide_eq_false (by omega)
      have R1 : AskRel w B K i (restN first i) i (.int .i64 0) wr := ⟨0, s, rfl, Nat.zero_le _, rfl, hL, hI.ask _, hT⟩
      clear hL hI hT hg hi
      go_wp2_with fail
      go_loopg [10] i (fun gh v10 wr => AskRel w B K i (restN first i) gh v10 wr)
      case atStart => exact R1
      case round =>
        clear R1
        obtain ⟨k, s, rfl, hk, hg, hL, hI, hT⟩ := hrel
        by_cases hkn : k < i
        · have u1 : decide ((k : Int) < (i : Int)) = true := decide_eq_true (by omega)
          have u2 : decide (k < i) = true := decide_eq_true hkn
          have i20 := HN.out.2.1
          have hr : restN first i < i := restN_lt _ (by omega)
          obtain ⟨r, hrr⟩ : ∃ r, restN first i = r := ⟨_, rfl⟩
          rw [hrr] at hr hI
          have A : Calls Try.prog 20 #[.int .i64 first, .int .i64 (i : Int)] wr fun e w' => e = .returned (.int .i64 (r : Int)) ∧ wr = w' := by rw [← hrr]; exact rest_is wr first (by omega) (by omega)
          have A := Lib.hid A
          have hw : wrap64 ((r : Int) + (k : Int)) = (r : Int) + (k : Int) := by unfold wrap64; omega
          have N1 := hI.next hkn
          obtain ⟨J, hJ⟩ : ∃ J, (r + k) % i = J := ⟨_, rfl⟩
          have hm : ((r : Int) + (k : Int)).tmod (i : Int) = (J : Int) := by
            rw [Int.tmod_eq_emod_of_nonneg (by omega), ← hJ, Int.natCast_emod, Int.natCast_add]
          have hJi : J < i := by rw [← hJ]; exact Nat.mod_lt _ (by omega)
          rw [hJ] at N1
          have hJl : J < len := by have := HN.out.2.2; omega
          have nz : ((i : Int) == 0) = false := by simp; omega
          have nn : ¬ (i : Int) = 0 := by omega
          obtain rfl := HA.out.1.resolve_left (by omega)
          obtain ⟨R, hR⟩ : ∃ R, restN (X J) 4 = R := ⟨_, rfl⟩
          have hR4 : R < 4 := by rw [← hR]; exact restN_lt _ (by decide)
          have hKj : K J = 1 + (R : Int) := by rw [HK.out, ← hR]
          have hw1 : wrap64 (1 + (R : Int)) = 1 + (R : Int) := by unfold wrap64; omega
          have hw2 : wrap64 (100 + (J : Int)) = 100 + (J : Int) := by unfold wrap64; omega
          have hj0 : (0 : Int) ≤ (J : Int) := Int.natCast_nonneg J
          have hj1 : (J : Int) < (len : Int) := Int.ofNat_lt.2 hJl
          have HRR := Lib.hid hrr
          have N1 := Lib.hid N1
          have HJ := Lib.hid (And.intro hJl hJi)
          have HR := Lib.hid hR
          have GG := Lib.hid (And.intro hg hkn)
          have LL := Lib.hid (And.intro hL hI)
          have TT := Lib.hid hT
          clear hrr hr hJ hJi hJl hR hg hkn hL hI hT
          go_wp2_with fail
          with_reducible refine A.out.mono ?_
          rintro e wx ⟨rfl, rfl⟩
          clear A
          go_upto_region 14 with fail
          clear hw hm nz nn
          by_cases hKJ : K J ≠ 1
          · have hGJ : (s.G (J : Int)) = some ⟨0, 100 + (J : Int)⟩ := by rw [N1.out.1]; exact if_pos hKJ
            have A : Calls Try.prog 26 #[.pointer (some ⟨B.l, 0, none⟩), .int .i64 (J : Int)] wr fun e w' => e = .returned (.tuple #[.agg #[.int .i64 0, .int .i64 (100 + (J : Int)), .slice none 0 0], .bool true]) ∧ LogAt w' B cB { s with G := updI s.G (J : Int) none } ∧ Turn (B.foot cB.sh) wr w' := by
              have := LL.out.1.answer_is (at_ := (J : Int)) (wf_nat (by have := HN.out.2.1; have := HJ.out.2; omega))
              rw [hGJ] at this
              exact this
            have A := Lib.hid A
            have hq : ((1 + (R : Int)) != 1) = true := by have := hKj; simp; omega
            clear hGJ hKJ
            go_wp2_with fail
            with_reducible refine A.out.mono ?_
            rintro e w3 ⟨rfl, L1, T3⟩
            obtain ⟨W2, hW2⟩ : ∃ W2, W2 = w3.alloc (.cells #[.int .i64 0, .int .i64 (100 + (J : Int)), .slice none 0 0] 67) := ⟨_, rfl⟩
            have T4 : Turn (fun _ => False) w3 W2 := by rw [hW2]; exact (Turn.refl _ w3).alloc _
            have C2 := range_new w3 [.int .i64 0, .int .i64 (100 + (J : Int)), .slice none 0 0] 67
            have B2 := Blk.new w3 [.int .i64 0, .int .i64 (100 + (J : Int)), .slice none 0 0] 67
            have C2 : W2.rangeAt w3.heap.size 0 [.int .i64 0, .int .i64 (100 + (J : Int)), .slice none 0 0] := by rw [hW2]; exact C2
            have B2 : Blk W2 w3.heap.size 67 := by rw [hW2]; exact B2
            have A : Calls Try.prog 26 #[.pointer (some ⟨B.l, 0, none⟩), .int .i64 (J : Int)] W2 fun e w' => e = .returned (.tuple #[.agg #[.int .i64 0, .int .i64 0, .slice none 0 0], .bool false]) ∧ LogAt w' B cB { s with G := updI (updI s.G (J : Int) none) (J : Int) none } ∧ Turn (B.foot cB.sh) W2 w' := by
              have := (L1.keep T4).answer_is (at_ := (J : Int)) (wf_nat (by have := HN.out.2.1; have := HJ.out.2; omega))
              rw [show ({ s with G := updI s.G (J : Int) none } : LSt).G (J : Int) = none from updI_at _ _ _] at this
              exact this
            have A := Lib.hid A
            have nf := (L1.keep T4).foot_ne B2 (by decide) (by decide) (by decide) (by decide) (by decide) (by decide)
            have TT := Lib.hid ((TT.out.comp T3 (fun j hj e => by have := LO.out j e; omega)).trans T4)
            have CC := Lib.hid (And.intro C2 nf)
            clear L1 T3 T4 C2 B2 nf
            go_upto_region 15 with fail
            rw [← hW2]
            clear hW2
            generalize w3.heap.size = ba at *
            go_wp2_with fail
            with_reducible refine A.out.mono ?_
            rintro e w5 ⟨rfl, L2, T5⟩
            obtain ⟨W6, hW6⟩ : ∃ W6, W6 = w5.alloc (.cells #[.int .i64 0, .int .i64 0, .slice none 0 0] 67) := ⟨_, rfl⟩
            have T6 : Turn (fun _ => False) w5 W6 := by rw [hW6]; exact (Turn.refl _ w5).alloc _
            have CA := range_turn (range_turn CC.out.1 T5 CC.out.2) T6 (fun f => f)
            have ca : W6.cell? ⟨ba, 1, none⟩ = some (.int .i64 (100 + (J : Int))) := CA 1 _ rfl
            have TT := Lib.hid ((TT.out.comp T5 (fun j hj e => by have := LO.out j e; omega)).trans T6)
            have L6 := Lib.hid (L2.keep T6)
            have xj : W6.cell? ⟨b, off + J, none⟩ = some (.int .i64 (X J)) := TT.out.cell (fun f => f) (HA.out.2.1 J HJ.out.1)
            have A : Calls Try.prog 20 #[.int .i64 (X J), .int .i64 4] W6 fun e w' => e = .returned (.int .i64 (R : Int)) ∧ W6 = w' := by rw [← HR.out]; exact rest_is W6 (X J) (n := 4) (by decide) (by decide)
            have A := Lib.hid A
            clear L2 T5 T6 CA
            go_upto_region 16 with fail
            rw [← hW6]
            clear hW6
            generalize w5.heap.size = bc at *
            go_wp2_with fail
            with_reducible refine A.out.mono ?_
            rintro e w7 ⟨rfl, rfl⟩
            clear A
            go_wp2_with fail
            go_roundg (i - (k + 1))
            case measure => have := GG.out.1; have := GG.out.2; omega
            case rel => exact ⟨k + 1, _, by go_num, by have := GG.out.2; omega, rfl, L6.out, by rw [HRR.out]; exact N1.out.2, TT.out⟩
          · have hKJ : K J = 1 := Classical.not_not.1 hKJ
            have hGJ : (s.G (J : Int)) = none := by rw [N1.out.1]; exact if_neg (fun q => q hKJ)
            have A : Calls Try.prog 26 #[.pointer (some ⟨B.l, 0, none⟩), .int .i64 (J : Int)] wr fun e w' => e = .returned (.tuple #[.agg #[.int .i64 0, .int .i64 0, .slice none 0 0], .bool false]) ∧ LogAt w' B cB { s with G := updI s.G (J : Int) none } ∧ Turn (B.foot cB.sh) wr w' := by
              have := LL.out.1.answer_is (at_ := (J : Int)) (wf_nat (by have := HN.out.2.1; have := HJ.out.2; omega))
              rw [hGJ] at this
              exact this
            have A := Lib.hid A
            have hq : ((1 + (R : Int)) != 1) = false := by have := hKj; simp; omega
            clear hGJ hKJ
            go_wp2_with fail
            with_reducible refine A.out.mono ?_
            rintro e w3 ⟨rfl, L1, T3⟩
            obtain ⟨W2, hW2⟩ : ∃ W2, W2 = w3.alloc (.cells #[.int .i64 0, .int .i64 0, .slice none 0 0] 67) := ⟨_, rfl⟩
            have T4 : Turn (fun _ => False) w3 W2 := by rw [hW2]; exact (Turn.refl _ w3).alloc _
            have C2 := range_new w3 [.int .i64 0, .int .i64 0, .slice none 0 0] 67
            have B2 := Blk.new w3 [.int .i64 0, .int .i64 0, .slice none 0 0] 67
            have C2 : W2.rangeAt w3.heap.size 0 [.int .i64 0, .int .i64 0, .slice none 0 0] := by rw [hW2]; exact C2
            have B2 : Blk W2 w3.heap.size 67 := by rw [hW2]; exact B2
            have A : Calls Try.prog 26 #[.pointer (some ⟨B.l, 0, none⟩), .int .i64 (J : Int)] W2 fun e w' => e = .returned (.tuple #[.agg #[.int .i64 0, .int .i64 0, .slice none 0 0], .bool false]) ∧ LogAt w' B cB { s with G := updI (updI s.G (J : Int) none) (J : Int) none } ∧ Turn (B.foot cB.sh) W2 w' := by
              have := (L1.keep T4).answer_is (at_ := (J : Int)) (wf_nat (by have := HN.out.2.1; have := HJ.out.2; omega))
              rw [show ({ s with G := updI s.G (J : Int) none } : LSt).G (J : Int) = none from updI_at _ _ _] at this
              exact this
            have A := Lib.hid A
            have nf := (L1.keep T4).foot_ne B2 (by decide) (by decide) (by decide) (by decide) (by decide) (by decide)
            have TT := Lib.hid ((TT.out.comp T3 (fun j hj e => by have := LO.out j e; omega)).trans T4)
            have CC := Lib.hid (And.intro C2 nf)
            clear L1 T3 T4 C2 B2 nf
            go_upto_region 15 with fail
            rw [← hW2]
            clear hW2
            generalize w3.heap.size = ba at *
            go_wp2_with fail
            with_reducible refine A.out.mono ?_
            rintro e w5 ⟨rfl, L2, T5⟩
            obtain ⟨W6, hW6⟩ : ∃ W6, W6 = w5.alloc (.cells #[.int .i64 0, .int .i64 0, .slice none 0 0] 67) := ⟨_, rfl⟩
            have T6 : Turn (fun _ => False) w5 W6 := by rw [hW6]; exact (Turn.refl _ w5).alloc _
            have CA := range_turn (range_turn CC.out.1 T5 CC.out.2) T6 (fun f => f)
            have ca : W6.cell? ⟨ba, 1, none⟩ = some (.int .i64 0) := CA 1 _ rfl
            have TT := Lib.hid ((TT.out.comp T5 (fun j hj e => by have := LO.out j e; omega)).trans T6)
            have L6 := Lib.hid (L2.keep T6)
            have xj : W6.cell? ⟨b, off + J, none⟩ = some (.int .i64 (X J)) := TT.out.cell (fun f => f) (HA.out.2.1 J HJ.out.1)
            have A : Calls Try.prog 20 #[.int .i64 (X J), .int .i64 4] W6 fun e w' => e = .returned (.int .i64 (R : Int)) ∧ W6 = w' := by rw [← HR.out]; exact rest_is W6 (X J) (n := 4) (by decide) (by decide)
            have A := Lib.hid A
            clear L2 T5 T6 CA
            go_upto_region 16 with fail
            rw [← hW6]
            clear hW6
            generalize w5.heap.size = bc at *
            go_wp2_with fail
            with_reducible refine A.out.mono ?_
            rintro e w7 ⟨rfl, rfl⟩
            clear A
            go_wp2_with fail
            go_roundg (i - (k + 1))
            case measure => have := GG.out.1; have := GG.out.2; omega
            case rel => exact ⟨k + 1, _, by go_num, by have := GG.out.2; omega, rfl, L6.out, by rw [HRR.out]; exact N1.out.2, TT.out⟩
        · obtain rfl : k = i := by omega
          have u1 : decide ((k : Int) < (k : Int)) = false := decide_eq_false (by omega)
          have u2 : decide (k < k) = false := decide_eq_false (by omega)
          have hGn : s.G (k : Int) = none := by rw [hI]; exact if_neg (fun q => by omega)
          have A : Calls Try.prog 26 #[.pointer (some ⟨B.l, 0, none⟩), .int .i64 (k : Int)] wr fun e w' => e = .returned (.tuple #[.agg #[.int .i64 0, .int .i64 0, .slice none 0 0], .bool false]) ∧ LogAt w' B cB { s with G := updI s.G (k : Int) none } ∧ Turn (B.foot cB.sh) wr w' := by
            have := hL.answer_is (at_ := (k : Int)) (wf_nat (by have := HN.out.2.1; omega))
            rw [hGn] at this
            exact this
          have A := Lib.hid A
          have TT := Lib.hid hT
          clear hL hI hT hGn hg
          go_wp2_with fail
          with_reducible refine A.out.mono ?_
          rintro e w9 ⟨rfl, _, T9⟩
          have TF := Lib.hid (TT.out.comp T9 (S := fun _ => False) (fun j hj e => by have := LO.out j e; omega))
          clear T9
          go_wp2_with fail
          go_ret
          exact ⟨rfl, (TF.out.alloc _).below fun k hk => ⟨hk, fun f => f⟩⟩
end Go.Proofs.Yteokdibfdahabaa
