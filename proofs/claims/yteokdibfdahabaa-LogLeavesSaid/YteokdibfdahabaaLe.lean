/-
  LogLeaves: the walk.
-/
import Derived.Test.YteokdibfdahabaaLv2
import Derived.Test.YteokdibfdahabaaLd
namespace Go.Proofs.Yteokdibfdahabaa
open Go.ChangeShapes Go.WideShapes Go.ChangeAt Go.RowKit
set_option linter.unusedVariables false
def cN (n : Nat) : Cf := ⟨n, 4, 1, 1, 1, 1, 99⟩
theorem cN_ok {n : Nat} (h1 : 1 ≤ n) (h2 : n ≤ 5) : (cN n).Ok := ⟨h1, by show n ≤ 15; omega, by show 1 ≤ 4; decide, by show 4 ≤ 4096; decide, by show (1 : Int) ≤ 1; decide, by show (1 : Int) ≤ 4096; decide, by show (1 : Int) ≤ 1; decide, by show (1 : Int) ≤ 4096; decide, by show (1 : Int) ≤ 1; decide, by show (1 : Int) ≤ 4096; decide, by show (1 : Int) ≤ 1; decide, by show (1 : Int) ≤ 4096; decide, by show (1 : Int) ≤ 99; decide, by show (99 : Int) ≤ 1099511627776; decide⟩
def lv0 : LSt := { LSt.zero with tail := 1, X := updI LSt.zero.X 0 (some (4, 0)) }
theorem lv0_inv (a b : Int) : LvInv lv0 a b 0 := ⟨rfl, rfl, rfl, (by show updI LSt.zero.X 0 (some (4, 0)) 0 = _; exact updI_at _ _ _), fun _ => rfl, rfl, fun i => by rw [decide_eq_false (by omega : ¬ i < 0)]; rfl, fun i => by rw [if_neg (by omega)]; rfl, fun i => by rw [if_neg (by omega)]; rfl⟩
def LvRel (w : World) (B : LB) (a b : Int) (n : Nat) (gh : Nat) (v10 : Value) (wr : World) : Prop :=
  ∃ (i : Nat) (s : LSt), v10 = .int .i64 (i : Int) ∧ i ≤ n ∧ gh = n - i ∧ LogAt wr B (cN n) s ∧ LvInv s a b i ∧ Turn (fun _ => False) w wr
/-- The second round: k have left by now; what was told lies where it lay. -/
def Lv2Rel (w : World) (B : LB) (s : LSt) (base g : Nat) (cap : Nat) (VL : List Value) (n : Nat) (gh : Nat) (v14 : Value) (wr : World) : Prop :=
  ∃ (k : Nat), v14 = .int .i64 (k : Int) ∧ k ≤ n ∧ gh = n - k ∧ LogAt wr B (cN n) (lvGone s k) ∧ Told wr base n (.slice (some ⟨g, 0, none⟩) n cap) s VL ∧ Turn (fun _ => False) w wr
theorem Told.turn {S : Nat → Prop} {w w' : World} {base k : Nat} {v : Value} {s : LSt} {VL : List Value} (h : Told w base k v s VL) (T : Turn S w w') (h1 : ∀ b, Blk w b 62 → ¬ S b) (h2 : ∀ b, Blk w b 3 → ¬ S b) : Told w' base k v s VL := by
  obtain ⟨a, b, c⟩ := h
  exact ⟨a, own_turn b T (fun k e => h1 k (own_blk b e)), fun j x hx => (c j x hx).turn T h2⟩
set_option maxRecDepth 100000 in
set_option maxHeartbeats 4000000 in
theorem leaves_walk (many bits ahead : Int) (w : World) : Calls Try.prog 7 #[.int .i64 many, .int .i64 bits, .int .i64 ahead] w fun e w' => e = .returned (.bool true) ∧ Below w.heap.size w w' := by
  have H0 := Lib.hid (log_awake w)
  obtain ⟨R, hR⟩ : ∃ R, restN many 5 = R := ⟨_, rfl⟩
  have hR5 : R < 5 := by rw [← hR]; exact restN_lt _ (by decide)
  obtain ⟨n, hn⟩ : ∃ n, R + 1 = n := ⟨_, rfl⟩
  have hw : wrap64 (1 + (R : Int)) = (n : Int) := by unfold wrap64; omega
  have HN : Hid (1 ≤ n ∧ n ≤ 5) := Lib.hid (by omega)
  have A : ∀ w, Calls Try.prog 20 #[.int .i64 many, .int .i64 5] w fun e w' => e = .returned (.int .i64 (R : Int)) ∧ w = w' := fun w => by rw [← hR]; exact rest_is w many (n := 5) (by decide) (by decide)
  have A := Lib.hid A
  clear hR hR5 hn
  go_enter Try.func7, Try.ntmps7
  go_wp2_with fail
  refine H0.out.mono ?_
  rintro e w1 ⟨rfl, b1⟩
  have T1 := Lib.hid (show Turn (fun _ => False) w w1 from Turn.of_below b1)
  have N0 : Calls Try.prog 10 #[.agg #[.int .i64 (n : Int), .int .i64 4, .int .i64 1, .int .i64 1, .int .i64 1, .int .i64 1, .int .i64 99]] w1 fun e w' => NewPost w1 w' (cN n) e := new_yes w1 (cN_ok HN.out.1 HN.out.2)
  have N0 := Lib.hid N0
  clear b1 H0
  go_wp2_with fail
  with_reducible refine (A.out _).mono ?_
  rintro e w2 ⟨rfl, rfl⟩
  clear A
  go_upto_region 3 with fail
  rw [hw]
  clear hw
  go_wp2_with fail
  with_reducible refine N0.out.mono ?_
  rintro e w2 ⟨B, rfl, L0, lo, T2⟩
  have LO := Lib.hid (show ∀ b, B.foot (cN n).sh b → w.heap.size ≤ b from fun b hb => Nat.le_trans T1.out.size (lo b hb))
  have T02 := Lib.hid (T1.out.trans T2)
  have A : Calls Try.prog 22 #[.pointer (some ⟨B.l, 0, none⟩), .int .i64 0, .bool false] w2 fun e w' => e = .returned (.bool true) ∧ LogAt w' B (cN n) { LSt.zero with tail := 1 } ∧ Turn (B.foot (cN n).sh) w2 w' := L0.take_yes (t := 0) (cl := false) ⟨rfl, by show (0 : Int) < 99; decide, by show (0 : Int) - 0 < 4; decide, by simp⟩ (by decide)
  have A := Lib.hid A
  clear N0 L0 lo T2
  go_wp2_with fail
  with_reducible refine A.out.mono ?_
  rintro e w3 ⟨rfl, L1, T3⟩
  have T03 := Lib.hid (T02.out.comp T3 (S := fun _ => False) (fun j hj e => by have := LO.out j e; omega))
  have A : Calls Try.prog 23 #[.pointer (some ⟨B.l, 0, none⟩), .int .i64 0, .agg #[.int .i64 4, .int .i64 0, .int .i64 0, .int .i64 0, .int .i64 0, .int .i64 0, .int .i64 0, .int .i64 0, .int .i64 0, .int .i64 0, .int .i64 0, .slice none 0 0, .int .i64 0, .bool false]] w3 fun e w' => e = .returned (.bool true) ∧ LogAt w' B (cN n) lv0 ∧ Turn (B.foot (cN n).sh) w3 w' := L1.fill_yes (i := 0) (by show 0 < 1; decide) (by show 0 ≤ 0; decide) (by show 0 < 0 + 4; decide) rfl (4, 0)
  have A := Lib.hid A
  clear L1 T3 T02
  go_wp2_with fail
  with_reducible refine A.out.mono ?_
  rintro e w4 ⟨rfl, L2, T4⟩
  have T04 := Lib.hid (T03.out.comp T4 (S := fun _ => False) (fun j hj e => by have := LO.out j e; omega))
  have R0 : LvRel w B ahead bits n n (.int .i64 0) w4 := ⟨0, lv0, rfl, Nat.zero_le _, rfl, L2, lv0_inv _ _, T04.out⟩
  clear L2 T4 T03 T04 A
  go_upto_region 6 with fail
  go_wp2_with fail
  go_loopg [10] n (fun gh v10 wr => LvRel w B ahead bits n gh v10 wr)
  case atStart => exact R0
  case round =>
    clear R0
    obtain ⟨i, s, rfl, hi, hg, hL, hI, hT⟩ := hrel
    by_cases hin : i < n
    · have u1 : decide ((i : Int) < (n : Int)) = true := decide_eq_true (by omega)
      have u2 : decide (i < n) = true := decide_eq_true hin
      have hi5 : i < 5 := by have := HN.out.2; omega
      have hu := u64_small i hi5
      have andr := and_run
      have GG := Lib.hid (And.intro hg hin)
      have TT := Lib.hid hT
      have II := Lib.hid hI
      have LL := Lib.hid hL
      have LT : Hid (i < (cN n).sh) := Lib.hid hin
      clear hg hin hT hI hL
      by_cases ha : bit ahead i = true
      · have x1 := bits_set ha
        have HA := Lib.hid ha
        have A := Lib.hid (LL.out.leave_yes LT.out II.out.leftw)
        clear ha
        go_wp2_with fail
        with_reducible refine A.out.mono ?_
        rintro e w5 ⟨rfl, L5, T5⟩
        have J := II.out.early HA.out
        have L5 : LogAt w5 B (cN n) { s with left := upd s.left i true } := L5
        obtain ⟨s', hs'⟩ : ∃ s', s' = ({ s with left := upd s.left i true } : LSt) := ⟨_, rfl⟩
        rw [← hs'] at J L5
        have no : ¬ IsW (cN n).sh s'.left (i : Int) := by
          rintro ⟨k, e, _, q⟩
          obtain rfl : i = k := by omega
          rw [hs'] at q
          rw [show ({ s with left := upd s.left i true } : LSt).left i = true from upd_at _ _ _] at q
          cases q
        have N := Lib.hid (L5.leave_no no)
        have JJ := Lib.hid J
        have L5 := Lib.hid L5
        have T5 := Lib.hid (TT.out.comp T5 (S := fun _ => False) (fun j hj e => by have := LO.out j e; omega))
        clear A J no hs'
        by_cases hb : bit bits i = true
        · have x2 := bits_set hb
          clear hb
          go_wp2_with fail
          with_reducible refine N.out.mono ?_
          rintro e w6 ⟨rfl, rfl⟩
          go_wp2_with fail
          go_roundg (n - (i + 1))
          case measure => have := GG.out.1; have := GG.out.2; omega
          case rel => exact ⟨i + 1, _, by go_num, by have := GG.out.2; omega, rfl, L5.out, JJ.out, T5.out⟩
        · have x2 := bits_clear hb
          clear hb
          go_wp2_with fail
          go_roundg (n - (i + 1))
          case measure => have := GG.out.1; have := GG.out.2; omega
          case rel => exact ⟨i + 1, _, by go_num, by have := GG.out.2; omega, rfl, L5.out, JJ.out, T5.out⟩
      · have x1 := bits_clear ha
        have HA := Lib.hid (show bit ahead i = false by simpa using ha)
        have O := Lib.hid (out_is wr (i : Int))
        clear ha
        go_wp2_with fail
        with_reducible refine O.out.mono ?_
        rintro e w5 ⟨ob, rfl, ov, T5⟩
        have hc0 := II.out.curw
        have hx : (s.X (s.cur i : Nat)).isSome = true := by rw [hc0]; show (s.X 0).isSome = true; rw [II.out.X]; rfl
        have A : Calls Try.prog 24 #[.pointer (some ⟨B.l, 0, none⟩), .int .i64 (i : Int), .agg #[.slice none 0 0, .slice (some ⟨ob, 0, none⟩) 1 1, .slice none 0 0, .slice none 0 0]] w5 fun e w' => (s.X (s.cur i : Nat) = none ∧ e = .returned (.bool false) ∧ Turn (fun _ => False) w5 w') ∨ ((s.X (s.cur i : Nat)).isSome = true ∧ e = .returned (.bool true) ∧ LogAt w' B (cN n) (posted s i) ∧ Turn (B.foot (cN n).sh) w5 w') :=
          (LL.out.keep T5).post_is LT.out II.out.leftw (by rw [hc0]; decide) ov (fun _ => ⟨by rw [hc0, II.out.rl]; decide, by rw [hc0, II.out.rl]; show 0 < 0 + 4; decide, by rw [hc0]; exact II.out.Yw⟩)
        have A := Lib.hid A
        have HX := Lib.hid hx
        have T5 := Lib.hid (TT.out.trans T5)
        clear O hc0 hx ov
        go_wp2_with fail
        with_reducible refine A.out.mono ?_
        rintro e w6 (⟨hno, _⟩ | ⟨_, rfl, L6, T6⟩)
        · have := HX.out
          rw [hno] at this
          cases this
        · have T6 := Lib.hid (T5.out.comp T6 (S := fun _ => False) (fun j hj e => by have := LO.out j e; omega))
          have L6 := Lib.hid L6
          clear A T5 HX
          by_cases hb : bit bits i = true
          · have x2 := bits_set hb
            have JJ := Lib.hid (II.out.goes HA.out hb)
            have A : Calls Try.prog 27 #[.pointer (some ⟨B.l, 0, none⟩), .int .i64 (i : Int)] w6 fun e w' => e = .returned (.bool true) ∧ LogAt w' B (cN n) { posted s i with left := upd (posted s i).left i true } ∧ Turn (B.foot (cN n).sh) w6 w' := L6.out.leave_yes LT.out II.out.leftw
            have A := Lib.hid A
            clear hb L6
            go_wp2_with fail
            with_reducible refine A.out.mono ?_
            rintro e w7 ⟨rfl, L7, T7⟩
            have T7 := Lib.hid (T6.out.comp T7 (S := fun _ => False) (fun j hj e => by have := LO.out j e; omega))
            have L7 := Lib.hid L7
            clear A T6
            go_wp2_with fail
            go_roundg (n - (i + 1))
            case measure => have := GG.out.1; have := GG.out.2; omega
            case rel => exact ⟨i + 1, _, by go_num, by have := GG.out.2; omega, rfl, L7.out, JJ.out, T7.out⟩
          · have x2 := bits_clear hb
            have JJ := Lib.hid (II.out.stay HA.out (by simpa using hb))
            clear hb
            go_wp2_with fail
            go_roundg (n - (i + 1))
            case measure => have := GG.out.1; have := GG.out.2; omega
            case rel => exact ⟨i + 1, _, by go_num, by have := GG.out.2; omega, rfl, L6.out, JJ.out, T6.out⟩
    · obtain rfl : i = n := by omega
      have u1 : decide ((i : Int) < (i : Int)) = false := decide_eq_false (by omega)
      have u2 : decide (i < i) = false := decide_eq_false (by omega)
      have A := hL.collect_is
      have RD : readyB (cN i) s = true := LvInv.ready (c := cN i) hI
      have A := Lib.hid A
      have RD := Lib.hid RD
      have II := Lib.hid hI
      have LL := Lib.hid hL
      have TT := Lib.hid hT
      clear hI hL hT hg hi
      go_wp2_with fail
      with_reducible refine A.out.mono ?_
      rintro e w5 (⟨hno, _⟩ | ⟨_, v, VL, rfl, HT, T5⟩)
      · rw [RD.out] at hno
        cases hno
      · have HT : Told w5 wr.heap.size i v s VL := HT
        obtain ⟨va, vc, rfl, hg⟩ := own_slice HT.own
        obtain ⟨g, rfl⟩ := hg HN.out.1
        obtain ⟨wr0, hwr0⟩ : ∃ m, wr.heap.size = m := ⟨_, rfl⟩
        rw [hwr0] at HT
        clear hwr0
        have R1 : Lv2Rel w B s wr0 g vc VL i i (.int .i64 0) w5 := ⟨0, rfl, Nat.zero_le _, rfl, by rw [lvGone_zero]; exact LL.out.keep T5, HT, TT.out.trans T5⟩
        clear HT T5 TT A RD hg
        go_upto_region 15 with fail
        go_wp2_with fail
        go_upto_region 17 with fail
        go_wp2_with fail
        go_loopg [14] i (fun gh v14 wr => Lv2Rel w B s wr0 g vc VL i gh v14 wr)
        case atStart => exact R1
        case round =>
          clear R1
          obtain ⟨k, rfl, hk, hgk, hL, hTo, hTu⟩ := hrel
          by_cases hkn : k < i
          · have u1 : decide ((k : Int) < (i : Int)) = true := decide_eq_true (by omega)
            have u2 : decide (k < i) = true := decide_eq_true hkn
            have hk5 : k < 5 := by have := HN.out.2; omega
            have hu := u64_small k hk5
            have orr := bits_or bits ahead
            have GG := Lib.hid (And.intro hgk hkn)
            have LT : Hid (k < (cN i).sh) := Lib.hid hkn
            obtain ⟨x, hx⟩ : ∃ x, VL[k]? = some x := ⟨_, List.getElem?_eq_getElem (by rw [hTo.len]; exact hkn)⟩
            have ov := hTo.val k x hx
            have oc := outCells_at VL k x hx
            have y0 := (hTo.own.cellAt (k * 4) (by omega)).trans oc.1
            have y1 := (hTo.own.cellAt (k * 4 + 1) (by omega)).trans oc.2.1
            have y2 := (hTo.own.cellAt (k * 4 + 2) (by omega)).trans oc.2.2.1
            have y3 := (hTo.own.cellAt (k * 4 + 3) (by omega)).trans oc.2.2.2
            have LL2 := Lib.hid hL
            have HT := Lib.hid hTo
            have TT := Lib.hid hTu
            have j0 : (0 : Int) ≤ (k : Int) := Int.natCast_nonneg k
            have j1 : (k : Int) < (i : Int) := Int.ofNat_lt.2 hkn
            clear hgk hL hTo hTu hx oc
            by_cases ha : bit ahead k = true
            · have x1 := bits_set ha
              have x3 := bits_set (x := orI bits ahead) (i := k) (by rw [bit_orI _ _ _ hk5, ha, Bool.or_true])
              have sl : s.left k = true := by rw [II.out.left]; show (decide (k < i) && (bit ahead k || bit bits k)) = true; rw [decide_eq_true hkn, ha]; rfl
              have ll : (lvGone s k).left k = true := (lvGone_left s k).trans sl
              have oa : outAt s k = none := by rw [II.out.outAt hkn, if_pos ha]
              rw [oa] at ov
              have xe : x = .slice none 0 0 := ov
              subst xe
              have O : Calls Try.prog 30 #[.agg #[.slice none 0 0, .slice none 0 0, .slice none 0 0, .slice none 0 0]] wr fun e w' => e = .returned (.int .i64 (-1)) ∧ Turn (fun _ => False) wr w' := of_is (o := none) ov
              have O := Lib.hid O
              have SL := Lib.hid (And.intro sl ll)
              clear sl ll oa ov ha hkn
              go_wp2_with fail
              with_reducible refine O.out.mono ?_
              rintro e w6 ⟨rfl, T6⟩
              have L6 := LL2.out.keep T6
              have no : ¬ IsW (cN i).sh (lvGone s k).left (k : Int) := by
                rintro ⟨m, e, _, q⟩
                obtain rfl : k = m := by omega
                rw [SL.out.2] at q
                cases q
              have C := L6.cursor_no no
              have N := L6.leave_no no
              have C := Lib.hid C
              have N := Lib.hid N
              have L6 := Lib.hid L6
              have HT6 := Lib.hid (HT.out.turn T6 (fun _ _ f => f) (fun _ _ f => f))
              have T6 := Lib.hid (TT.out.trans T6)
              clear O HT TT LL2 no
              go_wp2_with fail
              with_reducible refine C.out.mono ?_
              rintro e w7 ⟨rfl, rfl⟩
              clear C
              go_wp2_with fail
              with_reducible refine N.out.mono ?_
              rintro e w7 ⟨rfl, rfl⟩
              have L7 := L6
              rw [show LogAt w6 B (cN i) (lvGone s k) = LogAt w6 B (cN i) (lvGone s (k + 1)) by rw [lvGone_no SL.out.1]] at L7
              have HT7 := HT6
              have T7 := T6
              clear N
              go_wp2_with fail
              go_roundg (i - (k + 1))
              case measure => have := GG.out.1; have := GG.out.2; omega
              case rel => exact ⟨k + 1, by go_num, by have := GG.out.2; omega, rfl, L7.out, HT7.out, T7.out⟩
            · have haf : bit ahead k = false := by simpa using ha
              by_cases hb : bit bits k = true
              · have x1 := bits_clear ha
                have x3 := bits_set (x := orI bits ahead) (i := k) (by rw [bit_orI _ _ _ hk5, hb, Bool.true_or])
                have sl : s.left k = true := by rw [II.out.left]; show (decide (k < i) && (bit ahead k || bit bits k)) = true; rw [decide_eq_true hkn, hb, Bool.or_true]; rfl
                have ll : (lvGone s k).left k = true := (lvGone_left s k).trans sl
                have oa : outAt s k = some (k : Int) := by rw [II.out.outAt hkn, if_neg ha]
                rw [oa] at ov
                have ov2 := ov
                obtain ⟨ob, oc, rfl, _, _⟩ := ov2
                have O : Calls Try.prog 30 #[.agg #[.slice none 0 0, .slice (some ⟨ob, 0, none⟩) 1 oc, .slice none 0 0, .slice none 0 0]] wr fun e w' => e = .returned (.int .i64 (k : Int)) ∧ Turn (fun _ => False) wr w' := of_is (o := some (k : Int)) ov
                have O := Lib.hid O
                have SL := Lib.hid (And.intro sl ll)
                clear sl ll oa ov ha hkn hb
                go_wp2_with fail
                with_reducible refine O.out.mono ?_
                rintro e w6 ⟨rfl, T6⟩
                have L6 := LL2.out.keep T6
                have no : ¬ IsW (cN i).sh (lvGone s k).left (k : Int) := by
                  rintro ⟨m, e, _, q⟩
                  obtain rfl : k = m := by omega
                  rw [SL.out.2] at q
                  cases q
                have C := L6.cursor_no no
                have N := L6.leave_no no
                have C := Lib.hid C
                have N := Lib.hid N
                have L6 := Lib.hid L6
                have HT6 := Lib.hid (HT.out.turn T6 (fun _ _ f => f) (fun _ _ f => f))
                have T6 := Lib.hid (TT.out.trans T6)
                clear O HT TT LL2 no
                go_wp2_with fail
                with_reducible refine C.out.mono ?_
                rintro e w7 ⟨rfl, rfl⟩
                clear C
                go_wp2_with fail
                with_reducible refine N.out.mono ?_
                rintro e w7 ⟨rfl, rfl⟩
                have L7 := L6
                rw [show LogAt w6 B (cN i) (lvGone s k) = LogAt w6 B (cN i) (lvGone s (k + 1)) by rw [lvGone_no SL.out.1]] at L7
                have HT7 := HT6
                have T7 := T6
                clear N
                go_wp2_with fail
                go_roundg (i - (k + 1))
                case measure => have := GG.out.1; have := GG.out.2; omega
                case rel => exact ⟨k + 1, by go_num, by have := GG.out.2; omega, rfl, L7.out, HT7.out, T7.out⟩
              · have hbf : bit bits k = false := by simpa using hb
                have x1 := bits_clear ha
                have x3 := bits_clear (x := orI bits ahead) (i := k) (by rw [bit_orI _ _ _ hk5, hbf, haf]; decide)
                have sl : s.left k = false := by rw [II.out.left]; show (decide (k < i) && (bit ahead k || bit bits k)) = false; rw [haf, hbf, Bool.or_false, Bool.and_false]
                have ll : (lvGone s k).left k = false := (lvGone_left s k).trans sl
                have oa : outAt s k = some (k : Int) := by rw [II.out.outAt hkn, if_neg ha]
                rw [oa] at ov
                have ov2 := ov
                obtain ⟨ob, oc, rfl, _, _⟩ := ov2
                have O : Calls Try.prog 30 #[.agg #[.slice none 0 0, .slice (some ⟨ob, 0, none⟩) 1 oc, .slice none 0 0, .slice none 0 0]] wr fun e w' => e = .returned (.int .i64 (k : Int)) ∧ Turn (fun _ => False) wr w' := of_is (o := some (k : Int)) ov
                have O := Lib.hid O
                have SL := Lib.hid (And.intro sl ll)
                have cu : (lvGone s k).cur k = 1 := by show s.cur k = 1; rw [II.out.cur, if_pos ⟨hkn, haf⟩]
                have CU := Lib.hid cu
                clear cu
                clear sl ll oa ov ha hkn hb haf hbf
                go_wp2_with fail
                with_reducible refine O.out.mono ?_
                rintro e w6 ⟨rfl, T6⟩
                have L6 := LL2.out.keep T6
                have C : Calls Try.prog 18 #[.pointer (some ⟨B.l, 0, none⟩), .int .i64 (k : Int)] w6 fun e w' => e = .returned (.int .i64 1) ∧ w6 = w' := by have := L6.cursor_yes LT.out SL.out.2; rw [CU.out] at this; exact this
                have N : Calls Try.prog 27 #[.pointer (some ⟨B.l, 0, none⟩), .int .i64 (k : Int)] w6 fun e w' => e = .returned (.bool true) ∧ LogAt w' B (cN i) (lvGone s (k + 1)) ∧ Turn (B.foot (cN i).sh) w6 w' := by have := L6.leave_yes LT.out SL.out.2; rw [lvGone_yes] at this; exact this
                have NF : Hid (∀ b t, Blk w6 b t → t ≠ 93 → t ≠ 121 → t ≠ 132 → t ≠ 97 → t ≠ 124 → t ≠ 137 → ¬ B.foot (cN i).sh b) := Lib.hid (fun b t hb h1 h2 h3 h4 h5 h6 => L6.foot_ne hb h1 h2 h3 h4 h5 h6)
                have C := Lib.hid C
                have N := Lib.hid N
                have L6 := Lib.hid L6
                have HT6 := Lib.hid (HT.out.turn T6 (fun _ _ f => f) (fun _ _ f => f))
                have T6 := Lib.hid (TT.out.trans T6)
                clear O HT TT LL2
                go_wp2_with fail
                with_reducible refine C.out.mono ?_
                rintro e w7 ⟨rfl, rfl⟩
                clear C
                go_wp2_with fail
                with_reducible refine N.out.mono ?_
                rintro e w7 ⟨rfl, L7, T7⟩
                have HT7 := Lib.hid (HT6.out.turn T7 (fun b hb => NF.out b 62 hb (by decide) (by decide) (by decide) (by decide) (by decide) (by decide)) (fun b hb => NF.out b 3 hb (by decide) (by decide) (by decide) (by decide) (by decide) (by decide)))
                have T7 := Lib.hid (T6.out.comp T7 (S := fun _ => False) (fun j hj e => by have := LO.out j e; omega))
                have L7 := Lib.hid L7
                clear N
                go_wp2_with fail
                go_roundg (i - (k + 1))
                case measure => have := GG.out.1; have := GG.out.2; omega
                case rel => exact ⟨k + 1, by go_num, by have := GG.out.2; omega, rfl, L7.out, HT7.out, T7.out⟩
          · obtain rfl : k = i := by omega
            have u1 : decide ((k : Int) < (k : Int)) = false := decide_eq_false (by omega)
            have u2 : decide (k < k) = false := decide_eq_false (by omega)
            have RD : readyB (cN k) (lvGone s k) = true := lvGone_ready (c := cN k) (by rw [II.out.low]; show (s.X 0).isSome = true; rw [II.out.X]; rfl)
            have A : Calls Try.prog 25 #[.pointer (some ⟨B.l, 0, none⟩), .agg #[.int .i64 0, .int .i64 0, .slice none 0 0]] wr fun e w' => (readyB (cN k) (lvGone s k) = false ∧ e = .returned (.bool false) ∧ Turn (fun _ => False) wr w') ∨ (readyB (cN k) (lvGone s k) = true ∧ e = .returned (.bool true) ∧ LogAt w' B (cN k) (replied (cN k) (lvGone s k) 0 0) ∧ Turn (B.foot (cN k).sh) wr w') :=
              hL.reply_is 0 0 (by show s.low ≤ 100000; rw [II.out.low]; decide) (by show s.cnt ≤ 100000; rw [II.out.cnt]; decide) (fun j hj => by show s.rl j ≤ 100000; rw [II.out.rl]; decide)
            have lo : (replied (cN k) (lvGone s k) 0 0).low = 1 := by show s.low + 1 = 1; rw [II.out.low]
            generalize replied (cN k) (lvGone s k) 0 0 = sf at *
            have A := Lib.hid A
            have RD := Lib.hid RD
            have TT := Lib.hid hTu
            have LW := Lib.hid lo
            clear hL hTo hTu hgk lo
            go_wp2_with fail
            with_reducible refine A.out.mono ?_
            rintro e w9 (⟨hno, _⟩ | ⟨_, rfl, L9, T9⟩)
            · rw [RD.out] at hno
              cases hno
            · have A2 : Calls Try.prog 17 #[.pointer (some ⟨B.l, 0, none⟩)] w9 fun e w' => e = .returned (.int .i64 1) ∧ w9 = w' := by have := L9.low_is; rw [LW.out] at this; exact this
              have A2 := Lib.hid A2
              have TF := Lib.hid (TT.out.comp T9 (S := fun _ => False) (fun j hj e => by have := LO.out j e; omega))
              clear A L9 T9 TT
              go_wp2_with fail
              with_reducible refine A2.out.mono ?_
              rintro e w10 ⟨rfl, rfl⟩
              go_wp2_with fail
              go_ret
              exact ⟨rfl, TF.out.below fun k hk => ⟨hk, fun f => f⟩⟩
end Go.Proofs.Yteokdibfdahabaa
