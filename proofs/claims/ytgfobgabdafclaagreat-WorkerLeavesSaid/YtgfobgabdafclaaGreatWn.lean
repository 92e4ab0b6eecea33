/-
  WorkerLeaves: the walk.
-/
import Derived.Test.YtgfobgabdafclaaGreatWm
namespace Go.Proofs.YtgfobgabdafclaaGreat
open Go.ChangeShapes Go.WideShapes Go.ChangeAt Go.RowKit
set_option linter.unusedVariables false
section
variable {w w' : World} {B : LB} {el xb sb hb n N t : Nat}
/-- Where the worker stands behind t steps. -/
def LvAt (w : World) (B : LB) (el xb sb hb n N t : Nat) : Prop :=
  (t < 7 * (n + 1) ∧ RunAt w B cW (sI n N) el xb sb hb (qOf n) (t / 7) (t % 7)) ∨ (t = 7 * (n + 1) ∧ RunAt w B cW (sI n N) el xb sb hb (qOf n) n 7) ∨ (t = 7 * (n + 1) + 1 ∧ RunAt w B cW (sI n N) el xb sb hb (qOf n) n 8)
theorem qOf_n (n : Nat) : (qOf n n).1 = 5 := by unfold qOf; simp
theorem qOf_off {n k : Nat} (h : k ≠ n) : (qOf n k).1 ≠ 5 := by unfold qOf; simp [h]
theorem LvAt.step (h : LvAt w B el xb sb hb n N t) (hN : n < N) (hn : N ≤ 20) (ht : t ≤ 7 * (n + 1)) :
    Calls Tryz.prog 30 #[.pointer (some ⟨xb, 0, none⟩)] w fun e w' => e = .returned (.bool true) ∧ LvAt w' B el xb sb hb n N (t + 1) ∧ Turn (WOwn B cW el xb sb hb) w w' := by
  have hib : cW.ib = 20 := rfl
  rcases h with ⟨h1, R⟩ | ⟨rfl, R⟩ | ⟨h1, _⟩
  · have hk : t / 7 ≤ n := by omega
    have hx := sI_at (n := n) (i := N) (k := t / 7) (by omega)
    by_cases h6 : t % 7 = 6 ∧ t / 7 = n
    · have hq := h6.2
      have H := R.step (sI_fresh _ _) (by decide) (by rw [hib]; omega) (by omega) hx (qOf_ne _ _).1 (qOf_ne _ _).2.1 (qOf_ne _ _).2.2 (by omega)
      rw [if_neg (by rw [hq, qOf_n]; simp), h6.1, hq] at H
      refine H.mono ?_
      rintro e w' ⟨he, R', T⟩
      exact ⟨he, .inr (.inl ⟨by omega, R'⟩), T⟩
    · have H := R.stepT (sI_fresh _ _) (by decide) (by rw [hib]; omega) (by omega) hx (qOf_ne _ _).1 (qOf_ne _ _).2.1 (qOf_ne _ _).2.2 (fun e => h6 ⟨e.1, Classical.byContradiction fun hne => qOf_off hne e.2⟩)
      refine H.mono ?_
      rintro e w' ⟨he, R', T⟩
      exact ⟨he, .inl ⟨by omega, R'⟩, T⟩
  · have H := R.step (sI_fresh _ _) (by decide) (by rw [hib]; omega) (by omega) (sI_at (n := n) (i := N) hN) (qOf_ne _ _).1 (qOf_ne _ _).2.1 (qOf_ne _ _).2.2 (by omega)
    rw [if_neg (by omega)] at H
    refine H.mono ?_
    rintro e w' ⟨he, R', T⟩
    exact ⟨he, .inr (.inr ⟨rfl, R'⟩), T⟩
  · omega
theorem LvAt.end_ (h : LvAt w B el xb sb hb n N t) (ht : t = 7 * (n + 1) + 1) : RunAt w B cW (sI n N) el xb sb hb (qOf n) n 8 := by
  rcases h with ⟨h1, R⟩ | ⟨h1, R⟩ | ⟨h1, R⟩
  · omega
  · omega
  · exact R
theorem LvAt.here (h : LvAt w B el xb sb hb n N t) (ht : t ≤ 7 * (n + 1)) : ∃ k ph, ph < 8 ∧ RunAt w B cW (sI n N) el xb sb hb (qOf n) k ph := by
  rcases h with ⟨h1, R⟩ | ⟨h1, R⟩ | ⟨h1, R⟩
  · exact ⟨_, _, by omega, R⟩
  · exact ⟨_, _, by omega, R⟩
  · omega
end
theorem WS.off_own {w : World} {B : LB} {c : Cf} {s : LSt} {el xb sb hb i f : Nat} {now st last : Int} {P : Nat → Int} {calm left : Bool} {p : Int × Int} (Z : WS w B c s el now P xb sb hb i f calm left st p last) {k : Nat} {t : TypeId} (hb' : Blk w k t)
    (h1 : t ≠ 133) (h2 : t ≠ 216) (h3 : t ≠ 227) (h4 : t ≠ 137) (h5 : t ≠ 219) (h6 : t ≠ 331) (h7 : t ≠ 213) (h8 : t ≠ 372) (h9 : t ≠ 141) (h10 : t ≠ 108) (h11 : t ≠ 223) : ¬ WOwn B c el xb sb hb k := by
  rintro (h | h | h | h | h | h)
  · exact Z.L.foot_ne hb' h1 h2 h3 h4 h5 h6 h
  · exact hb'.ne Z.E.b1 h7 h
  · exact hb'.ne Z.E.b2 h8 h
  · exact hb'.ne Z.X.b h9 h
  · exact hb'.ne Z.S.b h10 h
  · exact hb'.ne Z.H.b h11 h
def L1Rel (w : World) (B : LB) (el xb sb hb n N : Nat) (gh : Nat) (v10 : Value) (wr : World) : Prop :=
  ∃ i : Nat, v10 = .int .i64 (i : Int) ∧ i ≤ N ∧ gh = N - i ∧ WS wr B cW (sI n i) el 0 noP xb sb hb 0 117 true false 0 (0, 0) (-1) ∧ Turn (fun _ => False) w wr
def L2Rel (w : World) (B : LB) (el xb sb hb n N : Nat) (gh : Nat) (v12 : Value) (wr : World) : Prop :=
  ∃ t : Nat, v12 = .int .i64 (t : Int) ∧ t ≤ 7 * (n + 1) + 1 ∧ gh = 7 * (n + 1) + 2 - t ∧ LvAt wr B el xb sb hb n N t ∧ Turn (fun _ => False) w wr
set_option maxRecDepth 100000 in
set_option maxHeartbeats 4000000 in
theorem leaves_walk (a b : Int) (w : World) : Calls Tryz.prog 5 #[.int .i64 a, .int .i64 b] w fun e w' => e = .returned (.bool true) ∧ Below w.heap.size w w' := by
  have AW := Lib.hid (w_awake w)
  go_enter Tryz.func5, Tryz.ntmps5
  go_wp2_with fail
  with_reducible refine AW.out.mono ?_
  rintro e w0 ⟨rfl, b0⟩
  have T0 : Turn (fun _ => False) w w0 := Turn.of_below b0
  have T0 := Lib.hid T0
  have CF : Calls Tryz.prog 25 #[.agg #[.slice none 0 0, .int .i64 0, .int .i64 0, .int .i64 0, .slice none 0 0, .slice none 0 0]] w0 fun e w' => e = .returned (.agg #[.int .i64 1, .int .i64 20, .int .i64 20, .int .i64 2, .int .i64 1, .int .i64 9, .int .i64 99]) ∧ Turn (fun _ => False) w0 w' := config_of w0 (.inl rfl) rfl
  have CF := Lib.hid CF
  clear AW b0
  go_wp2_with fail
  with_reducible refine CF.out.mono ?_
  rintro e w1 ⟨rfl, T1⟩
  have N0 : Calls Tryz.prog 24 #[.agg #[.int .i64 1, .int .i64 20, .int .i64 20, .int .i64 2, .int .i64 1, .int .i64 9, .int .i64 99]] w1 fun e w' => NewPost w1 w' cW e := new_yes w1 cW_ok
  have N0 := Lib.hid N0
  have T1 := Lib.hid (T0.out.trans T1)
  clear CF T0
  go_wp2_with fail
  with_reducible refine N0.out.mono ?_
  rintro e w2 ⟨B, el, rfl, L0, lo, E0, loE, T2⟩
  have NW : Calls Tryz.prog 26 #[.pointer (some ⟨B.l, 0, none⟩), .int .i64 0] w2 (NewW w2 B cW LSt.zero el 0 (fun _ => -1) 0) := L0.worker_new E0 cW_ok (i := 0) (by decide)
  have NW := Lib.hid NW
  have T2 := Lib.hid (T1.out.trans T2)
  have LO := Lib.hid (And.intro lo (And.intro loE T1.out.size))
  clear N0 L0 E0 lo loE T1
  go_wp2_with fail
  with_reducible refine NW.out.mono ?_
  rintro e w3 ⟨xb, sb, hb, rfl, Z3, ⟨lx, ls, lh⟩, T3⟩
  have LW : Hid (∀ k, WOwn B cW el xb sb hb k → w.heap.size ≤ k) := Lib.hid (by
    obtain ⟨lo, ⟨l1, l2⟩, l3⟩ := LO.out
    have := T2.out.size
    rintro k (h | h | h | h | h | h)
    · have := lo k h; omega
    · omega
    · omega
    · omega
    · omega
    · omega)
  have T03 := Lib.hid (T2.out.trans T3)
  have RA : Calls Tryz.prog 27 #[.int .i64 a, .int .i64 10] w3 fun e w' => e = .returned (.int .i64 (restN a 10 : Int)) ∧ w3 = w' := rest_is w3 a (n := 10) (by decide) (by decide)
  have RB : Calls Tryz.prog 27 #[.int .i64 b, .int .i64 6] w3 fun e w' => e = .returned (.int .i64 (restN b 6 : Int)) ∧ w3 = w' := rest_is w3 b (n := 6) (by decide) (by decide)
  have hn9 := restN_lt a (n := 10) (by decide)
  have hm5 := restN_lt b (n := 6) (by decide)
  generalize restN a 10 = n at *
  generalize restN b 6 = m at *
  have RA := Lib.hid RA
  have RB := Lib.hid RB
  have HNM := Lib.hid (And.intro hn9 hm5)
  obtain ⟨N, hN⟩ : ∃ N, N = n + 1 + m := ⟨_, rfl⟩
  have HN := Lib.hid hN
  have Z3 := Lib.hid (show WS w3 B cW (sI n 0) el 0 noP xb sb hb 0 117 true false 0 (0, 0) (-1) from by rw [sI_zero]; exact Z3)
  obtain ⟨a1, ha1⟩ : ∃ a1 : Int, a1 = (n : Int) + 1 := ⟨_, rfl⟩
  have g1 : wrap64 ((n : Int) + 1) = a1 := by rw [ha1]; unfold wrap64; omega
  have g2 : wrap64 (a1 + (m : Int)) = (N : Int) := by rw [ha1, hN]; unfold wrap64; omega
  have G1 := Lib.hid g1
  have G2 := Lib.hid g2
  clear g1 g2
  have HA1 := Lib.hid ha1
  clear NW T3 lx ls lh LO T2 hn9 hm5 hN ha1
  go_wp2_with fail
  with_reducible refine RA.out.mono ?_
  rintro e w4 ⟨rfl, rfl⟩
  go_wp2_with fail
  with_reducible refine RB.out.mono ?_
  rintro e w4 ⟨rfl, rfl⟩
  have R0 : L1Rel w B el xb sb hb n N N (.int .i64 0) w3 := ⟨0, rfl, Nat.zero_le _, rfl, Z3.out, T03.out⟩
  clear RA RB Z3 T03
  go_upto_region 6 with fail
  go_wp2_with fail
  go_loopg [10] N (fun gh v10 wr => L1Rel w B el xb sb hb n N gh v10 wr)
  case atStart => exact R0
  case round =>
    clear R0
    obtain ⟨i, rfl, hi, hg, hZ, hT⟩ := hrel
    have f1 := G1.out
    have f2 := G2.out
    by_cases hin : i < N
    · have u1 : decide ((i : Int) < (N : Int)) = true := decide_eq_true (by omega)
      have u2 : decide (i < N) = true := decide_eq_true hin
      have GG := Lib.hid (And.intro hg hin)
      have TT := Lib.hid hT
      have HZ := Lib.hid hZ
      clear hg hT hZ hin hi
      by_cases hin : i = n
      · have v1 : ((i : Int) == (n : Int)) = true := by simp [hin]
        have hq := Lib.hid hin
        clear hin
        go_upto_region 12 with fail
        obtain ⟨W, hW⟩ : ∃ W, W = wr.alloc (.cells #[.int .i64 5, .int .i64 0, .int .i64 0, .int .i64 0, .int .i64 0, .int .i64 0, .int .i64 0, .int .i64 0, .int .i64 0, .int .i64 0, .int .i64 0, .slice none 0 0, .int .i64 0, .bool false] 60) := ⟨_, rfl⟩
        rw [← hW]
        have TW : Turn (fun _ => False) wr W := by rw [hW]; exact (Turn.refl _ wr).alloc _
        have BW : Blk W wr.heap.size 60 := by rw [hW]; exact Blk.newA rfl
        have RW : W.rangeAt wr.heap.size 0 (cmdL (5, 0)) := by rw [hW]; exact range_new wr (cmdL (5, 0)) 60
        have ZW := HZ.out.same TW
        have no := ZW.off_own BW (by decide) (by decide) (by decide) (by decide) (by decide) (by decide) (by decide) (by decide) (by decide) (by decide) (by decide)
        have hi20 : i < 20 := by have := GG.out.2; have := HN.out; have := HNM.out.1; have := HNM.out.2; omega
        have TK := ZW.taken hi20
        rw [show decide (i = n) = true from by have := hq.out; simp [this]] at TK
        have TK := Lib.hid TK
        have TTW := Lib.hid (TT.out.trans TW)
        have KQ := Lib.hid (And.intro RW no)
        have hkk : (5 : Int) = (qOf n i).1 := by have := hq.out; unfold qOf; simp [this]
        have HK := Lib.hid (And.intro hkk hi20)
        clear hW ZW TW BW RW no hkk hi20
        generalize wr.heap.size = cb at *
        go_wp2_with fail
        with_reducible refine TK.out.mono ?_
        rintro e W2 ⟨rfl, Z2, T2⟩
        have R2 := range_turn KQ.out.1 T2 KQ.out.2
        have FL := Z2.filled HK.out.2 HK.out.1
        have FL : Calls Tryz.prog 29 #[.pointer (some ⟨B.l, 0, none⟩), .int .i64 (i : Int), .agg (cmdL (5, 0)).toArray] W2 fun e w' => e = .returned (.bool true) ∧ WS w' B cW (sI n (i + 1)) el 0 noP xb sb hb 0 117 true false 0 (0, 0) (-1) ∧ Turn (WOwn B cW el xb sb hb) W2 w' := FL
        have z60 : (Tryz.prog.info? 60).map (·.size) = some (cmdL (5, 0)).length := by rw [cmdL_len]; exact size51
        have T02 := Lib.hid (TTW.out.comp T2 (S := fun _ => False) (fun j hj e => by have := LW.out j e; omega))
        generalize cmdL (5, 0) = cs at *
        have FL := Lib.hid FL
        have hw1 : wrap64 ((i : Int) + 1) = (i : Int) + 1 := by have := HK.out.2; unfold wrap64; omega
        clear Z2 T2 TK
        go_upto_region 13 with fail
        go_wp2_with (((with_reducible show wpList _ _ _ ({ dst := some 44, op := Op.load _ _, type := _, pos := _, after := _, guard := _ } :: _) _ _); refine wpList_load_mid rfl 60 _ rfl cb 0 rfl cs _ R2 Tryz.underlying60 rfl z60 ?_))
        with_reducible refine FL.out.mono ?_
        rintro e W3 ⟨rfl, Z3, T3⟩
        have FIN := Lib.hid (And.intro Z3 (T02.out.comp T3 (S := fun _ => False) (fun j hj e => by have := LW.out j e; omega)))
        clear Z3 T3 R2 FL
        go_wp2_with fail
        go_roundg (N - (i + 1))
        case measure => have := GG.out.1; have := GG.out.2; omega
        case rel => exact ⟨i + 1, by go_num, by have := GG.out.2; omega, rfl, FIN.out.1, FIN.out.2⟩
      · have v1 : ((i : Int) == (n : Int)) = false := by simp; omega
        have hq := Lib.hid hin
        clear hin
        go_upto_region 12 with fail
        obtain ⟨W, hW⟩ : ∃ W, W = wr.alloc (.cells #[.int .i64 4, .int .i64 0, .int .i64 0, .int .i64 0, .int .i64 0, .int .i64 0, .int .i64 0, .int .i64 0, .int .i64 0, .int .i64 0, .int .i64 0, .slice none 0 0, .int .i64 0, .bool false] 60) := ⟨_, rfl⟩
        rw [← hW]
        have TW : Turn (fun _ => False) wr W := by rw [hW]; exact (Turn.refl _ wr).alloc _
        have BW : Blk W wr.heap.size 60 := by rw [hW]; exact Blk.newA rfl
        have RW : W.rangeAt wr.heap.size 0 (cmdL (4, 0)) := by rw [hW]; exact range_new wr (cmdL (4, 0)) 60
        have ZW := HZ.out.same TW
        have no := ZW.off_own BW (by decide) (by decide) (by decide) (by decide) (by decide) (by decide) (by decide) (by decide) (by decide) (by decide) (by decide)
        have hi20 : i < 20 := by have := GG.out.2; have := HN.out; have := HNM.out.1; have := HNM.out.2; omega
        have TK := ZW.taken hi20
        rw [show decide (i = n) = false from by have := hq.out; simp [this]] at TK
        have TK := Lib.hid TK
        have TTW := Lib.hid (TT.out.trans TW)
        have KQ := Lib.hid (And.intro RW no)
        have hkk : (4 : Int) = (qOf n i).1 := by have := hq.out; unfold qOf; simp [this]
        have HK := Lib.hid (And.intro hkk hi20)
        clear hW ZW TW BW RW no hkk hi20
        generalize wr.heap.size = cb at *
        go_wp2_with fail
        with_reducible refine TK.out.mono ?_
        rintro e W2 ⟨rfl, Z2, T2⟩
        have R2 := range_turn KQ.out.1 T2 KQ.out.2
        have FL := Z2.filled HK.out.2 HK.out.1
        have FL : Calls Tryz.prog 29 #[.pointer (some ⟨B.l, 0, none⟩), .int .i64 (i : Int), .agg (cmdL (4, 0)).toArray] W2 fun e w' => e = .returned (.bool true) ∧ WS w' B cW (sI n (i + 1)) el 0 noP xb sb hb 0 117 true false 0 (0, 0) (-1) ∧ Turn (WOwn B cW el xb sb hb) W2 w' := FL
        have z60 : (Tryz.prog.info? 60).map (·.size) = some (cmdL (4, 0)).length := by rw [cmdL_len]; exact size51
        have T02 := Lib.hid (TTW.out.comp T2 (S := fun _ => False) (fun j hj e => by have := LW.out j e; omega))
        generalize cmdL (4, 0) = cs at *
        have FL := Lib.hid FL
        have hw1 : wrap64 ((i : Int) + 1) = (i : Int) + 1 := by have := HK.out.2; unfold wrap64; omega
        clear Z2 T2 TK
        go_upto_region 13 with fail
        go_wp2_with (((with_reducible show wpList _ _ _ ({ dst := some 44, op := Op.load _ _, type := _, pos := _, after := _, guard := _ } :: _) _ _); refine wpList_load_mid rfl 60 _ rfl cb 0 rfl cs _ R2 Tryz.underlying60 rfl z60 ?_))
        with_reducible refine FL.out.mono ?_
        rintro e W3 ⟨rfl, Z3, T3⟩
        have FIN := Lib.hid (And.intro Z3 (T02.out.comp T3 (S := fun _ => False) (fun j hj e => by have := LW.out j e; omega)))
        clear Z3 T3 R2 FL
        go_wp2_with fail
        go_roundg (N - (i + 1))
        case measure => have := GG.out.1; have := GG.out.2; omega
        case rel => exact ⟨i + 1, by go_num, by have := GG.out.2; omega, rfl, FIN.out.1, FIN.out.2⟩
    · obtain rfl : i = N := by omega
      have u1 : decide ((i : Int) < (i : Int)) = false := decide_eq_false (by omega)
      have u2 : decide (i < i) = false := decide_eq_false (by omega)
      have R1 : L2Rel w B el xb sb hb n i (7 * (n + 1) + 2) (.int .i64 0) wr := ⟨0, rfl, Nat.zero_le _, by omega, .inl ⟨by omega, ⟨0, (0, 0), hZ⟩⟩, hT⟩
      clear hZ hT hg hi hin
      go_wp2_with fail
      go_loopg [12] (7 * (n + 1) + 2) (fun gh v12 wr => L2Rel w B el xb sb hb n i gh v12 wr)
      case atStart => exact R1
      case round =>
        clear R1 u1 u2 f1 f2
        obtain ⟨t, rfl, ht, hg, hL, hT⟩ := hrel
        have TT := Lib.hid hT
        have GG := Lib.hid (And.intro ht hg)
        by_cases hlt : t ≤ 7 * (n + 1)
        · have ST := Lib.hid (hL.step (by have := HN.out; omega) (by have := HN.out; have := HNM.out.1; have := HNM.out.2; omega) hlt)
          have u1 : decide ((t : Int) < 999) = true := decide_eq_true (by have := HNM.out.1; omega)
          have hw1 : wrap64 ((t : Int) + 1) = (t : Int) + 1 := by have := HNM.out.1; unfold wrap64; omega
          have HT := Lib.hid hlt
          clear hL hT hg ht hlt
          go_wp2_with fail
          with_reducible refine ST.out.mono ?_
          rintro e W1 ⟨rfl, L1, T1⟩
          have T01 := Lib.hid (TT.out.comp T1 (S := fun _ => False) (fun j hj e => by have := LW.out j e; omega))
          clear T1 ST
          by_cases hend : t + 1 = 7 * (n + 1) + 1
          · have RE := L1.end_ hend
            have LE := Lib.hid RE.left_yes
            have CU := Lib.hid RE.cursor_gone
            have HE := Lib.hid hend
            have HL1 := Lib.hid L1
            clear RE hend L1
            go_wp2_with fail
            with_reducible refine LE.out.mono ?_
            rintro e W2 ⟨rfl, rfl⟩
            go_wp2_with fail
            with_reducible refine CU.out.mono ?_
            rintro e W2 ⟨rfl, rfl⟩
            go_wp2_with fail
            with_reducible refine LE.out.mono ?_
            rintro e W2 ⟨rfl, rfl⟩
            go_wp2_with fail
            go_roundg (7 * (n + 1) + 2 - (t + 1))
            case measure => have := GG.out.1; have := GG.out.2; have := HT.out; omega
            case rel => exact ⟨t + 1, by go_num, by have := HE.out; omega, rfl, HL1.out, T01.out⟩
          · have hle : t + 1 ≤ 7 * (n + 1) := by have := HT.out; omega
            obtain ⟨k, ph, h8, RE⟩ := L1.here hle
            have LE := Lib.hid (RE.left_no h8)
            obtain ⟨cu, hcu⟩ : ∃ cu : Nat, (if 5 ≤ ph then k + 1 else k) = cu := ⟨_, rfl⟩
            have CU := RE.cursor_is (sI_fresh _ _) (by decide) h8
            rw [hcu] at CU
            have CU := Lib.hid CU
            have HE := Lib.hid hle
            have HL1 := Lib.hid L1
            have d1 : decide ((cu : Int) < 0) = false := decide_eq_false (by omega)
            clear RE hend hle L1 hcu h8
            go_wp2_with fail
            with_reducible refine LE.out.mono ?_
            rintro e W2 ⟨rfl, rfl⟩
            go_wp2_with fail
            with_reducible refine LE.out.mono ?_
            rintro e W2 ⟨rfl, rfl⟩
            go_wp2_with fail
            with_reducible refine CU.out.mono ?_
            rintro e W2 ⟨rfl, rfl⟩
            go_wp2_with fail
            go_roundg (7 * (n + 1) + 2 - (t + 1))
            case measure => have := GG.out.1; have := GG.out.2; have := HT.out; omega
            case rel => exact ⟨t + 1, by go_num, by have := HE.out; omega, rfl, HL1.out, T01.out⟩
        · have RE := hL.end_ (by omega)
          have LE := Lib.hid RE.left_yes
          have CU := Lib.hid RE.cursor_gone
          have SG := Lib.hid RE.step_gone
          have g1 : wrap64 ((n : Int) + 1) = a1 := G1.out
          obtain ⟨a2, ha2⟩ : ∃ a2 : Int, a2 = 7 * a1 := ⟨_, rfl⟩
          have g2 : wrap64 (7 * a1) = a2 := by have := HNM.out.1; have := HA1.out; rw [← ha2]; unfold wrap64; omega
          have g3 : wrap64 (a2 + 1) = (t : Int) := by have := HNM.out.1; have := HA1.out; unfold wrap64; omega
          clear hL hT hg ht hlt RE ha2
          go_wp2_with fail
          with_reducible refine SG.out.mono ?_
          rintro e W2 ⟨rfl, rfl⟩
          go_wp2_with fail
          with_reducible refine LE.out.mono ?_
          rintro e W2 ⟨rfl, rfl⟩
          go_wp2_with fail
          with_reducible refine SG.out.mono ?_
          rintro e W2 ⟨rfl, rfl⟩
          go_wp2_with fail
          with_reducible refine CU.out.mono ?_
          rintro e W2 ⟨rfl, rfl⟩
          go_wp2_with fail
          go_ret
          exact ⟨rfl, TT.out.below fun k hk => ⟨hk, fun f => f⟩⟩
end Go.Proofs.YtgfobgabdafclaaGreat
