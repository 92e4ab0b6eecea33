/-
  The chapter's example of layer 21 is true.
-/
import Derived.Test.YtgfobgabdafclaaGreatWk
namespace Go.Proofs.YtgfobgabdafclaaGreat
open Go.ChangeShapes Go.WideShapes Go.ChangeAt Go.RowKit
set_option linter.unusedVariables false
section
variable {w w' : World} {B : LB} {c : Cf} {s0 : LSt} {el xb sb hb t : Nat} {q : Nat → Int × Int}
theorem RunAt.stepT (h : RunAt w B c s0 el xb sb hb q (t / 7) (t % 7)) (h0 : Fresh s0) (hsh : 1 ≤ c.sh) (hk : t / 7 < c.ib) (hb1 : t / 7 ≤ 1000) (hx : s0.X ((t / 7 : Nat) : Int) = some (q (t / 7))) (h1 : (q (t / 7)).1 ≠ 1) (h2 : (q (t / 7)).1 ≠ 2) (h3 : (q (t / 7)).1 ≠ 3) (hne : ¬ (t % 7 = 6 ∧ (q (t / 7)).1 = 5)) :
    Calls Tryz.prog 30 #[.pointer (some ⟨xb, 0, none⟩)] w fun e w' => e = .returned (.bool true) ∧ RunAt w' B c s0 el xb sb hb q ((t + 1) / 7) ((t + 1) % 7) ∧ Turn (WOwn B c el xb sb hb) w w' := by
  have H := h.step h0 hsh hk hb1 hx h1 h2 h3 (by omega)
  by_cases h6 : t % 7 = 6
  · rw [if_pos ⟨h6, fun e => hne ⟨h6, e⟩⟩] at H
    have e1 : (t + 1) / 7 = t / 7 + 1 := by omega
    have e2 : (t + 1) % 7 = 0 := by omega
    rw [e1, e2]
    exact H
  · rw [if_neg (fun e => h6 e.1)] at H
    have e1 : (t + 1) / 7 = t / 7 := by omega
    have e2 : (t + 1) % 7 = t % 7 + 1 := by omega
    rw [e1, e2]
    exact H
end
theorem qOf_ne (n j : Nat) : (qOf n j).1 ≠ 1 ∧ (qOf n j).1 ≠ 2 ∧ (qOf n j).1 ≠ 3 := by
  unfold qOf
  split <;> decide
def ARel (w : World) (B : LB) (el xb sb hb : Nat) (gh : Nat) (v3 : Value) (wr : World) : Prop :=
  ∃ t : Nat, v3 = .int .i64 (t : Int) ∧ t ≤ 7 ∧ gh = 8 - t ∧ RunAt wr B cW (sI 100 1) el xb sb hb (qOf 100) (t / 7) (t % 7) ∧ Turn (fun _ => False) w wr
set_option maxRecDepth 100000 in
set_option maxHeartbeats 4000000 in
theorem w_awake (w : World) : Calls Tryz.prog 23 #[] w fun e w' => e = .returned (.bool true) ∧ Below w.heap.size w w' := by
  have CF : Calls Tryz.prog 25 #[.agg #[.slice none 0 0, .int .i64 0, .int .i64 0, .int .i64 0, .slice none 0 0, .slice none 0 0]] w fun e w' => e = .returned (.agg #[.int .i64 1, .int .i64 20, .int .i64 20, .int .i64 2, .int .i64 1, .int .i64 9, .int .i64 99]) ∧ Turn (fun _ => False) w w' := config_of w (.inl rfl) rfl
  have CF := Lib.hid CF
  go_enter Tryz.func23, Tryz.ntmps23
  go_wp2_with fail
  with_reducible refine CF.out.mono ?_
  rintro e w1 ⟨rfl, T1⟩
  have N0 : Calls Tryz.prog 24 #[.agg #[.int .i64 1, .int .i64 20, .int .i64 20, .int .i64 2, .int .i64 1, .int .i64 9, .int .i64 99]] w1 fun e w' => NewPost w1 w' cW e := new_yes w1 cW_ok
  have N0 := Lib.hid N0
  have T1 := Lib.hid T1
  clear CF
  go_wp2_with fail
  with_reducible refine N0.out.mono ?_
  rintro e w2 ⟨B, el, rfl, L0, lo, E0, loE, T2⟩
  have NW : Calls Tryz.prog 26 #[.pointer (some ⟨B.l, 0, none⟩), .int .i64 0] w2 (NewW w2 B cW LSt.zero el 0 (fun _ => -1) 0) := L0.worker_new E0 cW_ok (i := 0) (by decide)
  have NW := Lib.hid NW
  have T2 := Lib.hid (T1.out.trans T2)
  have LO := Lib.hid (And.intro lo (And.intro loE T1.out.size))
  clear N0 L0 E0 lo loE T1
  go_wp2_with fail
  with_reducible refine NW.out.mono ?_
  rintro e w3 ⟨xb, sb, hb, rfl, Z3, ⟨lx, ls, lh⟩, T3⟩
  have LW : Hid (∀ k, WOwn B cW el xb sb hb k → w.heap.size ≤ k) := Lib.hid (by
    obtain ⟨lo, ⟨l1, l2⟩, l3⟩ := LO.out
    have := T2.out.size
    rintro k (h | h | h | h | h | h)
    · have := lo k h; omega
    · omega
    · omega
    · omega
    · omega
    · omega)
  have T03 := Lib.hid (T2.out.trans T3)
  have Z3 : WS w3 B cW (sI 100 0) el 0 noP xb sb hb 0 117 true false 0 (0, 0) (-1) := by rw [sI_zero]; exact Z3
  have TK : Calls Tryz.prog 28 #[.pointer (some ⟨B.l, 0, none⟩), .int .i64 0, .bool false] w3 fun e w' => e = .returned (.bool true) ∧ WS w' B cW (sT 100 0) el 0 noP xb sb hb 0 117 true false 0 (0, 0) (-1) ∧ Turn (WOwn B cW el xb sb hb) w3 w' := Z3.taken (by decide)
  have TK := Lib.hid TK
  clear NW Z3 T3 lx ls lh LO T2
  go_wp2_with fail
  with_reducible refine TK.out.mono ?_
  rintro e w4 ⟨rfl, Z4, T4⟩
  have FL : Calls Tryz.prog 29 #[.pointer (some ⟨B.l, 0, none⟩), .int .i64 0, .agg #[.int .i64 4, .int .i64 0, .int .i64 0, .int .i64 0, .int .i64 0, .int .i64 0, .int .i64 0, .int .i64 0, .int .i64 0, .int .i64 0, .int .i64 0, .slice none 0 0, .int .i64 0, .bool false]] w4 fun e w' => e = .returned (.bool true) ∧ WS w' B cW (sI 100 1) el 0 noP xb sb hb 0 117 true false 0 (0, 0) (-1) ∧ Turn (WOwn B cW el xb sb hb) w4 w' := Z4.filled (by decide) rfl
  have FL := Lib.hid FL
  have T04 := Lib.hid (T03.out.comp T4 (S := fun _ => False) (fun j hj e => by have := LW.out j e; omega))
  clear Z4 T4 TK T03
  go_wp2_with fail
  with_reducible refine FL.out.mono ?_
  rintro e w5 ⟨rfl, Z5, T5⟩
  have T05 := T04.out.comp T5 (S := fun _ => False) (fun j hj e => by have := LW.out j e; omega)
  have R0 : ARel w B el xb sb hb 8 (.int .i64 0) w5 := ⟨0, rfl, by decide, rfl, ⟨0, (0, 0), Z5⟩, T05⟩
  clear Z5 T5 FL T05 T04
  go_upto_region 5 with fail
  go_wp2_with fail
  go_loopg [3] 8 (fun gh v3 wr => ARel w B el xb sb hb gh v3 wr)
  case atStart => exact R0
  case round =>
    clear R0
    obtain ⟨t, rfl, ht, hg, hR, hT⟩ := hrel
    have u1 : decide ((t : Int) < 20) = true := decide_eq_true (by omega)
    have GG := Lib.hid (And.intro ht hg)
    have TT := Lib.hid hT
    by_cases h7 : t < 7
    · have hd : t / 7 = 0 := by omega
      have ST := hR.stepT (sI_fresh _ _) (by decide) (by rw [hd]; decide) (by omega) (by rw [hd]; exact sI_at (by decide)) (by exact (qOf_ne _ _).1) (by exact (qOf_ne _ _).2.1) (by exact (qOf_ne _ _).2.2) (by rw [hd]; rintro ⟨_, h⟩; revert h; decide)
      have ST := Lib.hid ST
      have h7 := Lib.hid h7
      have hw1 : wrap64 ((t : Int) + 1) = (t : Int) + 1 := by unfold wrap64; omega
      clear hd hR hT hg ht
      go_wp2_with fail
      with_reducible refine ST.out.mono ?_
      rintro e w6 ⟨rfl, R6, T6⟩
      have T06 := Lib.hid (TT.out.comp T6 (S := fun _ => False) (fun j hj e => by have := LW.out j e; omega))
      have R6 := Lib.hid R6
      clear T6 ST
      go_wp2_with fail
      go_roundg (8 - (t + 1))
      case measure => have := GG.out.1; have := GG.out.2; have := h7.out; omega
      case rel => exact ⟨t + 1, by go_num, by have := h7.out; omega, rfl, R6.out, T06.out⟩
    · obtain rfl : t = 7 := by omega
      have hR : RunAt wr B cW (sI 100 1) el xb sb hb (qOf 100) 1 0 := hR
      have ST := Lib.hid (hR.step_no (sI_fresh _ _) (by decide) (by decide) (sI_no (by decide)))
      clear hR hT hg ht
      go_wp2_with fail
      with_reducible refine ST.out.mono ?_
      rintro e w6 ⟨rfl, R6, T6⟩
      have T06 := Lib.hid (TT.out.trans T6)
      have CU : Calls Tryz.prog 32 #[.pointer (some ⟨B.l, 0, none⟩), .int .i64 0] w6 fun e w' => e = .returned (.int .i64 1) ∧ w6 = w' := R6.cursor_is (sI_fresh _ _) (by decide) (by decide)
      have CU := Lib.hid CU
      have CA := Lib.hid R6.calm_is
      have LE := Lib.hid (R6.left_no (by decide))
      clear R6 T6 ST
      go_wp2_with fail
      with_reducible refine CU.out.mono ?_
      rintro e w7 ⟨rfl, rfl⟩
      go_wp2_with fail
      with_reducible refine CA.out.mono ?_
      rintro e w7 ⟨rfl, rfl⟩
      go_wp2_with fail
      with_reducible refine LE.out.mono ?_
      rintro e w7 ⟨rfl, rfl⟩
      go_wp2_with fail
      go_ret
      exact ⟨rfl, T06.out.below fun k hk => ⟨hk, fun f => f⟩⟩
end Go.Proofs.YtgfobgabdafclaaGreat
