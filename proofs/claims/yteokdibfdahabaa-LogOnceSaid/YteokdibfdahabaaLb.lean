/-
  The chapter's example of layer 19 is true.
-/
import Derived.Test.YteokdibfdahabaaLa
namespace Go.Proofs.Yteokdibfdahabaa
open Go.ChangeShapes Go.WideShapes Go.ChangeAt Go.RowKit
set_option linter.unusedVariables false
def cA : Cf := ⟨1, 1, 1, 1, 1, 1, 9⟩
theorem cA_ok : cA.Ok := ⟨by decide, by decide, by decide, by decide, by decide, by decide, by decide, by decide, by decide, by decide, by decide, by decide, by decide, by decide⟩
def aw1 : LSt := { LSt.zero with tail := LSt.zero.tail + 1, closed := LSt.zero.closed || false }
def aw2 : LSt := { aw1 with X := updI aw1.X ((0 : Nat) : Int) (some (4, 0)) }
def aw3 : LSt := { aw2 with cur := upd aw2.cur 0 (aw2.cur 0 + 1), Y := upd aw2.Y 0 (updI (aw2.Y 0) (aw2.cur 0) (some (some 5))) }
def aw4 : LSt := replied cA aw3 0 3
set_option maxRecDepth 100000 in
set_option maxHeartbeats 2000000 in
theorem log_awake (w : World) : Calls Try.prog 9 #[] w fun e w' => e = .returned (.bool true) ∧ Below w.heap.size w w' := by
  have N0 : Calls Try.prog 10 #[.agg #[.int .i64 1, .int .i64 1, .int .i64 1, .int .i64 1, .int .i64 1, .int .i64 1, .int .i64 9]] w fun e w' => NewPost w w' cA e := new_yes w cA_ok
  have N0 := Lib.hid N0
  go_enter Try.func9, Try.ntmps9
  go_wp2_with fail
  with_reducible refine N0.out.mono ?_
  rintro e w1 ⟨B, rfl, L0, lo, T0⟩
  have ST := Lib.hid (And.intro lo T0)
  have A : Calls Try.prog 22 #[.pointer (some ⟨B.l, 0, none⟩), .int .i64 0, .bool false] w1 fun e w' => e = .returned (.bool true) ∧ LogAt w' B cA aw1 ∧ Turn (B.foot cA.sh) w1 w' := L0.take_yes (t := 0) (cl := false) ⟨rfl, by decide, by decide, by simp⟩ (by decide)
  have A := Lib.hid A
  clear L0 lo T0 N0
  go_wp2_with fail
  with_reducible refine A.out.mono ?_
  rintro e w2 ⟨rfl, L1, T1⟩
  have A : Calls Try.prog 22 #[.pointer (some ⟨B.l, 0, none⟩), .int .i64 1, .bool false] w2 fun e w' => e = .returned (.bool false) ∧ Turn (fun _ => False) w2 w' := L1.take_no (t := 1) (cl := false) (fun h => absurd h.2.2.1 (by decide))
  have A := Lib.hid A
  have LL := Lib.hid (And.intro L1 T1)
  clear L1 T1
  go_wp2_with fail
  with_reducible refine A.out.mono ?_
  rintro e w3 ⟨rfl, T2⟩
  have L1 := LL.out.1.keep T2
  have A : Calls Try.prog 23 #[.pointer (some ⟨B.l, 0, none⟩), .int .i64 0, .agg #[.int .i64 4, .int .i64 0, .int .i64 0, .int .i64 0, .int .i64 0, .int .i64 0, .int .i64 0, .int .i64 0, .int .i64 0, .int .i64 0, .int .i64 0, .slice none 0 0, .int .i64 0, .bool false]] w3 fun e w' => e = .returned (.bool true) ∧ LogAt w' B cA aw2 ∧ Turn (B.foot cA.sh) w3 w' := L1.fill_yes (i := 0) (by decide) (by decide) (by decide) rfl (4, 0)
  have A := Lib.hid A
  have TT := Lib.hid (LL.out.2.trans (T2.more (S' := B.foot cA.sh) (fun _ _ f => f.elim)))
  clear L1 LL T2
  go_wp2_with fail
  with_reducible refine A.out.mono ?_
  rintro e w4 ⟨rfl, L2, T3⟩
  have A := Lib.hid L2.collect_is
  have TT := Lib.hid (TT.out.trans T3)
  have LL := Lib.hid L2
  clear L2 T3
  go_wp2_with fail
  with_reducible refine A.out.mono ?_
  rintro e w5 (⟨_, rfl, T4⟩ | ⟨hr, _⟩)
  · have L2 := LL.out.keep T4
    have TT := Lib.hid (TT.out.trans (T4.more (S' := B.foot cA.sh) (fun _ _ f => f.elim)))
    have LL := Lib.hid L2
    have A := Lib.hid (out_is w5 5)
    clear L2 T4
    go_wp2_with fail
    with_reducible refine A.out.mono ?_
    rintro e w6 ⟨bo, rfl, hov, T5⟩
    have L2 := LL.out.keep T5
    have TT := Lib.hid (TT.out.trans (T5.more (S' := B.foot cA.sh) (fun _ _ f => f.elim)))
    have A : Calls Try.prog 24 #[.pointer (some ⟨B.l, 0, none⟩), .int .i64 0, .agg #[.slice none 0 0, .slice (some ⟨bo, 0, none⟩) 1 1, .slice none 0 0, .slice none 0 0]] w6 fun e w' => (aw2.X (aw2.cur 0) = none ∧ e = .returned (.bool false) ∧ Turn (fun _ => False) w6 w') ∨ ((aw2.X (aw2.cur 0)).isSome = true ∧ e = .returned (.bool true) ∧ LogAt w' B cA aw3 ∧ Turn (B.foot cA.sh) w6 w') := L2.post_is (i := 0) (by decide) rfl (by decide) hov (fun _ => ⟨by decide, by decide, rfl⟩)
    have A := Lib.hid A
    clear L2 T5 hov LL
    go_wp2_with fail
    with_reducible refine A.out.mono ?_
    rintro e w7 (⟨hn, _⟩ | ⟨_, rfl, L3, T6⟩)
    · exact absurd hn (by decide +kernel)
    · have A := Lib.hid L3.collect_is
      have TT := Lib.hid (TT.out.trans T6)
      have LL := Lib.hid L3
      clear L3 T6
      go_wp2_with fail
      with_reducible refine A.out.mono ?_
      rintro e w8 (⟨hr, _⟩ | ⟨_, v, VL, rfl, hTo, T7⟩)
      · exact absurd hr (by decide +kernel)
      · have L3 := LL.out.keep T7
        have A : Calls Try.prog 25 #[.pointer (some ⟨B.l, 0, none⟩), .agg #[.int .i64 0, .int .i64 3, .slice none 0 0]] w8 fun e w' => (readyB cA aw3 = false ∧ e = .returned (.bool false) ∧ Turn (fun _ => False) w8 w') ∨ (readyB cA aw3 = true ∧ e = .returned (.bool true) ∧ LogAt w' B cA aw4 ∧ Turn (B.foot cA.sh) w8 w') := L3.reply_is 0 3 (by decide) (by decide) (fun i hi => by decide +revert)
        have A := Lib.hid A
        have hTo : Told w8 w7.heap.size 1 v aw3 VL := hTo
        obtain ⟨va, vc, rfl, hg⟩ := own_slice hTo.own
        obtain ⟨g, rfl⟩ := hg (by decide)
        obtain ⟨x, hx⟩ : ∃ x, VL[0]? = some x := ⟨_, List.getElem?_eq_getElem (by rw [hTo.len]; decide)⟩
        have hvl : VL = [x] := by
          have hl := hTo.len
          match VL, hl, hx with
          | [y], _, hx => simp at hx; rw [hx]
        have hov := hTo.val 0 x hx
        have ho5 : outAt aw3 0 = some 5 := by decide +kernel
        rw [ho5] at hov
        obtain ⟨bx, cx, rfl, hbc, hbb⟩ := hov
        have hov : OutV w8 (.slice (some ⟨bx, 0, none⟩) 1 cx) (some 5) := ⟨bx, cx, rfl, hbc, hbb⟩
        rw [hvl] at hTo
        have c0 : w8.cell? ⟨g, 0, none⟩ = some (.slice none 0 0) := hTo.own.cellAt 0 (by decide)
        have c1 : w8.cell? ⟨g, 1, none⟩ = some (.slice (some ⟨bx, 0, none⟩) 1 cx) := hTo.own.cellAt 1 (by decide)
        have c2 : w8.cell? ⟨g, 2, none⟩ = some (.slice none 0 0) := hTo.own.cellAt 2 (by decide)
        have c3 : w8.cell? ⟨g, 3, none⟩ = some (.slice none 0 0) := hTo.own.cellAt 3 (by decide)
        have nf : ¬ B.foot cA.sh g := L3.foot_ne (own_blk hTo.own rfl) (by decide) (by decide) (by decide) (by decide) (by decide) (by decide)
        have nf3 := fun b (hb : Blk w8 b 3) => L3.foot_ne hb (by decide) (by decide) (by decide) (by decide) (by decide) (by decide)
        have TT := Lib.hid (TT.out.trans (T7.more (S' := B.foot cA.sh) (fun _ _ f => f.elim)))
        have CC := Lib.hid (And.intro c0 (And.intro c1 (And.intro c2 (And.intro c3 (And.intro nf (And.intro hov nf3))))))
        clear c0 c1 c2 c3 nf nf3 hov hTo hvl hx hbc hbb ho5 L3 LL T7 hg
        go_wp2_with fail
        with_reducible refine A.out.mono ?_
        rintro e w9 (⟨hr, _⟩ | ⟨_, rfl, L4, T8⟩)
        · exact absurd hr (by decide +kernel)
        · have c0 := T8.cell CC.out.2.2.2.2.1 CC.out.1
          have c1 := T8.cell CC.out.2.2.2.2.1 CC.out.2.1
          have c2 := T8.cell CC.out.2.2.2.2.1 CC.out.2.2.1
          have c3 := T8.cell CC.out.2.2.2.2.1 CC.out.2.2.2.1
          have OF := Lib.hid (of_is (CC.out.2.2.2.2.2.1.turn T8 CC.out.2.2.2.2.2.2))
          have TT := Lib.hid (TT.out.trans T8)
          have LL := Lib.hid L4
          clear L4 T8 A
          go_wp2_with fail
          with_reducible refine OF.out.mono ?_
          rintro e w10 ⟨rfl, T9⟩
          have A : Calls Try.prog 22 #[.pointer (some ⟨B.l, 0, none⟩), .int .i64 1, .bool false] w10 fun e w' => e = .returned (.bool true) ∧ LogAt w' B cA _ ∧ Turn (B.foot cA.sh) w10 w' := (LL.out.keep T9).take_yes (t := 1) (cl := false) ⟨by decide +kernel, by decide +kernel, by decide +kernel, by simp⟩ (by decide +kernel)
          have A := Lib.hid A
          have TT := Lib.hid (TT.out.trans (T9.more (S' := B.foot cA.sh) (fun _ _ f => f.elim)))
          clear c0 c1 c2 c3 OF T9
          go_wp2_with fail
          with_reducible refine A.out.mono ?_
          rintro e w11 ⟨rfl, _, T10⟩
          have TF := Lib.hid (ST.out.2.comp (TT.out.trans T10) (S := fun _ => False) (fun j hj e => by have := ST.out.1 j e; omega))
          clear T10
          go_wp2_with fail
          go_ret
          exact ⟨rfl, TF.out.below fun k hk => ⟨hk, fun f => f⟩⟩
  · exact absurd hr (by decide +kernel)
end Go.Proofs.Yteokdibfdahabaa
