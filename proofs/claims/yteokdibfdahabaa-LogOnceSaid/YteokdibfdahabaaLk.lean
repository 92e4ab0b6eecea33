/-
  Both logs, side by side: what is told of them is the same.
-/
import Derived.Test.YteokdibfdahabaaPa
import Derived.Test.YteokdibfdahabaaLa
namespace Go.Proofs.Yteokdibfdahabaa
open Go.ChangeShapes Go.WideShapes Go.ChangeAt Go.RowKit
set_option linter.unusedVariables false
theorem outCells_at2 : ∀ (l : List Value) (k : Nat) (v : Value), l[k]? = some v → (outCells l)[k * 4]? = some (.slice none 0 0) ∧ (outCells l)[k * 4 + 1]? = some v ∧ (outCells l)[k * 4 + 2]? = some (.slice none 0 0) ∧ (outCells l)[k * 4 + 3]? = some (.slice none 0 0)
  | [], k, v, h => by cases h
  | x :: l, 0, v, h => by
    injection h with h
    subst h
    exact ⟨rfl, rfl, rfl, rfl⟩
  | x :: l, k + 1, v, h => by
    have h : l[k]? = some v := h
    obtain ⟨h0, h1, h2, h3⟩ := outCells_at2 l k v h
    refine ⟨?_, ?_, ?_, ?_⟩
    · rw [show (k + 1) * 4 = k * 4 + 4 by omega]; exact h0
    · rw [show (k + 1) * 4 + 1 = (k * 4 + 1) + 4 by omega]; exact h1
    · rw [show (k + 1) * 4 + 2 = (k * 4 + 2) + 4 by omega]; exact h2
    · rw [show (k + 1) * 4 + 3 = (k * 4 + 3) + 4 by omega]; exact h3
/-- A number that goes up, from another one on. -/
def UpRel (lo : Int) (n : Nat) (w : World) (gh : Nat) (v : Value) (wr : World) : Prop :=
  ∃ j : Nat, v = .int .i64 (lo + (j : Int)) ∧ j ≤ n ∧ gh = n - j ∧ Turn (fun _ => False) w wr
def UpN (n : Nat) (w : World) (gh : Nat) (v : Value) (wr : World) : Prop :=
  ∃ j : Nat, v = .int .i64 (j : Int) ∧ j ≤ n ∧ gh = n - j ∧ Turn (fun _ => False) w wr
section
variable {w : World} {B : LB} {R : RB} {c : Cf} {s : LSt}
theorem Two.cursors (h : Two w B R c s) (a : Int) : ∃ x : Int, (∀ W, Turn (fun _ => False) w W → Calls Try.prog 18 #[.pointer (some ⟨B.l, 0, none⟩), .int .i64 a] W fun e w' => e = .returned (.int .i64 x) ∧ W = w') ∧ (∀ W, Turn (fun _ => False) w W → Calls Try.prog 45 #[.pointer (some ⟨R.r, 0, none⟩), .int .i64 a] W fun e w' => e = .returned (.int .i64 x) ∧ W = w') := by
  have hsh := h.sh
  by_cases hw : IsW c.sh s.left a
  · obtain ⟨i, rfl, hi, hl⟩ := hw
    exact ⟨(s.cur i : Int), fun W T => (h.L.keep T).cursor_yes hi hl, fun W T => (h.D.keep T).cursor_yes (by omega) hi hl⟩
  · exact ⟨-1, fun W T => (h.L.keep T).cursor_no hw, fun W T => (h.D.keep T).cursor_no (by omega) hw⟩
theorem Two.look (h : Two w B R c s) {a : Int} (ha : -1000 ≤ a ∧ a ≤ 1000) : ∃ (x y : Int) (b : Bool), (∀ W, Turn (fun _ => False) w W → Calls Try.prog 19 #[.pointer (some ⟨B.l, 0, none⟩), .int .i64 a] W fun e w' => e = .returned (.tuple #[.agg #[.int .i64 x, .int .i64 0, .int .i64 y, .int .i64 0, .int .i64 0, .int .i64 0, .int .i64 0, .int .i64 0, .int .i64 0, .int .i64 0, .int .i64 0, .slice none 0 0, .int .i64 0, .bool false], .bool b]) ∧ Turn (fun _ => False) W w') ∧ (∀ W, Turn (fun _ => False) w W → Calls Try.prog 46 #[.pointer (some ⟨R.r, 0, none⟩), .int .i64 a] W fun e w' => e = .returned (.tuple #[.agg #[.int .i64 x, .int .i64 0, .int .i64 y, .int .i64 0, .int .i64 0, .int .i64 0, .int .i64 0, .int .i64 0, .int .i64 0, .int .i64 0, .int .i64 0, .slice none 0 0, .int .i64 0, .bool false], .bool b]) ∧ Turn (fun _ => False) W w') :=
  ⟨((s.X a).getD (0, 0)).1, ((s.X a).getD (0, 0)).2, (s.X a).isSome, fun W T => (h.L.keep T).look_is (by omega), fun W T => (h.D.keep T).look_is (h.I.X a)⟩
set_option maxRecDepth 100000 in
set_option maxHeartbeats 16000000 in
theorem Two.looks (h : Two w B R c s) :
    Calls Try.prog 14 #[.pointer (some ⟨B.l, 0, none⟩), .pointer (some ⟨R.r, 0, none⟩)] w fun e w' => e = .returned (.bool true) ∧ Turn (fun _ => False) w w' := by
  have hsh := h.sh
  have htl := h.tail
  have hlt := h.I.lt
  have H := Lib.hid h
  have TI := Lib.hid h.L.tail_is
  have KD := Lib.hid (fun W (T : Turn (fun _ => False) w W) => h.D.keep T)
  obtain ⟨av, cv, hv, _⟩ := own_slice h.D.own
  have C7 := Lib.hid (show ∀ W, Turn (fun _ => False) w W → W.cell? ⟨R.r, 7, none⟩ = some (.slice av s.tail cv) from fun W T => by rw [← hv]; exact (h.D.keep T).k7)
  have C8 := Lib.hid (fun W (T : Turn (fun _ => False) w W) => (h.D.keep T).k8)
  have C9 := Lib.hid (fun W (T : Turn (fun _ => False) w W) => (h.D.keep T).k9)
  clear hv
  go_enter Try.func14, Try.ntmps14
  go_wp2_with fail
  with_reducible refine TI.out.mono ?_
  rintro e W1 ⟨rfl, T1⟩
  have y7 := C7.out W1 T1
  have y8 := C8.out W1 T1
  have y9 := C9.out W1 T1
  have NQ := Lib.hid (fun d : Nat => ((H.out.L.keep (T1.drewN d)).low_is).mono (fun e w' ⟨he, hw⟩ => show e = Ending.returned (.int .i64 (s.low : Int)) ∧ ∃ m, w' = W1.drewN m from ⟨he, d, hw.symm⟩))
  have D1 := Lib.hid (fun d => T1.drewN d)
  clear h hlt htl hsh TI
  dsimp only
  go_wp2_with fail
  go_quiet ((go_at_call 17; exact NQ.out _))
  clear y7 y8 y9 NQ T1
  go_wp2_with fail
  go_loopg [7] 6 (fun gh v7 wr => UpRel (-1) 6 w gh v7 wr)
  case atStart => exact ⟨0, rfl, Nat.zero_le _, rfl, D1.out _⟩
  case round =>
    obtain ⟨j, rfl, hj, hg, T⟩ := hrel
    by_cases hjn : j < 6
    · have u1 : decide (-1 + (j : Int) < 5) = true := decide_eq_true (by omega)
      obtain ⟨x, c1, c2⟩ := H.out.cursors (-1 + (j : Int))
      have A1 := Lib.hid (c1 wr T)
      have A2 := Lib.hid (c2 wr T)
      have GG := Lib.hid (And.intro hg (And.intro hjn T))
      clear c1 c2 hg T hjn hj
      go_wp2_with fail
      with_reducible refine A1.out.mono ?_
      rintro e wz ⟨rfl, rfl⟩
      go_wp2_with fail
      with_reducible refine A2.out.mono ?_
      rintro e wz ⟨rfl, rfl⟩
      go_wp2_with fail
      go_roundg (6 - (j + 1))
      case measure => have := GG.out; omega
      case rel => exact ⟨j + 1, by
        have := GG.out.2.1
        rw [show wrap64 (-1 + (j : Int) + 1) = -1 + ((j + 1 : Nat) : Int) by unfold wrap64; omega], by have := GG.out; omega, rfl, GG.out.2.2⟩
    · have u1 : decide (-1 + (j : Int) < 5) = false := decide_eq_false (by omega)
      have htl := H.out.tail
      have hlt := H.out.I.lt
      have e3 : wrap64 ((s.low : Int) - 2) = (s.low : Int) - 2 := by unfold wrap64; omega
      have E3 := Lib.hid e3
      have TT := Lib.hid T
      have y9 := C9.out wr T
      clear hg T hjn hj htl hlt
      go_wp2_with fail
      clear y9
      rw [E3.out]
      clear e3
      go_loopg [8] (s.tail - s.low + 4) (fun gh v8 wr => UpRel ((s.low : Int) - 2) (s.tail - s.low + 4) w gh v8 wr)
      case atStart => exact ⟨0, by simp, Nat.zero_le _, rfl, TT.out⟩
      case round =>
        clear TT
        obtain ⟨j, rfl, hj, hg, T⟩ := hrel
        have htl := H.out.tail
        have hlt := H.out.I.lt
        have y7 := C7.out wr T
        have e4 : wrap64 ((s.tail : Int) + 2) = (s.tail : Int) + 2 := by unfold wrap64; omega
        by_cases hjn : j < s.tail - s.low + 4
        · have u2 : decide ((s.low : Int) - 2 + (j : Int) < (s.tail : Int) + 2) = true := decide_eq_true (by omega)
          obtain ⟨x, y, bb, c1, c2⟩ := H.out.look (a := (s.low : Int) - 2 + (j : Int)) (by omega)
          have A1 := Lib.hid (c1 wr T)
          have A2 := Lib.hid c2
          have GG := Lib.hid (And.intro hg hjn)
          have BD := Lib.hid (And.intro htl hlt)
          have TW := Lib.hid T
          clear c1 c2 hg hjn hj T htl hlt
          go_wp2_with fail
          with_reducible refine A1.out.mono ?_
          rintro e W2 ⟨rfl, T2⟩
          dsimp only
          go_upto_region 13 with fail
          have TX : Turn (fun _ => False) w (W2.alloc (.cells #[.int .i64 x, .int .i64 0, .int .i64 y, .int .i64 0, .int .i64 0, .int .i64 0, .int .i64 0, .int .i64 0, .int .i64 0, .int .i64 0, .int .i64 0, .slice none 0 0, .int .i64 0, .bool false] 51)) := (TW.out.trans T2).alloc _
          have RX : (W2.alloc (.cells #[.int .i64 x, .int .i64 0, .int .i64 y, .int .i64 0, .int .i64 0, .int .i64 0, .int .i64 0, .int .i64 0, .int .i64 0, .int .i64 0, .int .i64 0, .slice none 0 0, .int .i64 0, .bool false] 51)).rangeAt W2.heap.size 0 [.int .i64 x, .int .i64 0, .int .i64 y, .int .i64 0, .int .i64 0, .int .i64 0, .int .i64 0, .int .i64 0, .int .i64 0, .int .i64 0, .int .i64 0, .slice none 0 0, .int .i64 0, .bool false] := range_new W2 _ 51
          generalize W2.alloc (.cells #[.int .i64 x, .int .i64 0, .int .i64 y, .int .i64 0, .int .i64 0, .int .i64 0, .int .i64 0, .int .i64 0, .int .i64 0, .int .i64 0, .int .i64 0, .slice none 0 0, .int .i64 0, .bool false] 51) = X at *
          generalize W2.heap.size = b9 at *
          have A3 := Lib.hid (A2.out X TX)
          clear A1 A2 T2 y7
          go_wp2_with fail
          with_reducible refine A3.out.mono ?_
          rintro e W4 ⟨rfl, T4⟩
          dsimp only
          go_upto_region 14 with fail
          have TZ : Turn (fun _ => False) W4 (W4.alloc (.cells #[.int .i64 x, .int .i64 0, .int .i64 y, .int .i64 0, .int .i64 0, .int .i64 0, .int .i64 0, .int .i64 0, .int .i64 0, .int .i64 0, .int .i64 0, .slice none 0 0, .int .i64 0, .bool false] 51)) := (Turn.refl _ W4).alloc _
          have RZ := range_turn (range_turn RX T4 (fun f => f)) TZ (fun f => f)
          have RW : (W4.alloc (.cells #[.int .i64 x, .int .i64 0, .int .i64 y, .int .i64 0, .int .i64 0, .int .i64 0, .int .i64 0, .int .i64 0, .int .i64 0, .int .i64 0, .int .i64 0, .slice none 0 0, .int .i64 0, .bool false] 51)).rangeAt W4.heap.size 0 [.int .i64 x, .int .i64 0, .int .i64 y, .int .i64 0, .int .i64 0, .int .i64 0, .int .i64 0, .int .i64 0, .int .i64 0, .int .i64 0, .int .i64 0, .slice none 0 0, .int .i64 0, .bool false] := range_new W4 _ 51
          have FT := Lib.hid (TX.trans (T4.trans TZ))
          generalize W4.alloc (.cells #[.int .i64 x, .int .i64 0, .int .i64 y, .int .i64 0, .int .i64 0, .int .i64 0, .int .i64 0, .int .i64 0, .int .i64 0, .int .i64 0, .int .i64 0, .slice none 0 0, .int .i64 0, .bool false] 51) = Z at *
          generalize W4.heap.size = b11 at *
          have p0 : Z.cell? ⟨b9, 0, none⟩ = some (.int .i64 x) := RZ 0 _ rfl
          have p2 : Z.cell? ⟨b9, 2, none⟩ = some (.int .i64 y) := RZ 2 _ rfl
          have q0 : Z.cell? ⟨b11, 0, none⟩ = some (.int .i64 x) := RW 0 _ rfl
          have q2 : Z.cell? ⟨b11, 2, none⟩ = some (.int .i64 y) := RW 2 _ rfl
          clear TX RX A3 T4 TZ RZ RW
          go_wp2_with fail
          go_roundg (s.tail - s.low + 4 - (j + 1))
          case measure => have := GG.out; omega
          case rel => exact ⟨j + 1, by
            have := GG.out.2
            have := BD.out
            rw [show wrap64 ((s.low : Int) - 2 + (j : Int) + 1) = (s.low : Int) - 2 + ((j + 1 : Nat) : Int) by unfold wrap64; omega], by have := GG.out; omega, rfl, FT.out⟩
        · have u2 : decide ((s.low : Int) - 2 + (j : Int) < (s.tail : Int) + 2) = false := decide_eq_false (by omega)
          have CO := Lib.hid ((H.out.L.keep T).collect_is)
          have CR := Lib.hid (fun W (T' : Turn (fun _ => False) wr W) => (KD.out W (T.trans T')).collect_is (by have := H.out.sh; omega) (H.out.I.X _))
          have TT := Lib.hid T
          clear hg T hjn hj htl hlt
          go_wp2_with fail
          with_reducible refine CO.out.mono ?_
          rintro e W5 (⟨hr, rfl, T5⟩ | ⟨hr, v, VL, rfl, hTo, T5⟩)
          · have CR := Lib.hid (CR.out W5 T5)
            have HR := Lib.hid hr
            have T5 := Lib.hid T5
            clear hr
            dsimp only
            go_wp2_with fail
            with_reducible refine CR.out.mono ?_
            rintro e W6 (⟨hr, rfl, T6⟩ | ⟨hr, rfl, T6⟩)
            · have T6 := Lib.hid ((TT.out.trans T5.out).trans T6)
              clear hr y7 CR CO
              dsimp only
              go_wp2_with fail
              go_loopg [17] 0 (fun gh v17 wr => UpN 0 w gh v17 wr)
              case atStart => exact ⟨0, rfl, Nat.zero_le _, rfl, T6.out⟩
              case round =>
                obtain ⟨i, rfl, hi, hg, T⟩ := hrel
                obtain rfl : i = 0 := by omega
                have FT := Lib.hid T
                clear T6 T hg hi
                go_wp2_with fail
                go_ret
                exact ⟨rfl, FT.out⟩
            · rw [HR.out] at hr
              cases hr
          · have CR := Lib.hid (CR.out W5 T5)
            have HR := Lib.hid hr
            have HTo := Lib.hid hTo
            obtain ⟨aa, ac, rfl, _⟩ := own_slice hTo.own
            have T5 := Lib.hid T5
            clear hr hTo
            dsimp only
            go_wp2_with fail
            with_reducible refine CR.out.mono ?_
            rintro e W6 (⟨hr, rfl, T6⟩ | ⟨hr, rfl, T6⟩)
            · rw [HR.out] at hr
              cases hr
            · have hlow : s.low < s.tail := by have := H.out.I.X _ (allTold_some hr); have := this.2.1; omega
              have OUTS := Lib.hid ((KD.out W5 (TT.out.trans T5.out)).outs s.low hlow (Nat.le_refl _))
              have T56 := Lib.hid T6
              have T06 := Lib.hid ((TT.out.trans T5.out).trans T6)
              have hsh2 := H.out.sh
              clear hr y7 CR CO T6 hlow
              generalize (R.D s.low).ob = gb at *
              dsimp only
              go_wp2_with fail
              go_loopg [17] c.sh (fun gh v17 wr => ∃ i : Nat, v17 = .int .i64 (i : Int) ∧ i ≤ c.sh ∧ gh = c.sh - i ∧ Turn (fun _ => False) W6 wr)
              case atStart => exact ⟨0, rfl, Nat.zero_le _, rfl, Turn.refl _ W6⟩
              case round =>
                obtain ⟨i, rfl, hi, hg, T⟩ := hrel
                by_cases hin : i < c.sh
                · have u3 : decide ((i : Int) < (c.sh : Int)) = true := decide_eq_true (by omega)
                  have u4 : decide (i < c.sh) = true := decide_eq_true hin
                  obtain ⟨x, hx⟩ : ∃ x, VL[i]? = some x := ⟨_, List.getElem?_eq_getElem (by rw [HTo.out.len]; exact hin)⟩
                  have ov := HTo.out.val i x hx
                  obtain ⟨xa, xn, xc, rfl⟩ := ov.slice
                  obtain ⟨o0, o1, o2, o3⟩ := outCells_at2 VL i _ hx
                  obtain ⟨ya, yn, yc, yr, yv⟩ := OUTS.out i hin
                  have yv : OutV W5 (.slice ya yn yc) (outAt s i) := yv
                  have hown := HTo.out.own
                  obtain ⟨ga, rfl⟩ : ∃ ga, aa = some ⟨ga, 0, none⟩ := by
                    rcases hown.2 with ⟨h1, h2⟩ | ⟨g, cap, cur, h1, _⟩
                    · omega
                    · injection h1 with h1 _ _
                      exact ⟨g, h1⟩
                  have z0 := (hown.cellAt (i * 4) (by omega)).trans o0
                  have z1 := (hown.cellAt (i * 4 + 1) (by omega)).trans o1
                  have z2 := (hown.cellAt (i * 4 + 2) (by omega)).trans o2
                  have z3 := (hown.cellAt (i * 4 + 3) (by omega)).trans o3
                  have TW := T56.out.trans T
                  have K8 := Lib.hid (show ∀ W, Turn (fun _ => False) wr.drew W → W.cell? ⟨ga, i * 4, none⟩ = some (.slice none 0 0) ∧ W.cell? ⟨ga, i * 4 + 1, none⟩ = some (.slice xa xn xc) ∧ W.cell? ⟨ga, i * 4 + 2, none⟩ = some (.slice none 0 0) ∧ W.cell? ⟨ga, i * 4 + 3, none⟩ = some (.slice none 0 0) ∧ W.cell? ⟨gb, i * 4, none⟩ = some (.slice none 0 0) ∧ W.cell? ⟨gb, i * 4 + 1, none⟩ = some (.slice ya yn yc) ∧ W.cell? ⟨gb, i * 4 + 2, none⟩ = some (.slice none 0 0) ∧ W.cell? ⟨gb, i * 4 + 3, none⟩ = some (.slice none 0 0) from fun W T' => by
                    have TZ := (TW.trans ((Turn.refl _ wr).drewN 1)).trans T'
                    exact ⟨TZ.cell (fun f => f) z0, TZ.cell (fun f => f) z1, TZ.cell (fun f => f) z2, TZ.cell (fun f => f) z3, TZ.cell (fun f => f) (yr 0 _ rfl), TZ.cell (fun f => f) (yr 1 _ rfl), TZ.cell (fun f => f) (yr 2 _ rfl), TZ.cell (fun f => f) (yr 3 _ rfl)⟩)
                  have O1 := Lib.hid (fun W (T' : Turn (fun _ => False) wr.drew W) => of_is (ov.turn ((TW.trans ((Turn.refl (fun _ => False) wr).drewN 1)).trans T') (fun _ _ f => f)))
                  have O2 := Lib.hid (fun W (T' : Turn (fun _ => False) wr.drew W) => of_is (yv.turn ((TW.trans ((Turn.refl (fun _ => False) wr).drewN 1)).trans T') (fun _ _ f => f)))
                  have GG := Lib.hid (And.intro hg (And.intro hin (T.drewN 1)))
                  have j0 : (0 : Int) ≤ (i : Int) := by omega
                  have j1 : (i : Int) < (c.sh : Int) := by omega
                  have T0 : Turn (fun _ => False) wr.drew wr.drew := Turn.refl _ _
                  clear ov o0 o1 o2 o3 yr yv hown z0 z1 z2 z3 TW hg hin hi T hx
                  go_wp2_with fail
                  go_upto_region 23 with fail
                  refine wp_region_held_drew (S := (fun w' => w'.cell? ⟨ga, i * 4, none⟩ = some (.slice none 0 0) ∧ w'.cell? ⟨ga, i * 4 + 1, none⟩ = some (.slice xa xn xc) ∧ w'.cell? ⟨ga, i * 4 + 2, none⟩ = some (.slice none 0 0) ∧ w'.cell? ⟨ga, i * 4 + 3, none⟩ = some (.slice none 0 0) ∧ w'.cell? ⟨gb, i * 4, none⟩ = some (.slice none 0 0) ∧ w'.cell? ⟨gb, i * 4 + 1, none⟩ = some (.slice ya yn yc) ∧ w'.cell? ⟨gb, i * 4 + 2, none⟩ = some (.slice none 0 0) ∧ w'.cell? ⟨gb, i * 4 + 3, none⟩ = some (.slice none 0 0))) (by kernel_rfl) ?hs0 (fun hS0 => ?_)
                  case hs0 => ((try dsimp only); first | with_reducible exact K8.out _ T0 | with_reducible exact K8.out _ T1 | with_reducible exact K8.out _ T2 | exact K8.out _ T0 | exact K8.out _ T1 | exact K8.out _ T2)
                  refine wpAnyH_take (i := 0) (oi := { dst := some 128, op := Op.move (Operand.tmp 13), type := 74, pos := "law.go:100", after := #[], guard := none }) (v := ?_) rfl (by kernel_rfl) (by kernel_rfl) (by kernel_rfl) (fun _ _ _ h => h) (Or.inl ⟨by rfl, ?hy1⟩) hS0 ?_
                  case hy1 => (intro w hSw; (try dsimp only at hSw); go_simp; try with_reducible rfl)
                  try simp only [Act.put, List.setIfInBounds_toArray, List.set_cons_zero, List.set_cons_succ]
                  refine wpAnyH_take (i := 1) (oi := { dst := some 129, op := Op.move (Operand.tmp 17), type := 3, pos := "law.go:100", after := #[], guard := none }) (v := ?_) rfl (by kernel_rfl) (by kernel_rfl) (by kernel_rfl) (fun _ _ _ h => h) (Or.inl ⟨by rfl, ?hy2⟩) hS0 ?_
                  case hy2 => (intro w hSw; (try dsimp only at hSw); go_simp; try with_reducible rfl)
                  try simp only [Act.put, List.setIfInBounds_toArray, List.set_cons_zero, List.set_cons_succ]
                  refine wpAnyH_take (i := 2) (oi := { dst := some 130, op := Op.indexAddr 74 (Operand.tmp 128) (Operand.tmp 129), type := 0, pos := "law.go:100", after := #[{ on := 0, ground := Ground.data }, { on := 1, ground := Ground.data }], guard := none }) (v := ?_) rfl (by kernel_rfl) (by kernel_rfl) (by kernel_rfl) (fun _ _ _ h => h) (Or.inl ⟨by rfl, ?hy3⟩) hS0 ?_
                  case hy3 => (intro w hSw; (try dsimp only at hSw); go_simp; try with_reducible rfl)
                  try simp only [Act.put, List.setIfInBounds_toArray, List.set_cons_zero, List.set_cons_succ]
                  refine wpAnyH_take (i := 3) (oi := { dst := some 131, op := Op.load 62 (Operand.tmp 130), type := 62, pos := "law.go:100", after := #[{ on := 2, ground := Ground.data }], guard := none }) (v := ?_) rfl (by kernel_rfl) (by kernel_rfl) (by kernel_rfl) (fun _ _ _ h => h) (Or.inl ⟨by rfl, ?hy4⟩) hS0 ?_
                  case hy4 => (intro w hSw; (try dsimp only at hSw); go_simp; try with_reducible rfl)
                  try simp only [Act.put, List.setIfInBounds_toArray, List.set_cons_zero, List.set_cons_succ]
                  refine wpAnyH_take (i := 5) (oi := { dst := some 133, op := Op.move (Operand.tmp 15), type := 74, pos := "law.go:100", after := #[], guard := none }) (v := ?_) rfl (by kernel_rfl) (by kernel_rfl) (by kernel_rfl) (fun _ _ _ h => h) (Or.inl ⟨by rfl, ?hy5⟩) hS0 ?_
                  case hy5 => (intro w hSw; (try dsimp only at hSw); go_simp; try with_reducible rfl)
                  try simp only [Act.put, List.setIfInBounds_toArray, List.set_cons_zero, List.set_cons_succ]
                  refine wpAnyH_take (i := 6) (oi := { dst := some 134, op := Op.move (Operand.tmp 17), type := 3, pos := "law.go:100", after := #[], guard := none }) (v := ?_) rfl (by kernel_rfl) (by kernel_rfl) (by kernel_rfl) (fun _ _ _ h => h) (Or.inl ⟨by rfl, ?hy6⟩) hS0 ?_
                  case hy6 => (intro w hSw; (try dsimp only at hSw); go_simp; try with_reducible rfl)
                  try simp only [Act.put, List.setIfInBounds_toArray, List.set_cons_zero, List.set_cons_succ]
                  refine wpAnyH_take (i := 7) (oi := { dst := some 135, op := Op.indexAddr 74 (Operand.tmp 133) (Operand.tmp 134), type := 0, pos := "law.go:100", after := #[{ on := 5, ground := Ground.data }, { on := 6, ground := Ground.data }], guard := none }) (v := ?_) rfl (by kernel_rfl) (by kernel_rfl) (by kernel_rfl) (fun _ _ _ h => h) (Or.inl ⟨by rfl, ?hy7⟩) hS0 ?_
                  case hy7 => (intro w hSw; (try dsimp only at hSw); go_simp; try with_reducible rfl)
                  try simp only [Act.put, List.setIfInBounds_toArray, List.set_cons_zero, List.set_cons_succ]
                  refine wpAnyH_take (i := 8) (oi := { dst := some 136, op := Op.load 62 (Operand.tmp 135), type := 62, pos := "law.go:100", after := #[{ on := 7, ground := Ground.data }], guard := none }) (v := ?_) rfl (by kernel_rfl) (by kernel_rfl) (by kernel_rfl) (fun _ _ _ h => h) (Or.inl ⟨by rfl, ?hy8⟩) hS0 ?_
                  case hy8 => (intro w hSw; (try dsimp only at hSw); go_simp; try with_reducible rfl)
                  try simp only [Act.put, List.setIfInBounds_toArray, List.set_cons_zero, List.set_cons_succ]
                  refine wpAnyH_ready (rs := [4]) (by kernel_rfl) (by simp) ?_
                  refine AllReadyH.cons (o := { dst := some 132, op := Op.call { callee := Callee.value (Operand.func 30), args := #[Operand.tmp 131], argTypes := #[62] }, type := 3, pos := "law.go:100", after := #[{ on := 3, ground := Ground.data }], guard := none }) rfl (fun K hK => ?_) ?_
                  · go_simp; with_reducible refine (O1.out _ T0).mono ?_; rintro en W1 ⟨rfl, T01⟩; have T1 := T0.trans T01; go_simp
                    refine hK.out _ _ ?hs9 (fun hS9 => ?_)
                    case hs9 => ((try dsimp only); first | with_reducible exact K8.out _ T0 | with_reducible exact K8.out _ T1 | with_reducible exact K8.out _ T2 | exact K8.out _ T0 | exact K8.out _ T1 | exact K8.out _ T2)
                    clear hK K hS0
                    refine wpAnyH_ready (rs := [9]) (by kernel_rfl) (by simp) ?_
                    refine AllReadyH.cons (o := { dst := some 137, op := Op.call { callee := Callee.value (Operand.func 30), args := #[Operand.tmp 136], argTypes := #[62] }, type := 3, pos := "law.go:100", after := #[{ on := 8, ground := Ground.data }, { on := 4, ground := Ground.chain }], guard := none }) rfl (fun K hK => ?_) ?_
                    · go_simp; with_reducible refine (O2.out _ T1).mono ?_; rintro en W2 ⟨rfl, T12⟩; have T2 := T1.trans T12; go_simp
                      refine hK.out _ _ ?hs10 (fun hS10 => ?_)
                      case hs10 => ((try dsimp only); first | with_reducible exact K8.out _ T0 | with_reducible exact K8.out _ T1 | with_reducible exact K8.out _ T2 | exact K8.out _ T0 | exact K8.out _ T1 | exact K8.out _ T2)
                      clear hK K hS9
                      refine wpAnyH_take (i := 10) (oi := { dst := some 138, op := Op.binOp BinOp.neq 3 (Operand.tmp 132) (Operand.tmp 137) 3, type := 4, pos := "law.go:100", after := #[{ on := 4, ground := Ground.data }, { on := 9, ground := Ground.data }], guard := none }) (v := ?_) rfl (by kernel_rfl) (by kernel_rfl) (by kernel_rfl) (fun _ _ _ h => h) (Or.inl ⟨by rfl, ?hy11⟩) hS10 ?_
                      case hy11 => (intro w hSw; (try dsimp only at hSw); go_simp; try with_reducible rfl)
                      try simp only [Act.put, List.setIfInBounds_toArray, List.set_cons_zero, List.set_cons_succ]
                      refine wpAnyH_done (by kernel_rfl) ?_ _
                      go_wp2_with fail
                      go_roundg (c.sh - (i + 1))
                      case measure => have := GG.out; omega
                      case rel => exact ⟨i + 1, by go_num, by have := GG.out; omega, rfl, GG.out.2.2.trans T2⟩
                    exact AllReadyH.nil
                  exact AllReadyH.nil
                · obtain rfl : i = c.sh := by omega
                  have u3 : decide ((c.sh : Int) < (c.sh : Int)) = false := decide_eq_false (by omega)
                  have u4 : decide (c.sh < c.sh) = false := decide_eq_false (by omega)
                  have FT := Lib.hid (T06.out.trans T)
                  clear T hg hi hin
                  go_wp2_with fail
                  go_ret
                  exact ⟨rfl, FT.out⟩
end
end Go.Proofs.Yteokdibfdahabaa
