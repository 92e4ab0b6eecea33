/-
  Rules name what there is.
-/
import Derived.Test.YtfidnahbhomomaaSc
namespace Go.Proofs.Ytfidnahbhomomaa
open Go.ChangeShapes Go.WideShapes Go.ChangeAt Go.RowKit
set_option linter.unusedVariables false
set_option linter.unusedSimpArgs false
set_option maxRecDepth 100000 in
set_option maxHeartbeats 8000000 in
theorem ruled_up {w : World} {v : Value} {l : List Rul} {P : Int → Prop} (h : RulesAt w v l) (ok : RulesOk P l) (cp1 : Value) (hf : ∀ p, P p → ∀ U, Turn (fun _ => False) w U → Calls Try.prog 50 #[.int .i64 p, cp1] U fun e w' => e = .returned (.bool true) ∧ U = w') :
    Calls Try.prog 52 #[v, .func (.func 50) #[] #[cp1]] w fun e w' => e = .returned (.bool true) ∧ Turn (fun _ => False) w w' := by
  obtain ⟨a, b, off, cap, rfl, ha, hx⟩ := h
  have FF := Lib.hid (And.intro ha (And.intro hx (And.intro ok hf)))
  have R0 : RgRel w l.length l.length (.int .i64 0) w := ⟨0, rfl, Nat.zero_le _, rfl, Turn.refl _ _⟩
  clear ha hx ok hf
  go_enter Try.func52, Try.ntmps52
  go_wp2_with fail
  go_loopg [6, 8, 10, 13] l.length (fun gh v6 v8 v10 v13 wr => RgRel w l.length gh v13 wr)
  case atStart => exact R0
  case round =>
    clear R0
    obtain ⟨k, rfl, hk, hgk, TV⟩ := hrel
    obtain ⟨ha, hx, ok, hf⟩ := FF.out
    by_cases hkl : k < l.length
    · obtain ⟨r, hr⟩ : ∃ r, l[k]? = some r := ⟨_, List.getElem?_eq_getElem hkl⟩
      obtain rfl := ha.resolve_left (fun e => by rw [e] at hkl; exact absurd hkl (Nat.not_lt_zero k))
      obtain ⟨lv, rv, hc, hlc, hrc⟩ := hx k r hr
      obtain ⟨⟨op1, op6⟩, okl, okr⟩ := ok.2 r (List.mem_of_getElem? hr)
      have hc2 := range_turn hc TV id
      have y0 := hc2 0 _ rfl
      have y1 := hc2 1 _ rfl
      have y2 := hc2 2 _ rfl
      rw [Nat.add_zero] at y0
      obtain ⟨la, lcap, rfl⟩ := hlc.sl
      obtain ⟨ra, rcap, rfl⟩ := hrc.sl
      have u1 : decide ((k : Int) < (l.length : Int)) = true := decide_eq_true (Int.ofNat_lt.2 hkl)
      have u2 : decide (k < l.length) = true := decide_eq_true hkl
      have k0 : (0 : Int) ≤ (k : Int) := Int.natCast_nonneg k
      have k1 : (k : Int) < (l.length : Int) := Int.ofNat_lt.2 hkl
      have ek := wrapR hkl ok.1
      have t1 : decide (r.op < 1) = false := decide_eq_false (Int.not_lt.2 op1)
      have t2 : decide ((6 : Int) < r.op) = false := decide_eq_false (Int.not_lt.2 op6)
      obtain ⟨W1, hW1⟩ : ∃ W1, W1 = wr.alloc (.cells #[.int .i64 r.op, .slice la r.left.length lcap, .slice ra r.right.length rcap] 68) := ⟨_, rfl⟩
      have T1 : Turn (fun _ => False) wr W1 := by rw [hW1]; exact (Turn.refl _ wr).alloc _
      have rg : W1.rangeAt wr.heap.size 0 [.int .i64 r.op, .slice la r.left.length lcap, .slice ra r.right.length rcap] := by rw [hW1]; exact range_new wr [.int .i64 r.op, .slice la r.left.length lcap, .slice ra r.right.length rcap] 68
      have c0 := rg 0 _ rfl
      have c1 := rg 1 _ rfl
      have c2 := rg 2 _ rfl
      rw [Nat.zero_add] at c1 c2
      obtain ⟨W2, hW2⟩ : ∃ W2, W2 = W1.alloc (.cells #[.slice la r.left.length lcap, .slice ra r.right.length rcap] 66) := ⟨_, rfl⟩
      have T2 : Turn (fun _ => False) W1 W2 := by rw [hW2]; exact (Turn.refl _ W1).alloc _
      have ag : W2.rangeAt W1.heap.size 0 [.slice la r.left.length lcap, .slice ra r.right.length rcap] := by rw [hW2]; exact range_new W1 [.slice la r.left.length lcap, .slice ra r.right.length rcap] 66
      have TW2 := (TV.trans T1).trans T2
      have MID := Lib.hid (show ∀ (j : Nat) (wm : World), j < 2 → Turn (fun _ => False) W2 wm → ∃ ca cap cl, wm.cell? ⟨W1.heap.size, j, none⟩ = some (.slice ca cl.length cap) ∧ CodesAt wm (.slice ca cl.length cap) cl ∧ CodesOk P cl from fun j wm hj Tm => by
        have h2 : j = 0 ∨ j = 1 := by omega
        rcases h2 with rfl | rfl
        · exact ⟨la, lcap, r.left, by have := Tm.cell id (ag 0 _ rfl); exact this, hlc.turn (TW2.trans Tm), okl⟩
        · exact ⟨ra, rcap, r.right, by have := Tm.cell id (ag 1 _ rfl); rw [Nat.zero_add] at this; exact this, hrc.turn (TW2.trans Tm), okr⟩)
      have M0 : RgRel W2 2 2 (.int .i64 0) W2 := ⟨0, rfl, Nat.zero_le _, rfl, Turn.refl _ _⟩
      have STEP := Lib.hid (show ∀ U, Turn (fun _ => False) W2 U → RgRel w l.length (l.length - (k + 1)) (.int .i64 ((k : Int) + 1)) U from fun U TU => ⟨k + 1, congrArg (Value.int .i64) (Int.natCast_succ k).symm, hkl, rfl, TW2.trans TU⟩)
      have G := Lib.hid (And.intro hgk hkl)
      have HF := Lib.hid (show ∀ p, P p → ∀ U, Turn (fun _ => False) W2 U → Calls Try.prog 50 #[.int .i64 p, cp1] U fun e w' => e = .returned (.bool true) ∧ U = w' from fun p hp U TU => hf p hp U (TW2.trans TU))
      have HW1 := Lib.hid hW1
      have HW2 := Lib.hid hW2
      clear hk hgk TV ok hf hkl hr hx hc hlc hrc op1 op6 okl okr hc2 T1 rg T2 ag TW2 hW1 hW2 ha
      go_upto_region 4 with fail
      rw [← HW1.out]
      clear y0 y1 y2 HW1
      go_upto_region 7 with fail
      rw [← HW2.out]
      clear c0 c1 c2 HW2 t1 t2
      go_wp2_with fail
      generalize W1.heap.size = ab at *
      go_loopg [8, 10, 31] 2 (fun gh v8 v10 v31 wm => RgRel W2 2 gh v31 wm)
      case atStart => exact M0
      case round =>
        clear M0
        rename World => wm
        obtain ⟨j, rfl, hj, hgj, TJ⟩ := hrel
        by_cases hjl : j < 2
        · obtain ⟨ca, ccap, cl, hcell, hcodes, hok⟩ := MID.out j wm hjl TJ
          obtain ⟨ca', cb, co, cc, e, hca, hcx⟩ := hcodes
          obtain rfl : ca = ca' := by injection e
          clear e
          have v1 : decide ((j : Int) < 2) = true := decide_eq_true (by omega)
          have v2 : decide (j < 2) = true := decide_eq_true hjl
          have l0 : (0 : Int) ≤ (j : Int) := Int.natCast_nonneg j
          have l1 : (j : Int) < 2 := by omega
          have ej := wrapR hjl (by decide)
          have I0 : RgRel wm cl.length cl.length (.int .i64 0) wm := ⟨0, rfl, Nat.zero_le _, rfl, Turn.refl _ _⟩
          have ST2 := Lib.hid (show ∀ U, Turn (fun _ => False) wm U → RgRel W2 2 (2 - (j + 1)) (.int .i64 ((j : Int) + 1)) U from fun U TU => ⟨j + 1, congrArg (Value.int .i64) (Int.natCast_succ j).symm, hjl, rfl, TJ.trans TU⟩)
          have G2 := Lib.hid (And.intro hgj hjl)
          have HC := Lib.hid (And.intro hca (And.intro hcx hok))
          have HF2 := Lib.hid (show ∀ p, P p → ∀ U, Turn (fun _ => False) wm U → Calls Try.prog 50 #[.int .i64 p, cp1] U fun e w' => e = .returned (.bool true) ∧ U = w' from fun p hp U TU => HF.out p hp U (TJ.trans TU))
          clear hj hgj TJ hjl hca hcx hok
          go_wp2_with fail
          clear hcell
          go_loopg [10, 37] cl.length (fun gh v10 v37 wi => RgRel wm cl.length gh v37 wi)
          case atStart => exact I0
          case round =>
            clear I0
            rename World => wi
            obtain ⟨i, rfl, hi, hgi, TI⟩ := hrel
            by_cases hil : i < cl.length
            · obtain ⟨hca, hcx, hok⟩ := HC.out
              obtain ⟨c, hc⟩ : ∃ c, cl[i]? = some c := ⟨_, List.getElem?_eq_getElem hil⟩
              obtain rfl := hca.resolve_left (fun e => by rw [e] at hil; exact absurd hil (Nat.not_lt_zero i))
              obtain ⟨s, hs⟩ := hcx i c hc
              have okc := hok.2 c (List.mem_of_getElem? hc)
              have hs2 := range_turn hs TI id
              have w1 : decide ((i : Int) < (cl.length : Int)) = true := decide_eq_true (Int.ofNat_lt.2 hil)
              have w2 : decide (i < cl.length) = true := decide_eq_true hil
              have m0 : (0 : Int) ≤ (i : Int) := Int.natCast_nonneg i
              have m1 : (i : Int) < (cl.length : Int) := Int.ofNat_lt.2 hil
              have ei := wrapR hil hok.1
              obtain ⟨W3, hW3⟩ : ∃ W3, W3 = wi.alloc (.cells (c.cells s).toArray 65) := ⟨_, rfl⟩
              have T3 : Turn (fun _ => False) wi W3 := by rw [hW3]; exact (Turn.refl _ wi).alloc _
              have qg : W3.rangeAt wi.heap.size 0 (c.cells s) := by rw [hW3]; exact range_new wi (c.cells s) 65
              have NM := Lib.hid (names_is c s W3)
              have QG := Lib.hid (show ∀ U, Turn (fun _ => False) W3 U → U.cell? ⟨wi.heap.size, 4, none⟩ = some (.int .i64 c.place) from fun U TU => by have := (range_turn qg TU id) 4 _ rfl; rw [Nat.zero_add] at this; exact this)
              have ST3 := Lib.hid (show ∀ U, Turn (fun _ => False) W3 U → RgRel wm cl.length (cl.length - (i + 1)) (.int .i64 ((i : Int) + 1)) U from fun U TU => ⟨i + 1, congrArg (Value.int .i64) (Int.natCast_succ i).symm, hil, rfl, (TI.trans T3).trans TU⟩)
              have G3 := Lib.hid (And.intro hgi hil)
              have HF3 := Lib.hid (show ∀ p, P p → ∀ U, Turn (fun _ => False) W3 U → Calls Try.prog 50 #[.int .i64 p, cp1] U fun e w' => e = .returned (.bool true) ∧ U = w' from fun p hp U TU => HF2.out p hp U ((TI.trans T3).trans TU))
              have HW3 := Lib.hid hW3
              have OKC := Lib.hid okc
              obtain ⟨cop, cn, cf, cpl⟩ := c
              unfold Cd.cells at *
              dsimp only at *
              have z0 := hs2 0 _ rfl
              have z1 := hs2 1 _ rfl
              have z2 := hs2 2 _ rfl
              have z3 := hs2 3 _ rfl
              have z4 := hs2 4 _ rfl
              rw [Nat.add_zero] at z0
              have q0 := qg 0 _ rfl
              have q1 := qg 1 _ rfl
              have q2 := qg 2 _ rfl
              have q3 := qg 3 _ rfl
              have q4 := qg 4 _ rfl
              rw [Nat.zero_add] at q1 q2 q3 q4
              clear hi hgi TI hil hc hca hcx hok hs okc hs2 hW3 T3 qg HC
              go_upto_region 12 with fail
              rw [← HW3.out]
              clear z0 z1 z2 z3 z4 HW3
              generalize wi.heap.size = qb at *
              go_wp2_with fail
              with_reducible refine NM.out.mono ?_
              rintro en W4 ⟨rfl, T4⟩
              clear NM q0 q1 q2 q3 q4
              have q4 := QG.out W4 T4
              have HT4 := Lib.hid T4
              cases hop : (cop == 8 || cop == 7) with
              | true =>
                have hP := OKC.out (by
                  rcases Bool.or_eq_true _ _ ▸ hop with h | h
                  · exact .inl (beq_iff_eq.1 h)
                  · exact .inr (beq_iff_eq.1 h))
                have CL := Lib.hid (HF3.out cpl hP W4 T4)
                clear hop T4 hP
                go_wp2_with fail
                with_reducible refine CL.out.mono ?_
                rintro en W5 ⟨rfl, rfl⟩
                go_wp2_with fail
                go_roundg (cl.length - (i + 1))
                case measure => have := G3.out.1; have := G3.out.2; omega
                case rel => first | exact ST3.out _ HT4.out | (rw [ei]; exact ST3.out _ HT4.out)
              | false =>
                clear hop T4
                go_wp2_with fail
                go_roundg (cl.length - (i + 1))
                case measure => have := G3.out.1; have := G3.out.2; omega
                case rel => first | exact ST3.out _ HT4.out | (rw [ei]; exact ST3.out _ HT4.out)
            · obtain rfl : i = cl.length := Nat.le_antisymm hi (Nat.not_lt.1 hil)
              have w1 : decide ((cl.length : Int) < (cl.length : Int)) = false := decide_eq_false (Int.lt_irrefl _)
              have w2 : decide (cl.length < cl.length) = false := decide_eq_false (Nat.lt_irrefl _)
              have ST3 := Lib.hid (ST2.out _ TI)
              clear hi hil hgi TI HC ST2 HF2
              go_wp2_with fail
              go_roundg (2 - (j + 1))
              case measure => have := G2.out.1; have := G2.out.2; omega
              case rel => first | exact ST3.out | (rw [ej]; exact ST3.out)
        · obtain rfl : j = 2 := by omega
          have v1 : decide (((2 : Nat) : Int) < 2) = false := by decide
          have v2 : decide ((2 : Nat) < 2) = false := by decide
          have ST3 := Lib.hid (STEP.out _ TJ)
          clear hj hjl hgj TJ MID STEP HF
          go_wp2_with fail
          go_roundg (l.length - (k + 1))
          case measure => have := G.out.1; have := G.out.2; omega
          case rel => first | exact ST3.out | (rw [ek]; exact ST3.out)
    · obtain rfl : k = l.length := Nat.le_antisymm hk (Nat.not_lt.1 hkl)
      have u1 : decide ((l.length : Int) < (l.length : Int)) = false := decide_eq_false (Int.lt_irrefl _)
      have u2 : decide (l.length < l.length) = false := decide_eq_false (Nat.lt_irrefl _)
      have FIN := Lib.hid (show Turn (fun _ => False) w wr from TV)
      clear hk hgk hkl TV ha hx ok hf
      go_wp2
      go_ret
      exact ⟨rfl, FIN.out⟩
set_option maxRecDepth 100000 in
set_option maxHeartbeats 8000000 in
theorem ruled_or {w : World} {v : Value} {l : List Rul} {P : Int → Prop} (h : RulesAt w v l) (ok : RulesOk P l) (cp1 cp2 : Value) (hf : ∀ p, P p → ∀ U, Turn (fun _ => False) w U → Calls Try.prog 53 #[.int .i64 p, cp1, cp2] U fun e w' => e = .returned (.bool true) ∧ U = w') :
    Calls Try.prog 52 #[v, .func (.func 53) #[] #[cp1, cp2]] w fun e w' => e = .returned (.bool true) ∧ Turn (fun _ => False) w w' := by
  obtain ⟨a, b, off, cap, rfl, ha, hx⟩ := h
  have FF := Lib.hid (And.intro ha (And.intro hx (And.intro ok hf)))
  have R0 : RgRel w l.length l.length (.int .i64 0) w := ⟨0, rfl, Nat.zero_le _, rfl, Turn.refl _ _⟩
  clear ha hx ok hf
  go_enter Try.func52, Try.ntmps52
  go_wp2_with fail
  go_loopg [6, 8, 10, 13] l.length (fun gh v6 v8 v10 v13 wr => RgRel w l.length gh v13 wr)
  case atStart => exact R0
  case round =>
    clear R0
    obtain ⟨k, rfl, hk, hgk, TV⟩ := hrel
    obtain ⟨ha, hx, ok, hf⟩ := FF.out
    by_cases hkl : k < l.length
    · obtain ⟨r, hr⟩ : ∃ r, l[k]? = some r := ⟨_, List.getElem?_eq_getElem hkl⟩
      obtain rfl := ha.resolve_left (fun e => by rw [e] at hkl; exact absurd hkl (Nat.not_lt_zero k))
      obtain ⟨lv, rv, hc, hlc, hrc⟩ := hx k r hr
      obtain ⟨⟨op1, op6⟩, okl, okr⟩ := ok.2 r (List.mem_of_getElem? hr)
      have hc2 := range_turn hc TV id
      have y0 := hc2 0 _ rfl
      have y1 := hc2 1 _ rfl
      have y2 := hc2 2 _ rfl
      rw [Nat.add_zero] at y0
      obtain ⟨la, lcap, rfl⟩ := hlc.sl
      obtain ⟨ra, rcap, rfl⟩ := hrc.sl
      have u1 : decide ((k : Int) < (l.length : Int)) = true := decide_eq_true (Int.ofNat_lt.2 hkl)
      have u2 : decide (k < l.length) = true := decide_eq_true hkl
      have k0 : (0 : Int) ≤ (k : Int) := Int.natCast_nonneg k
      have k1 : (k : Int) < (l.length : Int) := Int.ofNat_lt.2 hkl
      have ek := wrapR hkl ok.1
      have t1 : decide (r.op < 1) = false := decide_eq_false (Int.not_lt.2 op1)
      have t2 : decide ((6 : Int) < r.op) = false := decide_eq_false (Int.not_lt.2 op6)
      obtain ⟨W1, hW1⟩ : ∃ W1, W1 = wr.alloc (.cells #[.int .i64 r.op, .slice la r.left.length lcap, .slice ra r.right.length rcap] 68) := ⟨_, rfl⟩
      have T1 : Turn (fun _ => False) wr W1 := by rw [hW1]; exact (Turn.refl _ wr).alloc _
      have rg : W1.rangeAt wr.heap.size 0 [.int .i64 r.op, .slice la r.left.length lcap, .slice ra r.right.length rcap] := by rw [hW1]; exact range_new wr [.int .i64 r.op, .slice la r.left.length lcap, .slice ra r.right.length rcap] 68
      have c0 := rg 0 _ rfl
      have c1 := rg 1 _ rfl
      have c2 := rg 2 _ rfl
      rw [Nat.zero_add] at c1 c2
      obtain ⟨W2, hW2⟩ : ∃ W2, W2 = W1.alloc (.cells #[.slice la r.left.length lcap, .slice ra r.right.length rcap] 66) := ⟨_, rfl⟩
      have T2 : Turn (fun _ => False) W1 W2 := by rw [hW2]; exact (Turn.refl _ W1).alloc _
      have ag : W2.rangeAt W1.heap.size 0 [.slice la r.left.length lcap, .slice ra r.right.length rcap] := by rw [hW2]; exact range_new W1 [.slice la r.left.length lcap, .slice ra r.right.length rcap] 66
      have TW2 := (TV.trans T1).trans T2
      have MID := Lib.hid (show ∀ (j : Nat) (wm : World), j < 2 → Turn (fun _ => False) W2 wm → ∃ ca cap cl, wm.cell? ⟨W1.heap.size, j, none⟩ = some (.slice ca cl.length cap) ∧ CodesAt wm (.slice ca cl.length cap) cl ∧ CodesOk P cl from fun j wm hj Tm => by
        have h2 : j = 0 ∨ j = 1 := by omega
        rcases h2 with rfl | rfl
        · exact ⟨la, lcap, r.left, by have := Tm.cell id (ag 0 _ rfl); exact this, hlc.turn (TW2.trans Tm), okl⟩
        · exact ⟨ra, rcap, r.right, by have := Tm.cell id (ag 1 _ rfl); rw [Nat.zero_add] at this; exact this, hrc.turn (TW2.trans Tm), okr⟩)
      have M0 : RgRel W2 2 2 (.int .i64 0) W2 := ⟨0, rfl, Nat.zero_le _, rfl, Turn.refl _ _⟩
      have STEP := Lib.hid (show ∀ U, Turn (fun _ => False) W2 U → RgRel w l.length (l.length - (k + 1)) (.int .i64 ((k : Int) + 1)) U from fun U TU => ⟨k + 1, congrArg (Value.int .i64) (Int.natCast_succ k).symm, hkl, rfl, TW2.trans TU⟩)
      have G := Lib.hid (And.intro hgk hkl)
      have HF := Lib.hid (show ∀ p, P p → ∀ U, Turn (fun _ => False) W2 U → Calls Try.prog 53 #[.int .i64 p, cp1, cp2] U fun e w' => e = .returned (.bool true) ∧ U = w' from fun p hp U TU => hf p hp U (TW2.trans TU))
      have HW1 := Lib.hid hW1
      have HW2 := Lib.hid hW2
      clear hk hgk TV ok hf hkl hr hx hc hlc hrc op1 op6 okl okr hc2 T1 rg T2 ag TW2 hW1 hW2 ha
      go_upto_region 4 with fail
      rw [← HW1.out]
      clear y0 y1 y2 HW1
      go_upto_region 7 with fail
      rw [← HW2.out]
      clear c0 c1 c2 HW2 t1 t2
      go_wp2_with fail
      generalize W1.heap.size = ab at *
      go_loopg [8, 10, 31] 2 (fun gh v8 v10 v31 wm => RgRel W2 2 gh v31 wm)
      case atStart => exact M0
      case round =>
        clear M0
        rename World => wm
        obtain ⟨j, rfl, hj, hgj, TJ⟩ := hrel
        by_cases hjl : j < 2
        · obtain ⟨ca, ccap, cl, hcell, hcodes, hok⟩ := MID.out j wm hjl TJ
          obtain ⟨ca', cb, co, cc, e, hca, hcx⟩ := hcodes
          obtain rfl : ca = ca' := by injection e
          clear e
          have v1 : decide ((j : Int) < 2) = true := decide_eq_true (by omega)
          have v2 : decide (j < 2) = true := decide_eq_true hjl
          have l0 : (0 : Int) ≤ (j : Int) := Int.natCast_nonneg j
          have l1 : (j : Int) < 2 := by omega
          have ej := wrapR hjl (by decide)
          have I0 : RgRel wm cl.length cl.length (.int .i64 0) wm := ⟨0, rfl, Nat.zero_le _, rfl, Turn.refl _ _⟩
          have ST2 := Lib.hid (show ∀ U, Turn (fun _ => False) wm U → RgRel W2 2 (2 - (j + 1)) (.int .i64 ((j : Int) + 1)) U from fun U TU => ⟨j + 1, congrArg (Value.int .i64) (Int.natCast_succ j).symm, hjl, rfl, TJ.trans TU⟩)
          have G2 := Lib.hid (And.intro hgj hjl)
          have HC := Lib.hid (And.intro hca (And.intro hcx hok))
          have HF2 := Lib.hid (show ∀ p, P p → ∀ U, Turn (fun _ => False) wm U → Calls Try.prog 53 #[.int .i64 p, cp1, cp2] U fun e w' => e = .returned (.bool true) ∧ U = w' from fun p hp U TU => HF.out p hp U (TJ.trans TU))
          clear hj hgj TJ hjl hca hcx hok
          go_wp2_with fail
          clear hcell
          go_loopg [10, 37] cl.length (fun gh v10 v37 wi => RgRel wm cl.length gh v37 wi)
          case atStart => exact I0
          case round =>
            clear I0
            rename World => wi
            obtain ⟨i, rfl, hi, hgi, TI⟩ := hrel
            by_cases hil : i < cl.length
            · obtain ⟨hca, hcx, hok⟩ := HC.out
              obtain ⟨c, hc⟩ : ∃ c, cl[i]? = some c := ⟨_, List.getElem?_eq_getElem hil⟩
              obtain rfl := hca.resolve_left (fun e => by rw [e] at hil; exact absurd hil (Nat.not_lt_zero i))
              obtain ⟨s, hs⟩ := hcx i c hc
              have okc := hok.2 c (List.mem_of_getElem? hc)
              have hs2 := range_turn hs TI id
              have w1 : decide ((i : Int) < (cl.length : Int)) = true := decide_eq_true (Int.ofNat_lt.2 hil)
              have w2 : decide (i < cl.length) = true := decide_eq_true hil
              have m0 : (0 : Int) ≤ (i : Int) := Int.natCast_nonneg i
              have m1 : (i : Int) < (cl.length : Int) := Int.ofNat_lt.2 hil
              have ei := wrapR hil hok.1
              obtain ⟨W3, hW3⟩ : ∃ W3, W3 = wi.alloc (.cells (c.cells s).toArray 65) := ⟨_, rfl⟩
              have T3 : Turn (fun _ => False) wi W3 := by rw [hW3]; exact (Turn.refl _ wi).alloc _
              have qg : W3.rangeAt wi.heap.size 0 (c.cells s) := by rw [hW3]; exact range_new wi (c.cells s) 65
              have NM := Lib.hid (names_is c s W3)
              have QG := Lib.hid (show ∀ U, Turn (fun _ => False) W3 U → U.cell? ⟨wi.heap.size, 4, none⟩ = some (.int .i64 c.place) from fun U TU => by have := (range_turn qg TU id) 4 _ rfl; rw [Nat.zero_add] at this; exact this)
              have ST3 := Lib.hid (show ∀ U, Turn (fun _ => False) W3 U → RgRel wm cl.length (cl.length - (i + 1)) (.int .i64 ((i : Int) + 1)) U from fun U TU => ⟨i + 1, congrArg (Value.int .i64) (Int.natCast_succ i).symm, hil, rfl, (TI.trans T3).trans TU⟩)
              have G3 := Lib.hid (And.intro hgi hil)
              have HF3 := Lib.hid (show ∀ p, P p → ∀ U, Turn (fun _ => False) W3 U → Calls Try.prog 53 #[.int .i64 p, cp1, cp2] U fun e w' => e = .returned (.bool true) ∧ U = w' from fun p hp U TU => HF2.out p hp U ((TI.trans T3).trans TU))
              have HW3 := Lib.hid hW3
              have OKC := Lib.hid okc
              obtain ⟨cop, cn, cf, cpl⟩ := c
              unfold Cd.cells at *
              dsimp only at *
              have z0 := hs2 0 _ rfl
              have z1 := hs2 1 _ rfl
              have z2 := hs2 2 _ rfl
              have z3 := hs2 3 _ rfl
              have z4 := hs2 4 _ rfl
              rw [Nat.add_zero] at z0
              have q0 := qg 0 _ rfl
              have q1 := qg 1 _ rfl
              have q2 := qg 2 _ rfl
              have q3 := qg 3 _ rfl
              have q4 := qg 4 _ rfl
              rw [Nat.zero_add] at q1 q2 q3 q4
              clear hi hgi TI hil hc hca hcx hok hs okc hs2 hW3 T3 qg HC
              go_upto_region 12 with fail
              rw [← HW3.out]
              clear z0 z1 z2 z3 z4 HW3
              generalize wi.heap.size = qb at *
              go_wp2_with fail
              with_reducible refine NM.out.mono ?_
              rintro en W4 ⟨rfl, T4⟩
              clear NM q0 q1 q2 q3 q4
              have q4 := QG.out W4 T4
              have HT4 := Lib.hid T4
              cases hop : (cop == 8 || cop == 7) with
              | true =>
                have hP := OKC.out (by
                  rcases Bool.or_eq_true _ _ ▸ hop with h | h
                  · exact .inl (beq_iff_eq.1 h)
                  · exact .inr (beq_iff_eq.1 h))
                have CL := Lib.hid (HF3.out cpl hP W4 T4)
                clear hop T4 hP
                go_wp2_with fail
                with_reducible refine CL.out.mono ?_
                rintro en W5 ⟨rfl, rfl⟩
                go_wp2_with fail
                go_roundg (cl.length - (i + 1))
                case measure => have := G3.out.1; have := G3.out.2; omega
                case rel => first | exact ST3.out _ HT4.out | (rw [ei]; exact ST3.out _ HT4.out)
              | false =>
                clear hop T4
                go_wp2_with fail
                go_roundg (cl.length - (i + 1))
                case measure => have := G3.out.1; have := G3.out.2; omega
                case rel => first | exact ST3.out _ HT4.out | (rw [ei]; exact ST3.out _ HT4.out)
            · obtain rfl : i = cl.length := Nat.le_antisymm hi (Nat.not_lt.1 hil)
              have w1 : decide ((cl.length : Int) < (cl.length : Int)) = false := decide_eq_false (Int.lt_irrefl _)
              have w2 : decide (cl.length < cl.length) = false := decide_eq_false (Nat.lt_irrefl _)
              have ST3 := Lib.hid (ST2.out _ TI)
              clear hi hil hgi TI HC ST2 HF2
              go_wp2_with fail
              go_roundg (2 - (j + 1))
              case measure => have := G2.out.1; have := G2.out.2; omega
              case rel => first | exact ST3.out | (rw [ej]; exact ST3.out)
        · obtain rfl : j = 2 := by omega
          have v1 : decide (((2 : Nat) : Int) < 2) = false := by decide
          have v2 : decide ((2 : Nat) < 2) = false := by decide
          have ST3 := Lib.hid (STEP.out _ TJ)
          clear hj hjl hgj TJ MID STEP HF
          go_wp2_with fail
          go_roundg (l.length - (k + 1))
          case measure => have := G.out.1; have := G.out.2; omega
          case rel => first | exact ST3.out | (rw [ek]; exact ST3.out)
    · obtain rfl : k = l.length := Nat.le_antisymm hk (Nat.not_lt.1 hkl)
      have u1 : decide ((l.length : Int) < (l.length : Int)) = false := decide_eq_false (Int.lt_irrefl _)
      have u2 : decide (l.length < l.length) = false := decide_eq_false (Nat.lt_irrefl _)
      have FIN := Lib.hid (show Turn (fun _ => False) w wr from TV)
      clear hk hgk hkl TV ha hx ok hf
      go_wp2
      go_ret
      exact ⟨rfl, FIN.out⟩
end Go.Proofs.Ytfidnahbhomomaa
