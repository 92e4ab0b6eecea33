/-
  A table is right.
-/
import Derived.Test.YtfidnahbhomomaaRf
namespace Go.Proofs.Ytfidnahbhomomaa
open Go.ChangeShapes Go.WideShapes Go.ChangeAt Go.RowKit
set_option linter.unusedVariables false
set_option linter.unusedSimpArgs false
set_option maxRecDepth 100000 in
set_option maxHeartbeats 8000000 in
theorem right_is {w : World} {cv : Value} {T : Tab} (h : CellsAt w cv T.cells) (ok : T.ok) : Calls Try.prog 30 #[.agg #[cv, .int .i64 T.win, .bool T.key]] w fun e w' => e = .returned (.bool true) ∧ Turn (fun _ => False) w w' := by
  obtain ⟨b, off, cap, rfl⟩ := h.sl
  have n1 := ok.n1
  have n6 := ok.n6
  have hlt : T.cells.length - 1 < T.cells.length := by omega
  obtain ⟨cl, hcl⟩ : ∃ c, T.cells[T.cells.length - 1]? = some c := ⟨_, List.getElem?_eq_getElem hlt⟩
  have hln := ok.last cl hcl
  obtain ⟨W, hW⟩ : ∃ W, W = (w.alloc (.cells #[.slice (some ⟨b, off, none⟩) T.cells.length cap, .int .i64 T.win, .bool T.key] 26)).alloc (.cells #[.int .i64 (T.cells.length : Int)] 3) := ⟨_, rfl⟩
  have TW : Turn (fun _ => False) w W := by rw [hW]; exact ((Turn.refl _ w).alloc _).alloc _
  have R1 : W.rangeAt w.heap.size 0 [.slice (some ⟨b, off, none⟩) T.cells.length cap, .int .i64 T.win, .bool T.key] := by
    rw [hW]
    exact range_turn (range_new w [.slice (some ⟨b, off, none⟩) T.cells.length cap, .int .i64 T.win, .bool T.key] 26) ((Turn.refl (fun _ => False) _).alloc _) id
  have R2 : W.cell? ⟨w.heap.size + 1, 0, none⟩ = some (.int .i64 (T.cells.length : Int)) := by
    rw [hW]
    have := range_new (w.alloc (.cells #[.slice (some ⟨b, off, none⟩) T.cells.length cap, .int .i64 T.win, .bool T.key] 26)) [.int .i64 (T.cells.length : Int)] 3 0 _ rfl
    rw [World.size_alloc] at this
    exact this
  have hWW := h.turn TW
  obtain ⟨rv0, nv, hl, -, hg⟩ := hWW.at hcl
  rw [hln] at hg
  obtain ⟨na, nb, no, nc, rfl, -, -⟩ := hg
  have x0 := R1 0 _ rfl
  have x1 := R1 1 _ rfl
  rw [Nat.zero_add] at x1
  have x3 := hl 3 _ rfl
  have FF := Lib.hid (And.intro h (And.intro ok TW))
  have HR := Lib.hid (And.intro R1 R2)
  have HW := Lib.hid hW
  have e1 : wrap64 ((T.cells.length : Int) - 1) = ((T.cells.length - 1 : Nat) : Int) := by unfold wrap64; omega
  have t1 : decide ((T.cells.length : Int) < 1) = false := decide_eq_false (by omega)
  have t2 : decide ((6 : Int) < (T.cells.length : Int)) = false := decide_eq_false (by omega)
  have t3 : decide (T.win < 1) = false := decide_eq_false (by have := ok.w1; omega)
  have t4 : decide ((8 : Int) < T.win) = false := decide_eq_false (by have := ok.w8; omega)
  have i0 : (0 : Int) ≤ ((T.cells.length - 1 : Nat) : Int) := Int.natCast_nonneg _
  have i1 : ((T.cells.length - 1 : Nat) : Int) < (T.cells.length : Int) := Int.ofNat_lt.2 hlt
  clear h ok TW R1 hWW hl hcl hln hW n1 n6 hlt
  go_enter Try.func30, Try.ntmps30
  go_upto_region 2 with fail
  rw [← HW.out]
  clear HW
  generalize w.heap.size + 1 = nbx at *
  generalize hnk : T.cells.length - 1 = nk at *
  go_upto_region 4 with fail
  have R0 : RgRel W T.cells.length T.cells.length (.int .i64 0) W := ⟨0, rfl, Nat.zero_le _, rfl, Turn.refl _ _⟩
  clear x1 x3 R2 e1 t1 t2 t3 t4 i0 i1 hnk
  go_wp2_with fail
  clear x0
  go_loopg [4, 5, 6, 8, 42] T.cells.length (fun gh v4 v5 v6 v8 v42 wr => RgRel W T.cells.length gh v42 wr)
  case atStart => exact R0
  case round =>
    clear R0
    obtain ⟨k, rfl, hk, hgk, TV⟩ := hrel
    obtain ⟨h, ok, TW⟩ := FF.out
    by_cases hkl : k < T.cells.length
    · obtain ⟨c, hc⟩ : ∃ c, T.cells[k]? = some c := ⟨_, List.getElem?_eq_getElem hkl⟩
      have hcm := List.mem_of_getElem? hc
      obtain ⟨rv, nv, hl, hrr, hgd⟩ := (h.turn (TW.trans TV)).at hc
      obtain ⟨ra, rac, rfl⟩ := hrr.sl
      obtain ⟨na2, gb, go, gc, rfl, hga, hgx⟩ := hgd
      have y0 := hl 0 _ rfl
      have y1 := hl 1 _ rfl
      have y2 := hl 2 _ rfl
      have y3 := hl 3 _ rfl
      rw [Nat.add_zero] at y0
      have u1 : decide ((k : Int) < (T.cells.length : Int)) = true := decide_eq_true (Int.ofNat_lt.2 hkl)
      have u2 : decide (k < T.cells.length) = true := decide_eq_true hkl
      have k0 : (0 : Int) ≤ (k : Int) := Int.natCast_nonneg k
      have k1 : (k : Int) < (T.cells.length : Int) := Int.ofNat_lt.2 hkl
      have ek := wrapR hkl (Nat.le_trans ok.n6 (by decide))
      obtain ⟨U, hU⟩ : ∃ U, U = ((wr.alloc (.cells #[.int .i64 (k : Int)] 3)).alloc (.cells #[.int .i64 c.typ, .bool c.plus, .slice ra c.rules.length rac, .slice na2 c.nots.length gc] 59)).alloc (.cells #[Value.nilFunc] 93) := ⟨_, rfl⟩
      have TU : Turn (fun _ => False) wr U := by rw [hU]; exact (((Turn.refl _ wr).alloc _).alloc _).alloc _
      have zc0 : U.rangeAt (wr.heap.size + 1) 0 [.int .i64 c.typ, .bool c.plus, .slice ra c.rules.length rac, .slice na2 c.nots.length gc] := by
        rw [hU]
        have := range_new (wr.alloc (.cells #[.int .i64 (k : Int)] 3)) [.int .i64 c.typ, .bool c.plus, .slice ra c.rules.length rac, .slice na2 c.nots.length gc] 59
        rw [World.size_alloc] at this
        exact range_turn this ((Turn.refl (fun _ => False) _).alloc _) id
      have zf0 : U.cell? ⟨wr.heap.size + 1 + 1, 0, none⟩ = some Value.nilFunc ∧ Blk U (wr.heap.size + 1 + 1) 93 := by
        rw [hU]
        have h1 := range_new ((wr.alloc (.cells #[.int .i64 (k : Int)] 3)).alloc (.cells #[.int .i64 c.typ, .bool c.plus, .slice ra c.rules.length rac, .slice na2 c.nots.length gc] 59)) [Value.nilFunc] 93 0 _ rfl
        have h2 := Blk.new ((wr.alloc (.cells #[.int .i64 (k : Int)] 3)).alloc (.cells #[.int .i64 c.typ, .bool c.plus, .slice ra c.rules.length rac, .slice na2 c.nots.length gc] 59)) [Value.nilFunc] 93
        rw [World.size_alloc, World.size_alloc] at h1 h2
        exact ⟨h1, h2⟩
      obtain ⟨V, hV⟩ : ∃ V, V = U.setCell ⟨wr.heap.size + 1 + 1, 0, none⟩ (.func (.func 50) #[] #[.pointer (some ⟨wr.heap.size, 0, none⟩)]) := ⟨_, rfl⟩
      have SF : (store ⟨wr.heap.size + 1 + 1, 0, none⟩ (.func (.func 50) #[] #[.pointer (some ⟨wr.heap.size, 0, none⟩)])).run Try.prog U = .ok () V := by
        rw [hV]
        rw [run_store Try.prog _ _ _ _ (by rfl), zf0.1]
        dsimp only
        rw [zf0.2.fz]
        rfl
      have TVV : Turn (fun _ => False) wr V := by rw [hV]; exact TU.setCell (.inr (by show _ ≤ wr.heap.size + 1 + 1; omega)) _
      have zc : V.rangeAt (wr.heap.size + 1) 0 [.int .i64 c.typ, .bool c.plus, .slice ra c.rules.length rac, .slice na2 c.nots.length gc] := by
        rw [hV]
        exact range_turn zc0 (Turn.put _ _ _ _) (by show ¬ (wr.heap.size + 1 = wr.heap.size + 1 + 1); omega)
      have zf : V.cell? ⟨wr.heap.size + 1 + 1, 0, none⟩ = some (.func (.func 50) #[] #[.pointer (some ⟨wr.heap.size, 0, none⟩)]) := by
        rw [hV]
        exact World.cell?_setCell_same _ _ _ zf0.1
      have c0 := zc 0 _ rfl
      have c2 := zc 2 _ rfl
      have c3 := zc 3 _ rfl
      rw [Nat.zero_add] at c2 c3
      have TY := Lib.hid (typed_is c.typ (ok.typ c hcm))
      have kb0 : V.cell? ⟨wr.heap.size, 0, none⟩ = some (.int .i64 (k : Int)) := by
        have h1 := range_new wr [.int .i64 (k : Int)] 3 0 _ rfl
        have h2 : U.cell? ⟨wr.heap.size, 0, none⟩ = some (.int .i64 (k : Int)) := by rw [hU]; exact past (past h1)
        rw [hV]
        exact (Turn.put U (wr.heap.size + 1 + 1) 0 _).cell (show ¬ (wr.heap.size = wr.heap.size + 1 + 1) by omega) h2
      have RN := Lib.hid (ruled_up (hrr.turn TVV) (ok.rul k c hc) (.pointer (some ⟨wr.heap.size, 0, none⟩)) (fun p hp U TU => upto_is (TU.cell id kb0) hp))
      have nb0 : V.cell? ⟨nbx, 0, none⟩ = some (.int .i64 (T.cells.length : Int)) := (TV.trans TVV).cell id HR.out.2
      have GOK := Lib.hid (show ∀ g ∈ c.nots, RulesOk (orP k T.cells.length) g.rules from fun g hg => ok.grd k c g hc hg)
      have FB := Lib.hid (And.intro kb0 (And.intro zf nb0))
      have GD := Lib.hid (show (∀ (k : Nat) (g : Grd), c.nots[k]? = some g → ∃ rv, V.rangeAt gb (go + k * 2) [.int .i64 g.typ, rv] ∧ RulesAt V rv g.rules) ∧ (c.nots = [] ∨ na2 = some ⟨gb, go, none⟩) ∧ (c.nots.length ≤ 100 ∧ ∀ g ∈ c.nots, 0 ≤ g.typ ∧ g.typ < 8) from ⟨fun k g hg => by
        obtain ⟨rv, h1, h2⟩ := hgx k g hg
        exact ⟨rv, range_turn h1 TVV id, h2.turn TVV⟩, hga, ok.nots c hcm⟩)
      have STEP := Lib.hid (show ∀ U, Turn (fun _ => False) V U → RgRel W T.cells.length (T.cells.length - (k + 1)) (.int .i64 ((k : Int) + 1)) U from fun U TU => ⟨k + 1, congrArg (Value.int .i64) (Int.natCast_succ k).symm, hkl, rfl, (TV.trans TVV).trans TU⟩)
      have G := Lib.hid (And.intro hgk hkl)
      clear hk hgk TV h ok TW hc hcm hl hga hgx hV TVV zc hkl zc0 zf0 TU kb0 nb0 hrr
      rw [hU] at SF
      clear hU
      go_upto_region 8 with fail
      clear y0 y1 y2 y3 SF
      generalize wr.heap.size + 1 = cb at *
      generalize cb + 1 = fb at *
      go_wp2_with fail
      with_reducible refine (TY.out _).mono ?_
      rintro en W1 ⟨rfl, rfl⟩
      go_wp2_with fail
      with_reducible refine RN.out.mono ?_
      rintro en W1 ⟨rfl, TRN⟩
      have c3 := TRN.cell id c3
      have zf := TRN.cell id zf
      go_upto_region 10 with fail
      have I0 : RgRel V c.nots.length c.nots.length (.int .i64 0) W1 := ⟨0, rfl, Nat.zero_le _, rfl, TRN⟩
      clear TY RN c0 c2 zf TRN
      go_wp2_with fail
      clear c3
      go_loopg [8, 62] c.nots.length (fun gh v8 v62 wg => RgRel V c.nots.length gh v62 wg)
      case atStart => exact I0
      case round =>
        clear I0
        obtain ⟨j, rfl, hj, hgj, TJ⟩ := hrel
        rename World => wg
        by_cases hjl : j < c.nots.length
        · obtain ⟨g, hg⟩ : ∃ g, c.nots[j]? = some g := ⟨_, List.getElem?_eq_getElem hjl⟩
          obtain ⟨hgx, hga, hgn⟩ := GD.out
          obtain rfl := hga.resolve_left (fun e => by rw [e] at hjl; exact absurd hjl (Nat.not_lt_zero j))
          obtain ⟨grv, hr0, hrl⟩ := hgx j g hg
          obtain ⟨gra, grc, rfl⟩ := hrl.sl
          have hr := range_turn hr0 TJ id
          have g0 := hr 0 _ rfl
          have g1 := hr 1 _ rfl
          rw [Nat.add_zero] at g0
          have v1 : decide ((j : Int) < (c.nots.length : Int)) = true := decide_eq_true (Int.ofNat_lt.2 hjl)
          have v2 : decide (j < c.nots.length) = true := decide_eq_true hjl
          have l0 : (0 : Int) ≤ (j : Int) := Int.natCast_nonneg j
          have l1 : (j : Int) < (c.nots.length : Int) := Int.ofNat_lt.2 hjl
          have ej := wrapR hjl hgn.1
          have TY := Lib.hid (typed_is g.typ (hgn.2 g (List.mem_of_getElem? hg)))
          have TX : Turn (fun _ => False) wg (wg.alloc (.cells #[.int .i64 g.typ, .slice gra g.rules.length grc] 70)) := (Turn.refl _ wg).alloc _
          have RX := range_new wg [.int .i64 g.typ, .slice gra g.rules.length grc] 70
          have q0 := RX 0 _ rfl
          have q1 := RX 1 _ rfl
          rw [Nat.zero_add] at q1
          have G2 := Lib.hid (And.intro hgj hjl)
          obtain ⟨kb0, zf, nb0⟩ := FB.out
          have RN := Lib.hid (ruled_or (hrl.turn (TJ.trans TX)) (GOK.out g (List.mem_of_getElem? hg)) (.pointer (some ⟨fb, 0, none⟩)) (.pointer (some ⟨nbx, 0, none⟩)) (fun p hp U TU => orto_is (((TJ.trans TX).trans TU).cell id kb0) (((TJ.trans TX).trans TU).cell id zf) (((TJ.trans TX).trans TU).cell id nb0) hp))
          have STJ := Lib.hid (show ∀ U, Turn (fun _ => False) (wg.alloc (.cells #[.int .i64 g.typ, .slice gra g.rules.length grc] 70)) U → RgRel V c.nots.length (c.nots.length - (j + 1)) (.int .i64 ((j : Int) + 1)) U from fun U TU => ⟨j + 1, congrArg (Value.int .i64) (Int.natCast_succ j).symm, hjl, rfl, (TJ.trans TX).trans TU⟩)
          clear hj hgj TJ hjl hg hgx hga hgn hr TX RX hr0 hrl kb0 zf nb0
          go_upto_region 13 with fail
          clear g0 g1
          generalize wg.alloc (.cells #[.int .i64 g.typ, .slice gra g.rules.length grc] 70) = wh at *
          go_wp2_with fail
          with_reducible refine (TY.out _).mono ?_
          rintro en W1 ⟨rfl, rfl⟩
          go_wp2_with fail
          with_reducible refine RN.out.mono ?_
          rintro en W2 ⟨rfl, TRN⟩
          have ST2 := Lib.hid (STJ.out _ TRN)
          clear TRN
          go_wp2_with fail
          go_roundg (c.nots.length - (j + 1))
          case measure => have := G2.out.1; have := G2.out.2; omega
          case rel => first | exact ST2.out | (rw [ej]; exact ST2.out)
        · obtain rfl : j = c.nots.length := Nat.le_antisymm hj (Nat.not_lt.1 hjl)
          have v1 : decide ((c.nots.length : Int) < (c.nots.length : Int)) = false := decide_eq_false (Int.lt_irrefl _)
          have v2 : decide (c.nots.length < c.nots.length) = false := decide_eq_false (Nat.lt_irrefl _)
          have ST2 := Lib.hid (STEP.out _ TJ)
          clear hj hjl hgj TJ GD STEP
          go_wp2_with fail
          go_roundg (T.cells.length - (k + 1))
          case measure => have := G.out.1; have := G.out.2; omega
          case rel => first | exact ST2.out | (rw [ek]; exact ST2.out)
    · obtain rfl : k = T.cells.length := Nat.le_antisymm hk (Nat.not_lt.1 hkl)
      have u1 : decide ((T.cells.length : Int) < (T.cells.length : Int)) = false := decide_eq_false (Int.lt_irrefl _)
      have u2 : decide (T.cells.length < T.cells.length) = false := decide_eq_false (Nat.lt_irrefl _)
      have FIN := Lib.hid (show Turn (fun _ => False) w wr from TW.trans TV)
      clear hk hgk hkl TV h ok TW
      go_wp2
      go_ret
      exact ⟨rfl, FIN.out⟩
end Go.Proofs.Ytfidnahbhomomaa
