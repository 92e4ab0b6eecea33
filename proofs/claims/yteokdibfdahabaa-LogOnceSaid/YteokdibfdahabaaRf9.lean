/-
  The document's own log, in memory: the command at low is done.
-/
import Derived.Test.YteokdibfdahabaaRf8
import Derived.Test.YteokdibfdahabaaLg8
import Derived.Test.YteokdibfdahabaaLg9
namespace Go.Proofs.Yteokdibfdahabaa
open Go.ChangeShapes Go.WideShapes Go.ChangeAt Go.RowKit
set_option linter.unusedVariables false
theorem size67 : (Try.prog.info? 67).map (·.size) = some 3 := by kernel_rfl
section
variable {w w' : World} {R : RB} {c : Cf} {s : LSt}
theorem RefAt.put_low (h : RefAt w R c s) {X : Int → Option (Int × Int)} {Y : Nat → Int → Option (Option Int)} (hX : ∀ i : Nat, s.low < i → X (i : Int) = s.X (i : Int)) (hY : ∀ k, k < c.sh → ∀ i : Nat, s.low < i → Y k (i : Int) = s.Y k (i : Int)) (rl : Nat → Nat) (cnt : Nat) :
    RefAt (w.setCell ⟨R.r, 9, none⟩ (.int .i64 ((s.low : Int) + 1))) R c { s with low := s.low + 1, X := X, Y := Y, rl := rl, cnt := cnt } := by
  have T : Turn (fun b => b = R.r) w (w.setCell ⟨R.r, 9, none⟩ (.int .i64 ((s.low : Int) + 1))) := Turn.put _ _ _ _
  have n2 : ∀ b (u : TypeId), Blk w b u → u ≠ 101 → b ≠ R.r := fun b u hb hu => hb.ne h.br hu
  have nk := n2 _ _ h.bk (by decide)
  obtain ⟨cap, k10⟩ := h.k10
  have c7 : ∀ j u, j ≠ 9 → w.cell? ⟨R.r, j, none⟩ = some u → (w.setCell ⟨R.r, 9, none⟩ (.int .i64 ((s.low : Int) + 1))).cell? ⟨R.r, j, none⟩ = some u := fun j u hj hu => by
    rw [cell_off _ _ _ _ _ (Ne.symm hj)]
    exact hu
  exact ⟨h.br.set _ _, c7 0 _ (by decide) h.k0, c7 1 _ (by decide) h.k1, c7 6 _ (by decide) h.k6, c7 7 _ (by decide) h.k7, c7 8 _ (by decide) h.k8, World.cell?_setCell_same _ _ _ h.k9, ⟨cap, c7 10 _ (by decide) k10⟩, h.bk.set _ _,
    fun i hi => T.cell nk (h.w0 i hi), fun i hi => T.cell nk (h.w1 i hi), own_turn h.own T (fun b e => n2 b _ (own_blk h.own e) (by decide)), fun i hi => ⟨(h.ob i hi).1.set _ _, (h.ob i hi).2⟩, h.obne, h.b1, h.b2,
    fun i hi (hl : s.low + 1 ≤ i) => by show (R.D i).fl = (X (i : Int)).isSome; rw [hX i hl]; exact h.fl i hi (by omega), fun i hi (hl : s.low + 1 ≤ i) p hp => by
      have hp : X (i : Int) = some p := hp
      rw [hX i hl] at hp
      exact h.cm i hi (by omega) p hp, h.wt, h.an,
    fun i hi (hl : s.low + 1 ≤ i) q hq => by
      show OutC _ (R.D i).ob q ((Y q (i : Int)).getD none)
      rw [hY q hq i hl]
      exact (h.outs i hi (by omega) q hq).turn T (n2 _ _ (h.ob i hi).1 (by decide)) (fun b hb => n2 b _ hb (by decide))⟩
/-- An answer waits at low. -/
theorem RefAt.wait_mem (V : World) (h : RefAt V R c s) {g cap : Nat} (hlt : s.low < s.tail) (hv : R.v = .slice (some ⟨g, 0, none⟩) s.tail cap) (en nn : Int) {b3 : Nat} (hb3 : Blk V b3 67) (RG : V.rangeAt b3 0 [.int .i64 en, .int .i64 nn, .slice none 0 0]) :
    (V.drew.setCell ⟨g, s.low * 20 + 1, none⟩ (.bool true)).drew.there g (s.low * 20 + 17) 3 ∧
    (V.drew.cell? ⟨R.r, 7, none⟩ = some (.slice (some ⟨g, 0, none⟩) s.tail cap) ∧ V.drew.cell? ⟨R.r, 9, none⟩ = some (.int .i64 (s.low : Int))) ∧
    ((V.drew.setCell ⟨g, s.low * 20 + 1, none⟩ (.bool true)).cell? ⟨R.r, 7, none⟩ = some (.slice (some ⟨g, 0, none⟩) s.tail cap) ∧ (V.drew.setCell ⟨g, s.low * 20 + 1, none⟩ (.bool true)).cell? ⟨R.r, 9, none⟩ = some (.int .i64 (s.low : Int))) ∧
    ((V.drew.setCell ⟨g, s.low * 20 + 1, none⟩ (.bool true)).drew.cell? ⟨R.r, 7, none⟩ = some (.slice (some ⟨g, 0, none⟩) s.tail cap) ∧ (V.drew.setCell ⟨g, s.low * 20 + 1, none⟩ (.bool true)).drew.cell? ⟨R.r, 9, none⟩ = some (.int .i64 (s.low : Int)) ∧ (V.drew.setCell ⟨g, s.low * 20 + 1, none⟩ (.bool true)).drew.rangeAt b3 0 [.int .i64 en, .int .i64 nn, .slice none 0 0]) ∧
    (((V.drew.setCell ⟨g, s.low * 20 + 1, none⟩ (.bool true)).drew.setCells g (s.low * 20 + 17) [.int .i64 en, .int .i64 nn, .slice none 0 0]).cell? ⟨R.r, 7, none⟩ = some (.slice (some ⟨g, 0, none⟩) s.tail cap) ∧ ((V.drew.setCell ⟨g, s.low * 20 + 1, none⟩ (.bool true)).drew.setCells g (s.low * 20 + 17) [.int .i64 en, .int .i64 nn, .slice none 0 0]).cell? ⟨R.r, 9, none⟩ = some (.int .i64 (s.low : Int)) ∧ ((V.drew.setCell ⟨g, s.low * 20 + 1, none⟩ (.bool true)).drew.setCells g (s.low * 20 + 17) [.int .i64 en, .int .i64 nn, .slice none 0 0]).rangeAt b3 0 [.int .i64 en, .int .i64 nn, .slice none 0 0]) ∧
    V.frozen? ⟨g, s.low * 20 + 1, none⟩ = false ∧ V.cell? ⟨g, s.low * 20 + 1, none⟩ = some (.bool (R.D s.low).wt) ∧ ((V.drew.setCell ⟨g, s.low * 20 + 1, none⟩ (.bool true)).drew.setCells g (s.low * 20 + 17) [.int .i64 en, .int .i64 nn, .slice none 0 0]).frozen? ⟨R.r, 9, none⟩ = false ∧
    ∃ R' : RB, R'.base = R.base ∧ R'.r = R.r ∧ RefAt ((V.drew.setCell ⟨g, s.low * 20 + 1, none⟩ (.bool true)).drew.setCells g (s.low * 20 + 17) [.int .i64 en, .int .i64 nn, .slice none 0 0]) R' c { s with G := updI s.G (s.low : Int) (some ⟨en, nn⟩) } ∧ Turn (fun b => b = g) V ((V.drew.setCell ⟨g, s.low * 20 + 1, none⟩ (.bool true)).drew.setCells g (s.low * 20 + 17) [.int .i64 en, .int .i64 nn, .slice none 0 0]) := by
  obtain ⟨g', cap', hv', hb, hgb, rows⟩ := h.row hlt
  rw [hv] at hv'
  obtain ⟨rfl, rfl⟩ : g = g' ∧ cap = cap' := by simpa using hv'
  have hown := h.own
  rw [hv] at hown
  have k7 := h.k7
  rw [hv] at k7
  have c1 : V.cell? ⟨g, s.low * 20 + 1, none⟩ = some (.bool (R.D s.low).wt) := rows s.low hlt 1 _ rfl
  have T1 : Turn (fun b => b = g) V (V.drew.setCell ⟨g, s.low * 20 + 1, none⟩ (.bool true)) := (show Turn (fun b => b = g) V V.drew from (Turn.refl _ V).drewN 1).setCell (p := ⟨g, s.low * 20 + 1, none⟩) (.inl rfl) _
  have O1 := own_cell hown.drew hlt { R.D s.low with wt := true } 1 [.bool true] (by decide) (DC.set_wt _ _ _)
  have O1 : (V.drew.setCell ⟨g, s.low * 20 + 1, none⟩ (.bool true)).ownsRow R.base 126 20 (.slice (some ⟨g, 0, none⟩) s.tail cap) s.tail (flat (fun k => (upd R.D s.low { R.D s.low with wt := true } k).cells c.sh) s.tail) := O1
  obtain ⟨V1, hV1⟩ : ∃ V1, V1 = V.drew.setCell ⟨g, s.low * 20 + 1, none⟩ (.bool true) := ⟨_, rfl⟩
  rw [← hV1] at T1 O1 ⊢
  have O2 := own_cell O1.drew hlt { R.D s.low with wt := true, q := ⟨en, nn⟩ } 17 [.int .i64 en, .int .i64 nn, .slice none 0 0] (by simp) (by rw [upd_at]; exact DC.set_q _ _ ⟨en, nn⟩)
  rw [upd_upd] at O2
  have T2 : Turn (fun b => b = g) V1 (V1.drew.setCells g (s.low * 20 + 17) [.int .i64 en, .int .i64 nn, .slice none 0 0]) := Turn.setCells _ _ ((Turn.refl _ V1).drewN 1) (.inl rfl)
  have F := h.put_cell hv hlt (d := { R.D s.low with wt := true, q := ⟨en, nn⟩ }) rfl (T1.trans T2) O2 (X := s.X) (G := updI s.G (s.low : Int) (some ⟨en, nn⟩)) (fun hl => ⟨h.fl _ hlt hl, h.cm _ hlt hl⟩) ⟨by rw [updI_at]; rfl, fun q hq => by rw [updI_at] at hq; injection hq⟩ (fun k hk => ⟨rfl, updI_off _ _ (by omega)⟩)
  have nr : R.r ≠ g := h.br.ne hb (by decide)
  have nb : b3 ≠ g := hb3.ne hb (by decide)
  have z7 := T1.cell nr k7
  have z9 := T1.cell nr h.k9
  have zb := range_turn RG T1 nb
  exact ⟨own_there O1.drew hlt (by decide), ⟨k7, h.k9⟩, ⟨z7, z9⟩, ⟨z7, z9, zb⟩, ⟨T2.cell nr z7, T2.cell nr z9, range_turn zb T2 nb⟩, hb.fz _, c1, (h.br.turn (T1.trans T2) nr).fz _, ⟨{ R with D := upd R.D s.low { R.D s.low with wt := true, q := ⟨en, nn⟩ } }, rfl, rfl, F, T1.trans T2⟩⟩
set_option maxRecDepth 100000 in
set_option maxHeartbeats 8000000 in
theorem RefAt.reply_is (h : RefAt w R c s) (hsh : c.sh ≤ 15) (hl2 : s.low ≤ 100000) (hX : (s.X (s.low : Int)).isSome = true → LiesB s (s.low : Int)) (hrl : ∀ k, k < c.sh → s.rl k ≤ s.low) (en nn : Int) :
    Calls Try.prog 43 #[.pointer (some ⟨R.r, 0, none⟩), .agg #[.int .i64 en, .int .i64 nn, .slice none 0 0]] w fun e w' =>
      (readyB c s = false ∧ e = .returned (.bool false) ∧ Turn (fun _ => False) w w') ∨
      (readyB c s = true ∧ e = .returned (.bool true) ∧ ∃ R' : RB, R'.base = R.base ∧ R'.r = R.r ∧ RefAt w' R' c (replied c s en nn) ∧ Turn (RS R.base w) w w') := by
  obtain ⟨W, hW⟩ : ∃ W, W = w.alloc (.cells #[.int .i64 en, .int .i64 nn, .slice none 0 0] 67) := ⟨_, rfl⟩
  have T : Turn (fun _ => False) w W := by rw [hW]; exact (Turn.refl _ w).alloc _
  have Bk : Blk W w.heap.size 67 := by rw [hW]; exact Blk.new w [.int .i64 en, .int .i64 nn, .slice none 0 0] 67
  have RG : W.rangeAt w.heap.size 0 [.int .i64 en, .int .i64 nn, .slice none 0 0] := by rw [hW]; exact range_new w [.int .i64 en, .int .i64 nn, .slice none 0 0] 67
  have hh := h.keep T
  have CO := Lib.hid (hh.collect_is hsh hX)
  have hb0 : w.heap.size = w.heap.size := rfl
  generalize hbb : w.heap.size = b3 at Bk RG
  have K := Lib.hid (And.intro h (And.intro T (And.intro hh (And.intro Bk (And.intro RG (And.intro hX hrl))))))
  have e4 : wrap64 ((s.low : Int) + 1) = (s.low : Int) + 1 := by unfold wrap64; omega
  have YL : ∀ k, k < c.sh → ∀ i : Nat, s.low < i → (replied c s en nn).Y k (i : Int) = s.Y k (i : Int) := fun k hk i hi => by
    show (if k < c.sh ∧ (s.Y k (s.rl k)).isSome = true then updI (s.Y k) (s.rl k) none else s.Y k) (i : Int) = _
    split
    · exact updI_off _ _ (by have := hrl k hk; omega)
    · rfl
  have YL := Lib.hid YL
  clear h T hh Bk RG hX hrl hsh hb0
  go_enter Try.func43, Try.ntmps43
  go_upto_region 1 with fail
  rw [← hW]
  have HBB := Lib.hid hbb
  clear hW hbb
  go_wp2_with fail
  with_reducible refine CO.out.mono ?_
  rintro e W1 (⟨q, rfl, T1⟩ | ⟨q, rfl, T1⟩)
  · have KE := Lib.hid (And.intro q (K.out.2.1.trans T1))
    clear q T1 CO
    go_wp2_with fail
    go_ret
    exact .inl ⟨KE.out.1, rfl, KE.out.2⟩
  · obtain ⟨h, T, hh, Bk, RG, hX, hrl⟩ := K.out
    have HRD := Lib.hid q
    have hL := hX (allTold_some q)
    obtain ⟨q1, q2, q3⟩ := hL
    have hlt : s.low < s.tail := by omega
    have h1 := hh.keep T1
    obtain ⟨g, cap, hv, hb, hgb, rows⟩ := h1.row hlt
    have k7 := h1.k7
    rw [hv] at k7
    have k9 := h1.k9
    obtain ⟨p, hp⟩ : ∃ p, s.X (s.low : Int) = some p := Option.isSome_iff_exists.1 q3
    have hkd : ((s.X (s.low : Int)).getD (0, 0)).1 = p.1 := by rw [hp]; rfl
    have c2 : W1.cell? ⟨g, s.low * 20 + 2, none⟩ = some (.int .i64 p.1) := by
      rw [← h1.cm s.low hlt (Nat.le_refl _) p hp]
      exact rows s.low hlt 2 _ rfl
    have m0 : (0 : Int) ≤ (s.low : Int) := by omega
    have m1 : (s.low : Int) < (s.tail : Int) := by omega
    have Bk1 := Bk.turn T1 (fun f => f)
    have RG1 := range_turn RG T1 (fun f => f)
    have T01 := T.trans T1
    have frz : W1.frozen? ⟨R.r, 9, none⟩ = false := h1.br.fz _
    have KK := Lib.hid (And.intro h (And.intro h1 (And.intro T01 (And.intro Bk1 (And.intro RG1 (And.intro hlt (And.intro hgb hb)))))))
    have HV := Lib.hid hv
    have XL : ∀ i : Nat, s.low < i → (replied c s en nn).X (i : Int) = s.X (i : Int) := fun i hi => updI_off _ _ (by omega)
    have XL := Lib.hid XL
    have sg : ∀ b, b < w.heap.size → b = g → RS R.base w b := fun b hb' e => by
      rw [e] at hb' ⊢
      obtain ⟨cs, hc⟩ := hb
      exact ⟨hgb, .inr (.inr (.inl ⟨cs, (T01.block g hb' (fun f => f)).symm.trans hc⟩))⟩
    have SG := Lib.hid sg
    have HKD := Lib.hid hkd
    clear h T hh Bk RG hX hrl q q1 q2 q3 hlt h1 hv hb hgb rows hp T1 Bk1 RG1 T01 K CO sg hkd
    by_cases hk1 : p.1 = 1
    · have e1 : (p.1 != 1) = false := by simpa using hk1
      have HK1 := Lib.hid hk1
      clear hk1
      go_wp2_with fail
      go_quiet (fail)
      go_wp2_with fail
      go_ret
      have TD : Turn (fun _ => False) W1 (W1.drewN nq) := (Turn.refl _ W1).drewN _
      refine .inr ⟨HRD.out, rfl, R, rfl, rfl, ?_, ?_⟩
      · have := RefAt.put_low (KK.out.2.1.keep TD) XL.out YL.out (replied c s en nn).rl (replied c s en nn).cnt
        have hG : (replied c s en nn).G = s.G := by
          show (if ((s.X (s.low : Int)).getD (0, 0)).1 = 1 then s.G else _) = s.G
          rw [HKD.out, if_pos HK1.out]
        rw [← hG] at this
        exact this
      · exact ((KK.out.2.2.1.trans TD).more (S' := RS R.base w) (fun _ _ f => f.elim)).setCell (p := ⟨R.r, 9, none⟩) (.inl KK.out.1.sr) _
    · have e1 : (p.1 != 1) = true := by simpa using hk1
      have HK1 := Lib.hid hk1
      clear hk1
      have MID := Lib.hid (fun V (hV : RefAt V R c s) (B3 : Blk V b3 67) (R3 : V.rangeAt b3 0 [.int .i64 en, .int .i64 nn, .slice none 0 0]) => RefAt.wait_mem V hV KK.out.2.2.2.2.2.1 HV.out en nn B3 R3)
      have HC := Lib.hid (show ([.int .i64 en, .int .i64 nn, .slice none 0 0] : List Value).length = 3 ∧ ([.int .i64 en, .int .i64 nn, .slice none 0 0] : List Value).toArray.all (·.oneCell') = true from ⟨rfl, by simp [Value.oneCell']⟩)
      go_wp2_with fail
      go_quiet (fail)
      go_upto_region 5 with fail
      have TD : Turn (fun _ => False) W1 (W1.drewN nq) := (Turn.refl _ W1).drewN _
      generalize W1.drewN nq = V at *
      have hV := KK.out.2.1.keep TD
      have M := Lib.hid (MID.out V hV (KK.out.2.2.2.1.turn TD (fun f => f)) (range_turn KK.out.2.2.2.2.1 TD (fun f => f)))
      have TV := Lib.hid (KK.out.2.2.1.trans TD)
      clear MID hV TD k7 k9 c2 frz
      obtain ⟨th, y0, y1, y2, y3, fz1, yw, fz9, R', hb', hr', F, TG⟩ := M.out
      clear M
      have FIN := Lib.hid (show ∃ R' : RB, R'.base = R.base ∧ R'.r = R.r ∧ RefAt (((V.drew.setCell ⟨g, s.low * 20 + 1, none⟩ (.bool true)).drew.setCells g (s.low * 20 + 17) [.int .i64 en, .int .i64 nn, .slice none 0 0]).setCell ⟨R.r, 9, none⟩ (.int .i64 ((s.low : Int) + 1))) R' c (replied c s en nn) ∧ Turn (RS R.base w) w (((V.drew.setCell ⟨g, s.low * 20 + 1, none⟩ (.bool true)).drew.setCells g (s.low * 20 + 17) [.int .i64 en, .int .i64 nn, .slice none 0 0]).setCell ⟨R.r, 9, none⟩ (.int .i64 ((s.low : Int) + 1))) from ⟨R', hb', hr', by
          have := RefAt.put_low F XL.out YL.out (replied c s en nn).rl (replied c s en nn).cnt
          have hG : (replied c s en nn).G = updI s.G (s.low : Int) (some ⟨en, nn⟩) := by
            show (if ((s.X (s.low : Int)).getD (0, 0)).1 = 1 then s.G else _) = _
            rw [HKD.out, if_neg HK1.out]
          rw [hr'] at this
          rw [← hG] at this
          exact this, ((TV.out.more (S' := RS R.base w) (fun _ _ f => f.elim)).comp TG SG.out).setCell (p := ⟨R.r, 9, none⟩) (.inl KK.out.1.sr) _⟩)
      have TH := Lib.hid th
      have y1r := HRD
      clear th F TG hb' hr' TV
      generalize [Value.int .i64 en, Value.int .i64 nn, Value.slice none 0 0] = cs at *
      refine wp_region_held_drew (S := (fun w' => w'.cell? ⟨R.r, 7, none⟩ = some (.slice (some ⟨g, 0, none⟩) s.tail cap) ∧ w'.cell? ⟨R.r, 9, none⟩ = some (.int .i64 (s.low : Int)))) (by kernel_rfl) ?hs0 (fun hS0 => ?_)
      case hs0 => ((try dsimp only); first | with_reducible exact y0 | with_reducible exact y1 | exact y0 | exact y1)
      refine wpAnyH_take (i := 0) (oi := { dst := some 27, op := Op.move (Operand.tmp 0), type := 30, pos := "ref.go:134", after := #[], guard := none }) (v := ?_) rfl (by kernel_rfl) (by kernel_rfl) (by kernel_rfl) (fun _ _ _ h => h) (Or.inl ⟨by rfl, ?hy1⟩) hS0 ?_
      case hy1 => (intro w hSw; (try dsimp only at hSw); go_simp; try with_reducible rfl)
      try simp only [Act.put, List.setIfInBounds_toArray, List.set_cons_zero, List.set_cons_succ]
      refine wpAnyH_take (i := 1) (oi := { dst := some 28, op := Op.nilCheck (Operand.tmp 27), type := 0, pos := "ref.go:134", after := #[{ on := 0, ground := Ground.data }], guard := none }) (v := ?_) rfl (by kernel_rfl) (by kernel_rfl) (by kernel_rfl) (fun _ _ _ h => h) (Or.inl ⟨by rfl, ?hy2⟩) hS0 ?_
      case hy2 => (intro w hSw; (try dsimp only at hSw); go_simp; try with_reducible rfl)
      try simp only [Act.put, List.setIfInBounds_toArray, List.set_cons_zero, List.set_cons_succ]
      refine wpAnyH_take (i := 2) (oi := { dst := some 29, op := Op.fieldAddr 101 (Operand.tmp 28) 1, type := 0, pos := "ref.go:134", after := #[{ on := 1, ground := Ground.data }], guard := none }) (v := ?_) rfl (by kernel_rfl) (by kernel_rfl) (by kernel_rfl) (fun _ _ _ h => h) (Or.inl ⟨by rfl, ?hy3⟩) hS0 ?_
      case hy3 => (intro w hSw; (try dsimp only at hSw); go_simp; try with_reducible rfl)
      try simp only [Act.put, List.setIfInBounds_toArray, List.set_cons_zero, List.set_cons_succ]
      refine wpAnyH_take (i := 3) (oi := { dst := some 30, op := Op.load 99 (Operand.tmp 29), type := 99, pos := "ref.go:134", after := #[{ on := 2, ground := Ground.data }], guard := none }) (v := ?_) rfl (by kernel_rfl) (by kernel_rfl) (by kernel_rfl) (fun _ _ _ h => h) (Or.inl ⟨by rfl, ?hy4⟩) hS0 ?_
      case hy4 => (intro w hSw; (try dsimp only at hSw); go_simp; try with_reducible rfl)
      try simp only [Act.put, List.setIfInBounds_toArray, List.set_cons_zero, List.set_cons_succ]
      refine wpAnyH_take (i := 4) (oi := { dst := some 31, op := Op.move (Operand.tmp 0), type := 30, pos := "ref.go:134", after := #[], guard := none }) (v := ?_) rfl (by kernel_rfl) (by kernel_rfl) (by kernel_rfl) (fun _ _ _ h => h) (Or.inl ⟨by rfl, ?hy5⟩) hS0 ?_
      case hy5 => (intro w hSw; (try dsimp only at hSw); go_simp; try with_reducible rfl)
      try simp only [Act.put, List.setIfInBounds_toArray, List.set_cons_zero, List.set_cons_succ]
      refine wpAnyH_take (i := 5) (oi := { dst := some 32, op := Op.nilCheck (Operand.tmp 31), type := 0, pos := "ref.go:134", after := #[{ on := 4, ground := Ground.data }], guard := none }) (v := ?_) rfl (by kernel_rfl) (by kernel_rfl) (by kernel_rfl) (fun _ _ _ h => h) (Or.inl ⟨by rfl, ?hy6⟩) hS0 ?_
      case hy6 => (intro w hSw; (try dsimp only at hSw); go_simp; try with_reducible rfl)
      try simp only [Act.put, List.setIfInBounds_toArray, List.set_cons_zero, List.set_cons_succ]
      refine wpAnyH_take (i := 6) (oi := { dst := some 33, op := Op.fieldAddr 101 (Operand.tmp 32) 3, type := 0, pos := "ref.go:134", after := #[{ on := 5, ground := Ground.data }], guard := none }) (v := ?_) rfl (by kernel_rfl) (by kernel_rfl) (by kernel_rfl) (fun _ _ _ h => h) (Or.inl ⟨by rfl, ?hy7⟩) hS0 ?_
      case hy7 => (intro w hSw; (try dsimp only at hSw); go_simp; try with_reducible rfl)
      try simp only [Act.put, List.setIfInBounds_toArray, List.set_cons_zero, List.set_cons_succ]
      refine wpAnyH_take (i := 7) (oi := { dst := some 34, op := Op.load 3 (Operand.tmp 33), type := 3, pos := "ref.go:134", after := #[{ on := 6, ground := Ground.data }], guard := none }) (v := ?_) rfl (by kernel_rfl) (by kernel_rfl) (by kernel_rfl) (fun _ _ _ h => h) (Or.inl ⟨by rfl, ?hy8⟩) hS0 ?_
      case hy8 => (intro w hSw; (try dsimp only at hSw); go_simp; try with_reducible rfl)
      try simp only [Act.put, List.setIfInBounds_toArray, List.set_cons_zero, List.set_cons_succ]
      refine wpAnyH_take (i := 8) (oi := { dst := some 35, op := Op.indexAddr 99 (Operand.tmp 30) (Operand.tmp 34), type := 0, pos := "ref.go:134", after := #[{ on := 3, ground := Ground.data }, { on := 7, ground := Ground.data }, { on := 0, ground := Ground.phase }, { on := 1, ground := Ground.phase }, { on := 2, ground := Ground.phase }, { on := 3, ground := Ground.phase }, { on := 4, ground := Ground.phase }, { on := 5, ground := Ground.phase }, { on := 6, ground := Ground.phase }, { on := 7, ground := Ground.phase }], guard := none }) (v := ?_) rfl (by kernel_rfl) (by kernel_rfl) (by kernel_rfl) (fun _ _ _ h => h) (Or.inl ⟨by rfl, ?hy9⟩) hS0 ?_
      case hy9 => (intro w hSw; (try dsimp only at hSw); go_simp; try with_reducible rfl)
      try simp only [Act.put, List.setIfInBounds_toArray, List.set_cons_zero, List.set_cons_succ]
      refine wpAnyH_take (i := 9) (oi := { dst := some 36, op := Op.fieldAddr 126 (Operand.tmp 35) 1, type := 0, pos := "ref.go:134", after := #[{ on := 8, ground := Ground.data }, { on := 0, ground := Ground.phase }, { on := 1, ground := Ground.phase }, { on := 2, ground := Ground.phase }, { on := 3, ground := Ground.phase }, { on := 4, ground := Ground.phase }, { on := 5, ground := Ground.phase }, { on := 6, ground := Ground.phase }, { on := 7, ground := Ground.phase }], guard := none }) (v := ?_) rfl (by kernel_rfl) (by kernel_rfl) (by kernel_rfl) (fun _ _ _ h => h) (Or.inl ⟨by rfl, ?hy10⟩) hS0 ?_
      case hy10 => (intro w hSw; (try dsimp only at hSw); go_simp; try with_reducible rfl)
      try simp only [Act.put, List.setIfInBounds_toArray, List.set_cons_zero, List.set_cons_succ]
      refine wpAnyH_ready (rs := [10]) (by kernel_rfl) (by simp) ?_
      refine AllReadyH.cons (o := { dst := none, op := Op.store 4 (Operand.tmp 36) (Operand.const (Value.bool true)), type := 0, pos := "ref.go:134", after := #[{ on := 9, ground := Ground.data }, { on := 0, ground := Ground.phase }, { on := 1, ground := Ground.phase }, { on := 2, ground := Ground.phase }, { on := 3, ground := Ground.phase }, { on := 4, ground := Ground.phase }, { on := 5, ground := Ground.phase }, { on := 6, ground := Ground.phase }, { on := 7, ground := Ground.phase }], guard := none }) rfl (fun K hK => ?_) ?_
      · go_simp
        refine hK.out _ _ ?hs11 (fun hS11 => ?_)
        case hs11 => ((try dsimp only); first | with_reducible exact y0 | with_reducible exact y1 | exact y0 | exact y1)
        clear hK K hS0
        refine wpAnyH_done (by kernel_rfl) ?_ _
        go_upto_region 6 with fail
        change Code.wp _ _ _ _ (V.drew.setCell ⟨g, s.low * 20 + 1, none⟩ (.bool true))
        generalize V.drew.setCell ⟨g, s.low * 20 + 1, none⟩ (.bool true) = V1 at *
        refine wp_region_held_drew (S := (fun w' => w'.cell? ⟨R.r, 7, none⟩ = some (.slice (some ⟨g, 0, none⟩) s.tail cap) ∧ w'.cell? ⟨R.r, 9, none⟩ = some (.int .i64 (s.low : Int)) ∧ w'.rangeAt b3 0 cs)) (by kernel_rfl) ?hs0 (fun hS0 => ?_)
        case hs0 => ((try dsimp only); first | with_reducible exact y2 | with_reducible exact y3 | exact y2 | exact y3)
        refine wpAnyH_take (i := 0) (oi := { dst := some 37, op := Op.move (Operand.tmp 0), type := 30, pos := "ref.go:135", after := #[], guard := none }) (v := ?_) rfl (by kernel_rfl) (by kernel_rfl) (by kernel_rfl) (fun _ _ _ h => h) (Or.inl ⟨by rfl, ?hy1⟩) hS0 ?_
        case hy1 => (intro w hSw; (try dsimp only at hSw); go_simp; try with_reducible rfl)
        try simp only [Act.put, List.setIfInBounds_toArray, List.set_cons_zero, List.set_cons_succ]
        refine wpAnyH_take (i := 1) (oi := { dst := some 38, op := Op.nilCheck (Operand.tmp 37), type := 0, pos := "ref.go:135", after := #[{ on := 0, ground := Ground.data }], guard := none }) (v := ?_) rfl (by kernel_rfl) (by kernel_rfl) (by kernel_rfl) (fun _ _ _ h => h) (Or.inl ⟨by rfl, ?hy2⟩) hS0 ?_
        case hy2 => (intro w hSw; (try dsimp only at hSw); go_simp; try with_reducible rfl)
        try simp only [Act.put, List.setIfInBounds_toArray, List.set_cons_zero, List.set_cons_succ]
        refine wpAnyH_take (i := 2) (oi := { dst := some 39, op := Op.fieldAddr 101 (Operand.tmp 38) 1, type := 0, pos := "ref.go:135", after := #[{ on := 1, ground := Ground.data }], guard := none }) (v := ?_) rfl (by kernel_rfl) (by kernel_rfl) (by kernel_rfl) (fun _ _ _ h => h) (Or.inl ⟨by rfl, ?hy3⟩) hS0 ?_
        case hy3 => (intro w hSw; (try dsimp only at hSw); go_simp; try with_reducible rfl)
        try simp only [Act.put, List.setIfInBounds_toArray, List.set_cons_zero, List.set_cons_succ]
        refine wpAnyH_take (i := 3) (oi := { dst := some 40, op := Op.load 99 (Operand.tmp 39), type := 99, pos := "ref.go:135", after := #[{ on := 2, ground := Ground.data }], guard := none }) (v := ?_) rfl (by kernel_rfl) (by kernel_rfl) (by kernel_rfl) (fun _ _ _ h => h) (Or.inl ⟨by rfl, ?hy4⟩) hS0 ?_
        case hy4 => (intro w hSw; (try dsimp only at hSw); go_simp; try with_reducible rfl)
        try simp only [Act.put, List.setIfInBounds_toArray, List.set_cons_zero, List.set_cons_succ]
        refine wpAnyH_take (i := 4) (oi := { dst := some 41, op := Op.move (Operand.tmp 0), type := 30, pos := "ref.go:135", after := #[], guard := none }) (v := ?_) rfl (by kernel_rfl) (by kernel_rfl) (by kernel_rfl) (fun _ _ _ h => h) (Or.inl ⟨by rfl, ?hy5⟩) hS0 ?_
        case hy5 => (intro w hSw; (try dsimp only at hSw); go_simp; try with_reducible rfl)
        try simp only [Act.put, List.setIfInBounds_toArray, List.set_cons_zero, List.set_cons_succ]
        refine wpAnyH_take (i := 5) (oi := { dst := some 42, op := Op.nilCheck (Operand.tmp 41), type := 0, pos := "ref.go:135", after := #[{ on := 4, ground := Ground.data }], guard := none }) (v := ?_) rfl (by kernel_rfl) (by kernel_rfl) (by kernel_rfl) (fun _ _ _ h => h) (Or.inl ⟨by rfl, ?hy6⟩) hS0 ?_
        case hy6 => (intro w hSw; (try dsimp only at hSw); go_simp; try with_reducible rfl)
        try simp only [Act.put, List.setIfInBounds_toArray, List.set_cons_zero, List.set_cons_succ]
        refine wpAnyH_take (i := 6) (oi := { dst := some 43, op := Op.fieldAddr 101 (Operand.tmp 42) 3, type := 0, pos := "ref.go:135", after := #[{ on := 5, ground := Ground.data }], guard := none }) (v := ?_) rfl (by kernel_rfl) (by kernel_rfl) (by kernel_rfl) (fun _ _ _ h => h) (Or.inl ⟨by rfl, ?hy7⟩) hS0 ?_
        case hy7 => (intro w hSw; (try dsimp only at hSw); go_simp; try with_reducible rfl)
        try simp only [Act.put, List.setIfInBounds_toArray, List.set_cons_zero, List.set_cons_succ]
        refine wpAnyH_take (i := 7) (oi := { dst := some 44, op := Op.load 3 (Operand.tmp 43), type := 3, pos := "ref.go:135", after := #[{ on := 6, ground := Ground.data }], guard := none }) (v := ?_) rfl (by kernel_rfl) (by kernel_rfl) (by kernel_rfl) (fun _ _ _ h => h) (Or.inl ⟨by rfl, ?hy8⟩) hS0 ?_
        case hy8 => (intro w hSw; (try dsimp only at hSw); go_simp; try with_reducible rfl)
        try simp only [Act.put, List.setIfInBounds_toArray, List.set_cons_zero, List.set_cons_succ]
        refine wpAnyH_take (i := 8) (oi := { dst := some 45, op := Op.load 67 (Operand.tmp 3), type := 67, pos := "ref.go:135", after := #[], guard := none }) (v := .agg cs.toArray) rfl (by kernel_rfl) (by kernel_rfl) (by kernel_rfl) (fun _ _ _ h => h) (yieldsIf_load_mid (by rfl) 67 _ rfl b3 0 rfl cs _ (fun _ h => h.2.2) Try.underlying67 rfl (by rw [HC.out.1]; exact size67)) hS0 ?_
        try simp only [Act.put, List.setIfInBounds_toArray, List.set_cons_zero, List.set_cons_succ]
        refine wpAnyH_take (i := 9) (oi := { dst := some 46, op := Op.indexAddr 99 (Operand.tmp 40) (Operand.tmp 44), type := 0, pos := "ref.go:135", after := #[{ on := 3, ground := Ground.data }, { on := 7, ground := Ground.data }, { on := 0, ground := Ground.phase }, { on := 1, ground := Ground.phase }, { on := 2, ground := Ground.phase }, { on := 3, ground := Ground.phase }, { on := 4, ground := Ground.phase }, { on := 5, ground := Ground.phase }, { on := 6, ground := Ground.phase }, { on := 7, ground := Ground.phase }, { on := 8, ground := Ground.phase }], guard := none }) (v := ?_) rfl (by kernel_rfl) (by kernel_rfl) (by kernel_rfl) (fun _ _ _ h => h) (Or.inl ⟨by rfl, ?hy10⟩) hS0 ?_
        case hy10 => (intro w hSw; (try dsimp only at hSw); go_simp; try with_reducible rfl)
        try simp only [Act.put, List.setIfInBounds_toArray, List.set_cons_zero, List.set_cons_succ]
        refine wpAnyH_take (i := 10) (oi := { dst := some 47, op := Op.fieldAddr 126 (Operand.tmp 46) 4, type := 0, pos := "ref.go:135", after := #[{ on := 9, ground := Ground.data }, { on := 0, ground := Ground.phase }, { on := 1, ground := Ground.phase }, { on := 2, ground := Ground.phase }, { on := 3, ground := Ground.phase }, { on := 4, ground := Ground.phase }, { on := 5, ground := Ground.phase }, { on := 6, ground := Ground.phase }, { on := 7, ground := Ground.phase }, { on := 8, ground := Ground.phase }], guard := none }) (v := ?_) rfl (by kernel_rfl) (by kernel_rfl) (by kernel_rfl) (fun _ _ _ h => h) (Or.inl ⟨by rfl, ?hy11⟩) hS0 ?_
        case hy11 => (intro w hSw; (try dsimp only at hSw); go_simp; try with_reducible rfl)
        try simp only [Act.put, List.setIfInBounds_toArray, List.set_cons_zero, List.set_cons_succ]
        refine wpAnyH_ready (rs := [11]) (by kernel_rfl) (by simp) ?_
        refine AllReadyH.cons (o := { dst := none, op := Op.store 67 (Operand.tmp 47) (Operand.tmp 45), type := 0, pos := "ref.go:135", after := #[{ on := 10, ground := Ground.data }, { on := 8, ground := Ground.data }, { on := 0, ground := Ground.phase }, { on := 1, ground := Ground.phase }, { on := 2, ground := Ground.phase }, { on := 3, ground := Ground.phase }, { on := 4, ground := Ground.phase }, { on := 5, ground := Ground.phase }, { on := 6, ground := Ground.phase }, { on := 7, ground := Ground.phase }, { on := 8, ground := Ground.phase }], guard := none }) rfl (fun K hK => ?_) ?_
        · rw [if_pos (by rfl)]; refine wp_store_mid 67 _ _ rfl g (s.low * 20 + 17) cs.toArray rfl rfl (by rw [List.size_toArray, HC.out.1]; exact TH.out) (by rw [List.size_toArray, HC.out.1]; exact size67) HC.out.2 ?_
          refine hK.out _ _ ?hs12 (fun hS12 => ?_)
          case hs12 => ((try dsimp only); first | with_reducible exact y2 | with_reducible exact y3 | exact y2 | exact y3)
          clear hK K hS0
          refine wpAnyH_done (by kernel_rfl) ?_ _
          generalize V1.drew.setCells g (s.low * 20 + 17) cs = V2 at *
          have z9 := y3.2.1
          clear y0 y1 y2 y3
          go_wp2_with fail
          go_ret
          exact .inr ⟨HRD.out, rfl, FIN.out⟩
        exact AllReadyH.nil
      exact AllReadyH.nil
end
end Go.Proofs.Yteokdibfdahabaa
