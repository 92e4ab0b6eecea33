/-
  A condition.
-/
import Derived.Test.YtadogobdlcionaaDoorYb
namespace Go.Proofs.YtadogobdlcionaaDoor
open Go.ChangeShapes Go.WideShapes Go.ChangeAt Go.RowKit Go.Shelf
set_option linter.unusedVariables false
/-- A condition. -/
structure CN where
  op : Int
  left : List CD
  right : List CD
/-- A condition in memory. -/
def cnV (b : Nat) (c : CN) (w : World) (x : Value) : Prop := ∃ lv rv, x = .agg #[.int .i64 c.op, lv, rv] ∧ cdsV b c.left w lv ∧ cdsV b c.right w rv
/-- A sum with fuel enough. -/
def sumB (s : ByteArray) (L : List (Nat × Tok)) (e nest i : Nat) : PA (List CD) := readF s L e (3 * L.length + 3) .su nest i
theorem sum_any (W : World) {p base : Nat} {s : ByteArray} {L : List (Nat × Tok)} {v : Value} {i e nest : Nat} (h : ParAt W p base s L v i e nest) (hi : i ≤ L.length) (hn : nest ≤ 16) :
    Calls Tryd.prog 36 #[.pointer (some ⟨p, 0, none⟩)] W (PaPost p base s L v e nest W (cdsV W.heap.size) (sumB s L e nest i)) :=
  (reads_is p base s L v e _ nest i W h hi hn).2.2 (enough s L e _ _ _ _ (by simp only [Tg.need]; omega))
theorem sum_le {s : ByteArray} {L : List (Nat × Tok)} {e nest i j : Nat} {l : List CD} (h : sumB s L e nest i = .ok l j) (hi : i ≤ L.length) : j ≤ L.length := read_le s L e _ _ _ _ _ _ h hi
/-- How a condition is read. -/
def condB (s : ByteArray) (L : List (Nat × Tok)) (e nest i : Nat) : PA CN :=
  match sumB s L e nest i with
  | .stop a r => .stop a r
  | .out => .out
  | .ok l j => match takeB (inB holdsT s) L j with
    | none => .stop (placeE L e j) 11
    | some x => match sumB s L e nest (j + 1) with
      | .stop a r => .stop a r
      | .out => .out
      | .ok r k => .ok ⟨1 + idxI holdsT (textOf s x), l, r⟩ k
theorem size59 : (Tryd.prog.info? 59).map (fun i => i.size) = some 3 := by kernel_rfl
theorem cond_end {w W : World} {lv rv : Value} {op : Int} {a : Act} {Q : Ending → World → Prop} (R : W.rangeAt w.heap.size 0 [.int .i64 0, .slice none 0 0, .slice none 0 0]) (B : Blk W w.heap.size 59) (hd : a.defers = []) (hp : a.tmps.getD 2 undef = .pointer (some ⟨w.heap.size, 0, none⟩))
    (hq : Q (.returned (.agg #[.int .i64 op, lv, rv])) (W.setCells w.heap.size 0 [.int .i64 op, lv, rv])) :
    bodyPost Tryd.prog Tryd.f21 Q Exit.ret a (((W.setCell ⟨w.heap.size, 0, none⟩ (.int .i64 op)).setCell ⟨w.heap.size, 1, none⟩ lv).setCell ⟨w.heap.size, 2, none⟩ rv) :=
  have R2 := World.rangeAt_setCells_same W w.heap.size 0 [.int .i64 op, lv, rv] (range_there R rfl B)
  bodyPost_ret (v := .agg #[.int .i64 op, lv, rv]) (res_cell (a := 2) rfl hp (run_loadVar_mid _ w.heap.size 0 59 _ _ R2 Tryd.underlying59 rfl size59)) hd hq
set_option maxRecDepth 100000 in
set_option maxHeartbeats 4000000 in
theorem cond_is (w : World) {p base : Nat} {s : ByteArray} {L : List (Nat × Tok)} {v : Value} {i e nest : Nat} (h : ParAt w p base s L v i e nest) (hi : i ≤ L.length) (hn : nest ≤ 16) :
    Calls Tryd.prog 21 #[.pointer (some ⟨p, 0, none⟩)] w (PaPost p base s L v e nest w (cnV w.heap.size) (condB s L e nest i)) := by
  have SM := Lib.hid (fun (W : World) (i : Nat) (h : ParAt W p base s L v i e nest) (hi : i ≤ L.length) => sum_any W h hi hn)
  have HD := Lib.hid (fun (W : World) (i : Nat) (h : ParAt W p base s L v i e nest) => take_is W h (hold_tells s))
  have HO := Lib.hid (fun W => holds_is W)
  obtain ⟨W, hW⟩ : ∃ W, W = w.alloc (.cells #[.int .i64 0, .slice none 0 0, .slice none 0 0] 59) := ⟨_, rfl⟩
  have T0 : Turn (fun _ => False) w W := by rw [hW]; exact (Turn.refl _ _).alloc _
  have R0 : W.rangeAt w.heap.size 0 [.int .i64 0, .slice none 0 0, .slice none 0 0] := by rw [hW]; exact range_new w [.int .i64 0, .slice none 0 0, .slice none 0 0] 59
  have B0 : Blk W w.heap.size 59 := by rw [hW]; exact Blk.new w [.int .i64 0, .slice none 0 0, .slice none 0 0] 59
  have S1 := Lib.hid (SM.out W i (h.turn T0) hi)
  have F := Lib.hid (And.intro T0 (And.intro R0 (And.intro B0 (And.intro h.bl.lt (h.turn T0)))))
  have HW := Lib.hid hW
  obtain ⟨R, hR⟩ : ∃ R, R = condB s L e nest i := ⟨_, rfl⟩
  rw [← hR]
  have HR := Lib.hid hR
  have HI := Lib.hid hi
  have IX := Lib.hid (fun (W : World) (g cap : Nat) (t : ByteArray) (h : W.rangeAt g 0 (holdsT.map Value.string)) => index_is (cap := cap) h rfl (by decide) t)
  clear hW T0 R0 B0 h hR hi hn
  go_enter Tryd.func21, Tryd.ntmps21
  go_upto_region 1 with fail
  rw [← HW.out]
  go_wp2_with fail
  with_reducible refine S1.out.mono ?_
  intro y w1 hy
  obtain ⟨r1, hr1⟩ : ∃ r, r = sumB s L e nest i := ⟨_, rfl⟩
  rw [← hr1] at hy
  have H1 := Lib.hid hr1
  clear hr1
  cases r1 with
  | out => exact hy.elim
  | stop a r =>
    obtain ⟨rfl, T1⟩ := hy
    have G := Lib.hid ((F.out.1.more (fun _ _ f => f.elim)).trans T1)
    clear T1
    unfold stopE
    go_wp2_with fail
    refine ⟨rfl, ?_⟩
    have hR := HR.out
    unfold condB at hR
    rw [← H1.out] at hR
    rw [hR]
    exact ⟨rfl, G.out⟩
  | ok l j =>
  obtain ⟨lv, rfl, V1, T1, P1⟩ := hy
  have hj := sum_le H1.out.symm HI.out
  have np : w.heap.size ≠ p := by have := F.out.2.2.2.1; omega
  have G1 := Lib.hid (And.intro (V1.low F.out.1.size) (And.intro ((F.out.1.more (S' := fun k => k = p) (fun _ _ f => f.elim)).trans T1) (And.intro P1 (And.intro (range_turn F.out.2.1 T1 np) (F.out.2.2.1.turn T1 np)))))
  have HJ := Lib.hid (And.intro hj np)
  clear V1 T1 P1 hj np
  go_wp2_with fail
  with_reducible refine (HO.out w1).mono ?_
  rintro y w2 ⟨g, cap, rfl, R2, T2⟩
  have G2 := Lib.hid (And.intro (G1.out.2.1.trans (T2.more (fun _ _ f => f.elim))) (And.intro (G1.out.2.2.1.turn T2) (And.intro R2 T2)))
  have hg : g ≠ p := by
    intro q
    have a := G2.out.2.2.1 0 (.string ⟨#[61]⟩) rfl
    have b := G2.out.2.1.c0
    obtain ⟨_, _, hv, -⟩ := own_slice G2.out.2.1.row
    rw [q] at a
    rw [hv] at b
    cases a.symm.trans b
  have HG := Lib.hid hg
  clear R2 T2 hg
  go_wp2_with fail
  with_reducible refine (HD.out w2 _ G2.out.2.1).mono ?_
  rintro y w3 (⟨z, hz, rfl, T3, P3⟩ | ⟨hz, rfl, T3⟩)
  case inr =>
    have G3 := Lib.hid (G2.out.1.trans T3)
    have HZ := Lib.hid hz
    clear T3 hz
    unfold stopE
    go_wp2_with fail
    refine ⟨rfl, ?_⟩
    have hR := HR.out
    unfold condB at hR
    rw [← H1.out] at hR
    dsimp only at hR
    rw [HZ.out] at hR
    rw [hR]
    exact ⟨rfl, G3.out⟩
  have g3 := tok_text z.2.kind z.1 z.2.n (textOf s z) w3
  rw [show tokC s z = tokL z.2.kind z.1 z.2.n (textOf s z) from rfl]
  unfold tokL
  have IX3 := Lib.hid (IX.out w3 g cap (textOf s z) (range_turn G2.out.2.2.1 T3 HG.out))
  have G3 := Lib.hid (And.intro (G2.out.1.trans T3) (And.intro P3 (T3)))
  have HZ := Lib.hid hz
  clear T3 P3 hz
  go_wp2_with fail
  with_reducible refine IX3.out.mono ?_
  rintro y w4 ⟨rfl, T4⟩
  have hzr := idx_range holdsT (textOf s z)
  obtain ⟨zi, hzi⟩ : ∃ x, x = idxI holdsT (textOf s z) := ⟨_, rfl⟩
  rw [← hzi] at hzr ⊢
  have hw : wrap64 (1 + zi) = 1 + zi := by have : (holdsT.length : Int) = 6 := rfl; unfold wrap64; omega
  have G4 := Lib.hid (And.intro (G3.out.1.trans (T4.more (fun _ _ f => f.elim))) (G3.out.2.1.turn T4))
  have S5 := Lib.hid (SM.out w4 (j + 1) G4.out.2 (by have := take_lt HZ.out; omega))
  have HZI := Lib.hid hzi
  have TA := Lib.hid ((G2.out.2.2.2.more (S' := fun k => k = p) (fun _ _ f => f.elim)).trans (G3.out.2.2.trans (T4.more (fun _ _ f => f.elim))))
  clear T4 hzi hzr g3
  go_wp2_with fail
  with_reducible refine S5.out.mono ?_
  intro y w5 hy
  obtain ⟨r2, hr2⟩ : ∃ r, r = sumB s L e nest (j + 1) := ⟨_, rfl⟩
  rw [← hr2] at hy
  have H2 := Lib.hid hr2
  clear hr2
  have hR := HR.out
  unfold condB at hR
  rw [← H1.out] at hR
  dsimp only at hR
  rw [HZ.out] at hR
  dsimp only at hR
  rw [← H2.out, ← HZI.out] at hR
  have HRR := Lib.hid hR
  clear hR
  cases r2 with
  | out => exact hy.elim
  | stop a r =>
    obtain ⟨rfl, T5⟩ := hy
    have G := Lib.hid (G4.out.1.trans T5)
    clear T5
    unfold stopE
    go_wp2_with fail
    refine ⟨rfl, ?_⟩
    rw [HRR.out]
    exact ⟨rfl, G.out⟩
  | ok r k =>
  obtain ⟨rv, rfl, V5, T5, P5⟩ := hy
  have TB := TA.out.trans T5
  have R5 := range_turn G1.out.2.2.2.1 TB HJ.out.2
  have B5 := G1.out.2.2.2.2.turn TB HJ.out.2
  have VL := G1.out.1.turn TB (fun x hx q => by have := F.out.2.2.2.1; omega)
  have VR := V5.low G4.out.1.size
  obtain ⟨la, lc, rfl, -⟩ := own_slice VL
  obtain ⟨ra, rc, rfl, -⟩ := own_slice VR
  have y0 : w5.cell? ⟨w.heap.size, 0, none⟩ = some (.int .i64 0) := R5 0 _ rfl
  have y1 : w5.cell? ⟨w.heap.size, 1, none⟩ = some (.slice none 0 0) := R5 1 _ rfl
  have y2 : w5.cell? ⟨w.heap.size, 2, none⟩ = some (.slice none 0 0) := R5 2 _ rfl
  have ff := B5.fz
  have TE : Turn (fun k => k = w.heap.size) w5 (w5.setCells w.heap.size 0 [.int .i64 (1 + zi), .slice la l.length lc, .slice ra r.length rc]) := Turn.setCells _ 0 (Turn.refl _ _) (.inl rfl)
  have nb : ∀ {n : Nat} {xs : List Value} {x : Value} {bs sz ty : Nat}, w5.ownsRow bs ty sz x n xs → ty ≠ 59 → ∀ k, x.ownBlock = some k → ¬ k = w.heap.size := by
    intro n xs x bs sz ty ho ht k hk q
    obtain ⟨⟨cs, hb⟩, _⟩ := own_blk ho hk
    obtain ⟨cs', hb'⟩ := B5
    rw [q, hb'] at hb
    injection hb with hb
    injection hb with _ hb
    exact ht hb.symm
  have VL6 : cdsV w.heap.size l (w5.setCells w.heap.size 0 [.int .i64 (1 + zi), .slice la l.length lc, .slice ra r.length rc]) (.slice la l.length lc) := own_turn VL TE (nb VL (by decide))
  have VR6 : cdsV w.heap.size r (w5.setCells w.heap.size 0 [.int .i64 (1 + zi), .slice la l.length lc, .slice ra r.length rc]) (.slice ra r.length rc) := own_turn VR TE (nb VR (by decide))
  have P6 := P5.turnS TE (by have := HJ.out.2; omega) (nb P5.row (by decide))
  have T6 := (G4.out.1.trans T5).comp TE (fun x hx q => by omega)
  have FIN := Lib.hid (And.intro R5 (And.intro B5 (And.intro VL6 (And.intro VR6 (And.intro T6 P6)))))
  clear R5 B5 VL6 VR6 T6 P6 TE nb VL VR TB V5 T5 P5
  go_wp2_with fail
  refine cond_end FIN.out.1 FIN.out.2.1 rfl rfl ?_
  rw [HRR.out]
  exact ⟨_, rfl, ⟨_, _, rfl, FIN.out.2.2.1, FIN.out.2.2.2.1⟩, FIN.out.2.2.2.2.1, FIN.out.2.2.2.2.2⟩
end Go.Proofs.YtadogobdlcionaaDoor
