/-
  A log in memory: what is written.
-/
import Derived.Test.YtgfobgabdafclaaGreatLg
namespace Go.Proofs.YtgfobgabdafclaaGreat
open Go.ChangeShapes Go.WideShapes Go.ChangeAt Go.RowKit
set_option linter.unusedVariables false
section
variable {w w' : World} {B : LB} {c : Cf} {s : LSt}
theorem LogAt.put_tail (h : LogAt w B c s) (t : Nat) (ht : t ≤ 1000) : LogAt (w.setCell ⟨B.l, 9, none⟩ (.int .i64 (t : Int))) B c { s with tail := t } := by
  obtain ⟨cap, k12⟩ := h.k12
  obtain ⟨n, m, ha, hn⟩ := h.ans
  obtain ⟨V, hV, hO⟩ := h.outs
  have T : Turn (fun k => k = B.l) w (w.setCell ⟨B.l, 9, none⟩ (.int .i64 (t : Int))) := Turn.put _ _ _ _
  have hrc : ¬ B.rc = B.l := h.com.br.ne h.bl (by decide)
  have hpc : ¬ B.pc = B.l := h.com.bp.ne h.bl (by decide)
  have hw : ¬ B.wb = B.l := h.bw.ne h.bl (by decide)
  have hmb : ¬ B.mb = B.l := fun e => ha.ne h.bl e.symm
  have hrw : ∀ i, i < c.sh → ¬ B.rw i = B.l := fun i hi => (hV i hi).br.ne h.bl (by decide)
  have hpw : ∀ i, i < c.sh → ¬ B.pw i = B.l := fun i hi => (hV i hi).bp.ne h.bl (by decide)
  have h3 : ∀ k, Blk w k 3 → ¬ k = B.l := fun k hk => hk.ne h.bl (by decide)
  exact ⟨h.bl.set _ _, (cell_off _ _ _ _ _ (by decide)).trans h.k0, (cell_off _ _ _ _ _ (by decide)).trans h.k1, (cell_off _ _ _ _ _ (by decide)).trans h.k2, (cell_off _ _ _ _ _ (by decide)).trans h.k3, (cell_off _ _ _ _ _ (by decide)).trans h.k4, (cell_off _ _ _ _ _ (by decide)).trans h.k5, (cell_off _ _ _ _ _ (by decide)).trans h.k6, (cell_off _ _ _ _ _ (by decide)).trans h.k7, (cell_off _ _ _ _ _ (by decide)).trans h.k8, World.cell?_setCell_same _ _ _ h.k9, (cell_off _ _ _ _ _ (by decide)).trans h.k10, (cell_off _ _ _ _ _ (by decide)).trans h.k11, ⟨cap, (cell_off _ _ _ _ _ (by decide)).trans k12⟩, (cell_off _ _ _ _ _ (by decide)).trans h.k13, h.sh1, h.sh2, ht, h.com.turn T hrc hpc, h.bw.turn T hw, fun i hi => T.cell hw (h.w0 i hi), fun i hi => T.cell hw (h.w1 i hi), fun i hi => T.cell hw (h.w2 i hi), ⟨V, fun i hi => (hV i hi).turn T (hrw i hi) (hpw i hi), fun i hi j => (hO i hi j).turn T h3⟩, h.apart, ⟨n, m, ha.block (T.block _ ha.lt hmb), hn⟩⟩
theorem LogAt.put_closed (h : LogAt w B c s) (t : Bool) : LogAt (w.setCell ⟨B.l, 10, none⟩ (.bool t)) B c { s with closed := t } := by
  obtain ⟨cap, k12⟩ := h.k12
  obtain ⟨n, m, ha, hn⟩ := h.ans
  obtain ⟨V, hV, hO⟩ := h.outs
  have T : Turn (fun k => k = B.l) w (w.setCell ⟨B.l, 10, none⟩ (.bool t)) := Turn.put _ _ _ _
  have hrc : ¬ B.rc = B.l := h.com.br.ne h.bl (by decide)
  have hpc : ¬ B.pc = B.l := h.com.bp.ne h.bl (by decide)
  have hw : ¬ B.wb = B.l := h.bw.ne h.bl (by decide)
  have hmb : ¬ B.mb = B.l := fun e => ha.ne h.bl e.symm
  have hrw : ∀ i, i < c.sh → ¬ B.rw i = B.l := fun i hi => (hV i hi).br.ne h.bl (by decide)
  have hpw : ∀ i, i < c.sh → ¬ B.pw i = B.l := fun i hi => (hV i hi).bp.ne h.bl (by decide)
  have h3 : ∀ k, Blk w k 3 → ¬ k = B.l := fun k hk => hk.ne h.bl (by decide)
  exact ⟨h.bl.set _ _, (cell_off _ _ _ _ _ (by decide)).trans h.k0, (cell_off _ _ _ _ _ (by decide)).trans h.k1, (cell_off _ _ _ _ _ (by decide)).trans h.k2, (cell_off _ _ _ _ _ (by decide)).trans h.k3, (cell_off _ _ _ _ _ (by decide)).trans h.k4, (cell_off _ _ _ _ _ (by decide)).trans h.k5, (cell_off _ _ _ _ _ (by decide)).trans h.k6, (cell_off _ _ _ _ _ (by decide)).trans h.k7, (cell_off _ _ _ _ _ (by decide)).trans h.k8, (cell_off _ _ _ _ _ (by decide)).trans h.k9, World.cell?_setCell_same _ _ _ h.k10, (cell_off _ _ _ _ _ (by decide)).trans h.k11, ⟨cap, (cell_off _ _ _ _ _ (by decide)).trans k12⟩, (cell_off _ _ _ _ _ (by decide)).trans h.k13, h.sh1, h.sh2, h.st2, h.com.turn T hrc hpc, h.bw.turn T hw, fun i hi => T.cell hw (h.w0 i hi), fun i hi => T.cell hw (h.w1 i hi), fun i hi => T.cell hw (h.w2 i hi), ⟨V, fun i hi => (hV i hi).turn T (hrw i hi) (hpw i hi), fun i hi j => (hO i hi j).turn T h3⟩, h.apart, ⟨n, m, ha.block (T.block _ ha.lt hmb), hn⟩⟩
theorem LogAt.put_cur (h : LogAt w B c s) {k : Nat} (hk : k < c.sh) (t : Nat) : LogAt (w.setCell ⟨B.wb, k * 3, none⟩ (.int .i64 (t : Int))) B c { s with cur := upd s.cur k t } := by
  obtain ⟨cap, k12⟩ := h.k12
  obtain ⟨n, m, ha, hn⟩ := h.ans
  obtain ⟨V, hV, hO⟩ := h.outs
  have T : Turn (fun k => k = B.wb) w (w.setCell ⟨B.wb, k * 3, none⟩ (.int .i64 (t : Int))) := Turn.put _ _ _ _
  have hl : ¬ B.l = B.wb := h.bl.ne h.bw (by decide)
  have hrc : ¬ B.rc = B.wb := h.com.br.ne h.bw (by decide)
  have hpc : ¬ B.pc = B.wb := h.com.bp.ne h.bw (by decide)
  have hmb : ¬ B.mb = B.wb := fun e => ha.ne h.bw e.symm
  have hrw : ∀ i, i < c.sh → ¬ B.rw i = B.wb := fun i hi => (hV i hi).br.ne h.bw (by decide)
  have hpw : ∀ i, i < c.sh → ¬ B.pw i = B.wb := fun i hi => (hV i hi).bp.ne h.bw (by decide)
  have h3 : ∀ k, Blk w k 3 → ¬ k = B.wb := fun k hk => hk.ne h.bw (by decide)
  refine ⟨h.bl.turn T hl, T.cell hl h.k0, T.cell hl h.k1, T.cell hl h.k2, T.cell hl h.k3, T.cell hl h.k4, T.cell hl h.k5, T.cell hl h.k6, T.cell hl h.k7, T.cell hl h.k8, T.cell hl h.k9, T.cell hl h.k10, T.cell hl h.k11, ⟨cap, T.cell hl k12⟩, T.cell hl h.k13, h.sh1, h.sh2, h.st2, h.com.turn T hrc hpc, h.bw.set _ _, ?_, ?_, ?_, ⟨V, fun i hi => (hV i hi).turn T (hrw i hi) (hpw i hi), fun i hi j => (hO i hi j).turn T h3⟩, h.apart, ⟨n, m, ha.block (T.block _ ha.lt hmb), hn⟩⟩
  · exact fun i hi => by
      by_cases e : i = k
      · subst e
        show _ = some (Value.int .i64 ((upd s.cur i t i : Nat) : Int))
        rw [upd_at]
        exact World.cell?_setCell_same _ _ _ (h.w0 i hi)
      · show _ = some (Value.int .i64 ((upd s.cur k t i : Nat) : Int))
        rw [upd_off _ _ e, cell_off _ _ _ _ _ (by omega)]
        exact h.w0 i hi
  · exact fun i hi => (cell_off _ _ _ _ _ (by omega)).trans (h.w1 i hi)
  · exact fun i hi => (cell_off _ _ _ _ _ (by omega)).trans (h.w2 i hi)
theorem LogAt.put_left (h : LogAt w B c s) {k : Nat} (hk : k < c.sh) (t : Bool) : LogAt (w.setCell ⟨B.wb, k * 3 + 1, none⟩ (.bool t)) B c { s with left := upd s.left k t } := by
  obtain ⟨cap, k12⟩ := h.k12
  obtain ⟨n, m, ha, hn⟩ := h.ans
  obtain ⟨V, hV, hO⟩ := h.outs
  have T : Turn (fun k => k = B.wb) w (w.setCell ⟨B.wb, k * 3 + 1, none⟩ (.bool t)) := Turn.put _ _ _ _
  have hl : ¬ B.l = B.wb := h.bl.ne h.bw (by decide)
  have hrc : ¬ B.rc = B.wb := h.com.br.ne h.bw (by decide)
  have hpc : ¬ B.pc = B.wb := h.com.bp.ne h.bw (by decide)
  have hmb : ¬ B.mb = B.wb := fun e => ha.ne h.bw e.symm
  have hrw : ∀ i, i < c.sh → ¬ B.rw i = B.wb := fun i hi => (hV i hi).br.ne h.bw (by decide)
  have hpw : ∀ i, i < c.sh → ¬ B.pw i = B.wb := fun i hi => (hV i hi).bp.ne h.bw (by decide)
  have h3 : ∀ k, Blk w k 3 → ¬ k = B.wb := fun k hk => hk.ne h.bw (by decide)
  refine ⟨h.bl.turn T hl, T.cell hl h.k0, T.cell hl h.k1, T.cell hl h.k2, T.cell hl h.k3, T.cell hl h.k4, T.cell hl h.k5, T.cell hl h.k6, T.cell hl h.k7, T.cell hl h.k8, T.cell hl h.k9, T.cell hl h.k10, T.cell hl h.k11, ⟨cap, T.cell hl k12⟩, T.cell hl h.k13, h.sh1, h.sh2, h.st2, h.com.turn T hrc hpc, h.bw.set _ _, ?_, ?_, ?_, ⟨V, fun i hi => (hV i hi).turn T (hrw i hi) (hpw i hi), fun i hi j => (hO i hi j).turn T h3⟩, h.apart, ⟨n, m, ha.block (T.block _ ha.lt hmb), hn⟩⟩
  · exact fun i hi => (cell_off _ _ _ _ _ (by omega)).trans (h.w0 i hi)
  · exact fun i hi => by
      by_cases e : i = k
      · subst e
        show _ = some (Value.bool (upd s.left i t i))
        rw [upd_at]
        exact World.cell?_setCell_same _ _ _ (h.w1 i hi)
      · show _ = some (Value.bool (upd s.left k t i))
        rw [upd_off _ _ e, cell_off _ _ _ _ _ (by omega)]
        exact h.w1 i hi
  · exact fun i hi => (cell_off _ _ _ _ _ (by omega)).trans (h.w2 i hi)
theorem LogAt.put_com (h : LogAt w B c s) (T : Turn (fun k => k = B.rc ∨ k = B.pc) w w') {low : Nat} {X : Int → Option (Int × Int)} (hl0 : s.low ≤ low) (hc : CR w' B.rc B.pc c.ib low (fun i => (X i).map cmdL)) : LogAt w' B c { s with low := low, X := X } := by
  obtain ⟨cap, k12⟩ := h.k12
  obtain ⟨n, m, ha, hn⟩ := h.ans
  obtain ⟨V, hV, hO⟩ := h.outs
  have hl : ¬ (B.l = B.rc ∨ B.l = B.pc) := fun e => e.elim (h.bl.ne h.com.br (by decide)) (h.bl.ne h.com.bp (by decide))
  have hw : ¬ (B.wb = B.rc ∨ B.wb = B.pc) := fun e => e.elim (h.bw.ne h.com.br (by decide)) (h.bw.ne h.com.bp (by decide))
  have hmb : ¬ (B.mb = B.rc ∨ B.mb = B.pc) := fun e => e.elim (fun e => ha.ne h.com.br e.symm) (fun e => ha.ne h.com.bp e.symm)
  have h3 : ∀ q, Blk w q 3 → ¬ (q = B.rc ∨ q = B.pc) := fun q hq e => e.elim (hq.ne h.com.br (by decide)) (hq.ne h.com.bp (by decide))
  have hrw : ∀ i, i < c.sh → ¬ (B.rw i = B.rc ∨ B.rw i = B.pc) := fun i hi e => e.elim ((hV i hi).br.ne h.com.br (by decide)) ((hV i hi).br.ne h.com.bp (by decide))
  have hpw : ∀ i, i < c.sh → ¬ (B.pw i = B.rc ∨ B.pw i = B.pc) := fun i hi e => e.elim ((hV i hi).bp.ne h.com.br (by decide)) ((hV i hi).bp.ne h.com.bp (by decide))
  exact ⟨h.bl.turn T hl, T.cell hl h.k0, T.cell hl h.k1, T.cell hl h.k2, T.cell hl h.k3, T.cell hl h.k4, T.cell hl h.k5, T.cell hl h.k6, T.cell hl h.k7, T.cell hl h.k8, T.cell hl h.k9, T.cell hl h.k10, T.cell hl h.k11, ⟨cap, T.cell hl k12⟩, T.cell hl h.k13, h.sh1, h.sh2, h.st2, hc, h.bw.turn T hw, fun i hi => T.cell hw (h.w0 i hi), fun i hi => T.cell hw (h.w1 i hi), fun i hi => T.cell hw (h.w2 i hi), ⟨V, fun i hi => (hV i hi).turn T (hrw i hi) (hpw i hi), fun i hi j => (hO i hi j).turn T h3⟩, h.apart, ⟨n, m, ha.block (T.block _ ha.lt hmb), hn⟩⟩
theorem LogAt.put_out (h : LogAt w B c s) {k : Nat} (hk : k < c.sh) (T : Turn (fun b => b = B.rw k ∨ b = B.pw k) w w') {r : Nat} {V' : Int → Option (List Value)} {Y' : Int → Option (Option Int)} (hc : OR w' (B.rw k) (B.pw k) c.ib r V') (hY : ∀ j, OutR w' (V' j) (Y' j)) : LogAt w' B c { s with rl := upd s.rl k r, Y := upd s.Y k Y' } := by
  obtain ⟨cap, k12⟩ := h.k12
  obtain ⟨n, m, ha, hn⟩ := h.ans
  obtain ⟨V, hV, hO⟩ := h.outs
  have hbk := hV k hk
  have hl : ¬ (B.l = B.rw k ∨ B.l = B.pw k) := fun e => e.elim (h.bl.ne hbk.br (by decide)) (h.bl.ne hbk.bp (by decide))
  have hrc : ¬ (B.rc = B.rw k ∨ B.rc = B.pw k) := fun e => e.elim (h.com.br.ne hbk.br (by decide)) (h.com.br.ne hbk.bp (by decide))
  have hpc : ¬ (B.pc = B.rw k ∨ B.pc = B.pw k) := fun e => e.elim (h.com.bp.ne hbk.br (by decide)) (h.com.bp.ne hbk.bp (by decide))
  have hw : ¬ (B.wb = B.rw k ∨ B.wb = B.pw k) := fun e => e.elim (h.bw.ne hbk.br (by decide)) (h.bw.ne hbk.bp (by decide))
  have hmb : ¬ (B.mb = B.rw k ∨ B.mb = B.pw k) := fun e => e.elim (fun e => ha.ne hbk.br e.symm) (fun e => ha.ne hbk.bp e.symm)
  have h3 : ∀ q, Blk w q 3 → ¬ (q = B.rw k ∨ q = B.pw k) := fun q hq e => e.elim (hq.ne hbk.br (by decide)) (hq.ne hbk.bp (by decide))
  refine ⟨h.bl.turn T hl, T.cell hl h.k0, T.cell hl h.k1, T.cell hl h.k2, T.cell hl h.k3, T.cell hl h.k4, T.cell hl h.k5, T.cell hl h.k6, T.cell hl h.k7, T.cell hl h.k8, T.cell hl h.k9, T.cell hl h.k10, T.cell hl h.k11, ⟨cap, T.cell hl k12⟩, T.cell hl h.k13, h.sh1, h.sh2, h.st2, h.com.turn T hrc hpc, h.bw.turn T hw, fun i hi => T.cell hw (h.w0 i hi), fun i hi => T.cell hw (h.w1 i hi), fun i hi => T.cell hw (h.w2 i hi), ⟨fun i => if i = k then V' else V i, fun i hi => ?_, fun i hi j => ?_⟩, h.apart, ⟨n, m, ha.block (T.block _ ha.lt hmb), hn⟩⟩
  · by_cases e : i = k
    · subst e
      show OR w' (B.rw i) (B.pw i) c.ib (upd s.rl i r i) (if i = i then V' else V i)
      rw [upd_at, if_pos rfl]
      exact hc
    · show OR w' (B.rw i) (B.pw i) c.ib (upd s.rl k r i) (if i = k then V' else V i)
      rw [upd_off _ _ e, if_neg e]
      have ha := h.apart i k hi hk e
      exact (hV i hi).turn T (fun q => q.elim ha.1 ((hV i hi).br.ne hbk.bp (by decide))) (fun q => q.elim ((hV i hi).bp.ne hbk.br (by decide)) ha.2)
  · by_cases e : i = k
    · subst e
      show OutR w' ((if i = i then V' else V i) j) (upd s.Y i Y' i j)
      rw [upd_at, if_pos rfl]
      exact hY j
    · show OutR w' ((if i = k then V' else V i) j) (upd s.Y k Y' i j)
      rw [upd_off _ _ e, if_neg e]
      exact (hO i hi j).turn T h3
theorem LogAt.put_ans (h : LogAt w B c s) (T : Turn (fun k => k = B.mb) w w') {G : Int → Option Nd} {k : Nat} (hc : ∃ n m, Nds Tryz.prog 3 w' B.mb n m G ∧ n ≤ k) : LogAt w' B c { s with G := G, cnt := k } := by
  obtain ⟨cap, k12⟩ := h.k12
  obtain ⟨n, m, ha, hn⟩ := h.ans
  obtain ⟨V, hV, hO⟩ := h.outs
  have hl : ¬ B.l = B.mb := ha.ne h.bl
  have hrc : ¬ B.rc = B.mb := ha.ne h.com.br
  have hpc : ¬ B.pc = B.mb := ha.ne h.com.bp
  have hw : ¬ B.wb = B.mb := ha.ne h.bw
  have hrw : ∀ i, i < c.sh → ¬ B.rw i = B.mb := fun i hi => ha.ne (hV i hi).br
  have hpw : ∀ i, i < c.sh → ¬ B.pw i = B.mb := fun i hi => ha.ne (hV i hi).bp
  have h3 : ∀ k, Blk w k 3 → ¬ k = B.mb := fun k hk => ha.ne hk
  exact ⟨h.bl.turn T hl, T.cell hl h.k0, T.cell hl h.k1, T.cell hl h.k2, T.cell hl h.k3, T.cell hl h.k4, T.cell hl h.k5, T.cell hl h.k6, T.cell hl h.k7, T.cell hl h.k8, T.cell hl h.k9, T.cell hl h.k10, T.cell hl h.k11, ⟨cap, T.cell hl k12⟩, T.cell hl h.k13, h.sh1, h.sh2, h.st2, h.com.turn T hrc hpc, h.bw.turn T hw, fun i hi => T.cell hw (h.w0 i hi), fun i hi => T.cell hw (h.w1 i hi), fun i hi => T.cell hw (h.w2 i hi), ⟨V, fun i hi => (hV i hi).turn T (hrw i hi) (hpw i hi), fun i hi j => (hO i hi j).turn T h3⟩, h.apart, hc⟩
end
end Go.Proofs.YtgfobgabdafclaaGreat
