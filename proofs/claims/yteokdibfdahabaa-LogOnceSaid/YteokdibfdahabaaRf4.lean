/-
  The document's own log, in memory: a stamp is taken.
-/
import Derived.Test.YteokdibfdahabaaRf3
namespace Go.Proofs.Yteokdibfdahabaa
open Go.ChangeShapes Go.WideShapes Go.ChangeAt Go.RowKit
set_option linter.unusedVariables false
theorem info126 : (Try.prog.info? 126).map (fun i => (i.zero, i.size, i.bytes)) = some (some (.agg #[.bool false, .bool false, .int .i64 0, .int .i64 0, .int .i64 0, .int .i64 0, .int .i64 0, .int .i64 0, .int .i64 0, .int .i64 0, .int .i64 0, .int .i64 0, .int .i64 0, .slice none 0 0, .int .i64 0, .bool false, .slice none 0 0, .int .i64 0, .int .i64 0, .slice none 0 0]), 20, 200) := by kernel_rfl
def z62 : Array Value := #[.slice none 0 0, .slice none 0 0, .slice none 0 0, .slice none 0 0]
theorem made62 (n k j : Nat) (hk : k < n) (hj : j < 4) : (madeCells z62 (n * 4))[k * 4 + j]? = some (z62[j]!) := by
  have h : k * 4 + j < n * 4 := by omega
  have e : (k * 4 + j) % 4 = j := by omega
  have hz : z62.size = 4 := rfl
  simp [madeCells, h, hz, e]
theorem make62 {n : Nat} (h2 : n ≤ 4096) (w : World) : (Instr.makeSlice 74 (.int .i64 (n : Int)) (.int .i64 (n : Int))).run Try.prog w = .ok (.slice (some ⟨w.heap.size, 0, none⟩) n n) (w.alloc (.cells (madeCells z62 (n * 4)) 62)) := by
  obtain ⟨i, hi, he⟩ := Option.map_eq_some_iff.mp info62
  simp only [Prod.mk.injEq] at he
  obtain ⟨hz, hs, hb⟩ := he
  have := run_make (P := Try.prog) w 74 62 i (.agg z62) Try.underlying74 hi hz .i64 .i64 (n : Int) (n : Int) (by omega) (by omega) (by rw [hb]; omega) (by omega)
  rw [hs] at this
  simpa [Value.cells] using this
/-- A new stamp's cell. -/
def DC.fresh (ob : Nat) : DC := ⟨false, false, (0, 0), ob, Nd.zero⟩
section
variable {w w' : World} {R : RB} {c : Cf} {s : LSt}
/-- Nothing is there yet at the tail. -/
structure NoTail (c : Cf) (s : LSt) : Prop where
  X : s.X (s.tail : Int) = none
  G : s.G (s.tail : Int) = none
  Y : ∀ k, k < c.sh → s.Y k (s.tail : Int) = none
theorem RefAt.more (h : RefAt w R c s) (hn : NoTail c s) {w1 : World} {v' : Value} {ob : Nat} (T : Turn (fun b => R.v.ownBlock = some b) w w1) (ho : w1.ownsRow R.base 126 20 v' (s.tail + 1) (flat (fun k => (upd R.D s.tail (DC.fresh ob) k).cells c.sh) (s.tail + 1)))
    (hb : Blk w1 ob 62) (hb1 : w.heap.size ≤ ob) (hbb : R.base ≤ w.heap.size) (hz : ∀ k, k < c.sh → w1.rangeAt ob (k * 4) [.slice none 0 0, .slice none 0 0, .slice none 0 0, .slice none 0 0]) :
    RefAt (w1.setCell ⟨R.r, 7, none⟩ v') { R with v := v', D := upd R.D s.tail (DC.fresh ob) } c { s with tail := s.tail + 1 } := by
  have n126 : ∀ b (u : TypeId), Blk w b u → u ≠ 126 → ¬ (R.v.ownBlock = some b) := fun b u hb hu e => (hb.ne (own_blk h.own e) hu) rfl
  have n1 := n126 _ _ h.br (by decide)
  have nk := n126 _ _ h.bk (by decide)
  have hr1 := h.br.turn T n1
  have T2 : Turn (fun b => b = R.r) w1 (w1.setCell ⟨R.r, 7, none⟩ v') := Turn.put _ _ _ _
  have n2 : ∀ b (u : TypeId), Blk w1 b u → u ≠ 101 → b ≠ R.r := fun b u hb hu => hb.ne hr1 hu
  have hk1 := h.bk.turn T nk
  obtain ⟨cap, k10⟩ := h.k10
  have c7 : ∀ j u, j ≠ 7 → w.cell? ⟨R.r, j, none⟩ = some u → (w1.setCell ⟨R.r, 7, none⟩ v').cell? ⟨R.r, j, none⟩ = some u := fun j u hj hu => by
    rw [cell_off _ _ _ _ _ (Ne.symm hj)]
    exact T.cell n1 hu
  have lt : ∀ i, i < s.tail + 1 → i = s.tail ∨ i < s.tail := fun i hi => by omega
  have obo : ∀ i, i < s.tail → Blk w1 (R.D i).ob 62 := fun i hi => (h.ob i hi).1.turn T (n126 _ _ (h.ob i hi).1 (by decide))
  have oblt : ∀ i, i < s.tail → (R.D i).ob < w.heap.size := fun i hi => (h.ob i hi).1.lt
  refine ⟨hr1.set _ _, c7 0 _ (by decide) h.k0, c7 1 _ (by decide) h.k1, c7 6 _ (by decide) h.k6, World.cell?_setCell_same _ _ _ (T.cell n1 h.k7), c7 8 _ (by decide) h.k8, c7 9 _ (by decide) h.k9, ⟨cap, c7 10 _ (by decide) k10⟩, hk1.set _ _,
    fun i hi => T2.cell (n2 _ _ hk1 (by decide)) (T.cell nk (h.w0 i hi)), fun i hi => T2.cell (n2 _ _ hk1 (by decide)) (T.cell nk (h.w1 i hi)), own_turn ho T2 (fun b e => n2 b _ (own_blk ho e) (by decide)),
    fun i hi => ?_, fun i j hi hj hij => ?_, h.b1, h.b2, fun i hi hl => ?_, fun i hi hl p hp => ?_, fun i hi => ?_, fun i hi q hq => ?_, fun i hi hl k hk => ?_⟩
  · rcases lt i hi with e | e
    · subst e
      show Blk _ (upd R.D s.tail (DC.fresh ob) s.tail).ob 62 ∧ R.base ≤ (upd R.D s.tail (DC.fresh ob) s.tail).ob
      rw [upd_at]
      exact ⟨hb.set _ _, Nat.le_trans hbb hb1⟩
    · show Blk _ (upd R.D s.tail (DC.fresh ob) i).ob 62 ∧ R.base ≤ (upd R.D s.tail (DC.fresh ob) i).ob
      rw [upd_off _ _ (by omega)]
      exact ⟨(obo i e).set _ _, (h.ob i e).2⟩
  · show (upd R.D s.tail (DC.fresh ob) i).ob ≠ (upd R.D s.tail (DC.fresh ob) j).ob
    rcases lt i hi with e | e
    · rcases lt j hj with f | f
      · omega
      · subst e
        rw [upd_at, upd_off _ _ (by omega)]
        have := oblt j f
        show ob ≠ _
        omega
    · rcases lt j hj with f | f
      · subst f
        rw [upd_at, upd_off _ _ (by omega)]
        have := oblt i e
        show _ ≠ ob
        omega
      · rw [upd_off _ _ (by omega), upd_off _ _ (by omega)]
        exact h.obne i j e f hij
  · show (upd R.D s.tail (DC.fresh ob) i).fl = (s.X (i : Int)).isSome
    rcases lt i hi with e | e
    · subst e
      rw [upd_at, hn.X]
      rfl
    · rw [upd_off _ _ (by omega)]
      exact h.fl i e hl
  · show (upd R.D s.tail (DC.fresh ob) i).p = p
    have hp : s.X (i : Int) = some p := hp
    rcases lt i hi with e | e
    · subst e
      rw [hn.X] at hp
      cases hp
    · rw [upd_off _ _ (by omega)]
      exact h.cm i e hl p hp
  · show (upd R.D s.tail (DC.fresh ob) i).wt = (s.G (i : Int)).isSome
    rcases lt i hi with e | e
    · subst e
      rw [upd_at, hn.G]
      rfl
    · rw [upd_off _ _ (by omega)]
      exact h.wt i e
  · show (upd R.D s.tail (DC.fresh ob) i).q = q
    have hq : s.G (i : Int) = some q := hq
    rcases lt i hi with e | e
    · subst e
      rw [hn.G] at hq
      cases hq
    · rw [upd_off _ _ (by omega)]
      exact h.an i e q hq
  · show OutC _ (upd R.D s.tail (DC.fresh ob) i).ob k ((s.Y k (i : Int)).getD none)
    rcases lt i hi with e | e
    · subst e
      rw [upd_at, hn.Y k hk]
      exact ⟨none, 0, 0, range_turn (hz k hk) T2 (n2 _ _ hb (by decide)), rfl⟩
    · rw [upd_off _ _ (by omega)]
      exact ((h.outs i e hl k hk).turn T (n126 _ _ (h.ob i e).1 (by decide)) (fun b hb => n126 b _ hb (by decide))).turn T2 (n2 _ _ (obo i e) (by decide)) (fun b hb => n2 b _ hb (by decide))
theorem RefAt.put_closed (h : RefAt w R c s) (t : Bool) : RefAt (w.setCell ⟨R.r, 8, none⟩ (.bool t)) R c { s with closed := t } := by
  have T : Turn (fun b => b = R.r) w (w.setCell ⟨R.r, 8, none⟩ (.bool t)) := Turn.put _ _ _ _
  have n2 : ∀ b (u : TypeId), Blk w b u → u ≠ 101 → b ≠ R.r := fun b u hb hu => hb.ne h.br hu
  have nk := n2 _ _ h.bk (by decide)
  obtain ⟨cap, k10⟩ := h.k10
  have c7 : ∀ j u, j ≠ 8 → w.cell? ⟨R.r, j, none⟩ = some u → (w.setCell ⟨R.r, 8, none⟩ (.bool t)).cell? ⟨R.r, j, none⟩ = some u := fun j u hj hu => by
    rw [cell_off _ _ _ _ _ (Ne.symm hj)]
    exact hu
  exact ⟨h.br.set _ _, c7 0 _ (by decide) h.k0, c7 1 _ (by decide) h.k1, c7 6 _ (by decide) h.k6, c7 7 _ (by decide) h.k7, World.cell?_setCell_same _ _ _ h.k8, c7 9 _ (by decide) h.k9, ⟨cap, c7 10 _ (by decide) k10⟩, h.bk.set _ _,
    fun i hi => T.cell nk (h.w0 i hi), fun i hi => T.cell nk (h.w1 i hi), own_turn h.own T (fun b e => n2 b _ (own_blk h.own e) (by decide)), fun i hi => ⟨(h.ob i hi).1.set _ _, (h.ob i hi).2⟩, h.obne, h.b1, h.b2, h.fl, h.cm, h.wt, h.an,
    fun i hi hl q hq => (h.outs i hi hl q hq).turn T (n2 _ _ (h.ob i hi).1 (by decide)) (fun b hb => n2 b _ hb (by decide))⟩
set_option maxRecDepth 100000 in
set_option maxHeartbeats 2000000 in
theorem RefAt.take_no (h : RefAt w R c s) (hl2 : s.low ≤ s.tail) (ht2 : s.tail ≤ 1000) (hst : (s.tail : Int) ≤ c.st) {t : Int} {cl : Bool} (ht : ¬ MayTake c s t cl) :
    Calls Try.prog 39 #[.pointer (some ⟨R.r, 0, none⟩), .int .i64 t, .bool cl] w fun e w' => e = .returned (.bool false) ∧ Turn (fun _ => False) w w' := by
  have k1 := h.k1
  have k6 := h.k6
  have k7 := h.k7
  have k8 := h.k8
  have k9 := h.k9
  obtain ⟨a, cap, hv, _⟩ := own_slice h.own
  rw [hv] at k7
  have TD := Lib.hid (fun d => (Turn.refl (fun _ => False) w).drewN d)
  clear h hv
  by_cases h0 : t = (s.tail : Int)
  · subst h0
    have e0 : ((s.tail : Int) != (s.tail : Int)) = false := by simp
    by_cases h1 : (s.tail : Int) < c.st
    · have e1 : ((s.tail : Int) == c.st) = false := by simp; omega
      have e2 : wrap64 ((s.tail : Int) - (s.low : Int)) = (s.tail : Int) - (s.low : Int) := by unfold wrap64; omega
      by_cases h2 : (s.tail : Int) - (s.low : Int) < (c.ib : Int)
      · have e3 : decide ((c.ib : Int) ≤ (s.tail : Int) - (s.low : Int)) = false := by simp; omega
        obtain ⟨rfl, e5⟩ : cl = true ∧ s.closed = true := Classical.not_not.1 fun h3 => ht ⟨rfl, h1, h2, h3⟩
        rw [e5] at k8
        clear ht h1 h2 hl2 ht2 e5 hst
        go_enter Try.func39, Try.ntmps39
        go_wp2_with fail
        go_quiet (fail)
        go_wp2
        go_ret
        exact ⟨rfl, TD.out _⟩
      · have e3 : decide ((c.ib : Int) ≤ (s.tail : Int) - (s.low : Int)) = true := by simp; omega
        clear ht h1 h2 hl2 ht2 hst
        go_enter Try.func39, Try.ntmps39
        go_wp2_with fail
        go_quiet (fail)
        go_wp2
        go_ret
        exact ⟨rfl, TD.out _⟩
    · have e1 : ((s.tail : Int) == c.st) = true := by simp; omega
      clear ht h1 hl2 ht2 hst
      go_enter Try.func39, Try.ntmps39
      go_wp2_with fail
      go_quiet (fail)
      go_wp2
      go_ret
      exact ⟨rfl, TD.out _⟩
  · have e0 : (t != (s.tail : Int)) = true := by simpa using h0
    clear ht h0 hl2 ht2 hst
    go_enter Try.func39, Try.ntmps39
    go_wp2_with fail
    go_quiet (fail)
    go_wp2
    go_ret
    exact ⟨rfl, TD.out _⟩
end
end Go.Proofs.Yteokdibfdahabaa
