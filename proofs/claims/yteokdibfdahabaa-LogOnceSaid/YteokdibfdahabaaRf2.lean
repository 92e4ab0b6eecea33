/-
  The document's own log, in memory: which worker there is, what lies, cursors, who leaves, what is looked at.
-/
import Derived.Test.YteokdibfdahabaaRf
namespace Go.Proofs.Yteokdibfdahabaa
open Go.ChangeShapes Go.WideShapes Go.ChangeAt Go.RowKit
set_option linter.unusedVariables false
section
variable {w w' : World} {R : RB} {c : Cf} {s : LSt}
set_option maxRecDepth 100000 in
set_option maxHeartbeats 1000000 in
theorem RefAt.is_yes (h : RefAt w R c s) (hsh : c.sh ≤ 15) {i : Nat} (hi : i < c.sh) (hl : s.left i = false) :
    Calls Try.prog 61 #[.pointer (some ⟨R.r, 0, none⟩), .int .i64 (i : Int)] w fun e w' => e = .returned (.bool true) ∧ w = w' := by
  obtain ⟨cap, k10⟩ := h.k10
  have w1 := h.w1 i hi
  rw [hl] at w1
  have t1 : decide ((0 : Int) ≤ (i : Int)) = true := by simp
  have t2 : decide ((i : Int) < (c.sh : Int)) = true := by simp; omega
  have m1 : (0 : Int) ≤ (i : Int) := by omega
  have m2 : (i : Int) < (c.sh : Int) := by omega
  clear h hl
  generalize c.sh = n at *
  clear hi
  go_enter Try.func61, Try.ntmps61
  go_wp2
  go_ret
  exact ⟨rfl, rfl⟩
set_option maxRecDepth 100000 in
set_option maxHeartbeats 1000000 in
theorem RefAt.is_no (h : RefAt w R c s) (hsh : c.sh ≤ 15) {at_ : Int} (hn : ¬ IsW c.sh s.left at_) :
    Calls Try.prog 61 #[.pointer (some ⟨R.r, 0, none⟩), .int .i64 at_] w fun e w' => e = .returned (.bool false) ∧ w = w' := by
  obtain ⟨cap, k10⟩ := h.k10
  by_cases h0 : (0 : Int) ≤ at_
  · have t1 : decide ((0 : Int) ≤ at_) = true := by simpa using h0
    by_cases h1 : at_ < (c.sh : Int)
    · obtain ⟨i, rfl⟩ : ∃ i : Nat, at_ = (i : Int) := ⟨at_.toNat, by omega⟩
      have hi : i < c.sh := by omega
      have hl : s.left i = true := by
        cases hl : s.left i with
        | true => rfl
        | false => exact absurd ⟨i, rfl, hi, hl⟩ hn
      have w1 := h.w1 i hi
      rw [hl] at w1
      have t2 : decide ((i : Int) < (c.sh : Int)) = true := by simp; omega
      have m1 : (0 : Int) ≤ (i : Int) := by omega
      clear h hl hn h0
      generalize c.sh = n at *
      clear hi
      go_enter Try.func61, Try.ntmps61
      go_wp2
      go_ret
      exact ⟨rfl, rfl⟩
    · have t2 : decide (at_ < (c.sh : Int)) = false := by simpa using h1
      clear h hn h0 h1
      generalize c.sh = n at *
      go_enter Try.func61, Try.ntmps61
      go_wp2
      go_ret
      exact ⟨rfl, rfl⟩
  · have t1 : decide ((0 : Int) ≤ at_) = false := by simpa using h0
    clear h hn h0
    go_enter Try.func61, Try.ntmps61
    go_wp2
    go_ret
    exact ⟨rfl, rfl⟩
/-- Something lies at a stamp. -/
def LiesB (s : LSt) (at_ : Int) : Prop := (s.low : Int) ≤ at_ ∧ at_ < (s.tail : Int) ∧ (s.X at_).isSome = true
set_option maxRecDepth 100000 in
set_option maxHeartbeats 1000000 in
theorem RefAt.lies_yes (h : RefAt w R c s) {i : Nat} (hi : LiesB s (i : Int)) :
    Calls Try.prog 62 #[.pointer (some ⟨R.r, 0, none⟩), .int .i64 (i : Int)] w fun e w' => e = .returned (.bool true) ∧ w = w' := by
  obtain ⟨h1, h2, h3⟩ := hi
  obtain ⟨g, cap, hv, hb, _, rows⟩ := h.row (i := i) (by omega)
  have k7 := h.k7
  rw [hv] at k7
  have k9 := h.k9
  have c0 : w.cell? ⟨g, i * 20, none⟩ = some (.bool true) := by rw [← h3, ← h.fl i (by omega) (by omega)]; exact rows i (by omega) 0 _ rfl
  have t1 : decide ((s.low : Int) ≤ (i : Int)) = true := by simpa using h1
  have t1n : s.low ≤ i := by omega
  have t2 : decide ((i : Int) < (s.tail : Int)) = true := by simpa using h2
  have m1 : (0 : Int) ≤ (i : Int) := by omega
  clear h hv hb rows h1 h3
  generalize s.tail = n at *
  generalize s.low = lo at *
  go_enter Try.func62, Try.ntmps62
  go_wp2
  go_ret
  exact ⟨rfl, rfl⟩
set_option maxRecDepth 100000 in
set_option maxHeartbeats 1000000 in
theorem RefAt.lies_no (h : RefAt w R c s) {at_ : Int} (hi : ¬ LiesB s at_) :
    Calls Try.prog 62 #[.pointer (some ⟨R.r, 0, none⟩), .int .i64 at_] w fun e w' => e = .returned (.bool false) ∧ w = w' := by
  have k9 := h.k9
  by_cases h1 : (s.low : Int) ≤ at_
  · have t1 : decide ((s.low : Int) ≤ at_) = true := by simpa using h1
    have k7 := h.k7
    by_cases h2 : at_ < (s.tail : Int)
    · obtain ⟨i, rfl⟩ : ∃ i : Nat, at_ = (i : Int) := ⟨at_.toNat, by omega⟩
      have h3 : (s.X (i : Int)).isSome = false := by
        cases e : (s.X (i : Int)).isSome with
        | false => rfl
        | true => exact absurd ⟨h1, h2, e⟩ hi
      obtain ⟨g, cap, hv, hb, _, rows⟩ := h.row (i := i) (by omega)
      rw [hv] at k7
      have c0 : w.cell? ⟨g, i * 20, none⟩ = some (.bool false) := by rw [← h3, ← h.fl i (by omega) (by omega)]; exact rows i (by omega) 0 _ rfl
      have t2 : decide ((i : Int) < (s.tail : Int)) = true := by simpa using h2
      have t1n : s.low ≤ i := by omega
      have m1 : (0 : Int) ≤ (i : Int) := by omega
      clear h hi hv hb rows h1 h3
      generalize s.tail = n at *
      generalize s.low = lo at *
      go_enter Try.func62, Try.ntmps62
      go_wp2
      go_ret
      exact ⟨rfl, rfl⟩
    · have t2 : decide (at_ < (s.tail : Int)) = false := by simpa using h2
      obtain ⟨a, cap, hv, _⟩ := own_slice h.own
      rw [hv] at k7
      clear h hi hv h1 h2
      generalize s.tail = n at *
      generalize s.low = lo at *
      go_enter Try.func62, Try.ntmps62
      go_wp2
      go_ret
      exact ⟨rfl, rfl⟩
  · have t1 : decide ((s.low : Int) ≤ at_) = false := by simpa using h1
    clear h hi h1
    generalize s.low = lo at *
    go_enter Try.func62, Try.ntmps62
    go_wp2
    go_ret
    exact ⟨rfl, rfl⟩
set_option maxRecDepth 100000 in
theorem RefAt.cursor_yes (h : RefAt w R c s) (hsh : c.sh ≤ 15) {i : Nat} (hi : i < c.sh) (hl : s.left i = false) :
    Calls Try.prog 45 #[.pointer (some ⟨R.r, 0, none⟩), .int .i64 (i : Int)] w fun e w' => e = .returned (.int .i64 (s.cur i : Int)) ∧ w = w' := by
  have H := Lib.hid (h.is_yes hsh hi hl)
  obtain ⟨cap, k10⟩ := h.k10
  have w0 := h.w0 i hi
  have m1 : (0 : Int) ≤ (i : Int) := by omega
  have m2 : (i : Int) < (c.sh : Int) := by omega
  clear h hl hsh
  generalize c.sh = n at *
  clear hi
  go_enter Try.func45, Try.ntmps45
  go_wp2_with fail
  with_reducible refine H.out.mono ?_
  rintro e w1 ⟨rfl, rfl⟩
  go_wp2
  go_ret
  exact ⟨rfl, rfl⟩
set_option maxRecDepth 100000 in
theorem RefAt.cursor_no (h : RefAt w R c s) (hsh : c.sh ≤ 15) {at_ : Int} (hn : ¬ IsW c.sh s.left at_) :
    Calls Try.prog 45 #[.pointer (some ⟨R.r, 0, none⟩), .int .i64 at_] w fun e w' => e = .returned (.int .i64 (-1)) ∧ w = w' := by
  have H := Lib.hid (h.is_no hsh hn)
  clear h hn
  go_enter Try.func45, Try.ntmps45
  go_wp2_with fail
  with_reducible refine H.out.mono ?_
  rintro e w1 ⟨rfl, rfl⟩
  go_wp2
  go_ret
  exact ⟨rfl, rfl⟩
theorem RefAt.put_left (h : RefAt w R c s) {k : Nat} (hk : k < c.sh) (t : Bool) : RefAt (w.setCell ⟨R.wk, k * 2 + 1, none⟩ (.bool t)) R c { s with left := upd s.left k t } := by
  have T : Turn (fun b => b = R.wk) w (w.setCell ⟨R.wk, k * 2 + 1, none⟩ (.bool t)) := Turn.put _ _ _ _
  have n1 : R.r ≠ R.wk := h.br.ne h.bk (by decide)
  have n2 : ∀ b (u : TypeId), Blk w b u → u ≠ 128 → b ≠ R.wk := fun b u hb hu => hb.ne h.bk hu
  obtain ⟨cap, k10⟩ := h.k10
  exact ⟨h.br.turn T n1, T.cell n1 h.k0, T.cell n1 h.k1, T.cell n1 h.k6, T.cell n1 h.k7, T.cell n1 h.k8, T.cell n1 h.k9, ⟨cap, T.cell n1 k10⟩, h.bk.set _ _,
    fun i hi => by rw [cell_off _ _ _ _ _ (by omega)]; exact h.w0 i hi,
    fun i hi => by
      by_cases e : i = k
      · subst e
        show _ = some (Value.bool (upd s.left i t i))
        rw [upd_at]
        exact World.cell?_setCell_same _ _ _ (h.w1 i hi)
      · show _ = some (Value.bool (upd s.left k t i))
        rw [upd_off _ _ e, cell_off _ _ _ _ _ (by omega)]
        exact h.w1 i hi,
    own_turn h.own T (fun b e => n2 b _ (own_blk h.own e) (by decide)), fun i hi => ⟨(h.ob i hi).1.turn T (n2 _ _ (h.ob i hi).1 (by decide)), (h.ob i hi).2⟩, h.obne, h.b1, h.b2, h.fl, h.cm, h.wt, h.an,
    fun i hi hl q hq => (h.outs i hi hl q hq).turn T (n2 _ _ (h.ob i hi).1 (by decide)) (fun b hb => n2 b _ hb (by decide))⟩
theorem RefAt.put_cur (h : RefAt w R c s) {k : Nat} (hk : k < c.sh) (t : Nat) : RefAt (w.setCell ⟨R.wk, k * 2, none⟩ (.int .i64 (t : Int))) R c { s with cur := upd s.cur k t } := by
  have T : Turn (fun b => b = R.wk) w (w.setCell ⟨R.wk, k * 2, none⟩ (.int .i64 (t : Int))) := Turn.put _ _ _ _
  have n1 : R.r ≠ R.wk := h.br.ne h.bk (by decide)
  have n2 : ∀ b (u : TypeId), Blk w b u → u ≠ 128 → b ≠ R.wk := fun b u hb hu => hb.ne h.bk hu
  obtain ⟨cap, k10⟩ := h.k10
  exact ⟨h.br.turn T n1, T.cell n1 h.k0, T.cell n1 h.k1, T.cell n1 h.k6, T.cell n1 h.k7, T.cell n1 h.k8, T.cell n1 h.k9, ⟨cap, T.cell n1 k10⟩, h.bk.set _ _,
    fun i hi => by
      by_cases e : i = k
      · subst e
        show _ = some (Value.int .i64 ((upd s.cur i t i : Nat) : Int))
        rw [upd_at]
        exact World.cell?_setCell_same _ _ _ (h.w0 i hi)
      · show _ = some (Value.int .i64 ((upd s.cur k t i : Nat) : Int))
        rw [upd_off _ _ e, cell_off _ _ _ _ _ (by omega)]
        exact h.w0 i hi,
    fun i hi => by rw [cell_off _ _ _ _ _ (by omega)]; exact h.w1 i hi,
    own_turn h.own T (fun b e => n2 b _ (own_blk h.own e) (by decide)), fun i hi => ⟨(h.ob i hi).1.turn T (n2 _ _ (h.ob i hi).1 (by decide)), (h.ob i hi).2⟩, h.obne, h.b1, h.b2, h.fl, h.cm, h.wt, h.an,
    fun i hi hl q hq => (h.outs i hi hl q hq).turn T (n2 _ _ (h.ob i hi).1 (by decide)) (fun b hb => n2 b _ hb (by decide))⟩
set_option maxRecDepth 100000 in
theorem RefAt.leave_yes (h : RefAt w R c s) (hsh : c.sh ≤ 15) {i : Nat} (hi : i < c.sh) (hl : s.left i = false) :
    Calls Try.prog 42 #[.pointer (some ⟨R.r, 0, none⟩), .int .i64 (i : Int)] w fun e w' => e = .returned (.bool true) ∧ RefAt w' R c { s with left := upd s.left i true } ∧ Turn (RS R.base w) w w' := by
  have H := Lib.hid (h.is_yes hsh hi hl)
  obtain ⟨cap, k10⟩ := h.k10
  have w1 := h.w1 i hi
  have fz := h.bk.fz
  have K := Lib.hid (And.intro (h.put_left hi true) ((Turn.put w R.wk (i * 2 + 1) (.bool true)).more (S' := RS R.base w) (fun k _ e => by rw [e]; exact h.sk)))
  have m1 : (0 : Int) ≤ (i : Int) := by omega
  have m2 : (i : Int) < (c.sh : Int) := by omega
  clear h hl hsh
  generalize c.sh = n at *
  clear hi
  go_enter Try.func42, Try.ntmps42
  go_wp2_with fail
  with_reducible refine H.out.mono ?_
  rintro e w1 ⟨rfl, rfl⟩
  go_wp2
  go_ret
  exact ⟨rfl, K.out.1, K.out.2⟩
set_option maxRecDepth 100000 in
theorem RefAt.leave_no (h : RefAt w R c s) (hsh : c.sh ≤ 15) {at_ : Int} (hn : ¬ IsW c.sh s.left at_) :
    Calls Try.prog 42 #[.pointer (some ⟨R.r, 0, none⟩), .int .i64 at_] w fun e w' => e = .returned (.bool false) ∧ w = w' := by
  have H := Lib.hid (h.is_no hsh hn)
  clear h hn
  go_enter Try.func42, Try.ntmps42
  go_wp2_with fail
  with_reducible refine H.out.mono ?_
  rintro e w1 ⟨rfl, rfl⟩
  go_wp2
  go_ret
  exact ⟨rfl, rfl⟩
end
end Go.Proofs.Yteokdibfdahabaa
