/-
  The document's own epochs, in memory: what their functions answer that only read, or write a pin, or the epoch.
-/
import Derived.Test.YtibmimdlgbhdnaaEpoN
namespace Go.Proofs.Ytibmimdlgbhdnaa
open Go.ChangeShapes Go.WideShapes Go.ChangeAt Go.RowKit
set_option linter.unusedVariables false

structure RefE (w : World) (rb ab n cap base : Nat) (now : Int) (P : Nat → Int) (U : Nat → Value) (Q : Nat → List (Int × Int × Int)) : Prop where
  ne : rb ≠ ab
  br : rb < base
  ba : ab < base
  bw : base ≤ w.heap.size
  c0 : w.cell? ⟨rb, 0, none⟩ = some (.int .i64 now)
  c1 : w.cell? ⟨rb, 1, none⟩ = some (.slice (some ⟨ab, 0, none⟩) n cap)
  cp : ∀ a, a < n → w.cell? ⟨ab, a * 2, none⟩ = some (.int .i64 (P a))
  cu : ∀ a, a < n → w.cell? ⟨ab, a * 2 + 1, none⟩ = some (U a)
  fr : ∀ i, w.frozen? ⟨rb, i, none⟩ = false
  fa : ∀ i, w.frozen? ⟨ab, i, none⟩ = false
  rows : ∀ a, a < n → w.ownsRow base 105 3 (U a) (Q a).length (cells3 (Q a))
  apart : ∀ a b, a < n → b < n → a ≠ b → (U a).ownBlock = none ∨ (U a).ownBlock ≠ (U b).ownBlock
  n5 : n ≤ 5
  nn : 0 ≤ now ∧ now ≤ 1000000
def RefOwn (rb ab n : Nat) (U : Nat → Value) (k : Nat) : Prop := k = rb ∨ k = ab ∨ ∃ a, a < n ∧ (U a).ownBlock = some k
section
variable {w w' : World} {rb ab n cap base : Nat} {now : Int} {P : Nat → Int} {U : Nat → Value} {Q : Nat → List (Int × Int × Int)}
theorem RefE.keep (h : RefE w rb ab n cap base now P U Q) {S : Nat → Prop} (ht : Turn S w w') (hs : ∀ k, k < w.heap.size → RefOwn rb ab n U k → ¬ S k) : RefE w' rb ab n cap base now P U Q := by
  have lx : rb < w.heap.size := Nat.lt_of_lt_of_le h.br h.bw
  have ll : ab < w.heap.size := Nat.lt_of_lt_of_le h.ba h.bw
  have e1 := ht.block rb lx (hs rb lx (.inl rfl))
  have e2 := ht.block ab ll (hs ab ll (.inr (.inl rfl)))
  exact ⟨h.ne, h.br, h.ba, Nat.le_trans h.bw ht.size, (World.cell?_of_block (w := w) e1).trans h.c0, (World.cell?_of_block (w := w) e1).trans h.c1, fun a ha => (World.cell?_of_block (w := w) e2).trans (h.cp a ha), fun a ha => (World.cell?_of_block (w := w) e2).trans (h.cu a ha),
    fun i => (World.frozen?_of_block (w := w) e1).trans (h.fr i), fun i => (World.frozen?_of_block (w := w) e2).trans (h.fa i), fun a ha => own_turn (h.rows a ha) ht (fun k hk => hs k ((h.rows a ha).lt k hk).2 (.inr (.inr ⟨a, ha, hk⟩))), h.apart, h.n5, h.nn⟩
theorem RefE.same (h : RefE w rb ab n cap base now P U Q) (ht : Turn (fun _ => False) w w') : RefE w' rb ab n cap base now P U Q := h.keep ht (fun _ _ _ => id)
theorem RefE.rowx (h : RefE w rb ab n cap base now P U Q) {a : Nat} (ha : a < n) {k : Nat} (hk : (U a).ownBlock = some k) : base ≤ k := ((h.rows a ha).lt k hk).1
theorem RefE.setPin (h : RefE w rb ab n cap base now P U Q) {a : Nat} (ha : a < n) (p : Int) : RefE (w.setCell ⟨ab, a * 2, none⟩ (.int .i64 p)) rb ab n cap base now (upd P a p) U Q := by
  have ne := h.ne
  refine ⟨h.ne, h.br, h.ba, by simpa using h.bw, by rw [cell_far _ _ _ _ _ _ (Ne.symm ne)]; exact h.c0, by rw [cell_far _ _ _ _ _ _ (Ne.symm ne)]; exact h.c1, fun b hb => ?_, fun b hb => by rw [cell_off _ _ _ _ _ (by omega)]; exact h.cu b hb, fun i => by simpa using h.fr i, fun i => by simpa using h.fa i, fun b hb => own_keep (h.rows b hb) (fun k hk => ?_), h.apart, h.n5, h.nn⟩
  · by_cases e : b = a
    · subst e
      rw [upd_at]
      exact World.cell?_setCell_same _ _ _ (h.cp b hb)
    · rw [cell_off _ _ _ _ _ (by omega), upd_off _ _ e]
      exact h.cp b hb
  · have := h.rowx hb hk
    have := h.ba
    exact Below.heap_setCell _ _ _ _ (by show k ≠ ab; omega)
theorem RefE.setNow (h : RefE w rb ab n cap base now P U Q) (m : Int) (hm : 0 ≤ m ∧ m ≤ 1000000) : RefE (w.setCell ⟨rb, 0, none⟩ (.int .i64 m)) rb ab n cap base m P U Q := by
  have ne := h.ne
  refine ⟨h.ne, h.br, h.ba, by simpa using h.bw, World.cell?_setCell_same _ _ _ h.c0, by rw [cell_off _ _ _ _ _ (by omega)]; exact h.c1, fun b hb => by rw [cell_far _ _ _ _ _ _ ne]; exact h.cp b hb, fun b hb => by rw [cell_far _ _ _ _ _ _ ne]; exact h.cu b hb, fun i => by simpa using h.fr i, fun i => by simpa using h.fa i, fun b hb => own_keep (h.rows b hb) (fun k hk => ?_), h.apart, h.n5, hm⟩
  have := h.rowx hb hk
  have := h.br
  exact Below.heap_setCell _ _ _ _ (by show k ≠ rb; omega)
theorem RefE.put (h : RefE w rb ab n cap base now P U Q) {a : Nat} (ha : a < n) {u' : Value} {q : List (Int × Int × Int)} (T : Turn (fun k => (U a).ownBlock = some k) w w') (ho : w'.ownsRow base 105 3 u' q.length (cells3 q)) (hf : u'.ownBlock = (U a).ownBlock ∨ u'.ownBlock = none ∨ ∃ k, u'.ownBlock = some k ∧ w.heap.size ≤ k) :
    RefE (w'.setCell ⟨ab, a * 2 + 1, none⟩ u') rb ab n cap base now P (upd U a u') (upd Q a q) ∧ Turn (RefOwn rb ab n U) w (w'.setCell ⟨ab, a * 2 + 1, none⟩ u') := by
  have hbx := h.br
  have hbl := h.ba
  have ne := h.ne
  have hnr : ¬ (U a).ownBlock = some rb := fun e => by have := h.rowx ha e; omega
  have hna : ¬ (U a).ownBlock = some ab := fun e => by have := h.rowx ha e; omega
  have lx : rb < w.heap.size := Nat.lt_of_lt_of_le h.br h.bw
  have ll : ab < w.heap.size := Nat.lt_of_lt_of_le h.ba h.bw
  have e1 := T.block rb lx hnr
  have e2 := T.block ab ll hna
  refine ⟨⟨h.ne, h.br, h.ba, by simpa using Nat.le_trans h.bw T.size, by rw [cell_far _ _ _ _ _ _ (Ne.symm ne)]; exact (World.cell?_of_block (w := w) e1).trans h.c0, by rw [cell_far _ _ _ _ _ _ (Ne.symm ne)]; exact (World.cell?_of_block (w := w) e1).trans h.c1,
    fun b hb => by rw [cell_off _ _ _ _ _ (by omega)]; exact (World.cell?_of_block (w := w) e2).trans (h.cp b hb), fun b hb => ?_, fun i => by simpa using (World.frozen?_of_block (w := w) e1).trans (h.fr i), fun i => by simpa using (World.frozen?_of_block (w := w) e2).trans (h.fa i), fun b hb => ?_, fun b c hb hc hbc => ?_, h.n5, h.nn⟩, ?_⟩
  · by_cases e : b = a
    · subst e
      rw [upd_at]
      exact World.cell?_setCell_same _ _ _ ((World.cell?_of_block (w := w) e2).trans (h.cu b hb))
    · rw [cell_off _ _ _ _ _ (by omega), upd_off _ _ e]
      exact (World.cell?_of_block (w := w) e2).trans (h.cu b hb)
  · by_cases e : b = a
    · subst e
      rw [upd_at, upd_at]
      exact own_keep ho (fun k hk => Below.heap_setCell _ _ _ _ (by have := (ho.lt k hk).1; show k ≠ ab; omega))
    · rw [upd_off _ _ e, upd_off _ _ e]
      refine own_keep (own_keep (h.rows b hb) (fun k hk => T.block k ((h.rows b hb).lt k hk).2 (fun e3 => ?_))) (fun k hk => Below.heap_setCell _ _ _ _ (by have := h.rowx hb hk; show k ≠ ab; omega))
      rcases h.apart b a hb ha e with q | q
      · rw [hk] at q
        exact absurd q (by simp)
      · exact q (by rw [hk, e3])
  · have old : ∀ c, c < n → c ≠ a → (U c).ownBlock = none ∨ (U c).ownBlock ≠ u'.ownBlock := fun c hc hca => by
      rcases hf with q | q | ⟨k', q, hk'⟩
      · rw [q]
        exact h.apart c a hc ha hca
      · cases e : (U c).ownBlock with
        | none => exact .inl rfl
        | some k => rw [q]; exact .inr (by simp)
      · cases e : (U c).ownBlock with
        | none => exact .inl rfl
        | some k =>
          refine .inr ?_
          have := ((h.rows c hc).lt k e).2
          rw [q]
          intro q2
          injection q2 with q2
          omega
    by_cases eb : b = a
    · subst eb
      rw [upd_at, upd_off _ _ (Ne.symm hbc)]
      rcases old c hc (Ne.symm hbc) with q | q
      · rw [q]
        cases hv : u'.ownBlock with
        | none => exact .inl rfl
        | some k => exact .inr (by simp)
      · exact .inr (Ne.symm q)
    · by_cases ec : c = a
      · subst ec
        rw [upd_at, upd_off _ _ eb]
        exact old b hb eb
      · rw [upd_off _ _ eb, upd_off _ _ ec]
        exact h.apart b c hb hc hbc
  · exact (T.more (fun k _ hk => .inr (.inr ⟨a, ha, hk⟩))).setCell (p := ⟨ab, a * 2 + 1, none⟩) (.inl (.inr (.inl rfl))) _
def hasB (n : Nat) (a : Int) : Bool := decide (0 ≤ a) && decide (a < (n : Int))
theorem hasB_yes {n a : Nat} (h : a < n) : hasB n (a : Int) = true := by unfold hasB; simp; omega
theorem hasB_no {n : Nat} {a : Int} (h : a < 0 ∨ (n : Int) ≤ a) : hasB n a = false := by unfold hasB; simp; omega
theorem RefE.is (h : RefE w rb ab n cap base now P U Q) (a : Int) : Calls Try.prog 69 #[.pointer (some ⟨rb, 0, none⟩), .int .i64 a] w fun e w' => e = .returned (.bool (hasB n a)) ∧ w = w' := by
  have c1 := h.c1
  clear h
  by_cases a0 : 0 ≤ a
  · have t0 : decide ((0 : Int) ≤ a) = true := by simpa using a0
    by_cases a1 : a < (n : Int)
    · have t1 : decide (a < (n : Int)) = true := by simpa using a1
      rw [show hasB n a = true by unfold hasB; rw [t0, t1]; rfl]
      go_enter Try.func69, Try.ntmps69
      go_wp2
      go_ret
      exact ⟨rfl, rfl⟩
    · have t1 : decide (a < (n : Int)) = false := by simpa using a1
      rw [show hasB n a = false by unfold hasB; rw [t0, t1]; rfl]
      go_enter Try.func69, Try.ntmps69
      go_wp2
      go_ret
      exact ⟨rfl, rfl⟩
  · have t0 : decide ((0 : Int) ≤ a) = false := by simpa using a0
    rw [show hasB n a = false by unfold hasB; rw [t0]; rfl]
    go_enter Try.func69, Try.ntmps69
    go_wp2
    go_ret
    exact ⟨rfl, rfl⟩
theorem RefE.pin_not (h : RefE w rb ab n cap base now P U Q) {a : Int} (ha : a < 0 ∨ (n : Int) ≤ a) : Calls Try.prog 34 #[.pointer (some ⟨rb, 0, none⟩), .int .i64 a] w fun e w' => e = .returned (.bool false) ∧ w = w' := by
  have H := h.is a
  rw [hasB_no ha] at H
  have H := Lib.hid H
  clear h
  go_enter Try.func34, Try.ntmps34
  go_wp2_with fail
  refine H.out.mono ?_
  rintro e w1 ⟨rfl, rfl⟩
  go_wp2
  go_ret
  exact ⟨rfl, rfl⟩
theorem RefE.unpin_not (h : RefE w rb ab n cap base now P U Q) {a : Int} (ha : a < 0 ∨ (n : Int) ≤ a) : Calls Try.prog 36 #[.pointer (some ⟨rb, 0, none⟩), .int .i64 a] w fun e w' => e = .returned (.bool false) ∧ w = w' := by
  have H := h.is a
  rw [hasB_no ha] at H
  have H := Lib.hid H
  clear h
  go_enter Try.func36, Try.ntmps36
  go_wp2_with fail
  refine H.out.mono ?_
  rintro e w1 ⟨rfl, rfl⟩
  go_wp2
  go_ret
  exact ⟨rfl, rfl⟩
theorem RefE.pinned_not (h : RefE w rb ab n cap base now P U Q) {a : Int} (ha : a < 0 ∨ (n : Int) ≤ a) : Calls Try.prog 45 #[.pointer (some ⟨rb, 0, none⟩), .int .i64 a] w fun e w' => e = .returned (.tuple #[.int .i64 0, .bool false]) ∧ w = w' := by
  have H := h.is a
  rw [hasB_no ha] at H
  have H := Lib.hid H
  clear h
  go_enter Try.func45, Try.ntmps45
  go_wp2_with fail
  refine H.out.mono ?_
  rintro e w1 ⟨rfl, rfl⟩
  go_wp2
  go_ret2
  exact ⟨rfl, rfl⟩
theorem RefE.limbo_not (h : RefE w rb ab n cap base now P U Q) {a : Int} (ha : a < 0 ∨ (n : Int) ≤ a) : Calls Try.prog 48 #[.pointer (some ⟨rb, 0, none⟩), .int .i64 a] w fun e w' => e = .returned (.int .i64 0) ∧ w = w' := by
  have H := h.is a
  rw [hasB_no ha] at H
  have H := Lib.hid H
  clear h
  go_enter Try.func48, Try.ntmps48
  go_wp2_with fail
  refine H.out.mono ?_
  rintro e w1 ⟨rfl, rfl⟩
  go_wp2
  go_ret
  exact ⟨rfl, rfl⟩
theorem RefE.ripe_not (h : RefE w rb ab n cap base now P U Q) {a : Int} (ha : a < 0 ∨ (n : Int) ≤ a) : Calls Try.prog 41 #[.pointer (some ⟨rb, 0, none⟩), .int .i64 a] w fun e w' => e = .returned (.slice none 0 0) ∧ w = w' := by
  have H := h.is a
  rw [hasB_no ha] at H
  have H := Lib.hid H
  clear h
  go_enter Try.func41, Try.ntmps41
  go_wp2_with fail
  refine H.out.mono ?_
  rintro e w1 ⟨rfl, rfl⟩
  go_wp2
  go_ret
  exact ⟨rfl, rfl⟩
theorem RefE.retire_not (h : RefE w rb ab n cap base now P U Q) {a : Int} (ha : a < 0 ∨ (n : Int) ≤ a) (r0 r1 : Int) : Calls Try.prog 38 #[.pointer (some ⟨rb, 0, none⟩), .int .i64 a, .agg #[.int .i64 r0, .int .i64 r1]] w fun e w' => e = .returned (.bool false) ∧ w' = w.alloc (.cells #[.int .i64 r0, .int .i64 r1] 51) := by
  have H := (h.same ((Turn.refl _ w).alloc (.cells #[.int .i64 r0, .int .i64 r1] 51))).is a
  rw [hasB_no ha] at H
  have H := Lib.hid H
  clear h
  go_enter Try.func38, Try.ntmps38
  go_wp2_with fail
  refine H.out.mono ?_
  rintro e w1 ⟨rfl, rfl⟩
  go_wp2
  go_ret
  exact ⟨rfl, rfl⟩
theorem RefE.pin (h : RefE w rb ab n cap base now P U Q) {a : Nat} (ha : a < n) (hp : P a = -1 ∨ 0 ≤ P a) : Calls Try.prog 34 #[.pointer (some ⟨rb, 0, none⟩), .int .i64 (a : Int)] w fun e w' => e = .returned (.bool (decide (P a = -1))) ∧ RefE w' rb ab n cap base now (if P a = -1 then upd P a now else P) U Q ∧ Turn (RefOwn rb ab n U) w w' := by
  have H := h.is (a : Int)
  rw [hasB_yes ha] at H
  have H := Lib.hid H
  have E := Lib.hid h
  have c0 := h.c0
  have c1 := h.c1
  have cp := h.cp a ha
  have fa := h.fa (a * 2)
  have an : (a : Int) < (n : Int) := by omega
  have nab := h.ne
  rcases hp with hp | hp
  · rw [if_pos hp, decide_eq_true hp]
    rw [hp] at cp
    clear h hp
    go_enter Try.func34, Try.ntmps34
    go_wp2_with fail
    refine H.out.mono ?_
    rintro e w1 ⟨rfl, rfl⟩
    go_wp2_with fail
    go_region
    go_wp2
    go_ret
    exact ⟨rfl, (E.out.same ((Turn.refl _ w).drewN 1)).setPin ha now, ((Turn.refl _ w).drewN 1).setCell (p := ⟨ab, a * 2, none⟩) (.inl (.inr (.inl rfl))) _⟩
  · have hne : ¬ P a = -1 := by omega
    rw [if_neg hne, decide_eq_false hne]
    have t0 : decide (0 ≤ P a) = true := by simpa using hp
    generalize hpp : P a = p at *
    clear h hne hpp
    go_enter Try.func34, Try.ntmps34
    go_wp2_with fail
    refine H.out.mono ?_
    rintro e w1 ⟨rfl, rfl⟩
    go_wp2
    go_ret
    exact ⟨rfl, E.out, Turn.refl _ _⟩
theorem RefE.unpin (h : RefE w rb ab n cap base now P U Q) {a : Nat} (ha : a < n) (hp : P a = -1 ∨ 0 ≤ P a) : Calls Try.prog 36 #[.pointer (some ⟨rb, 0, none⟩), .int .i64 (a : Int)] w fun e w' => e = .returned (.bool (decide (P a ≠ -1))) ∧ RefE w' rb ab n cap base now (if P a = -1 then P else upd P a (-1)) U Q ∧ Turn (RefOwn rb ab n U) w w' := by
  have H := h.is (a : Int)
  rw [hasB_yes ha] at H
  have H := Lib.hid H
  have E := Lib.hid h
  have c1 := h.c1
  have cp := h.cp a ha
  have fa := h.fa (a * 2)
  have an : (a : Int) < (n : Int) := by omega
  rcases hp with hp | hp
  · rw [if_pos hp, decide_eq_false (by simpa using hp)]
    rw [hp] at cp
    clear h hp
    go_enter Try.func36, Try.ntmps36
    go_wp2_with fail
    refine H.out.mono ?_
    rintro e w1 ⟨rfl, rfl⟩
    go_wp2
    go_ret
    exact ⟨rfl, E.out, Turn.refl _ _⟩
  · have hne : ¬ P a = -1 := by omega
    rw [if_neg hne, decide_eq_true (by exact hne)]
    have t0 : decide (P a < 0) = false := by simp; omega
    generalize hpp : P a = p at *
    clear h hne hpp
    go_enter Try.func36, Try.ntmps36
    go_wp2_with fail
    refine H.out.mono ?_
    rintro e w1 ⟨rfl, rfl⟩
    go_wp2
    go_ret
    exact ⟨rfl, E.out.setPin ha (-1), (Turn.refl _ w).setCell (p := ⟨ab, a * 2, none⟩) (.inl (.inr (.inl rfl))) _⟩
theorem RefE.pinned (h : RefE w rb ab n cap base now P U Q) {a : Nat} (ha : a < n) (hp : P a = -1 ∨ 0 ≤ P a) : Calls Try.prog 45 #[.pointer (some ⟨rb, 0, none⟩), .int .i64 (a : Int)] w fun e w' => e = .returned (.tuple #[.int .i64 (if P a = -1 then 0 else P a), .bool (decide (P a ≠ -1))]) ∧ w = w' := by
  have H := h.is (a : Int)
  rw [hasB_yes ha] at H
  have H := Lib.hid H
  have c1 := h.c1
  have cp := h.cp a ha
  have an : (a : Int) < (n : Int) := by omega
  rcases hp with hp | hp
  · rw [if_pos hp, decide_eq_false (by simpa using hp)]
    rw [hp] at cp
    clear h hp
    go_enter Try.func45, Try.ntmps45
    go_wp2_with fail
    refine H.out.mono ?_
    rintro e w1 ⟨rfl, rfl⟩
    go_wp2
    go_ret2
    exact ⟨rfl, rfl⟩
  · have hne : ¬ P a = -1 := by omega
    rw [if_neg hne, decide_eq_true (by exact hne)]
    have t0 : decide (P a < 0) = false := by simp; omega
    generalize P a = p at *
    clear h hne
    go_enter Try.func45, Try.ntmps45
    go_wp2_with fail
    refine H.out.mono ?_
    rintro e w1 ⟨rfl, rfl⟩
    go_wp2
    go_ret2
    exact ⟨rfl, rfl⟩
theorem RefE.limbo (h : RefE w rb ab n cap base now P U Q) {a : Nat} (ha : a < n) : Calls Try.prog 48 #[.pointer (some ⟨rb, 0, none⟩), .int .i64 (a : Int)] w fun e w' => e = .returned (.int .i64 ((Q a).length : Int)) ∧ w = w' := by
  have H := h.is (a : Int)
  rw [hasB_yes ha] at H
  have H := Lib.hid H
  have c1 := h.c1
  have cu := h.cu a ha
  obtain ⟨ad, cp, e, _⟩ := own_slice (h.rows a ha)
  rw [e] at cu
  have an : (a : Int) < (n : Int) := by omega
  clear h e
  go_enter Try.func48, Try.ntmps48
  go_wp2_with fail
  refine H.out.mono ?_
  rintro e w1 ⟨rfl, rfl⟩
  go_wp2
  go_ret
  exact ⟨rfl, rfl⟩
theorem RefE.now_cell (h : RefE w rb ab n cap base now P U Q) : w.cell? ⟨rb, 0, none⟩ = some (.int .i64 now) := h.c0
/-! ### Advance -/
def AdvB (n : Nat) (P : Nat → Int) (now : Int) : Prop := ∀ j, j < n → P j = -1 ∨ P j = now
def RadvRel (n : Nat) (P : Nat → Int) (now : Int) (gh : Nat) (v : Value) : Prop := ∃ k : Nat, v = .int .i64 (k : Int) ∧ k ≤ n ∧ gh = n - k ∧ ∀ j, j < k → P j = -1 ∨ P j = now
set_option maxHeartbeats 1000000 in
theorem RefE.advance_yes (h : RefE w rb ab n cap base now P U Q) (hm : now < 1000000) (hp : ∀ j, j < n → P j = -1 ∨ 0 ≤ P j) (hall : AdvB n P now) :
    Calls Try.prog 43 #[.pointer (some ⟨rb, 0, none⟩)] w fun e w' => e = .returned (.bool true) ∧ RefE w' rb ab n cap base (now + 1) P U Q ∧ Turn (RefOwn rb ab n U) w w' := by
  have E := Lib.hid h
  have A := Lib.hid (And.intro hall hp)
  have c0 := h.c0
  have c1 := h.c1
  have fr := h.fr
  obtain ⟨n0, n1⟩ := h.nn
  have n5 := h.n5
  have ew : wrap64 (now + 1) = now + 1 := by unfold wrap64; omega
  clear h hall hp
  go_enter Try.func43, Try.ntmps43
  go_wp2_with fail
  go_loopg [3] n (fun gh v wr => RadvRel n P now gh v ∧ ∃ d, wr = w.drewN d)
  case atStart => exact ⟨⟨0, rfl, Nat.zero_le _, rfl, fun j hj => absurd hj (Nat.not_lt_zero j)⟩, 0, rfl⟩
  case round =>
    obtain ⟨⟨k, rfl, hk, hgk, hok⟩, d, rfl⟩ := hrel
    have K := Lib.hid (And.intro hok hgk)
    have c0 : (w.drewN d).cell? ⟨rb, 0, none⟩ = _ := c0
    have c1 : (w.drewN d).cell? ⟨rb, 1, none⟩ = _ := c1
    have fr : ∀ i, (w.drewN d).frozen? ⟨rb, i, none⟩ = false := fr
    clear hok hgk
    by_cases hkn : k < n
    · have hA := A.out.1 k hkn
      have hB := A.out.2 k hkn
      have cp : (w.drewN d).cell? ⟨ab, k * 2, none⟩ = some (.int .i64 (P k)) := E.out.cp k hkn
      have hkn' : (k : Int) < (n : Int) := by omega
      have hk0 : (0 : Int) ≤ (k : Int) := by omega
      have D := Lib.hid (show ∀ e, ∃ d', (w.drewN d).drewN e = w.drewN d' from fun e => ⟨_, World.drewN_drewN ..⟩)
      rcases hA with hp | hp
      · rw [hp] at cp
        clear hp hB
        go_wp2_with fail
        generalize w.drewN d = W at *
        try go_quiet (fail)
        go_wp2_with fail
        go_roundg (n - (k + 1))
        case measure => have := K.out.2; omega
        case rel => exact ⟨⟨k + 1, by go_num, by omega, rfl, fun j hj => A.out.1 j (by omega)⟩, by first | exact D.out _ | exact D.out 0⟩
      · rw [hp] at cp hB
        have hb0 : 0 ≤ now := n0
        have t3 : (now != now) = false := by simp
        clear hp hB
        go_wp2_with fail
        generalize w.drewN d = W at *
        try go_quiet (fail)
        go_wp2_with fail
        go_roundg (n - (k + 1))
        case measure => have := K.out.2; omega
        case rel => exact ⟨⟨k + 1, by go_num, by omega, rfl, fun j hj => A.out.1 j (by omega)⟩, by first | exact D.out _ | exact D.out 0⟩
    · have F := Lib.hid (E.out.same ((Turn.refl _ w).drewN d))
      have T := Lib.hid ((Turn.refl (RefOwn rb ab n U) w).drewN d)
      clear E
      go_wp2_with fail
      generalize w.drewN d = W at *
      try go_quiet (fail)
      go_wp2_with fail
      go_ret
      exact ⟨rfl, F.out.setNow (now + 1) ⟨by omega, by omega⟩, T.out.setCell (p := ⟨rb, 0, none⟩) (.inl (.inl rfl)) _⟩
set_option maxHeartbeats 1000000 in
theorem RefE.advance_no (h : RefE w rb ab n cap base now P U Q) (hp : ∀ j, j < n → P j = -1 ∨ 0 ≤ P j) (j0 : Nat) (hj0 : j0 < n) (h1 : P j0 ≠ -1) (h2 : P j0 ≠ now) :
    Calls Try.prog 43 #[.pointer (some ⟨rb, 0, none⟩)] w fun e w' => e = .returned (.bool false) ∧ ∃ d, w' = w.drewN d := by
  have E := Lib.hid h
  have A := Lib.hid (And.intro hp (And.intro h1 h2))
  have c0 := h.c0
  have c1 := h.c1
  obtain ⟨n0, n1⟩ := h.nn
  have n5 := h.n5
  clear h hp h1 h2
  go_enter Try.func43, Try.ntmps43
  go_wp2_with fail
  go_loopg [3] n (fun gh v wr => RadvRel n P now gh v ∧ ∃ d, wr = w.drewN d)
  case atStart => exact ⟨⟨0, rfl, Nat.zero_le _, rfl, fun j hj => absurd hj (Nat.not_lt_zero j)⟩, 0, rfl⟩
  case round =>
    obtain ⟨⟨k, rfl, hk, hgk, hok⟩, d, rfl⟩ := hrel
    have hkj : k ≤ j0 := by
      rcases Nat.lt_or_ge j0 k with q | q
      · rcases hok j0 q with q | q
        · exact absurd q A.out.2.1
        · exact absurd q A.out.2.2
      · exact q
    have hkn : k < n := by omega
    have K := Lib.hid (And.intro hok hgk)
    have c0 : (w.drewN d).cell? ⟨rb, 0, none⟩ = _ := c0
    have c1 : (w.drewN d).cell? ⟨rb, 1, none⟩ = _ := c1
    have cp : (w.drewN d).cell? ⟨ab, k * 2, none⟩ = some (.int .i64 (P k)) := E.out.cp k hkn
    have hB := A.out.1 k hkn
    have hkn' : (k : Int) < (n : Int) := by omega
    have hk0 : (0 : Int) ≤ (k : Int) := by omega
    have D := Lib.hid (show ∀ e, ∃ d', (w.drewN d).drewN e = w.drewN d' from fun e => ⟨_, World.drewN_drewN ..⟩)
    clear hok hgk
    generalize hpk : P k = p at *
    have HP := Lib.hid hpk
    clear hpk
    by_cases hq : p = -1
    · subst hq
      clear hB
      go_wp2_with fail
      generalize w.drewN d = W at *
      try go_quiet (fail)
      go_wp2_with fail
      go_roundg (n - (k + 1))
      case measure => have := K.out.2; omega
      case rel => exact ⟨⟨k + 1, by go_num, by omega, rfl, fun j hj => by
        by_cases e : j = k
        · rw [e]; exact .inl HP.out
        · exact K.out.1 j (by omega)⟩, by first | exact D.out _ | exact D.out 0⟩
    · have hb0 : 0 ≤ p := hB.resolve_left hq
      have t0 : decide (0 ≤ p) = true := by simpa using hb0
      clear hB
      by_cases hn : p = now
      · subst hn
        have t3 : (p != p) = false := by simp
        go_wp2_with fail
        generalize w.drewN d = W at *
        try go_quiet (fail)
        go_wp2_with fail
        go_roundg (n - (k + 1))
        case measure => have := K.out.2; omega
        case rel => exact ⟨⟨k + 1, by go_num, by omega, rfl, fun j hj => by
          by_cases e : j = k
          · rw [e]; exact .inr HP.out
          · exact K.out.1 j (by omega)⟩, by first | exact D.out _ | exact D.out 0⟩
      · have t3 : (p != now) = true := by simpa using hn
        clear hn hq
        go_wp2_with fail
        generalize w.drewN d = W at *
        try go_quiet (fail)
        go_wp2_with fail
        go_ret
        exact ⟨rfl, by first | exact D.out _ | exact D.out 0⟩
end
end Go.Proofs.Ytibmimdlgbhdnaa
