/-
  Epochs in memory, and what their functions answer that only read, or write a pin, or the epoch: contracts for the walks of the statements of layer 12.
-/
import Derived.Test.YtgfobgabdafclaaGreatBase
namespace Go.Proofs.YtgfobgabdafclaaGreat
open Go.ChangeShapes Go.WideShapes Go.ChangeAt Go.RowKit
set_option linter.unusedVariables false

def cells3 : List (Int × Int × Int) → List Value
  | [] => []
  | x :: l => .int .i64 x.1 :: .int .i64 x.2.1 :: .int .i64 x.2.2 :: cells3 l

/-- Blocks keep the type of their cells. -/
def Kept (w w' : World) : Prop := ∀ b t, Blk w b t → Blk w' b t

/-- Epochs of n actors at block x, their limbos at block lb, each limbo a row of its own from block base on. -/
structure Epo (w : World) (x lb n base : Nat) (now : Int) (P : Nat → Int) (V : Nat → Value) (Q : Nat → List (Int × Int × Int)) : Prop where
  ne : x ≠ lb
  bx : x < base
  bl : lb < base
  bw : base ≤ w.heap.size
  c0 : w.cell? ⟨x, 0, none⟩ = some (.int .i64 now)
  cp : ∀ k, k < 16 → w.cell? ⟨x, 1 + k, none⟩ = some (.int .i64 (P k))
  cl : w.cell? ⟨x, 17, none⟩ = some (.slice (some ⟨lb, 0, none⟩) n n)
  cv : ∀ a, a < n → w.cell? ⟨lb, a, none⟩ = some (V a)
  fx : ∀ i, w.frozen? ⟨x, i, none⟩ = false
  fl : ∀ i, w.frozen? ⟨lb, i, none⟩ = false
  rows : ∀ a, a < n → w.ownsRow base 374 3 (V a) (Q a).length (cells3 (Q a))
  apart : ∀ a b, a < n → b < n → a ≠ b → (V a).ownBlock = none ∨ (V a).ownBlock ≠ (V b).ownBlock
  n16 : n ≤ 16
  nn : 0 ≤ now ∧ now ≤ 1000000

/-- The blocks that are the epochs' own. -/
def EpoOwn (x lb n : Nat) (V : Nat → Value) (k : Nat) : Prop := k = x ∨ k = lb ∨ ∃ a, a < n ∧ (V a).ownBlock = some k

section
variable {w w' : World} {x lb n base : Nat} {now : Int} {P : Nat → Int} {V : Nat → Value} {Q : Nat → List (Int × Int × Int)}

theorem Epo.keep (h : Epo w x lb n base now P V Q) {S : Nat → Prop} (ht : Turn S w w') (hs : ∀ k, k < w.heap.size → EpoOwn x lb n V k → ¬ S k) : Epo w' x lb n base now P V Q := by
  have lx : x < w.heap.size := Nat.lt_of_lt_of_le h.bx h.bw
  have ll : lb < w.heap.size := Nat.lt_of_lt_of_le h.bl h.bw
  have e1 := ht.block x lx (hs x lx (.inl rfl))
  have e2 := ht.block lb ll (hs lb ll (.inr (.inl rfl)))
  exact ⟨h.ne, h.bx, h.bl, Nat.le_trans h.bw ht.size, (World.cell?_of_block (w := w) e1).trans h.c0, fun k hk => (World.cell?_of_block (w := w) e1).trans (h.cp k hk), (World.cell?_of_block (w := w) e1).trans h.cl,
    fun a ha => (World.cell?_of_block (w := w) e2).trans (h.cv a ha), fun i => (World.frozen?_of_block (w := w) e1).trans (h.fx i), fun i => (World.frozen?_of_block (w := w) e2).trans (h.fl i),
    fun a ha => own_turn (h.rows a ha) ht (fun k hk => hs k ((h.rows a ha).lt k hk).2 (.inr (.inr ⟨a, ha, hk⟩))), h.apart, h.n16, h.nn⟩
theorem Epo.drewN (h : Epo w x lb n base now P V Q) (d : Nat) : Epo (w.drewN d) x lb n base now P V Q :=
  h.keep (S := fun _ => False) ((Turn.refl _ w).drewN d) (fun _ _ _ => id)
theorem Epo.alloc (h : Epo w x lb n base now P V Q) (o : Obj) : Epo (w.alloc o) x lb n base now P V Q :=
  h.keep (S := fun _ => False) ((Turn.refl _ w).alloc o) (fun _ _ _ => id)

theorem Epo.rowx (h : Epo w x lb n base now P V Q) {a : Nat} (ha : a < n) {k : Nat} (hk : (V a).ownBlock = some k) : base ≤ k := ((h.rows a ha).lt k hk).1

theorem Epo.setPin (h : Epo w x lb n base now P V Q) {a : Nat} (ha : a < 16) (p : Int) : Epo (w.setCell ⟨x, 1 + a, none⟩ (.int .i64 p)) x lb n base now (upd P a p) V Q := by
  have ne := h.ne
  refine ⟨h.ne, h.bx, h.bl, by simpa using h.bw, by rw [cell_off _ _ _ _ _ (by omega)]; exact h.c0, fun k hk => ?_, by rw [cell_off _ _ _ _ _ (by omega)]; exact h.cl, fun b hb => by rw [cell_far _ _ _ _ _ _ ne]; exact h.cv b hb, fun i => by simpa using h.fx i, fun i => by simpa using h.fl i, fun b hb => own_keep (h.rows b hb) (fun k hk => ?_), h.apart, h.n16, h.nn⟩
  · by_cases e : k = a
    · subst e
      rw [upd_at]
      exact World.cell?_setCell_same _ _ _ (h.cp k hk)
    · rw [cell_off _ _ _ _ _ (by omega), upd_off _ _ e]
      exact h.cp k hk
  · have := h.rowx hb hk
    have := h.bx
    exact Below.heap_setCell _ _ _ _ (by show k ≠ x; omega)

theorem Epo.setNow (h : Epo w x lb n base now P V Q) (m : Int) (hm : 0 ≤ m ∧ m ≤ 1000000) : Epo (w.setCell ⟨x, 0, none⟩ (.int .i64 m)) x lb n base m P V Q := by
  have ne := h.ne
  refine ⟨h.ne, h.bx, h.bl, by simpa using h.bw, World.cell?_setCell_same _ _ _ h.c0, fun k hk => by rw [cell_off _ _ _ _ _ (by omega)]; exact h.cp k hk, by rw [cell_off _ _ _ _ _ (by omega)]; exact h.cl, fun b hb => by rw [cell_far _ _ _ _ _ _ ne]; exact h.cv b hb, fun i => by simpa using h.fx i, fun i => by simpa using h.fl i, fun b hb => own_keep (h.rows b hb) (fun k hk => ?_), h.apart, h.n16, hm⟩
  have := h.rowx hb hk
  have := h.bx
  exact Below.heap_setCell _ _ _ _ (by show k ≠ x; omega)

theorem Epo.turn_x (h : Epo w x lb n base now P V Q) (i : Nat) (u : Value) : Turn (EpoOwn x lb n V) w (w.setCell ⟨x, i, none⟩ u) := (Turn.refl _ w).setCell (p := ⟨x, i, none⟩) (.inl (.inl rfl)) u

/-! ### What only reads -/
theorem Epo.has_yes (h : Epo w x lb n base now P V Q) {a : Nat} (ha : a < n) : Calls Tryz.prog 219 #[.pointer (some ⟨x, 0, none⟩), .int .i64 (a : Int)] w fun e w' => e = .returned (.bool true) ∧ w = w' := by
  have cl := h.cl
  have a0 : decide ((a : Int) < (n : Int)) = true := by simpa using ha
  have a1 : decide ((0 : Int) ≤ (a : Int)) = true := by simp
  clear h
  go_enter Tryz.func219, Tryz.ntmps219
  go_wp2
  go_ret
  exact ⟨rfl, rfl⟩
theorem Epo.has_no (h : Epo w x lb n base now P V Q) {a : Int} (ha : a < 0 ∨ (n : Int) ≤ a) : Calls Tryz.prog 219 #[.pointer (some ⟨x, 0, none⟩), .int .i64 a] w fun e w' => e = .returned (.bool false) ∧ w = w' := by
  have cl := h.cl
  clear h
  by_cases a0 : a < 0
  · have a1 : decide ((0 : Int) ≤ a) = false := by simpa using a0
    clear ha
    go_enter Tryz.func219, Tryz.ntmps219
    go_wp2
    go_ret
    exact ⟨rfl, rfl⟩
  · have a1 : decide ((0 : Int) ≤ a) = true := by simp; omega
    have a2 : decide (a < (n : Int)) = false := by simp; omega
    clear ha a0
    go_enter Tryz.func219, Tryz.ntmps219
    go_wp2
    go_ret
    exact ⟨rfl, rfl⟩
theorem has_nil (w : World) (a : Int) : Calls Tryz.prog 219 #[.pointer none, .int .i64 a] w fun e w' => e = .returned (.bool false) ∧ w = w' := by
  go_enter Tryz.func219, Tryz.ntmps219
  go_wp2
  go_ret
  exact ⟨rfl, rfl⟩
theorem pinned_not (w : World) (p : Option Addr) (a : Int) (H : Calls Tryz.prog 219 #[.pointer p, .int .i64 a] w fun e w' => e = .returned (.bool false) ∧ w = w') :
    Calls Tryz.prog 218 #[.pointer p, .int .i64 a] w fun e w' => e = .returned (.tuple #[.int .i64 0, .bool false]) ∧ w = w' := by
  have H := Lib.hid H
  go_enter Tryz.func218, Tryz.ntmps218
  go_wp2_with fail
  refine H.out.mono ?_
  rintro e w1 ⟨rfl, rfl⟩
  go_wp2
  go_ret2
  exact ⟨rfl, rfl⟩
theorem Epo.pinned_no (h : Epo w x lb n base now P V Q) {a : Nat} (ha : a < n) (hp : P a = -1) : Calls Tryz.prog 218 #[.pointer (some ⟨x, 0, none⟩), .int .i64 (a : Int)] w fun e w' => e = .returned (.tuple #[.int .i64 0, .bool false]) ∧ w = w' := by
  have H := Lib.hid (h.has_yes ha)
  have cp := h.cp a (by have := h.n16; omega)
  rw [hp] at cp
  have a16 : a < 16 := by have := h.n16; omega
  clear h hp
  go_enter Tryz.func218, Tryz.ntmps218
  go_wp2_with fail
  refine H.out.mono ?_
  rintro e w1 ⟨rfl, rfl⟩
  go_wp2
  go_ret2
  exact ⟨rfl, rfl⟩
theorem Epo.pinned_yes (h : Epo w x lb n base now P V Q) {a : Nat} (ha : a < n) (hp : P a ≠ -1) : Calls Tryz.prog 218 #[.pointer (some ⟨x, 0, none⟩), .int .i64 (a : Int)] w fun e w' => e = .returned (.tuple #[.int .i64 (P a), .bool true]) ∧ w = w' := by
  have H := Lib.hid (h.has_yes ha)
  have cp := h.cp a (by have := h.n16; omega)
  have a16 : a < 16 := by have := h.n16; omega
  generalize P a = p at cp hp ⊢
  have hp1 : (p == -1) = false := by simpa using hp
  clear h hp
  go_enter Tryz.func218, Tryz.ntmps218
  go_wp2_with fail
  refine H.out.mono ?_
  rintro e w1 ⟨rfl, rfl⟩
  go_wp2
  go_ret2
  exact ⟨rfl, rfl⟩
theorem pin_not (w : World) (p : Option Addr) (a : Int) (H : ∀ w, Calls Tryz.prog 219 #[.pointer p, .int .i64 a] w fun e w' => e = .returned (.bool false) ∧ w = w') :
    Calls Tryz.prog 185 #[.pointer p, .int .i64 a] w fun e w' => e = .returned (.bool false) ∧ w = w' := by
  have H1 := Lib.hid (pinned_not w p a (H w))
  have H2 := Lib.hid (H w)
  clear H
  go_enter Tryz.func185, Tryz.ntmps185
  go_wp2_with fail
  refine H1.out.mono ?_
  rintro e w1 ⟨rfl, rfl⟩
  go_wp2_with fail
  refine H2.out.mono ?_
  rintro e w1 ⟨rfl, rfl⟩
  go_wp2
  go_ret
  exact ⟨rfl, rfl⟩
theorem Epo.pin_no (h : Epo w x lb n base now P V Q) {a : Nat} (ha : a < n) (hp : P a ≠ -1) : Calls Tryz.prog 185 #[.pointer (some ⟨x, 0, none⟩), .int .i64 (a : Int)] w fun e w' => e = .returned (.bool false) ∧ w = w' := by
  have H1 := Lib.hid (h.pinned_yes ha hp)
  clear h hp
  go_enter Tryz.func185, Tryz.ntmps185
  go_wp2_with fail
  refine H1.out.mono ?_
  rintro e w1 ⟨rfl, rfl⟩
  go_wp2
  go_ret
  exact ⟨rfl, rfl⟩
theorem Epo.pin_yes (h : Epo w x lb n base now P V Q) {a : Nat} (ha : a < n) (hp : P a = -1) : Calls Tryz.prog 185 #[.pointer (some ⟨x, 0, none⟩), .int .i64 (a : Int)] w fun e w' => e = .returned (.bool true) ∧ Epo w' x lb n base now (upd P a now) V Q ∧ Turn (EpoOwn x lb n V) w w' ∧ Kept w w' := by
  have H1 := Lib.hid (h.pinned_no ha hp)
  have H2 := Lib.hid (h.has_yes ha)
  have E := Lib.hid h
  have c0 := h.c0
  have fx := h.fx
  have cp := h.cp a (by have := h.n16; omega)
  have a16 : a < 16 := by have := h.n16; omega
  clear h hp
  go_enter Tryz.func185, Tryz.ntmps185
  go_wp2_with fail
  refine H1.out.mono ?_
  rintro e w1 ⟨rfl, rfl⟩
  go_wp2_with fail
  refine H2.out.mono ?_
  rintro e w1 ⟨rfl, rfl⟩
  go_wp2_with fail
  go_region
  go_wp2
  go_ret
  exact ⟨rfl, (E.out.drewN 1).setPin a16 now, ((Turn.refl _ w).drewN 1).setCell (p := ⟨x, 1 + a, none⟩) (.inl (.inl rfl)) _, fun b t hb => (hb.turn ((Turn.refl (fun _ => False) w).drewN 1) (fun f => f)).set _ _⟩
theorem unpin_not (w : World) (p : Option Addr) (a : Int) (H : Calls Tryz.prog 218 #[.pointer p, .int .i64 a] w fun e w' => e = .returned (.tuple #[.int .i64 0, .bool false]) ∧ w = w') :
    Calls Tryz.prog 271 #[.pointer p, .int .i64 a] w fun e w' => e = .returned (.bool false) ∧ w = w' := by
  have H := Lib.hid H
  go_enter Tryz.func271, Tryz.ntmps271
  go_wp2_with fail
  refine H.out.mono ?_
  rintro e w1 ⟨rfl, rfl⟩
  go_wp2
  go_ret
  exact ⟨rfl, rfl⟩
theorem Epo.unpin_yes (h : Epo w x lb n base now P V Q) {a : Nat} (ha : a < n) (hp : P a ≠ -1) : Calls Tryz.prog 271 #[.pointer (some ⟨x, 0, none⟩), .int .i64 (a : Int)] w fun e w' => e = .returned (.bool true) ∧ Epo w' x lb n base now (upd P a (-1)) V Q ∧ Turn (EpoOwn x lb n V) w w' ∧ Kept w w' := by
  have H1 := Lib.hid (h.pinned_yes ha hp)
  have E := Lib.hid h
  have fx := h.fx
  have cp := h.cp a (by have := h.n16; omega)
  have a16 : a < 16 := by have := h.n16; omega
  clear h hp
  go_enter Tryz.func271, Tryz.ntmps271
  go_wp2_with fail
  refine H1.out.mono ?_
  rintro e w1 ⟨rfl, rfl⟩
  go_wp2
  go_ret
  exact ⟨rfl, E.out.setPin a16 (-1), E.out.turn_x _ _, fun b t hb => hb.set _ _⟩
end
end Go.Proofs.YtgfobgabdafclaaGreat
