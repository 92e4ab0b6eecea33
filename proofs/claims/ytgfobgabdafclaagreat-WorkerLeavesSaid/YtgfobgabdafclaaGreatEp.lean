/-
  Epochs without limbos, told by the blocks in which they lie.
-/
import Derived.Test.YtgfobgabdafclaaGreatRipe2
namespace Go.Proofs.YtgfobgabdafclaaGreat
open Go.ChangeShapes Go.WideShapes Go.ChangeAt Go.RowKit
set_option linter.unusedVariables false
/-- Epochs of n actors at block x, limbos at block lb, all empty. -/
structure EpA (w : World) (x lb n : Nat) (now : Int) (P : Nat → Int) : Prop where
  ex : ∃ base, Epo w x lb n base now P (fun _ => .slice none 0 0) (fun _ => [])
  b1 : Blk w x 213
  b2 : Blk w lb 372
section
variable {w w' : World} {x lb n : Nat} {now : Int} {P : Nat → Int}
theorem own_none {x lb n : Nat} {k : Nat} (h : EpoOwn x lb n (fun _ => .slice none 0 0) k) : k = x ∨ k = lb := by
  rcases h with h | h | ⟨a, _, h⟩
  · exact .inl h
  · exact .inr h
  · cases h
theorem EpA.turn {S : Nat → Prop} (h : EpA w x lb n now P) (T : Turn S w w') (h1 : ¬ S x) (h2 : ¬ S lb) : EpA w' x lb n now P := by
  obtain ⟨base, E⟩ := h.ex
  exact ⟨⟨base, E.keep T (fun k _ hk e => (own_none hk).elim (fun q => h1 (q ▸ e)) (fun q => h2 (q ▸ e)))⟩, h.b1.turn T h1, h.b2.turn T h2⟩
theorem EpA.same (h : EpA w x lb n now P) (T : Turn (fun _ => False) w w') : EpA w' x lb n now P := h.turn T (fun f => f) (fun f => f)
theorem EpA.own (h : EpA w x lb n now P) {S : Nat → Prop} (hs : S = EpoOwn x lb n (fun _ => .slice none 0 0)) (T : Turn S w w') : Turn (fun k => k = x ∨ k = lb) w w' := by
  subst hs
  exact T.more (fun k _ e => own_none e)
theorem EpA.pin_yes (h : EpA w x lb n now P) {a : Nat} (ha : a < n) (hp : P a = -1) : Calls Tryz.prog 185 #[.pointer (some ⟨x, 0, none⟩), .int .i64 (a : Int)] w fun e w' => e = .returned (.bool true) ∧ EpA w' x lb n now (upd P a now) ∧ Turn (fun k => k = x ∨ k = lb) w w' ∧ Kept w w' := by
  obtain ⟨base, E⟩ := h.ex
  refine (E.pin_yes ha hp).mono ?_
  rintro e w' ⟨he, E', T, K⟩
  exact ⟨he, ⟨⟨base, E'⟩, K _ _ h.b1, K _ _ h.b2⟩, h.own rfl T, K⟩
theorem EpA.unpin_yes (h : EpA w x lb n now P) {a : Nat} (ha : a < n) (hp : P a ≠ -1) : Calls Tryz.prog 271 #[.pointer (some ⟨x, 0, none⟩), .int .i64 (a : Int)] w fun e w' => e = .returned (.bool true) ∧ EpA w' x lb n now (upd P a (-1)) ∧ Turn (fun k => k = x ∨ k = lb) w w' ∧ Kept w w' := by
  obtain ⟨base, E⟩ := h.ex
  refine (E.unpin_yes ha hp).mono ?_
  rintro e w' ⟨he, E', T, K⟩
  exact ⟨he, ⟨⟨base, E'⟩, K _ _ h.b1, K _ _ h.b2⟩, h.own rfl T, K⟩
theorem EpA.advance_yes (h : EpA w x lb n now P) (hn : 1 ≤ n) (hm : now < 1000000) (hall : ∀ j, j < n → P j = -1 ∨ P j = now) : Calls Tryz.prog 262 #[.pointer (some ⟨x, 0, none⟩)] w fun e w' => e = .returned (.bool true) ∧ EpA w' x lb n (now + 1) P ∧ Turn (fun k => k = x ∨ k = lb) w w' ∧ Kept w w' := by
  obtain ⟨base, E⟩ := h.ex
  refine (E.advance_yes hn hm hall).mono ?_
  rintro e w' ⟨he, E', T, K⟩
  exact ⟨he, ⟨⟨base, E'⟩, K _ _ h.b1, K _ _ h.b2⟩, h.own rfl T, K⟩
theorem EpA.ripe_is (h : EpA w x lb n now P) {a : Nat} (ha : a < n) : Calls Tryz.prog 287 #[.pointer (some ⟨x, 0, none⟩), .int .i64 (a : Int)] w fun e w' => e = .returned (.slice none 0 0) ∧ EpA w' x lb n now P ∧ Turn (fun k => k = x ∨ k = lb) w w' ∧ Kept w w' := by
  obtain ⟨base, E⟩ := h.ex
  refine (E.ripe_none ha rfl rfl).mono ?_
  rintro e w' ⟨he, E', T, K⟩
  have e1 : upd (fun _ : Nat => Value.slice none 0 0) a (.slice none 0 0) = fun _ => .slice none 0 0 := by funext j; unfold upd; split <;> rfl
  have e2 : upd (fun _ : Nat => ([] : List (Int × Int × Int))) a [] = fun _ => [] := by funext j; unfold upd; split <;> rfl
  rw [e1, e2] at E'
  exact ⟨he, ⟨⟨base, E'⟩, K _ _ h.b1, K _ _ h.b2⟩, h.own rfl T, K⟩
end
theorem epochs_new (w : World) (m : Nat) (h1 : 1 ≤ (m : Int) + 1) (h2 : (m : Int) + 1 ≤ 16) : Calls Tryz.prog 60 #[.int .i64 ((m : Int) + 1)] w fun e w' => ∃ ex el, e = .returned (.pointer (some ⟨ex, 0, none⟩)) ∧ EpA w' ex el (m + 1) 0 (fun _ => -1) ∧ (w.heap.size ≤ ex ∧ w.heap.size ≤ el) ∧ Turn (fun _ => False) w w' := by
  refine (epo_new (m + 1) (by omega) (by omega) w).mono ?_
  rintro e w' ⟨rfl, E, B, _, b1, b2⟩
  exact ⟨_, _, rfl, ⟨⟨_, E⟩, b1, b2⟩, ⟨by omega, by omega⟩, .of_below B⟩
end Go.Proofs.YtgfobgabdafclaaGreat
