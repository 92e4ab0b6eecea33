/-
  What a store's Take does.
-/
import Derived.Test.YtjfbjkgppnhaoaaOps
import Derived.WalkMore
namespace Go.Proofs.Ytjfbjkgppnhaoaa
open Go.ChangeShapes Go.WideShapes Go.ChangeAt Go.RowKit
set_option linter.unusedVariables false

section
variable {w : World} {s sb n : Nat} {ev : Nat → Nat → Int} {used : Nat → Bool} {count gen : Nat → Int}

def ev1 (ev : Nat → Nat → Int) (k j : Nat) (e : Int) : Nat → Nat → Int := fun a b => if a = k ∧ b = j then e else ev a b
theorem ev1_at (ev : Nat → Nat → Int) (k j : Nat) (e : Int) : ev1 ev k j e k j = e := by simp [ev1]
theorem ev1_off (ev : Nat → Nat → Int) {k j a b : Nat} (e : Int) (h : a ≠ k ∨ b ≠ j) : ev1 ev k j e a b = ev a b := by
  unfold ev1
  rw [if_neg (by omega)]

theorem Storey.setEv (h : Storey w s sb n ev used count gen) {k j : Nat} (hk : k < n) (hj : j < 6) (e : Int) : Storey (w.setCell ⟨sb, k * 9 + j, none⟩ (.int .i64 e)) s sb n (ev1 ev k j e) used count gen := by
  refine ⟨h.ne, by simpa using h.ls, by simpa using h.lb, (World.cell?_setCell_other _ _ _ _ (fun e => h.ne (by injection e with e1; exact e1.symm))).trans h.c0, fun a ha b hb => ?_, fun a ha => ?_, fun a ha => ?_, fun a ha => ?_, fun i => by simpa using h.fb i⟩
  · by_cases q : a = k ∧ b = j
    · obtain ⟨rfl, rfl⟩ := q
      rw [ev1_at]
      exact World.cell?_setCell_same _ _ _ (h.ce a ha b hb)
    · rw [cell_off _ _ _ _ _ (off_ne (by omega) (by omega) (by omega)), ev1_off _ _ (by omega)]
      exact h.ce a ha b hb
  · rw [cell_off _ _ _ _ _ (off_ne (by omega) (by omega) (Or.inr (by omega)))]
    exact h.cu a ha
  · rw [cell_off _ _ _ _ _ (off_ne (by omega) (by omega) (Or.inr (by omega)))]
    exact h.cc a ha
  · rw [cell_off _ _ _ _ _ (off_ne (by omega) (by omega) (Or.inr (by omega)))]
    exact h.cg a ha

theorem Storey.setUsed (h : Storey w s sb n ev used count gen) {k : Nat} (hk : k < n) (m : Bool) : Storey (w.setCell ⟨sb, k * 9 + 6, none⟩ (.bool m)) s sb n ev (upd used k m) count gen := by
  refine ⟨h.ne, by simpa using h.ls, by simpa using h.lb, (World.cell?_setCell_other _ _ _ _ (fun e => h.ne (by injection e with e1; exact e1.symm))).trans h.c0, fun j hj i hi => ?_, fun j hj => ?_, fun j hj => ?_, fun j hj => ?_, fun i => by simpa using h.fb i⟩
  · rw [cell_off _ _ _ _ _ (off_ne (by decide) (by omega) (Or.inr (by omega)))]
    exact h.ce j hj i hi
  · by_cases e : j = k
    · subst e
      rw [upd_at]
      exact World.cell?_setCell_same _ _ _ (h.cu j hj)
    · rw [cell_off _ _ _ _ _ (off_ne (by decide) (by decide) (Or.inl (Ne.symm e))), upd_off _ _ e]
      exact h.cu j hj
  · rw [cell_off _ _ _ _ _ (off_ne (by decide) (by decide) (Or.inr (by decide)))]
    exact h.cc j hj
  · rw [cell_off _ _ _ _ _ (off_ne (by decide) (by decide) (Or.inr (by decide)))]
    exact h.cg j hj

theorem Storey.setGen (h : Storey w s sb n ev used count gen) {k : Nat} (hk : k < n) (m : Int) : Storey (w.setCell ⟨sb, k * 9 + 8, none⟩ (.int .i64 m)) s sb n ev used count (upd gen k m) := by
  refine ⟨h.ne, by simpa using h.ls, by simpa using h.lb, (World.cell?_setCell_other _ _ _ _ (fun e => h.ne (by injection e with e1; exact e1.symm))).trans h.c0, fun j hj i hi => ?_, fun j hj => ?_, fun j hj => ?_, fun j hj => ?_, fun i => by simpa using h.fb i⟩
  · rw [cell_off _ _ _ _ _ (off_ne (by decide) (by omega) (Or.inr (by omega)))]
    exact h.ce j hj i hi
  · rw [cell_off _ _ _ _ _ (off_ne (by decide) (by decide) (Or.inr (by decide)))]
    exact h.cu j hj
  · rw [cell_off _ _ _ _ _ (off_ne (by decide) (by decide) (Or.inr (by decide)))]
    exact h.cc j hj
  · by_cases e : j = k
    · subst e
      rw [upd_at]
      exact World.cell?_setCell_same _ _ _ (h.cg j hj)
    · rw [cell_off _ _ _ _ _ (off_ne (by decide) (by decide) (Or.inl (Ne.symm e))), upd_off _ _ e]
      exact h.cg j hj

/-- The events behind a take: of the slot the one that was taken, of each other the one that it had. -/
def Took (ev ev2 : Nat → Nat → Int) (f : Nat) (e0 e1 e2 e3 e4 e5 : Int) : Prop :=
  (∀ a b, a ≠ f → ev2 a b = ev a b) ∧ ev2 f 0 = e0 ∧ ev2 f 1 = e1 ∧ ev2 f 2 = e2 ∧ ev2 f 3 = e3 ∧ ev2 f 4 = e4 ∧ ev2 f 5 = e5

/-- What a take has done. -/
def TakeDone (w w' : World) (s sb n : Nat) (ev : Nat → Nat → Int) (used : Nat → Bool) (count gen : Nat → Int) (f : Nat) (e0 e1 e2 e3 e4 e5 : Int) : Prop :=
  (∃ ev2, Took ev ev2 f e0 e1 e2 e3 e4 e5 ∧ Storey w' s sb n ev2 (upd used f true) (upd count f 1) gen) ∧ Near sb sb w w'

theorem Storey.fill (h : Storey w s sb n ev used count gen) {f : Nat} (hf : f < n) (e0 e1 e2 e3 e4 e5 : Int) (o o2 : Obj) :
    TakeDone w (((((((((((w.setCell ⟨sb, f * 9, none⟩ (.int .i64 e0)).setCell ⟨sb, f * 9 + 1, none⟩ (.int .i64 e1)).setCell ⟨sb, f * 9 + 2, none⟩ (.int .i64 e2)).setCell ⟨sb, f * 9 + 3, none⟩ (.int .i64 e3)).setCell ⟨sb, f * 9 + 4, none⟩ (.int .i64 e4)).setCell ⟨sb, f * 9 + 5, none⟩ (.int .i64 e5)).setCell ⟨sb, f * 9 + 6, none⟩ (.bool true)).setCell ⟨sb, f * 9 + 7, none⟩ (.int .i64 1)).alloc o).alloc o2)) s sb n ev used count gen f e0 e1 e2 e3 e4 e5 := by
  refine ⟨⟨ev1 (ev1 (ev1 (ev1 (ev1 (ev1 ev f 0 e0) f 1 e1) f 2 e2) f 3 e3) f 4 e4) f 5 e5, ⟨fun a b ha => by simp [ev1, ha], by simp [ev1], by simp [ev1], by simp [ev1], by simp [ev1], by simp [ev1], by simp [ev1]⟩, ?_⟩, ?_⟩
  · exact (((((((((h.setEv hf (j := 0) (by decide) e0).setEv hf (j := 1) (by decide) e1).setEv hf (j := 2) (by decide) e2).setEv hf (j := 3) (by decide) e3).setEv hf (j := 4) (by decide) e4).setEv hf (j := 5) (by decide) e5).setUsed hf true).setCount hf 1).alloc o).alloc o2
  · exact ((((((((((Near.refl sb sb w).ring _ _).ring _ _).ring _ _).ring _ _).ring _ _).ring _ _).ring _ _).ring _ _).alloc o).alloc o2

def TakeRel (f : Nat) (v : Value) : Prop := ∃ k : Nat, v = .int .i64 (k : Int) ∧ k ≤ f

set_option maxRecDepth 100000 in
theorem Storey.take (h : Storey w s sb n ev used count gen) (f : Nat) (hf : f < n) (hb : n ≤ 4096) (hu : ∀ k, k < f → used k = true) (hfree : used f = false) (e0 e1 e2 e3 e4 e5 : Int) :
    Calls Try.prog 40 #[.pointer (some ⟨s, 0, none⟩), .agg #[.int .i64 e0, .int .i64 e1, .int .i64 e2, .int .i64 e3, .int .i64 e4, .int .i64 e5]] w fun e w' => e = .returned (.tuple #[.agg #[.int .i64 (f : Int), .int .i64 (gen f)], .bool true]) ∧ TakeDone w w' s sb n ev used count gen f e0 e1 e2 e3 e4 e5 := by
  have hr := Lib.hid (fun o o2 => ((h.alloc o).alloc o2).row)
  have H := Lib.hid h
  have lb := h.lb
  have lb1 : sb < w.heap.size + 1 := by omega
  have lb2 : sb < w.heap.size + 1 + 1 := by omega
  have fb := h.fb
  have U := Lib.hid hu
  clear h hu
  go_enter Try.func40, Try.ntmps40
  go_wp2
  go_step3
  go_wp2_with fail
  refine (hr.out _ _).mono ?_
  rintro e w1 ⟨rfl, rfl⟩
  go_wp2_with fail
  go_step3
  go_wp2_with fail
  go_loop [6] (fun v => TakeRel f v) (fun v => f - (intOf v).toNat)
  case atStart => exact ⟨0, rfl, Nat.zero_le _⟩
  case round =>
    obtain ⟨k, rfl, hk⟩ := hrel
    by_cases hkf : k < f
    · have cu := H.out.cu k (by omega)
      rw [U.out k hkf] at cu
      have hkn : k < n := by omega
      go_wp2
      go_round
      case rel => exact ⟨k + 1, by go_num, by omega⟩
      case measure => simp [intOf]; omega
    · have : k = f := by omega
      subst this
      have cu := H.out.cu k hf
      rw [hfree] at cu
      have cg := H.out.cg k hf
      have cc := H.out.cc k hf
      have ce := H.out.ce k hf
      have g0 : w.cell? ⟨sb, k * 9, none⟩ = some (.int .i64 (ev k 0)) := ce 0 (by decide)
      have kn : ¬ k = n := by omega
      have kn2 : ((k : Int) == (n : Int)) = false := by simp; omega
      have g1 := ce 1 (by decide)
      have g2 := ce 2 (by decide)
      have g3 := ce 3 (by decide)
      have g4 := ce 4 (by decide)
      have g5 := ce 5 (by decide)
      clear ce
      go_wp2
      exact bodyPost_ret (v := .tuple #[.agg #[.int .i64 (k : Int), .int .i64 (gen k)], .bool true]) (by simp [results, Try.results40, go_sem]) rfl ⟨rfl, H.out.fill hf e0 e1 e2 e3 e4 e5 _ _⟩
end
end Go.Proofs.Ytjfbjkgppnhaoaa
