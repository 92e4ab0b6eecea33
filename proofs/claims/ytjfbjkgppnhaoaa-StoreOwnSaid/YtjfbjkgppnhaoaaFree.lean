/-
  A new store; a take where there is no room; a slot that is freed; and the layer's own example.
-/
import Derived.Test.YtjfbjkgppnhaoaaMany
import Derived.Test.YtjfbjkgppnhaoaaNew
namespace Go.Proofs.Ytjfbjkgppnhaoaa
open Go.ChangeShapes Go.WideShapes Go.ChangeAt Go.RowKit
set_option linter.unusedVariables false

theorem storey_new (w : World) (n : Nat) (c : Array Value) (t u : TypeId) (h : ∀ k, k < n → (∀ j, j < 6 → c[k * 9 + j]? = some (.int .i64 0)) ∧ c[k * 9 + 6]? = some (.bool false) ∧ c[k * 9 + 7]? = some (.int .i64 0) ∧ c[k * 9 + 8]? = some (.int .i64 0)) :
    Storey ((w.alloc (.cells c t)).alloc (.cells #[.slice (some ⟨w.heap.size, 0, none⟩) n n] u)) (w.heap.size + 1) w.heap.size n (fun _ _ => 0) (fun _ => false) (fun _ => 0) (fun _ => 0) :=
  ⟨by omega, by simp, by simp; omega, World.cell?_alloc2_new .., fun k hk j hj => (World.cell?_alloc2_first ..).trans ((h k hk).1 j hj), fun k hk => (World.cell?_alloc2_first ..).trans (h k hk).2.1, fun k hk => (World.cell?_alloc2_first ..).trans (h k hk).2.2.1, fun k hk => (World.cell?_alloc2_first ..).trans (h k hk).2.2.2,
   fun i => new_frozen _ _ _ _ _ _ _ (by omega)⟩

theorem store_new1 (w : World) : Calls Try.prog 39 #[.int .i64 1] w fun e w' => e = .returned (.pointer (some ⟨w.heap.size + 1, 0, none⟩)) ∧ Storey w' (w.heap.size + 1) w.heap.size 1 (fun _ _ => 0) (fun _ => false) (fun _ => 0) (fun _ => 0) ∧ Below w.heap.size w w' ∧ w'.heap.size = w.heap.size + 2 := by
  have hmk : ∀ w, (Instr.makeSlice 140 (.int .i64 1) (.int .i64 1)).run Try.prog w = .ok (.slice (some ⟨w.heap.size, 0, none⟩) 1 1) (w.alloc (.cells #[.int .i64 0, .int .i64 0, .int .i64 0, .int .i64 0, .int .i64 0, .int .i64 0, .bool false, .int .i64 0, .int .i64 0] 145)) := fun _ => by kernel_rfl
  go_enter Try.func39, Try.ntmps39
  go_wp2
  go_ret
  refine ⟨rfl, storey_new w 1 _ _ _ ?_, by go_grown, by simp⟩
  intro k hk
  obtain rfl : k = 0 := by omega
  exact ⟨fun j hj => by
      have hj' : j = 0 ∨ j = 1 ∨ j = 2 ∨ j = 3 ∨ j = 4 ∨ j = 5 := by omega
      rcases hj' with rfl | rfl | rfl | rfl | rfl | rfl <;> rfl, rfl, rfl, rfl⟩

theorem store_new2 (w : World) : Calls Try.prog 39 #[.int .i64 2] w fun e w' => e = .returned (.pointer (some ⟨w.heap.size + 1, 0, none⟩)) ∧ Storey w' (w.heap.size + 1) w.heap.size 2 (fun _ _ => 0) (fun _ => false) (fun _ => 0) (fun _ => 0) ∧ Below w.heap.size w w' ∧ w'.heap.size = w.heap.size + 2 := by
  have hmk : ∀ w, (Instr.makeSlice 140 (.int .i64 2) (.int .i64 2)).run Try.prog w = .ok (.slice (some ⟨w.heap.size, 0, none⟩) 2 2) (w.alloc (.cells #[.int .i64 0, .int .i64 0, .int .i64 0, .int .i64 0, .int .i64 0, .int .i64 0, .bool false, .int .i64 0, .int .i64 0, .int .i64 0, .int .i64 0, .int .i64 0, .int .i64 0, .int .i64 0, .int .i64 0, .bool false, .int .i64 0, .int .i64 0] 145)) := fun _ => by kernel_rfl
  go_enter Try.func39, Try.ntmps39
  go_wp2
  go_ret
  refine ⟨rfl, storey_new w 2 _ _ _ ?_, by go_grown, by simp⟩
  intro k hk
  have hk' : k = 0 ∨ k = 1 := by omega
  rcases hk' with rfl | rfl
  · exact ⟨fun j hj => by
        have hj' : j = 0 ∨ j = 1 ∨ j = 2 ∨ j = 3 ∨ j = 4 ∨ j = 5 := by omega
        rcases hj' with rfl | rfl | rfl | rfl | rfl | rfl <;> rfl, rfl, rfl, rfl⟩
  · exact ⟨fun j hj => by
        have hj' : j = 0 ∨ j = 1 ∨ j = 2 ∨ j = 3 ∨ j = 4 ∨ j = 5 := by omega
        rcases hj' with rfl | rfl | rfl | rfl | rfl | rfl <;> rfl, rfl, rfl, rfl⟩

section
variable {w : World} {s sb n : Nat} {ev : Nat → Nat → Int} {used : Nat → Bool} {count gen : Nat → Int} {S : Nat} {G : Int}

set_option maxRecDepth 100000 in
theorem Storey.take_full (h : Storey w s sb n ev used count gen) (f : Nat) (hfn : f = n) (hb : n ≤ 4096) (hu : ∀ k, k < f → used k = true) (e0 e1 e2 e3 e4 e5 : Int) :
    Calls Try.prog 40 #[.pointer (some ⟨s, 0, none⟩), .agg #[.int .i64 e0, .int .i64 e1, .int .i64 e2, .int .i64 e3, .int .i64 e4, .int .i64 e5]] w fun e w' => e = .returned (.tuple #[.agg #[.int .i64 0, .int .i64 0], .bool false]) ∧ Storey w' s sb n ev used count gen ∧ Near sb sb w w' := by
  subst hfn
  have hr := Lib.hid (fun o o2 => ((h.alloc o).alloc o2).row)
  have H := Lib.hid h
  have lb := h.lb
  have lb1 : sb < w.heap.size + 1 := by omega
  have lb2 : sb < w.heap.size + 1 + 1 := by omega
  have fb := h.fb
  have U := Lib.hid hu
  clear h hu
  go_enter Try.func40, Try.ntmps40
  go_wp2
  go_step3
  go_wp2_with fail
  refine (hr.out _ _).mono ?_
  rintro e w1 ⟨rfl, rfl⟩
  go_wp2_with fail
  go_step3
  go_wp2_with fail
  go_loop [6] (fun v => TakeRel f v) (fun v => f - (intOf v).toNat)
  case atStart => exact ⟨0, rfl, Nat.zero_le _⟩
  case round =>
    obtain ⟨k, rfl, hk⟩ := hrel
    by_cases hkf : k < f
    · have cu := H.out.cu k (by omega)
      rw [U.out k hkf] at cu
      have hkn : k < f := by omega
      go_wp2
      go_round
      case rel => exact ⟨k + 1, by go_num, by omega⟩
      case measure => simp [intOf]; omega
    · obtain rfl : k = f := by omega
      clear hkf
      go_wp2
      exact bodyPost_ret (v := .tuple #[.agg #[.int .i64 0, .int .i64 0], .bool false]) (by simp [results, Try.results40, go_sem]) rfl ⟨rfl, (H.out.alloc _).alloc _, ((Near.refl sb sb w).alloc _).alloc _⟩

theorem Storey.clear9 (h : Storey w s sb n ev used count gen) (hl : S < n) (G : Int) : Storey (((((((((w.setCell ⟨sb, S * 9, none⟩ (.int .i64 0)).setCell ⟨sb, S * 9 + 1, none⟩ (.int .i64 0)).setCell ⟨sb, S * 9 + 2, none⟩ (.int .i64 0)).setCell ⟨sb, S * 9 + 3, none⟩ (.int .i64 0)).setCell ⟨sb, S * 9 + 4, none⟩ (.int .i64 0)).setCell ⟨sb, S * 9 + 5, none⟩ (.int .i64 0)).setCell ⟨sb, S * 9 + 6, none⟩ (.bool false)).setCell ⟨sb, S * 9 + 7, none⟩ (.int .i64 0)).setCell ⟨sb, S * 9 + 8, none⟩ (.int .i64 G)) s sb n (ev1 (ev1 (ev1 (ev1 (ev1 (ev1 ev S 0 0) S 1 0) S 2 0) S 3 0) S 4 0) S 5 0) (upd used S false) (upd count S 0) (upd gen S G) :=
  ((((((((h.setEv hl (j := 0) (by decide) 0).setEv hl (j := 1) (by decide) 0).setEv hl (j := 2) (by decide) 0).setEv hl (j := 3) (by decide) 0).setEv hl (j := 4) (by decide) 0).setEv hl (j := 5) (by decide) 0).setUsed hl false).setCount hl 0).setGen hl G

/-- Behind a free: all but the slot is as it was. -/
def Freed (w w' : World) (s sb n : Nat) (ev : Nat → Nat → Int) (used : Nat → Bool) (count gen : Nat → Int) (S : Nat) (G : Int) : Prop :=
  (∃ ev2, (∀ a b, a ≠ S → ev2 a b = ev a b) ∧ Storey w' s sb n ev2 (upd used S false) (upd count S 0) (upd gen S (G + 1))) ∧ Near sb sb w w'

theorem Storey.free_dead (h : Storey w s sb n ev used count gen) (hi : Is n used gen S G) (hz : count S = 0) (hg : 0 ≤ G ∧ G ≤ 1000000) :
    Calls Try.prog 41 #[.pointer (some ⟨s, 0, none⟩), .agg #[.int .i64 (S : Int), .int .i64 G]] w fun e w' => e = .returned (.bool true) ∧ Freed w w' s sb n ev used count gen S G := by
  have hm := hmf
  have ls := h.ls
  have lb := h.lb
  have HW := Lib.hid (with_free s sb n ev used count gen S G ((w.alloc (.cells #[.int .i64 (S : Int), .int .i64 G] 87)).alloc (.cells #[.bool false] 4)) ((h.alloc (.cells #[.int .i64 (S : Int), .int .i64 G] 87)).alloc (.cells #[.bool false] 4)) hi (w.heap.size + 1) (fun W => Freed w W s sb n ev used count gen S G ∧ W.cell? ⟨w.heap.size + 1, 0, none⟩ = some (.bool true) ∧ W.frozen? ⟨w.heap.size + 1, 0, none⟩ = false) (fun d => by
    have h3 := ((((h.alloc (.cells #[.int .i64 (S : Int), .int .i64 G] 87)).alloc (.cells #[.bool false] 4)).alloc (.cells #[.int .i64 (S : Int), .int .i64 G] 87)).drewN d)
    have p1 : ((((w.alloc (.cells #[.int .i64 (S : Int), .int .i64 G] 87)).alloc (.cells #[.bool false] 4)).alloc (.cells #[.int .i64 (S : Int), .int .i64 G] 87)).drewN d).cell? ⟨w.heap.size + 1, 0, none⟩ = some (.bool false) := by simp [World.cell?_alloc_past]
    have p2 : ((((w.alloc (.cells #[.int .i64 (S : Int), .int .i64 G] 87)).alloc (.cells #[.bool false] 4)).alloc (.cells #[.int .i64 (S : Int), .int .i64 G] 87)).drewN d).frozen? ⟨w.heap.size + 1, 0, none⟩ = false := by simp [World.frozen?_alloc_past]
    have n3 := (((((Near.refl sb sb w).alloc (.cells #[.int .i64 (S : Int), .int .i64 G] 87)).alloc (.cells #[.bool false] 4)).alloc (.cells #[.int .i64 (S : Int), .int .i64 G] 87)).drew2 d)
    generalize ((((w.alloc (.cells #[.int .i64 (S : Int), .int .i64 G] 87)).alloc (.cells #[.bool false] 4)).alloc (.cells #[.int .i64 (S : Int), .int .i64 G] 87)).drewN d) = W3 at *
    have ce := h3.ce S hi.lt
    have cc := h3.cc S hi.lt
    have cg := h3.cg S hi.lt
    rw [hz] at cc
    rw [hi.ge] at cg
    refine (cl_free0 sb (S * 9) (w.heap.size + 1) _ _ _ _ _ _ G _ false W3 (by omega) hg (ce 0 (by decide)) (ce 1 (by decide)) (ce 2 (by decide)) (ce 3 (by decide)) (ce 4 (by decide)) (ce 5 (by decide)) (h3.cu S hi.lt) cc cg p1 p2 h3.fb).mono fun e w' ⟨a, b⟩ => ⟨a, ?_⟩
    subst b
    have h4 := h3.other (p := ⟨w.heap.size + 1, 0, none⟩) (by show w.heap.size + 1 ≠ s; omega) (by show w.heap.size + 1 ≠ sb; omega) (.bool true)
    have n4 := n3.new (p := ⟨w.heap.size + 1, 0, none⟩) (by show w.heap.size ≤ w.heap.size + 1; omega) (.bool true)
    have q4 := World.cell?_setCell_same _ _ (.bool true) p1
    have f4 : (W3.setCell ⟨w.heap.size + 1, 0, none⟩ (.bool true)).frozen? ⟨w.heap.size + 1, 0, none⟩ = false := by simpa using p2
    generalize W3.setCell ⟨w.heap.size + 1, 0, none⟩ (.bool true) = W4 at *
    have far : ∀ (W : World) (i : Nat) (u : Value), (W.setCell ⟨sb, i, none⟩ u).cell? ⟨w.heap.size + 1, 0, none⟩ = W.cell? ⟨w.heap.size + 1, 0, none⟩ := fun W i u => World.cell?_setCell_far _ _ _ _ (by show sb ≠ w.heap.size + 1; omega)
    exact ⟨⟨⟨_, fun a b hab => by simp [ev1, hab], h4.clear9 hi.lt (G + 1)⟩, ((((((((n4.ring _ _).ring _ _).ring _ _).ring _ _).ring _ _).ring _ _).ring _ _).ring _ _).ring _ _⟩, by rw [far, far, far, far, far, far, far, far, far]; exact q4, by simpa using f4⟩))
  clear h hi hz
  go_enter Try.func41, Try.ntmps41
  go_wp2_with fail
  refine HW.out.mono ?_
  rintro e w1 ⟨rfl, h1, c1, f1⟩
  have E := Lib.hid h1
  clear h1
  go_wp2
  obtain ⟨⟨ev2, e1, e2⟩, e3⟩ := E.out
  exact bodyPost_ret (v := .bool true) (by simp [results, Try.results41, go_sem, c1]) rfl ⟨rfl, ⟨ev2, e1, e2.other (by show w.heap.size + 1 ≠ s; omega) (by show w.heap.size + 1 ≠ sb; omega) _⟩, e3.new (by show w.heap.size ≤ w.heap.size + 1; omega) _⟩
end
end Go.Proofs.Ytjfbjkgppnhaoaa
