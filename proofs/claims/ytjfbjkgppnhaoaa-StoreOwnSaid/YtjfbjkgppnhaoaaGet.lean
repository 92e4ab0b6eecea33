/-
  What a store's Get answers.
-/
import Derived.Test.YtjfbjkgppnhaoaaOps
namespace Go.Proofs.Ytjfbjkgppnhaoaa
open Go.ChangeShapes Go.WideShapes Go.ChangeAt Go.RowKit
set_option linter.unusedVariables false

/-- Six cells of one block. -/
structure Six (w : World) (p : Nat) (e0 e1 e2 e3 e4 e5 : Int) : Prop where
  c0 : w.cell? ⟨p, 0, none⟩ = some (.int .i64 e0)
  c1 : w.cell? ⟨p, 1, none⟩ = some (.int .i64 e1)
  c2 : w.cell? ⟨p, 2, none⟩ = some (.int .i64 e2)
  c3 : w.cell? ⟨p, 3, none⟩ = some (.int .i64 e3)
  c4 : w.cell? ⟨p, 4, none⟩ = some (.int .i64 e4)
  c5 : w.cell? ⟨p, 5, none⟩ = some (.int .i64 e5)

theorem six_set (w : World) (p : Nat) (e0 e1 e2 e3 e4 e5 v0 v1 v2 v3 v4 v5 : Int) (h : Six w p v0 v1 v2 v3 v4 v5) : Six ((((((w.setCell ⟨p, 0, none⟩ (.int .i64 e0)).setCell ⟨p, 1, none⟩ (.int .i64 e1)).setCell ⟨p, 2, none⟩ (.int .i64 e2)).setCell ⟨p, 3, none⟩ (.int .i64 e3)).setCell ⟨p, 4, none⟩ (.int .i64 e4)).setCell ⟨p, 5, none⟩ (.int .i64 e5)) p e0 e1 e2 e3 e4 e5 := by
  obtain ⟨h0, h1, h2, h3, h4, h5⟩ := h
  refine ⟨?_, ?_, ?_, ?_, ?_, ?_⟩
  · rw [cell_off _ p 5 0 _ (by decide), cell_off _ p 4 0 _ (by decide), cell_off _ p 3 0 _ (by decide), cell_off _ p 2 0 _ (by decide), cell_off _ p 1 0 _ (by decide)]
    exact World.cell?_setCell_same _ _ _ h0
  · rw [cell_off _ p 5 1 _ (by decide), cell_off _ p 4 1 _ (by decide), cell_off _ p 3 1 _ (by decide), cell_off _ p 2 1 _ (by decide)]
    exact World.cell?_setCell_same _ _ _ (by rw [cell_off _ p 0 1 _ (by decide)]; exact h1)
  · rw [cell_off _ p 5 2 _ (by decide), cell_off _ p 4 2 _ (by decide), cell_off _ p 3 2 _ (by decide)]
    exact World.cell?_setCell_same _ _ _ (by rw [cell_off _ p 1 2 _ (by decide), cell_off _ p 0 2 _ (by decide)]; exact h2)
  · rw [cell_off _ p 5 3 _ (by decide), cell_off _ p 4 3 _ (by decide)]
    exact World.cell?_setCell_same _ _ _ (by rw [cell_off _ p 2 3 _ (by decide), cell_off _ p 1 3 _ (by decide), cell_off _ p 0 3 _ (by decide)]; exact h3)
  · rw [cell_off _ p 5 4 _ (by decide)]
    exact World.cell?_setCell_same _ _ _ (by rw [cell_off _ p 3 4 _ (by decide), cell_off _ p 2 4 _ (by decide), cell_off _ p 1 4 _ (by decide), cell_off _ p 0 4 _ (by decide)]; exact h4)
  · exact World.cell?_setCell_same _ _ _ (by rw [cell_off _ p 4 5 _ (by decide), cell_off _ p 3 5 _ (by decide), cell_off _ p 2 5 _ (by decide), cell_off _ p 1 5 _ (by decide), cell_off _ p 0 5 _ (by decide)]; exact h5)

section
variable {w : World} {s sb n : Nat} {ev : Nat → Nat → Int} {used : Nat → Bool} {count gen : Nat → Int} {S : Nat} {G : Int}

theorem Storey.get_yes (h : Storey w s sb n ev used count gen) (hi : Is n used gen S G) :
    Calls Try.prog 43 #[.pointer (some ⟨s, 0, none⟩), .agg #[.int .i64 (S : Int), .int .i64 G]] w fun e w' => e = .returned (.tuple #[.agg #[.int .i64 (ev S 0), .int .i64 (ev S 1), .int .i64 (ev S 2), .int .i64 (ev S 3), .int .i64 (ev S 4), .int .i64 (ev S 5)], .bool true]) ∧ Storey w' s sb n ev used count gen ∧ Near sb sb w w' := by
  have hm := hmf
  have ls := h.ls
  have lb := h.lb
  have HW := Lib.hid (with_get s sb n ev used count gen S G ((w.alloc (.cells #[.int .i64 (S : Int), .int .i64 G] 87)).alloc (.cells #[.int .i64 0, .int .i64 0, .int .i64 0, .int .i64 0, .int .i64 0, .int .i64 0] 51)) ((h.alloc (.cells #[.int .i64 (S : Int), .int .i64 G] 87)).alloc (.cells #[.int .i64 0, .int .i64 0, .int .i64 0, .int .i64 0, .int .i64 0, .int .i64 0] 51)) hi (w.heap.size + 1) (fun W => Storey W s sb n ev used count gen ∧ Near sb sb w W ∧ Six W (w.heap.size + 1) (ev S 0) (ev S 1) (ev S 2) (ev S 3) (ev S 4) (ev S 5) ∧ ∀ i, W.frozen? ⟨w.heap.size + 1, i, none⟩ = false) (fun d => by
    have h3 := ((((h.alloc (.cells #[.int .i64 (S : Int), .int .i64 G] 87)).alloc (.cells #[.int .i64 0, .int .i64 0, .int .i64 0, .int .i64 0, .int .i64 0, .int .i64 0] 51)).alloc (.cells #[.int .i64 (S : Int), .int .i64 G] 87)).drewN d)
    have x3 : Six ((((w.alloc (.cells #[.int .i64 (S : Int), .int .i64 G] 87)).alloc (.cells #[.int .i64 0, .int .i64 0, .int .i64 0, .int .i64 0, .int .i64 0, .int .i64 0] 51)).alloc (.cells #[.int .i64 (S : Int), .int .i64 G] 87)).drewN d) (w.heap.size + 1) 0 0 0 0 0 0 := ⟨by simp [World.cell?_alloc_past], by simp [World.cell?_alloc_past], by simp [World.cell?_alloc_past], by simp [World.cell?_alloc_past], by simp [World.cell?_alloc_past], by simp [World.cell?_alloc_past]⟩
    have f3 : ∀ i, ((((w.alloc (.cells #[.int .i64 (S : Int), .int .i64 G] 87)).alloc (.cells #[.int .i64 0, .int .i64 0, .int .i64 0, .int .i64 0, .int .i64 0, .int .i64 0] 51)).alloc (.cells #[.int .i64 (S : Int), .int .i64 G] 87)).drewN d).frozen? ⟨w.heap.size + 1, i, none⟩ = false := fun i => by
      simp only [World.frozen?_drewN, frozen?_alloc_cells]
      exact fz _ (by omega)
    have n3 := (((((Near.refl sb sb w).alloc (.cells #[.int .i64 (S : Int), .int .i64 G] 87)).alloc (.cells #[.int .i64 0, .int .i64 0, .int .i64 0, .int .i64 0, .int .i64 0, .int .i64 0] 51)).alloc (.cells #[.int .i64 (S : Int), .int .i64 G] 87)).drew2 d)
    generalize ((((w.alloc (.cells #[.int .i64 (S : Int), .int .i64 G] 87)).alloc (.cells #[.int .i64 0, .int .i64 0, .int .i64 0, .int .i64 0, .int .i64 0, .int .i64 0] 51)).alloc (.cells #[.int .i64 (S : Int), .int .i64 G] 87)).drewN d) = W3 at *
    have ce := h3.ce S hi.lt
    refine (cl_get sb (S * 9) (w.heap.size + 1) _ _ _ _ _ _ _ _ _ _ _ _ W3 (ce 0 (by decide)) (ce 1 (by decide)) (ce 2 (by decide)) (ce 3 (by decide)) (ce 4 (by decide)) (ce 5 (by decide)) x3.c0 x3.c1 x3.c2 x3.c3 x3.c4 x3.c5 f3).mono fun e w' ⟨a, b⟩ => ⟨a, ?_⟩
    subst b
    have q1 : w.heap.size + 1 ≠ s := by omega
    have q2 : w.heap.size + 1 ≠ sb := by omega
    have q3 : w.heap.size ≤ w.heap.size + 1 := by omega
    exact ⟨(((((h3.other (p := ⟨w.heap.size + 1, 0, none⟩) q1 q2 _).other (p := ⟨w.heap.size + 1, 1, none⟩) q1 q2 _).other (p := ⟨w.heap.size + 1, 2, none⟩) q1 q2 _).other (p := ⟨w.heap.size + 1, 3, none⟩) q1 q2 _).other (p := ⟨w.heap.size + 1, 4, none⟩) q1 q2 _).other (p := ⟨w.heap.size + 1, 5, none⟩) q1 q2 _,
      (((((n3.new (p := ⟨w.heap.size + 1, 0, none⟩) q3 _).new (p := ⟨w.heap.size + 1, 1, none⟩) q3 _).new (p := ⟨w.heap.size + 1, 2, none⟩) q3 _).new (p := ⟨w.heap.size + 1, 3, none⟩) q3 _).new (p := ⟨w.heap.size + 1, 4, none⟩) q3 _).new (p := ⟨w.heap.size + 1, 5, none⟩) q3 _,
      six_set W3 _ _ _ _ _ _ _ _ _ _ _ _ _ x3, fun i => by simpa using f3 i⟩))
  clear h hi
  go_enter Try.func43, Try.ntmps43
  go_wp2_with fail
  refine HW.out.mono ?_
  rintro e w1 ⟨rfl, h1, n1, x1, f1⟩
  have E := Lib.hid (And.intro h1 n1)
  have c0 := x1.c0
  have c1 := x1.c1
  have c2 := x1.c2
  have c3 := x1.c3
  have c4 := x1.c4
  have c5 := x1.c5
  clear h1 n1 x1
  go_wp2
  
  have q1 : w.heap.size + 1 ≠ s := by omega
  have q2 : w.heap.size + 1 ≠ sb := by omega
  have q3 : w.heap.size ≤ w.heap.size + 1 := by omega
  refine bodyPost_ret (v := .tuple #[.agg #[.int .i64 (ev S 0), .int .i64 (ev S 1), .int .i64 (ev S 2), .int .i64 (ev S 3), .int .i64 (ev S 4), .int .i64 (ev S 5)], .bool true]) (by simp [results, Try.results43, go_sem, c0, c1, c2, c3, c4, c5]) rfl ⟨rfl, ?_, ?_⟩
  · exact (((((E.out.1.other (p := ⟨w.heap.size + 1, 0, none⟩) q1 q2 _).other (p := ⟨w.heap.size + 1, 1, none⟩) q1 q2 _).other (p := ⟨w.heap.size + 1, 2, none⟩) q1 q2 _).other (p := ⟨w.heap.size + 1, 3, none⟩) q1 q2 _).other (p := ⟨w.heap.size + 1, 4, none⟩) q1 q2 _).other (p := ⟨w.heap.size + 1, 5, none⟩) q1 q2 _
  · exact (((((E.out.2.new (p := ⟨w.heap.size + 1, 0, none⟩) q3 _).new (p := ⟨w.heap.size + 1, 1, none⟩) q3 _).new (p := ⟨w.heap.size + 1, 2, none⟩) q3 _).new (p := ⟨w.heap.size + 1, 3, none⟩) q3 _).new (p := ⟨w.heap.size + 1, 4, none⟩) q3 _).new (p := ⟨w.heap.size + 1, 5, none⟩) q3 _

theorem Storey.get_no (h : Storey w s sb n ev used count gen) (hS : S < n) (hb : n ≤ 4096) (hno : used S = false ∨ used S = true ∧ gen S ≠ G) :
    Calls Try.prog 43 #[.pointer (some ⟨s, 0, none⟩), .agg #[.int .i64 (S : Int), .int .i64 G]] w fun e w' => e = .returned (.tuple #[.agg #[.int .i64 0, .int .i64 0, .int .i64 0, .int .i64 0, .int .i64 0, .int .i64 0], .bool false]) ∧ Storey w' s sb n ev used count gen ∧ Near sb sb w w' := by
  have hm := hmf
  have ls := h.ls
  have lb := h.lb
  have HW0 : Calls Try.prog 68 #[.pointer (some ⟨s, 0, none⟩), .agg #[.int .i64 (S : Int), .int .i64 G], .func (.func 71) #[] #[.pointer (some ⟨w.heap.size + 1, 0, none⟩)]] ((w.alloc (.cells #[.int .i64 (S : Int), .int .i64 G] 87)).alloc (.cells #[.int .i64 0, .int .i64 0, .int .i64 0, .int .i64 0, .int .i64 0, .int .i64 0] 51)) fun e w' => e = .returned (.bool false) ∧ Storey w' s sb n ev used count gen ∧ Near sb sb w w' ∧ Six w' (w.heap.size + 1) 0 0 0 0 0 0 ∧ ∀ i, w'.frozen? ⟨w.heap.size + 1, i, none⟩ = false := by
    refine (((h.alloc (.cells #[.int .i64 (S : Int), .int .i64 G] 87)).alloc (.cells #[.int .i64 0, .int .i64 0, .int .i64 0, .int .i64 0, .int .i64 0, .int .i64 0] 51)).with_no hS hb hno _ #[.pointer (some ⟨w.heap.size + 1, 0, none⟩)]).mono fun e w' ⟨a, d, b⟩ => ⟨a, ?_⟩
    subst b
    exact ⟨((((h.alloc (.cells #[.int .i64 (S : Int), .int .i64 G] 87)).alloc (.cells #[.int .i64 0, .int .i64 0, .int .i64 0, .int .i64 0, .int .i64 0, .int .i64 0] 51)).alloc (.cells #[.int .i64 (S : Int), .int .i64 G] 87)).drewN d), (((((Near.refl sb sb w).alloc (.cells #[.int .i64 (S : Int), .int .i64 G] 87)).alloc (.cells #[.int .i64 0, .int .i64 0, .int .i64 0, .int .i64 0, .int .i64 0, .int .i64 0] 51)).alloc (.cells #[.int .i64 (S : Int), .int .i64 G] 87)).drew2 d), ⟨by simp [World.cell?_alloc_past], by simp [World.cell?_alloc_past], by simp [World.cell?_alloc_past], by simp [World.cell?_alloc_past], by simp [World.cell?_alloc_past], by simp [World.cell?_alloc_past]⟩, fun i => by
      simp only [World.frozen?_drewN, frozen?_alloc_cells]
      exact fz _ (by omega)⟩
  have HW := Lib.hid HW0
  clear HW0 h hno
  go_enter Try.func43, Try.ntmps43
  go_wp2_with fail
  refine HW.out.mono ?_
  rintro e w1 ⟨rfl, h1, n1, x1, f1⟩
  have E := Lib.hid (And.intro h1 n1)
  have c0 := x1.c0
  have c1 := x1.c1
  have c2 := x1.c2
  have c3 := x1.c3
  have c4 := x1.c4
  have c5 := x1.c5
  clear h1 n1 x1
  go_wp2
  have q1 : w.heap.size + 1 ≠ s := by omega
  have q2 : w.heap.size + 1 ≠ sb := by omega
  have q3 : w.heap.size ≤ w.heap.size + 1 := by omega
  refine bodyPost_ret (v := .tuple #[.agg #[.int .i64 0, .int .i64 0, .int .i64 0, .int .i64 0, .int .i64 0, .int .i64 0], .bool false]) (by simp [results, Try.results43, go_sem, c0, c1, c2, c3, c4, c5]) rfl ⟨rfl, ?_, ?_⟩
  · exact (((((E.out.1.other (p := ⟨w.heap.size + 1, 0, none⟩) q1 q2 _).other (p := ⟨w.heap.size + 1, 1, none⟩) q1 q2 _).other (p := ⟨w.heap.size + 1, 2, none⟩) q1 q2 _).other (p := ⟨w.heap.size + 1, 3, none⟩) q1 q2 _).other (p := ⟨w.heap.size + 1, 4, none⟩) q1 q2 _).other (p := ⟨w.heap.size + 1, 5, none⟩) q1 q2 _
  · exact (((((E.out.2.new (p := ⟨w.heap.size + 1, 0, none⟩) q3 _).new (p := ⟨w.heap.size + 1, 1, none⟩) q3 _).new (p := ⟨w.heap.size + 1, 2, none⟩) q3 _).new (p := ⟨w.heap.size + 1, 3, none⟩) q3 _).new (p := ⟨w.heap.size + 1, 4, none⟩) q3 _).new (p := ⟨w.heap.size + 1, 5, none⟩) q3 _
end
end Go.Proofs.Ytjfbjkgppnhaoaa
