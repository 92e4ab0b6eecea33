/-
  What a store's calls answer, and what lies there behind them: contracts for the walks of the statements of layer 11.
-/
import Derived.Test.YtjfbjkgppnhaoaaSlot
import Derived.Deep.RegionHeld
namespace Go.Proofs.Ytjfbjkgppnhaoaa
open Go.ChangeShapes Go.WideShapes Go.ChangeAt Go.RowKit
set_option linter.unusedVariables false

theorem past {w : World} {o : Obj} {b i : Nat} {v : Value} (h : w.cell? ⟨b, i, none⟩ = some v) : (w.alloc o).cell? ⟨b, i, none⟩ = some v := (World.cell?_alloc_lt w o _ (block_lt_of_cell h)).trans h
theorem fz (w : World) {b i : Nat} (hb : w.heap.size ≤ b) : w.frozen? ⟨b, i, none⟩ = false := by
  unfold World.frozen?
  rw [Array.getElem?_eq_none hb]

section
variable {w : World} {s sb n : Nat} {ev : Nat → Nat → Int} {used : Nat → Bool} {count gen : Nat → Int} {S : Nat} {G : Int}

theorem Storey.with_no (h : Storey w s sb n ev used count gen) (hS : S < n) (hb : n ≤ 4096) (hno : used S = false ∨ used S = true ∧ gen S ≠ G) (f : FuncId) (cap : Array Value) :
    Calls Try.prog 68 #[.pointer (some ⟨s, 0, none⟩), .agg #[.int .i64 (S : Int), .int .i64 G], .func (.func f) #[] cap] w fun e w' => e = .returned (.bool false) ∧ ∃ d : Nat, w' = (w.alloc (.cells #[.int .i64 (S : Int), .int .i64 G] 87)).drewN d := by
  have hr := Lib.hid (fun o => (h.alloc o).row)
  have cu := h.cu S hS
  have cg := h.cg S hS
  have lb := h.lb
  have lb1 : sb < w.heap.size + 1 := by omega
  have z0 : ¬ (S : Int) < 0 := by omega
  have z1 : decide ((n : Int) ≤ (S : Int)) = false := by simp; omega
  rcases hno with hu | ⟨hu, hg⟩
  · rw [hu] at cu
    clear h hu
    go_enter Try.func68, Try.ntmps68
    go_wp2_with fail
    refine (hr.out _).mono ?_
    rintro e w1 ⟨rfl, rfl⟩
    go_wp2_with fail
    go_quiet (fail)
    go_wp2
    go_ret
    exact ⟨rfl, _, rfl⟩
  · rw [hu] at cu
    generalize gen S = g at cg hg
    have hg2 : (g != G) = true := by simpa using hg
    clear h hu hg
    go_enter Try.func68, Try.ntmps68
    go_wp2_with fail
    refine (hr.out _).mono ?_
    rintro e w1 ⟨rfl, rfl⟩
    go_wp2_with fail
    go_quiet (fail)
    go_wp2
    go_ret
    exact ⟨rfl, _, rfl⟩

theorem Storey.count_is (h : Storey w s sb n ev used count gen) (hi : Is n used gen S G) :
    Calls Try.prog 44 #[.pointer (some ⟨s, 0, none⟩), .agg #[.int .i64 (S : Int), .int .i64 G]] w fun e w' => e = .returned (.int .i64 (count S)) ∧ Storey w' s sb n ev used count gen ∧ Near sb sb w w' := by
  have hm := hmf
  have ls := h.ls
  have lb := h.lb
  have HW := Lib.hid (with_count s sb n ev used count gen S G ((w.alloc (.cells #[.int .i64 (S : Int), .int .i64 G] 87)).alloc (.cells #[.int .i64 0] 3)) ((h.alloc (.cells #[.int .i64 (S : Int), .int .i64 G] 87)).alloc (.cells #[.int .i64 0] 3)) hi (w.heap.size + 1) (fun W => Storey W s sb n ev used count gen ∧ Near sb sb w W ∧ W.cell? ⟨w.heap.size + 1, 0, none⟩ = some (.int .i64 (count S)) ∧ W.frozen? ⟨w.heap.size + 1, 0, none⟩ = false) (fun d => by
    have h3 := ((((h.alloc (.cells #[.int .i64 (S : Int), .int .i64 G] 87)).alloc (.cells #[.int .i64 0] 3)).alloc (.cells #[.int .i64 (S : Int), .int .i64 G] 87)).drewN d)
    have p1 : ((((w.alloc (.cells #[.int .i64 (S : Int), .int .i64 G] 87)).alloc (.cells #[.int .i64 0] 3)).alloc (.cells #[.int .i64 (S : Int), .int .i64 G] 87)).drewN d).cell? ⟨w.heap.size + 1, 0, none⟩ = some (.int .i64 0) := by simp [World.cell?_alloc_past]
    have p2 : ((((w.alloc (.cells #[.int .i64 (S : Int), .int .i64 G] 87)).alloc (.cells #[.int .i64 0] 3)).alloc (.cells #[.int .i64 (S : Int), .int .i64 G] 87)).drewN d).frozen? ⟨w.heap.size + 1, 0, none⟩ = false := by simp [World.frozen?_alloc_past]
    refine (cl_count sb (S * 9) (w.heap.size + 1) (count S) 0 _ (h3.cc S hi.lt) p1 p2).mono fun e w' ⟨a, b⟩ => ⟨a, ?_⟩
    subst b
    exact ⟨h3.other (by show w.heap.size + 1 ≠ s; omega) (by show w.heap.size + 1 ≠ sb; omega) _, (((((Near.refl sb sb w).alloc (.cells #[.int .i64 (S : Int), .int .i64 G] 87)).alloc (.cells #[.int .i64 0] 3)).alloc (.cells #[.int .i64 (S : Int), .int .i64 G] 87)).drew2 d).new (by show w.heap.size ≤ w.heap.size + 1; omega) _, World.cell?_setCell_same _ _ _ p1, by simpa using p2⟩))
  clear h hi
  go_enter Try.func44, Try.ntmps44
  go_wp2_with fail
  refine HW.out.mono ?_
  rintro e w1 ⟨rfl, h1, n1, c1, f1⟩
  have E := Lib.hid (And.intro h1 n1)
  clear h1 n1
  go_wp2
  exact bodyPost_ret (v := .int .i64 (count S)) (by simp [results, Try.results44, go_sem, c1]) rfl ⟨rfl, E.out.1.other (by show w.heap.size + 1 ≠ s; omega) (by show w.heap.size + 1 ≠ sb; omega) _, E.out.2.new (by show w.heap.size ≤ w.heap.size + 1; omega) _⟩

theorem Storey.count_no (h : Storey w s sb n ev used count gen) (hS : S < n) (hb : n ≤ 4096) (hno : used S = false ∨ used S = true ∧ gen S ≠ G) :
    Calls Try.prog 44 #[.pointer (some ⟨s, 0, none⟩), .agg #[.int .i64 (S : Int), .int .i64 G]] w fun e w' => e = .returned (.int .i64 0) ∧ Storey w' s sb n ev used count gen ∧ Near sb sb w w' := by
  have hm := hmf
  have ls := h.ls
  have lb := h.lb
  have HW0 : Calls Try.prog 68 #[.pointer (some ⟨s, 0, none⟩), .agg #[.int .i64 (S : Int), .int .i64 G], .func (.func 72) #[] #[.pointer (some ⟨w.heap.size + 1, 0, none⟩)]] ((w.alloc (.cells #[.int .i64 (S : Int), .int .i64 G] 87)).alloc (.cells #[.int .i64 0] 3)) fun e w' => e = .returned (.bool false) ∧ Storey w' s sb n ev used count gen ∧ Near sb sb w w' ∧ w'.cell? ⟨w.heap.size + 1, 0, none⟩ = some (.int .i64 0) ∧ w'.frozen? ⟨w.heap.size + 1, 0, none⟩ = false := by
    refine (((h.alloc (.cells #[.int .i64 (S : Int), .int .i64 G] 87)).alloc (.cells #[.int .i64 0] 3)).with_no hS hb hno 72 #[.pointer (some ⟨w.heap.size + 1, 0, none⟩)]).mono fun e w' ⟨a, d, b⟩ => ⟨a, ?_⟩
    subst b
    exact ⟨(((h.alloc (.cells #[.int .i64 (S : Int), .int .i64 G] 87)).alloc (.cells #[.int .i64 0] 3)).alloc (.cells #[.int .i64 (S : Int), .int .i64 G] 87)).drewN d, ((((Near.refl sb sb w).alloc (.cells #[.int .i64 (S : Int), .int .i64 G] 87)).alloc (.cells #[.int .i64 0] 3)).alloc (.cells #[.int .i64 (S : Int), .int .i64 G] 87)).drew2 d, by simp [World.cell?_alloc_past], by simp [World.frozen?_alloc_past]⟩
  have HW := Lib.hid HW0
  clear HW0
  clear h hno
  go_enter Try.func44, Try.ntmps44
  go_wp2_with fail
  refine HW.out.mono ?_
  rintro e w1 ⟨rfl, h1, n1, c1, f1⟩
  have E := Lib.hid (And.intro h1 n1)
  clear h1 n1
  go_wp2
  exact bodyPost_ret (v := .int .i64 0) (by simp [results, Try.results44, go_sem, c1]) rfl ⟨rfl, E.out.1.other (by show w.heap.size + 1 ≠ s; omega) (by show w.heap.size + 1 ≠ sb; omega) _, E.out.2.new (by show w.heap.size ≤ w.heap.size + 1; omega) _⟩

theorem Storey.add_yes (h : Storey w s sb n ev used count gen) (hi : Is n used gen S G) (by_ : Int) (c : Int) (hc : count S = c) (hp : 0 < c) (hm1 : c ≤ 1000000) (hle : 0 ≤ c + by_) (hbig : by_ ≤ 1000000) :
    Calls Try.prog 42 #[.pointer (some ⟨s, 0, none⟩), .agg #[.int .i64 (S : Int), .int .i64 G], .int .i64 by_] w fun e w' => e = .returned (.tuple #[.int .i64 (c + by_), .bool true]) ∧ Storey w' s sb n ev used (upd count S (c + by_)) gen ∧ Near sb sb w w' := by
  have hm := hmf
  have ls := h.ls
  have lb := h.lb
  have k0 : (c == 0) = false := by simp; omega
  have k1 : decide (by_ < -c) = false := by simp; omega
  have k2 : decide (1099511627776 - c < by_) = false := by simp; omega
  have HW := Lib.hid (with_add s sb n ev used count gen S G ((((w.alloc (.cells #[.int .i64 (S : Int), .int .i64 G] 87)).alloc (.cells #[.int .i64 by_] 3)).alloc (.cells #[.int .i64 0] 3)).alloc (.cells #[.bool false] 4)) ((((h.alloc (.cells #[.int .i64 (S : Int), .int .i64 G] 87)).alloc (.cells #[.int .i64 by_] 3)).alloc (.cells #[.int .i64 0] 3)).alloc (.cells #[.bool false] 4)) hi (w.heap.size + 1) (w.heap.size + 1 + 1) (w.heap.size + 1 + 1 + 1) (fun W => Storey W s sb n ev used (upd count S (c + by_)) gen ∧ Near sb sb w W ∧ W.cell? ⟨w.heap.size + 1 + 1, 0, none⟩ = some (.int .i64 (c + by_)) ∧ W.cell? ⟨w.heap.size + 1 + 1 + 1, 0, none⟩ = some (.bool true) ∧ W.frozen? ⟨w.heap.size + 1 + 1, 0, none⟩ = false ∧ W.frozen? ⟨w.heap.size + 1 + 1 + 1, 0, none⟩ = false) (fun d => by
    have h3 := ((((((h.alloc (.cells #[.int .i64 (S : Int), .int .i64 G] 87)).alloc (.cells #[.int .i64 by_] 3)).alloc (.cells #[.int .i64 0] 3)).alloc (.cells #[.bool false] 4)).alloc (.cells #[.int .i64 (S : Int), .int .i64 G] 87)).drewN d)
    have p0 : ((((((w.alloc (.cells #[.int .i64 (S : Int), .int .i64 G] 87)).alloc (.cells #[.int .i64 by_] 3)).alloc (.cells #[.int .i64 0] 3)).alloc (.cells #[.bool false] 4)).alloc (.cells #[.int .i64 (S : Int), .int .i64 G] 87)).drewN d).cell? ⟨w.heap.size + 1, 0, none⟩ = some (.int .i64 by_) := past (past (past (World.cell?_alloc_at #[.int .i64 by_] 3 (w.heap.size + 1) 0 (by simp))))
    have p1 : ((((((w.alloc (.cells #[.int .i64 (S : Int), .int .i64 G] 87)).alloc (.cells #[.int .i64 by_] 3)).alloc (.cells #[.int .i64 0] 3)).alloc (.cells #[.bool false] 4)).alloc (.cells #[.int .i64 (S : Int), .int .i64 G] 87)).drewN d).cell? ⟨w.heap.size + 1 + 1, 0, none⟩ = some (.int .i64 0) := past (past (World.cell?_alloc_at #[.int .i64 0] 3 (w.heap.size + 1 + 1) 0 (by simp)))
    have p2 : ((((((w.alloc (.cells #[.int .i64 (S : Int), .int .i64 G] 87)).alloc (.cells #[.int .i64 by_] 3)).alloc (.cells #[.int .i64 0] 3)).alloc (.cells #[.bool false] 4)).alloc (.cells #[.int .i64 (S : Int), .int .i64 G] 87)).drewN d).cell? ⟨w.heap.size + 1 + 1 + 1, 0, none⟩ = some (.bool false) := past (World.cell?_alloc_at #[.bool false] 4 (w.heap.size + 1 + 1 + 1) 0 (by simp))
    have p3 : ((((((w.alloc (.cells #[.int .i64 (S : Int), .int .i64 G] 87)).alloc (.cells #[.int .i64 by_] 3)).alloc (.cells #[.int .i64 0] 3)).alloc (.cells #[.bool false] 4)).alloc (.cells #[.int .i64 (S : Int), .int .i64 G] 87)).drewN d).frozen? ⟨w.heap.size + 1 + 1, 0, none⟩ = false := by
      simp only [World.frozen?_drewN, frozen?_alloc_cells]
      exact fz _ (by omega)
    have p4 : ((((((w.alloc (.cells #[.int .i64 (S : Int), .int .i64 G] 87)).alloc (.cells #[.int .i64 by_] 3)).alloc (.cells #[.int .i64 0] 3)).alloc (.cells #[.bool false] 4)).alloc (.cells #[.int .i64 (S : Int), .int .i64 G] 87)).drewN d).frozen? ⟨w.heap.size + 1 + 1 + 1, 0, none⟩ = false := by
      simp only [World.frozen?_drewN, frozen?_alloc_cells]
      exact fz _ (by omega)
    have n3 := (((((((Near.refl sb sb w).alloc (.cells #[.int .i64 (S : Int), .int .i64 G] 87)).alloc (.cells #[.int .i64 by_] 3)).alloc (.cells #[.int .i64 0] 3)).alloc (.cells #[.bool false] 4)).alloc (.cells #[.int .i64 (S : Int), .int .i64 G] 87)).drew2 d)
    refine (cl_add sb (S * 9) (w.heap.size + 1) (w.heap.size + 1 + 1) (w.heap.size + 1 + 1 + 1) c by_ 0 false _ ⟨by omega, by omega, by omega, by omega, by omega, by omega⟩ (by rw [← hc]; exact h3.cc S hi.lt) p0 p1 p2 p3 p4 h3.fb k0 k1 k2 (by omega) (by omega)).mono fun e w' ⟨a, d2, b⟩ => ⟨a, ?_⟩
    subst b
    refine ⟨(((h3.drewN d2).setCount hi.lt (c + by_)).other (by show w.heap.size + 1 + 1 ≠ s; omega) (by show w.heap.size + 1 + 1 ≠ sb; omega) _).other (by show w.heap.size + 1 + 1 + 1 ≠ s; omega) (by show w.heap.size + 1 + 1 + 1 ≠ sb; omega) _, (((n3.drew2 d2).ring _ _).new (by show w.heap.size ≤ w.heap.size + 1 + 1; omega) _).new (by show w.heap.size ≤ w.heap.size + 1 + 1 + 1; omega) _, ?_, ?_, by simpa using p3, by simpa using p4⟩
    · rw [World.cell?_setCell_far _ _ _ _ (by show w.heap.size + 1 + 1 + 1 ≠ w.heap.size + 1 + 1; omega)]
      exact World.cell?_setCell_same _ _ _ ((World.cell?_setCell_far _ _ _ _ (by show sb ≠ w.heap.size + 1 + 1; omega)).trans p1)
    · exact World.cell?_setCell_same _ _ _ (((World.cell?_setCell_far _ _ _ _ (by show w.heap.size + 1 + 1 ≠ w.heap.size + 1 + 1 + 1; omega)).trans (World.cell?_setCell_far _ _ _ _ (by show sb ≠ w.heap.size + 1 + 1 + 1; omega))).trans p2)))
  clear h hi
  go_enter Try.func42, Try.ntmps42
  go_wp2_with fail
  refine HW.out.mono ?_
  rintro e w1 ⟨rfl, h1, n1, c1, c2, f1, f2⟩
  have E := Lib.hid (And.intro h1 n1)
  clear h1 n1
  go_wp2_with fail
  go_region
  go_wp2
  exact bodyPost_ret (v := .tuple #[.int .i64 (c + by_), .bool true]) (by simp [results, Try.results42, go_sem, c1, c2]) rfl ⟨rfl, ((E.out.1.drewN 1).other (by show w.heap.size + 1 + 1 ≠ s; omega) (by show w.heap.size + 1 + 1 ≠ sb; omega) _).other (by show w.heap.size + 1 + 1 + 1 ≠ s; omega) (by show w.heap.size + 1 + 1 + 1 ≠ sb; omega) _, ((E.out.2.drew2 1).new (by show w.heap.size ≤ w.heap.size + 1 + 1; omega) _).new (by show w.heap.size ≤ w.heap.size + 1 + 1 + 1; omega) _⟩

theorem Storey.add_dead (h : Storey w s sb n ev used count gen) (hi : Is n used gen S G) (by_ : Int) (hc : count S = 0) :
    Calls Try.prog 42 #[.pointer (some ⟨s, 0, none⟩), .agg #[.int .i64 (S : Int), .int .i64 G], .int .i64 by_] w fun e w' => e = .returned (.tuple #[.int .i64 0, .bool false]) ∧ Storey w' s sb n ev used count gen ∧ Near sb sb w w' := by
  have hm := hmf
  have ls := h.ls
  have lb := h.lb
  have HW := Lib.hid (with_add s sb n ev used count gen S G ((((w.alloc (.cells #[.int .i64 (S : Int), .int .i64 G] 87)).alloc (.cells #[.int .i64 by_] 3)).alloc (.cells #[.int .i64 0] 3)).alloc (.cells #[.bool false] 4)) ((((h.alloc (.cells #[.int .i64 (S : Int), .int .i64 G] 87)).alloc (.cells #[.int .i64 by_] 3)).alloc (.cells #[.int .i64 0] 3)).alloc (.cells #[.bool false] 4)) hi (w.heap.size + 1) (w.heap.size + 1 + 1) (w.heap.size + 1 + 1 + 1) (fun W => Storey W s sb n ev used count gen ∧ Near sb sb w W ∧ W.cell? ⟨w.heap.size + 1 + 1, 0, none⟩ = some (.int .i64 0) ∧ W.cell? ⟨w.heap.size + 1 + 1 + 1, 0, none⟩ = some (.bool false) ∧ W.frozen? ⟨w.heap.size + 1 + 1, 0, none⟩ = false ∧ W.frozen? ⟨w.heap.size + 1 + 1 + 1, 0, none⟩ = false) (fun d => by
    have h3 := ((((((h.alloc (.cells #[.int .i64 (S : Int), .int .i64 G] 87)).alloc (.cells #[.int .i64 by_] 3)).alloc (.cells #[.int .i64 0] 3)).alloc (.cells #[.bool false] 4)).alloc (.cells #[.int .i64 (S : Int), .int .i64 G] 87)).drewN d)
    have p0 : ((((((w.alloc (.cells #[.int .i64 (S : Int), .int .i64 G] 87)).alloc (.cells #[.int .i64 by_] 3)).alloc (.cells #[.int .i64 0] 3)).alloc (.cells #[.bool false] 4)).alloc (.cells #[.int .i64 (S : Int), .int .i64 G] 87)).drewN d).cell? ⟨w.heap.size + 1, 0, none⟩ = some (.int .i64 by_) := past (past (past (World.cell?_alloc_at #[.int .i64 by_] 3 (w.heap.size + 1) 0 (by simp))))
    have p1 : ((((((w.alloc (.cells #[.int .i64 (S : Int), .int .i64 G] 87)).alloc (.cells #[.int .i64 by_] 3)).alloc (.cells #[.int .i64 0] 3)).alloc (.cells #[.bool false] 4)).alloc (.cells #[.int .i64 (S : Int), .int .i64 G] 87)).drewN d).cell? ⟨w.heap.size + 1 + 1, 0, none⟩ = some (.int .i64 0) := past (past (World.cell?_alloc_at #[.int .i64 0] 3 (w.heap.size + 1 + 1) 0 (by simp)))
    have p2 : ((((((w.alloc (.cells #[.int .i64 (S : Int), .int .i64 G] 87)).alloc (.cells #[.int .i64 by_] 3)).alloc (.cells #[.int .i64 0] 3)).alloc (.cells #[.bool false] 4)).alloc (.cells #[.int .i64 (S : Int), .int .i64 G] 87)).drewN d).cell? ⟨w.heap.size + 1 + 1 + 1, 0, none⟩ = some (.bool false) := past (World.cell?_alloc_at #[.bool false] 4 (w.heap.size + 1 + 1 + 1) 0 (by simp))
    have p3 : ((((((w.alloc (.cells #[.int .i64 (S : Int), .int .i64 G] 87)).alloc (.cells #[.int .i64 by_] 3)).alloc (.cells #[.int .i64 0] 3)).alloc (.cells #[.bool false] 4)).alloc (.cells #[.int .i64 (S : Int), .int .i64 G] 87)).drewN d).frozen? ⟨w.heap.size + 1 + 1, 0, none⟩ = false := by
      simp only [World.frozen?_drewN, frozen?_alloc_cells]
      exact fz _ (by omega)
    have p4 : ((((((w.alloc (.cells #[.int .i64 (S : Int), .int .i64 G] 87)).alloc (.cells #[.int .i64 by_] 3)).alloc (.cells #[.int .i64 0] 3)).alloc (.cells #[.bool false] 4)).alloc (.cells #[.int .i64 (S : Int), .int .i64 G] 87)).drewN d).frozen? ⟨w.heap.size + 1 + 1 + 1, 0, none⟩ = false := by
      simp only [World.frozen?_drewN, frozen?_alloc_cells]
      exact fz _ (by omega)
    have n3 := (((((((Near.refl sb sb w).alloc (.cells #[.int .i64 (S : Int), .int .i64 G] 87)).alloc (.cells #[.int .i64 by_] 3)).alloc (.cells #[.int .i64 0] 3)).alloc (.cells #[.bool false] 4)).alloc (.cells #[.int .i64 (S : Int), .int .i64 G] 87)).drew2 d)
    refine (cl_add_dead sb (S * 9) (w.heap.size + 1) (w.heap.size + 1 + 1) (w.heap.size + 1 + 1 + 1) by_ _ (by have := h3.cc S hi.lt; rw [hc] at this; exact this)).mono fun e w' ⟨a, d2, b⟩ => ⟨a, ?_⟩
    subst b
    exact ⟨h3.drewN d2, n3.drew2 d2, p1, p2, p3, p4⟩))
  clear h hi
  go_enter Try.func42, Try.ntmps42
  go_wp2_with fail
  refine HW.out.mono ?_
  rintro e w1 ⟨rfl, h1, n1, c1, c2, f1, f2⟩
  have E := Lib.hid (And.intro h1 n1)
  clear h1 n1
  go_wp2_with fail
  go_region
  go_wp2
  exact bodyPost_ret (v := .tuple #[.int .i64 0, .bool false]) (by simp [results, Try.results42, go_sem, c1, c2]) rfl ⟨rfl, ((E.out.1.drewN 1).other (by show w.heap.size + 1 + 1 ≠ s; omega) (by show w.heap.size + 1 + 1 ≠ sb; omega) _).other (by show w.heap.size + 1 + 1 + 1 ≠ s; omega) (by show w.heap.size + 1 + 1 + 1 ≠ sb; omega) _, ((E.out.2.drew2 1).new (by show w.heap.size ≤ w.heap.size + 1 + 1; omega) _).new (by show w.heap.size ≤ w.heap.size + 1 + 1 + 1; omega) _⟩

theorem Storey.add_under (h : Storey w s sb n ev used count gen) (hi : Is n used gen S G) (by_ : Int) (c : Int) (hc : count S = c) (hp : 0 < c) (hm1 : c ≤ 1000000) (hlt : c + by_ < 0) :
    Calls Try.prog 42 #[.pointer (some ⟨s, 0, none⟩), .agg #[.int .i64 (S : Int), .int .i64 G], .int .i64 by_] w fun e w' => e = .returned (.tuple #[.int .i64 0, .bool false]) ∧ Storey w' s sb n ev used count gen ∧ Near sb sb w w' := by
  have hm := hmf
  have ls := h.ls
  have lb := h.lb
  have k0 : (c == 0) = false := by simp; omega
  have k1 : decide (by_ < -c) = true := by simp; omega
  have HW := Lib.hid (with_add s sb n ev used count gen S G ((((w.alloc (.cells #[.int .i64 (S : Int), .int .i64 G] 87)).alloc (.cells #[.int .i64 by_] 3)).alloc (.cells #[.int .i64 0] 3)).alloc (.cells #[.bool false] 4)) ((((h.alloc (.cells #[.int .i64 (S : Int), .int .i64 G] 87)).alloc (.cells #[.int .i64 by_] 3)).alloc (.cells #[.int .i64 0] 3)).alloc (.cells #[.bool false] 4)) hi (w.heap.size + 1) (w.heap.size + 1 + 1) (w.heap.size + 1 + 1 + 1) (fun W => Storey W s sb n ev used count gen ∧ Near sb sb w W ∧ W.cell? ⟨w.heap.size + 1 + 1, 0, none⟩ = some (.int .i64 0) ∧ W.cell? ⟨w.heap.size + 1 + 1 + 1, 0, none⟩ = some (.bool false) ∧ W.frozen? ⟨w.heap.size + 1 + 1, 0, none⟩ = false ∧ W.frozen? ⟨w.heap.size + 1 + 1 + 1, 0, none⟩ = false) (fun d => by
    have h3 := ((((((h.alloc (.cells #[.int .i64 (S : Int), .int .i64 G] 87)).alloc (.cells #[.int .i64 by_] 3)).alloc (.cells #[.int .i64 0] 3)).alloc (.cells #[.bool false] 4)).alloc (.cells #[.int .i64 (S : Int), .int .i64 G] 87)).drewN d)
    have p0 : ((((((w.alloc (.cells #[.int .i64 (S : Int), .int .i64 G] 87)).alloc (.cells #[.int .i64 by_] 3)).alloc (.cells #[.int .i64 0] 3)).alloc (.cells #[.bool false] 4)).alloc (.cells #[.int .i64 (S : Int), .int .i64 G] 87)).drewN d).cell? ⟨w.heap.size + 1, 0, none⟩ = some (.int .i64 by_) := past (past (past (World.cell?_alloc_at #[.int .i64 by_] 3 (w.heap.size + 1) 0 (by simp))))
    have p1 : ((((((w.alloc (.cells #[.int .i64 (S : Int), .int .i64 G] 87)).alloc (.cells #[.int .i64 by_] 3)).alloc (.cells #[.int .i64 0] 3)).alloc (.cells #[.bool false] 4)).alloc (.cells #[.int .i64 (S : Int), .int .i64 G] 87)).drewN d).cell? ⟨w.heap.size + 1 + 1, 0, none⟩ = some (.int .i64 0) := past (past (World.cell?_alloc_at #[.int .i64 0] 3 (w.heap.size + 1 + 1) 0 (by simp)))
    have p2 : ((((((w.alloc (.cells #[.int .i64 (S : Int), .int .i64 G] 87)).alloc (.cells #[.int .i64 by_] 3)).alloc (.cells #[.int .i64 0] 3)).alloc (.cells #[.bool false] 4)).alloc (.cells #[.int .i64 (S : Int), .int .i64 G] 87)).drewN d).cell? ⟨w.heap.size + 1 + 1 + 1, 0, none⟩ = some (.bool false) := past (World.cell?_alloc_at #[.bool false] 4 (w.heap.size + 1 + 1 + 1) 0 (by simp))
    have p3 : ((((((w.alloc (.cells #[.int .i64 (S : Int), .int .i64 G] 87)).alloc (.cells #[.int .i64 by_] 3)).alloc (.cells #[.int .i64 0] 3)).alloc (.cells #[.bool false] 4)).alloc (.cells #[.int .i64 (S : Int), .int .i64 G] 87)).drewN d).frozen? ⟨w.heap.size + 1 + 1, 0, none⟩ = false := by
      simp only [World.frozen?_drewN, frozen?_alloc_cells]
      exact fz _ (by omega)
    have p4 : ((((((w.alloc (.cells #[.int .i64 (S : Int), .int .i64 G] 87)).alloc (.cells #[.int .i64 by_] 3)).alloc (.cells #[.int .i64 0] 3)).alloc (.cells #[.bool false] 4)).alloc (.cells #[.int .i64 (S : Int), .int .i64 G] 87)).drewN d).frozen? ⟨w.heap.size + 1 + 1 + 1, 0, none⟩ = false := by
      simp only [World.frozen?_drewN, frozen?_alloc_cells]
      exact fz _ (by omega)
    have n3 := (((((((Near.refl sb sb w).alloc (.cells #[.int .i64 (S : Int), .int .i64 G] 87)).alloc (.cells #[.int .i64 by_] 3)).alloc (.cells #[.int .i64 0] 3)).alloc (.cells #[.bool false] 4)).alloc (.cells #[.int .i64 (S : Int), .int .i64 G] 87)).drew2 d)
    refine (cl_add_under sb (S * 9) (w.heap.size + 1) (w.heap.size + 1 + 1) (w.heap.size + 1 + 1 + 1) c by_ _ (by rw [← hc]; exact h3.cc S hi.lt) p0 k0 k1 (by omega)).mono fun e w' ⟨a, d2, b⟩ => ⟨a, ?_⟩
    subst b
    exact ⟨h3.drewN d2, n3.drew2 d2, p1, p2, p3, p4⟩))
  clear h hi
  go_enter Try.func42, Try.ntmps42
  go_wp2_with fail
  refine HW.out.mono ?_
  rintro e w1 ⟨rfl, h1, n1, c1, c2, f1, f2⟩
  have E := Lib.hid (And.intro h1 n1)
  clear h1 n1
  go_wp2_with fail
  go_region
  go_wp2
  exact bodyPost_ret (v := .tuple #[.int .i64 0, .bool false]) (by simp [results, Try.results42, go_sem, c1, c2]) rfl ⟨rfl, ((E.out.1.drewN 1).other (by show w.heap.size + 1 + 1 ≠ s; omega) (by show w.heap.size + 1 + 1 ≠ sb; omega) _).other (by show w.heap.size + 1 + 1 + 1 ≠ s; omega) (by show w.heap.size + 1 + 1 + 1 ≠ sb; omega) _, ((E.out.2.drew2 1).new (by show w.heap.size ≤ w.heap.size + 1 + 1; omega) _).new (by show w.heap.size ≤ w.heap.size + 1 + 1 + 1; omega) _⟩

theorem Storey.free_live (h : Storey w s sb n ev used count gen) (hi : Is n used gen S G) (hz : ¬ count S = 0) :
    Calls Try.prog 41 #[.pointer (some ⟨s, 0, none⟩), .agg #[.int .i64 (S : Int), .int .i64 G]] w fun e w' => e = .returned (.bool false) ∧ Storey w' s sb n ev used count gen ∧ Near sb sb w w' := by
  have hm := hmf
  have ls := h.ls
  have lb := h.lb
  have HW := Lib.hid (with_free s sb n ev used count gen S G ((w.alloc (.cells #[.int .i64 (S : Int), .int .i64 G] 87)).alloc (.cells #[.bool false] 4)) ((h.alloc (.cells #[.int .i64 (S : Int), .int .i64 G] 87)).alloc (.cells #[.bool false] 4)) hi (w.heap.size + 1) (fun W => Storey W s sb n ev used count gen ∧ Near sb sb w W ∧ W.cell? ⟨w.heap.size + 1, 0, none⟩ = some (.bool false) ∧ W.frozen? ⟨w.heap.size + 1, 0, none⟩ = false) (fun d => by
    have h3 := ((((h.alloc (.cells #[.int .i64 (S : Int), .int .i64 G] 87)).alloc (.cells #[.bool false] 4)).alloc (.cells #[.int .i64 (S : Int), .int .i64 G] 87)).drewN d)
    have p1 : ((((w.alloc (.cells #[.int .i64 (S : Int), .int .i64 G] 87)).alloc (.cells #[.bool false] 4)).alloc (.cells #[.int .i64 (S : Int), .int .i64 G] 87)).drewN d).cell? ⟨w.heap.size + 1, 0, none⟩ = some (.bool false) := by simp [World.cell?_alloc_past]
    have p2 : ((((w.alloc (.cells #[.int .i64 (S : Int), .int .i64 G] 87)).alloc (.cells #[.bool false] 4)).alloc (.cells #[.int .i64 (S : Int), .int .i64 G] 87)).drewN d).frozen? ⟨w.heap.size + 1, 0, none⟩ = false := by simp [World.frozen?_alloc_past]
    refine (cl_free1 sb (S * 9) (w.heap.size + 1) (count S) false _ (by simpa using hz) (h3.cc S hi.lt) p1 p2).mono fun e w' ⟨a, b⟩ => ⟨a, ?_⟩
    subst b
    exact ⟨h3.other (by show w.heap.size + 1 ≠ s; omega) (by show w.heap.size + 1 ≠ sb; omega) _, (((((Near.refl sb sb w).alloc (.cells #[.int .i64 (S : Int), .int .i64 G] 87)).alloc (.cells #[.bool false] 4)).alloc (.cells #[.int .i64 (S : Int), .int .i64 G] 87)).drew2 d).new (by show w.heap.size ≤ w.heap.size + 1; omega) _, World.cell?_setCell_same _ _ _ p1, by simpa using p2⟩))
  clear h hi hz
  go_enter Try.func41, Try.ntmps41
  go_wp2_with fail
  refine HW.out.mono ?_
  rintro e w1 ⟨rfl, h1, n1, c1, f1⟩
  have E := Lib.hid (And.intro h1 n1)
  clear h1 n1
  go_wp2
  exact bodyPost_ret (v := .bool false) (by simp [results, Try.results41, go_sem, c1]) rfl ⟨rfl, E.out.1.other (by show w.heap.size + 1 ≠ s; omega) (by show w.heap.size + 1 ≠ sb; omega) _, E.out.2.new (by show w.heap.size ≤ w.heap.size + 1; omega) _⟩

end
end Go.Proofs.Ytjfbjkgppnhaoaa
