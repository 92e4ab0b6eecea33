/-
  What a store's Free and Add do with a ref that does not count.
-/
import Derived.Test.YtjfbjkgppnhaoaaGet
import Derived.Test.YtjfbjkgppnhaoaaFree
namespace Go.Proofs.Ytjfbjkgppnhaoaa
open Go.ChangeShapes Go.WideShapes Go.ChangeAt Go.RowKit
set_option linter.unusedVariables false

section
variable {w : World} {s sb n : Nat} {ev : Nat → Nat → Int} {used : Nat → Bool} {count gen : Nat → Int} {S : Nat} {G : Int}

theorem Storey.free_no (h : Storey w s sb n ev used count gen) (hS : S < n) (hb : n ≤ 4096) (hno : used S = false ∨ used S = true ∧ gen S ≠ G) :
    Calls Try.prog 41 #[.pointer (some ⟨s, 0, none⟩), .agg #[.int .i64 (S : Int), .int .i64 G]] w fun e w' => e = .returned (.bool false) ∧ Storey w' s sb n ev used count gen ∧ Near sb sb w w' := by
  have hm := hmf
  have ls := h.ls
  have lb := h.lb
  have HW0 : Calls Try.prog 68 #[.pointer (some ⟨s, 0, none⟩), .agg #[.int .i64 (S : Int), .int .i64 G], .func (.func 69) #[] #[.pointer (some ⟨w.heap.size + 1, 0, none⟩)]] ((w.alloc (.cells #[.int .i64 (S : Int), .int .i64 G] 87)).alloc (.cells #[.bool false] 4)) fun e w' => e = .returned (.bool false) ∧ Storey w' s sb n ev used count gen ∧ Near sb sb w w' ∧ w'.cell? ⟨w.heap.size + 1, 0, none⟩ = some (.bool false) ∧ w'.frozen? ⟨w.heap.size + 1, 0, none⟩ = false := by
    refine (((h.alloc (.cells #[.int .i64 (S : Int), .int .i64 G] 87)).alloc (.cells #[.bool false] 4)).with_no hS hb hno 69 #[.pointer (some ⟨w.heap.size + 1, 0, none⟩)]).mono fun e w' ⟨a, d, b⟩ => ⟨a, ?_⟩
    subst b
    exact ⟨(((h.alloc (.cells #[.int .i64 (S : Int), .int .i64 G] 87)).alloc (.cells #[.bool false] 4)).alloc (.cells #[.int .i64 (S : Int), .int .i64 G] 87)).drewN d, ((((Near.refl sb sb w).alloc (.cells #[.int .i64 (S : Int), .int .i64 G] 87)).alloc (.cells #[.bool false] 4)).alloc (.cells #[.int .i64 (S : Int), .int .i64 G] 87)).drew2 d, by simp [World.cell?_alloc_past], by simp [World.frozen?_alloc_past]⟩
  have HW := Lib.hid HW0
  clear HW0
  clear h hno
  go_enter Try.func41, Try.ntmps41
  go_wp2_with fail
  refine HW.out.mono ?_
  rintro e w1 ⟨rfl, h1, n1, c1, f1⟩
  have E := Lib.hid (And.intro h1 n1)
  clear h1 n1
  go_wp2
  exact bodyPost_ret (v := .bool false) (by simp [results, Try.results41, go_sem, c1]) rfl ⟨rfl, E.out.1.other (by show w.heap.size + 1 ≠ s; omega) (by show w.heap.size + 1 ≠ sb; omega) _, E.out.2.new (by show w.heap.size ≤ w.heap.size + 1; omega) _⟩

theorem Storey.add_no (h : Storey w s sb n ev used count gen) (hS : S < n) (hb : n ≤ 4096) (hno : used S = false ∨ used S = true ∧ gen S ≠ G) (by_ : Int) :
    Calls Try.prog 42 #[.pointer (some ⟨s, 0, none⟩), .agg #[.int .i64 (S : Int), .int .i64 G], .int .i64 by_] w fun e w' => e = .returned (.tuple #[.int .i64 0, .bool false]) ∧ Storey w' s sb n ev used count gen ∧ Near sb sb w w' := by
  have hm := hmf
  have ls := h.ls
  have lb := h.lb
  have HW0 : Calls Try.prog 68 #[.pointer (some ⟨s, 0, none⟩), .agg #[.int .i64 (S : Int), .int .i64 G], .func (.func 70) #[] #[.pointer (some ⟨w.heap.size + 1, 0, none⟩), .pointer (some ⟨w.heap.size + 1 + 1, 0, none⟩), .pointer (some ⟨w.heap.size + 1 + 1 + 1, 0, none⟩)]] ((((w.alloc (.cells #[.int .i64 (S : Int), .int .i64 G] 87)).alloc (.cells #[.int .i64 by_] 3)).alloc (.cells #[.int .i64 0] 3)).alloc (.cells #[.bool false] 4)) fun e w' => e = .returned (.bool false) ∧ Storey w' s sb n ev used count gen ∧ Near sb sb w w' ∧ w'.cell? ⟨w.heap.size + 1 + 1, 0, none⟩ = some (.int .i64 0) ∧ w'.cell? ⟨w.heap.size + 1 + 1 + 1, 0, none⟩ = some (.bool false) ∧ w'.frozen? ⟨w.heap.size + 1 + 1, 0, none⟩ = false ∧ w'.frozen? ⟨w.heap.size + 1 + 1 + 1, 0, none⟩ = false := by
    refine (((((h.alloc (.cells #[.int .i64 (S : Int), .int .i64 G] 87)).alloc (.cells #[.int .i64 by_] 3)).alloc (.cells #[.int .i64 0] 3)).alloc (.cells #[.bool false] 4)).with_no hS hb hno 70 #[.pointer (some ⟨w.heap.size + 1, 0, none⟩), .pointer (some ⟨w.heap.size + 1 + 1, 0, none⟩), .pointer (some ⟨w.heap.size + 1 + 1 + 1, 0, none⟩)]).mono fun e w' ⟨a, d, b⟩ => ⟨a, ?_⟩
    subst b
    refine ⟨(((((h.alloc (.cells #[.int .i64 (S : Int), .int .i64 G] 87)).alloc (.cells #[.int .i64 by_] 3)).alloc (.cells #[.int .i64 0] 3)).alloc (.cells #[.bool false] 4)).alloc (.cells #[.int .i64 (S : Int), .int .i64 G] 87)).drewN d, ((((((Near.refl sb sb w).alloc (.cells #[.int .i64 (S : Int), .int .i64 G] 87)).alloc (.cells #[.int .i64 by_] 3)).alloc (.cells #[.int .i64 0] 3)).alloc (.cells #[.bool false] 4)).alloc (.cells #[.int .i64 (S : Int), .int .i64 G] 87)).drew2 d, past (past (World.cell?_alloc_at #[.int .i64 0] 3 (w.heap.size + 1 + 1) 0 (by simp))), past (World.cell?_alloc_at #[.bool false] 4 (w.heap.size + 1 + 1 + 1) 0 (by simp)), ?_, ?_⟩
    · simp only [World.frozen?_drewN, frozen?_alloc_cells]
      exact fz _ (by omega)
    · simp only [World.frozen?_drewN, frozen?_alloc_cells]
      exact fz _ (by omega)
  have HW := Lib.hid HW0
  clear HW0
  clear h hno
  go_enter Try.func42, Try.ntmps42
  go_wp2_with fail
  refine HW.out.mono ?_
  rintro e w1 ⟨rfl, h1, n1, c1, c2, f1, f2⟩
  have E := Lib.hid (And.intro h1 n1)
  clear h1 n1
  go_wp2_with fail
  go_region
  go_wp2
  exact bodyPost_ret (v := .tuple #[.int .i64 0, .bool false]) (by simp [results, Try.results42, go_sem, c1, c2]) rfl ⟨rfl, ((E.out.1.drewN 1).other (by show w.heap.size + 1 + 1 ≠ s; omega) (by show w.heap.size + 1 + 1 ≠ sb; omega) _).other (by show w.heap.size + 1 + 1 + 1 ≠ s; omega) (by show w.heap.size + 1 + 1 + 1 ≠ sb; omega) _, ((E.out.2.drew2 1).new (by show w.heap.size ≤ w.heap.size + 1 + 1; omega) _).new (by show w.heap.size ≤ w.heap.size + 1 + 1 + 1; omega) _⟩

/-- Whatever is added to a ref that counts. -/
theorem Storey.add_any (h : Storey w s sb n ev used count gen) (hi : Is n used gen S G) (by_ M : Int) (h0 : 0 ≤ count S) (h1 : count S ≤ M) (hM : M ≤ 1000000) (b0 : -1000000 ≤ by_) (b1 : by_ ≤ 1) :
    Calls Try.prog 42 #[.pointer (some ⟨s, 0, none⟩), .agg #[.int .i64 (S : Int), .int .i64 G], .int .i64 by_] w fun e w' => (∃ x b, e = .returned (.tuple #[.int .i64 x, .bool b])) ∧ (∃ c, 0 ≤ c ∧ c ≤ M + 1 ∧ Storey w' s sb n ev used (upd count S c) gen) ∧ Near sb sb w w' := by
  have same : upd count S (count S) = count := by
    funext j
    unfold upd
    split
    · next e => rw [e]
    · rfl
  by_cases d0 : count S = 0
  · refine (h.add_dead hi by_ d0).mono fun e w' ⟨a, b, c⟩ => ⟨⟨_, _, a⟩, ⟨count S, by omega, by omega, by rw [same]; exact b⟩, c⟩
  · by_cases d1 : count S + by_ < 0
    · refine (h.add_under hi by_ (count S) rfl (by omega) (by omega) d1).mono fun e w' ⟨a, b, c⟩ => ⟨⟨_, _, a⟩, ⟨count S, by omega, by omega, by rw [same]; exact b⟩, c⟩
    · refine (h.add_yes hi by_ (count S) rfl (by omega) (by omega) (by omega) (by omega)).mono fun e w' ⟨a, b, c⟩ => ⟨⟨_, _, a⟩, ⟨count S + by_, by omega, by omega, b⟩, c⟩
end
end Go.Proofs.Ytjfbjkgppnhaoaa
