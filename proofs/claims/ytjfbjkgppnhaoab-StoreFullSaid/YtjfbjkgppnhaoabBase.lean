/-
  What the walks of the statements of layer 11 share: what of memory turned, and the rest of a division.
-/
import Derived.Test.YtjfbjkgppnhaoabRows
import Derived.WalkKit
import Derived.ProofKit
import Derived.OpenShut
import Derived.Handy
import Derived.WalkLawsBesides
import Derived.BigQuiet
import Derived.IntWalk
import Derived.Lib.Hide
namespace Go.Proofs.Ytjfbjkgppnhaoab
open Go.ChangeShapes Go.WideShapes Go.ChangeAt Go.RowKit
set_option linter.unusedVariables false

/-- Of what was there two blocks at most have turned. -/
structure Near (r pb : Nat) (w w' : World) : Prop where
  os : w'.os = w.os
  tape : w'.tape = w.tape
  output : w'.output = w.output
  size : w.heap.size ≤ w'.heap.size
  block : ∀ k, k < w.heap.size → k ≠ r → k ≠ pb → w'.heap[k]? = w.heap[k]?

theorem Near.refl (r pb : Nat) (w : World) : Near r pb w w := ⟨rfl, rfl, rfl, Nat.le_refl _, fun _ _ _ _ => rfl⟩
theorem Near.drewN {r pb : Nat} {w : World} (d : Nat) : Near r pb w (w.drewN d) := ⟨rfl, rfl, rfl, Nat.le_refl _, fun _ _ _ _ => rfl⟩
theorem Near.trans {r pb : Nat} {a b c : World} (h : Near r pb a b) (k : Near r pb b c) : Near r pb a c :=
  ⟨k.os.trans h.os, k.tape.trans h.tape, k.output.trans h.output, Nat.le_trans h.size k.size, fun i hi h1 h2 => (k.block i (Nat.lt_of_lt_of_le hi h.size) h1 h2).trans (h.block i hi h1 h2)⟩
theorem Near.setCell {r pb : Nat} {a w : World} (h : Near r pb a w) {p : Addr} (hp : p.block = r ∨ p.block = pb) (u : Value) : Near r pb a (w.setCell p u) :=
  h.trans ⟨rfl, rfl, rfl, by simp [World.setCell], fun k hk h1 h2 => Below.heap_setCell _ _ _ _ (by rcases hp with hp | hp <;> omega)⟩
theorem Near.place {r pb : Nat} {a w : World} (h : Near r pb a w) (i : Nat) (u : Value) : Near r pb a (w.setCell ⟨pb, i, none⟩ u) := h.setCell (p := ⟨pb, i, none⟩) (Or.inr rfl) u
theorem Near.ring {r pb : Nat} {a w : World} (h : Near r pb a w) (i : Nat) (u : Value) : Near r pb a (w.setCell ⟨r, i, none⟩ u) := h.setCell (p := ⟨r, i, none⟩) (Or.inl rfl) u
theorem Near.below {r pb B : Nat} {w w' : World} (h : Near r pb w w') (h1 : B ≤ r) (h2 : B ≤ pb) (h3 : B ≤ w.heap.size) : Below B w w' :=
  ⟨h.os, h.tape, h.output, h.size, fun k hk => h.block k (by omega) (by omega) (by omega)⟩

def upd {α : Type} (f : Nat → α) (k : Nat) (v : α) : Nat → α := fun j => if j = k then v else f j
theorem upd_at {α : Type} (f : Nat → α) (k : Nat) (v : α) : upd f k v k = v := by simp [upd]
theorem upd_off {α : Type} (f : Nat → α) {k j : Nat} (v : α) (h : j ≠ k) : upd f k v j = f j := by simp [upd, h]

theorem new_frozen (w : World) (c d : Array Value) (t u : TypeId) (b i : Nat) (hb : w.heap.size ≤ b) : ((w.alloc (.cells c t)).alloc (.cells d u)).frozen? ⟨b, i, none⟩ = false := by
  rw [frozen?_alloc_cells, frozen?_alloc_cells]
  unfold World.frozen?
  rw [Array.getElem?_eq_none (by simpa using hb)]

theorem rest_store (x n : Int) (hn : 1 ≤ n) (hb : n ≤ 1000000) : ∃ R : Int, 0 ≤ R ∧ R < n ∧ ∀ w, Calls Try.prog 6 #[.int .i64 x, .int .i64 n] w fun e w' => e = .returned (.int .i64 R) ∧ w = w' := by
  have t1 : -n < x.tmod n := Int.lt_tmod_of_pos x (by omega)
  have t2 : x.tmod n < n := Int.tmod_lt_of_pos x (by omega)
  obtain ⟨y, hy⟩ : ∃ y, x.tmod n = y := ⟨_, rfl⟩
  rw [hy] at t1 t2
  have e1 : wrap64 (y + n) = y + n := by unfold wrap64; omega
  have e2 : (y + n).tmod n = (y + n) % n := Int.tmod_eq_emod_of_nonneg (by omega)
  refine ⟨y % n, Int.emod_nonneg _ (by omega), Int.emod_lt_of_pos _ (by omega), fun w => ?_⟩
  have nz : (n == 0) = false := by simp; omega
  have nn : ¬ n = 0 := by omega
  clear hb hn
  go_enter Try.func6, Try.ntmps6
  go_wp2
  go_ret
  exact ⟨rfl, rfl⟩

end Go.Proofs.Ytjfbjkgppnhaoab
