/-
  A row of acts that came in: two booleans and two integers each.
-/
import Derived.Test.YtbpcocobimdcnaaRows
import Derived.WalkKit
import Derived.ProofKit
import Derived.OpenShut
import Derived.Deep.Slices
import Derived.Deep.Fields
import Derived.ChangeSame
namespace Go.Proofs.Ytbpcocobimdcnaa
open Go.ChangeShapes Go.WideShapes Go.ChangeAt Go.RowKit Go.Deep
set_option linter.unusedVariables false

section
variable {H : Type} {enc : TypeId × Value → H} {P : Program} {w : World} {base : Nat} {spare : Nat → Bool} {held : Bool}
theorem open_slice_fields {t e : TypeId} {fs : Array Field} {fuel : Nat} {cs : List Value} {x : DataW H × List MemPlace} (ht : P.underlying t = some (.slice e)) (he : P.underlying e = some (.struct fs))
    (hone : oneCellFields P fs = true) (hC : P.cellsOf e = fs.size) (h : DataW.trod enc P w base spare held fuel t cs = some x) :
    (cs = [.slice none 0 0] ∧ x = (.nil, [])) ∨
    ∃ (a : Addr) (len cap m : Nat) (D : Nat → DataW H) (Pl : Nat → List MemPlace), cs = [.slice (some a) len cap] ∧ base ≤ a.block ∧ len ≤ cap ∧ cap ≤ maxLen ∧ m = (if spare a.block then cap else len) ∧
      ∀ i, i < m → ∃ (ys : List (DataW H × List MemPlace)) (n : Nat), 
        ∀ (j : Nat) (f : Field), fs[j]? = some f → ∃ (v : Value) (y : DataW H × List MemPlace), w.cell? (a.add (i * fs.size + j)) = some v ∧ ys[j]? = some y ∧ DataW.trod enc P w base spare held n f.type [v] = some y := by
  rcases open_slice ht h with h0 | ⟨a, len, cap, m, n, D, Pl, hcs, hb, hl, hm, hmm, hx, hi⟩
  · exact .inl h0
  · refine .inr ⟨a, len, cap, m, D, Pl, hcs, hb, hl, hm, hmm, fun i him => ?_⟩
    obtain ⟨cs', hc, ht'⟩ := hi i him
    rw [hC] at hc
    obtain ⟨ys, n', hn', hy, hlen, hyl, hf⟩ := DataW.trod_struct he ht'
    obtain ⟨_, hcl, hat⟩ := World.cells?_some hc
    refine ⟨ys, n', fun j f hj => ?_⟩
    obtain ⟨ho, hk⟩ := hone_of hone j f hj
    have hjl : j < fs.size := (Array.getElem?_eq_some_iff.1 hj).1
    have hcell := hat j hjl
    have hv : cs'[j]? = some (cs'[j]'(by omega)) := List.getElem?_eq_getElem (by omega)
    have h1 := hf j f hj
    rw [ho, hk] at h1
    have hone' : (cs'.drop j).take 1 = [cs'[j]'(by omega)] := by
      rw [List.drop_eq_getElem_cons (by omega)]
      rfl
    rw [hone'] at h1
    have hys : ys[j]? = some (ys[j]'(by omega)) := List.getElem?_eq_getElem (by omega)
    refine ⟨_, _, ?_, hys, h1.trans hys⟩
    rw [← Go.Deep.add_add, hcell, hv]
end


/-- Two booleans and two integers lie at each place of a row. -/
def Acts (w : World) (b off len : Nat) (E N : Nat → Bool) (X A : Nat → Int) : Prop := ∀ i, i < len → w.cell? ⟨b, off + i * 4, none⟩ = some (.bool (E i)) ∧ w.cell? ⟨b, off + i * 4 + 1, none⟩ = some (.bool (N i)) ∧ w.cell? ⟨b, off + i * 4 + 2, none⟩ = some (.int .i64 (X i)) ∧ w.cell? ⟨b, off + i * 4 + 3, none⟩ = some (.int .i64 (A i))
def IsActs (w : World) (a : Option Addr) (len : Nat) : Prop :=
  len = 0 ∨ ∃ b off E N X A, a = some ⟨b, off, none⟩ ∧ len ≤ 9223372036854775807 ∧ b < w.heap.size ∧ Acts w b off len E N X A
def numOf : Option Value → Int
  | some (.int _ n) => n
  | _ => 0
def boolOf : Option Value → Bool
  | some (.bool b) => b
  | _ => false

theorem open_acts {H : Type} {enc : TypeId × Value → H} {W : World} {a : Option Addr} {len cap : Nat} {d : DataW H} {p : List MemPlace} (h : DataW.Trod enc Try.prog W 0 (fun _ => true) true 22 (.slice a len cap) d p) : IsActs W a len := by
  by_cases h0 : len = 0
  · exact .inl h0
  obtain ⟨fuel, hf⟩ := h
  rcases open_slice_fields Try.underlying22 Try.underlying27 (by kernel_rfl) (by kernel_rfl) hf with ⟨hcs, _⟩ | ⟨x, l, c, m, D, Pl, hcs, _, hl, hm, hmm, hi⟩
  · simp [Value.cells] at hcs
    exact absurd hcs.2.1 h0
  · simp [Value.cells] at hcs
    obtain ⟨rfl, rfl, rfl⟩ := hcs
    simp only [if_true] at hmm
    subst hmm
    have key : ∀ i, i < len → ∃ (e n : Bool) (k a : Int), W.cell? (x.add (i * 4)) = some (.bool e) ∧ W.cell? (x.add (i * 4 + 1)) = some (.bool n) ∧ W.cell? (x.add (i * 4 + 2)) = some (.int .i64 k) ∧ W.cell? (x.add (i * 4 + 3)) = some (.int .i64 a) := by
      intro i hil
      obtain ⟨ys, n', hfj⟩ := hi i (by omega)
      obtain ⟨v0, y0, c0, _, t0⟩ := hfj 0 _ rfl
      obtain ⟨v1, y1, c1, _, t1⟩ := hfj 1 _ rfl
      obtain ⟨v2, y2, c2, _, t2⟩ := hfj 2 _ rfl
      obtain ⟨v3, y3, c3, _, t3⟩ := hfj 3 _ rfl
      obtain ⟨k0, q0, _⟩ := DataW.trod_bool Try.underlying4 t0
      obtain ⟨k1, q1, _⟩ := DataW.trod_bool Try.underlying4 t1
      obtain ⟨k2, q2, _⟩ := DataW.trod_int Try.underlying3 t2
      obtain ⟨k3, q3, _⟩ := DataW.trod_int Try.underlying3 t3
      simp only [List.cons.injEq, and_true] at q0 q1 q2 q3
      subst q0 q1 q2 q3
      exact ⟨k0, k1, k2, k3, c0, c1, c2, c3⟩
    obtain ⟨b, off, spot⟩ := x
    obtain ⟨_, _, _, _, z0, _⟩ := key 0 (by omega)
    have hspot : spot = none := by simpa [Addr.add] using World.cell?_spot z0
    subst hspot
    have hbl : b < W.heap.size := by
      have := block_lt_of_cell z0
      simpa [Addr.add] using this
    refine .inr ⟨b, off, fun i => boolOf (W.cell? ⟨b, off + i * 4, none⟩), fun i => boolOf (W.cell? ⟨b, off + i * 4 + 1, none⟩), fun i => numOf (W.cell? ⟨b, off + i * 4 + 2, none⟩), fun i => numOf (W.cell? ⟨b, off + i * 4 + 3, none⟩), rfl, by unfold maxLen at hm; omega, hbl, fun i hil => ?_⟩
    obtain ⟨e, n, k, a, e0, e1, e2, e3⟩ := key i hil
    rw [Go.WideShapes.add_plain] at e0 e1 e2 e3
    simp only [← Nat.add_assoc] at e0 e1 e2 e3
    simp only [e0, e1, e2, e3, numOf, boolOf]
    exact ⟨trivial, trivial, trivial, trivial⟩
end Go.Proofs.Ytbpcocobimdcnaa
