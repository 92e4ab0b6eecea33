/-
  A row of acts that came in: three integers each.
-/
import Derived.Test.YtibmimdlgbhdnaaRows
import Derived.WalkKit
import Derived.ProofKit
import Derived.OpenShut
import Derived.Deep.Slices
import Derived.Deep.Fields
import Derived.ChangeSame
import Derived.Test.YtibmimdlgbhdnaaPlaysE
namespace Go.Proofs.Ytibmimdlgbhdnaa
open Go.ChangeShapes Go.WideShapes Go.ChangeAt Go.RowKit Go.Deep
set_option linter.unusedVariables false

section
variable {H : Type} {enc : TypeId × Value → H} {P : Program} {w : World} {base : Nat} {spare : Nat → Bool} {held : Bool}
theorem open_slice_fields3 {t e : TypeId} {fs : Array Field} {fuel : Nat} {cs : List Value} {x : DataW H × List MemPlace} (ht : P.underlying t = some (.slice e)) (he : P.underlying e = some (.struct fs))
    (hone : oneCellFields P fs = true) (hC : P.cellsOf e = fs.size) (h : DataW.trod enc P w base spare held fuel t cs = some x) :
    (cs = [.slice none 0 0] ∧ x = (.nil, [])) ∨
    ∃ (a : Addr) (len cap m : Nat) (D : Nat → DataW H) (Pl : Nat → List MemPlace), cs = [.slice (some a) len cap] ∧ base ≤ a.block ∧ len ≤ cap ∧ cap ≤ maxLen ∧ m = (if spare a.block then cap else len) ∧
      ∀ i, i < m → ∃ (ys : List (DataW H × List MemPlace)) (n : Nat), 
        ∀ (j : Nat) (f : Field), fs[j]? = some f → ∃ (v : Value) (y : DataW H × List MemPlace), w.cell? (a.add (i * fs.size + j)) = some v ∧ ys[j]? = some y ∧ DataW.trod enc P w base spare held n f.type [v] = some y := by
  rcases open_slice ht h with h0 | ⟨a, len, cap, m, n, D, Pl, hcs, hb, hl, hm, hmm, hx, hi⟩
  · exact .inl h0
  · refine .inr ⟨a, len, cap, m, D, Pl, hcs, hb, hl, hm, hmm, fun i him => ?_⟩
    obtain ⟨cs', hc, ht'⟩ := hi i him
    rw [hC] at hc
    obtain ⟨ys, n', hn', hy, hlen, hyl, hf⟩ := DataW.trod_struct he ht'
    obtain ⟨_, hcl, hat⟩ := World.cells?_some hc
    refine ⟨ys, n', fun j f hj => ?_⟩
    obtain ⟨ho, hk⟩ := hone_of hone j f hj
    have hjl : j < fs.size := (Array.getElem?_eq_some_iff.1 hj).1
    have hcell := hat j hjl
    have hv : cs'[j]? = some (cs'[j]'(by omega)) := List.getElem?_eq_getElem (by omega)
    have h1 := hf j f hj
    rw [ho, hk] at h1
    have hone' : (cs'.drop j).take 1 = [cs'[j]'(by omega)] := by
      rw [List.drop_eq_getElem_cons (by omega)]
      rfl
    rw [hone'] at h1
    have hys : ys[j]? = some (ys[j]'(by omega)) := List.getElem?_eq_getElem (by omega)
    refine ⟨_, _, ?_, hys, h1.trans hys⟩
    rw [← Go.Deep.add_add, hcell, hv]
end

def IsActs3 (w : World) (a : Option Addr) (len : Nat) : Prop :=
  len = 0 ∨ ∃ b off K A N, a = some ⟨b, off, none⟩ ∧ len ≤ 9223372036854775807 ∧ b < w.heap.size ∧ Acts3 w b off len K A N

def numOf3 : Option Value → Int
  | some (.int _ n) => n
  | _ => 0

theorem open_acts3 {H : Type} {enc : TypeId × Value → H} {W : World} {a : Option Addr} {len cap : Nat} {d : DataW H} {p : List MemPlace} (h : DataW.Trod enc Try.prog W 0 (fun _ => true) true 40 (.slice a len cap) d p) : IsActs3 W a len := by
  by_cases h0 : len = 0
  · exact .inl h0
  obtain ⟨fuel, hf⟩ := h
  rcases open_slice_fields3 Try.underlying40 Try.underlying47 (by kernel_rfl) (by kernel_rfl) hf with ⟨hcs, _⟩ | ⟨x, l, c, m, D, Pl, hcs, _, hl, hm, hmm, hi⟩
  · simp [Value.cells] at hcs
    exact absurd hcs.2.1 h0
  · simp [Value.cells] at hcs
    obtain ⟨rfl, rfl, rfl⟩ := hcs
    simp only [if_true] at hmm
    subst hmm
    have key : ∀ i, i < len → ∃ k a n : Int, W.cell? (x.add (i * 3)) = some (.int .i64 k) ∧ W.cell? (x.add (i * 3 + 1)) = some (.int .i64 a) ∧ W.cell? (x.add (i * 3 + 2)) = some (.int .i64 n) := by
      intro i hil
      obtain ⟨ys, n', hfj⟩ := hi i (by omega)
      obtain ⟨v0, y0, c0, _, t0⟩ := hfj 0 _ rfl
      obtain ⟨v1, y1, c1, _, t1⟩ := hfj 1 _ rfl
      obtain ⟨v2, y2, c2, _, t2⟩ := hfj 2 _ rfl
      obtain ⟨k0, q0, _⟩ := DataW.trod_int Try.underlying3 t0
      obtain ⟨k1, q1, _⟩ := DataW.trod_int Try.underlying3 t1
      obtain ⟨k2, q2, _⟩ := DataW.trod_int Try.underlying3 t2
      simp only [List.cons.injEq, and_true] at q0 q1 q2
      subst q0
      subst q1
      subst q2
      exact ⟨k0, k1, k2, c0, c1, c2⟩
    obtain ⟨b, off, spot⟩ := x
    obtain ⟨_, _, _, z0, _⟩ := key 0 (by omega)
    have hspot : spot = none := by simpa [Addr.add] using World.cell?_spot z0
    subst hspot
    have hbl : b < W.heap.size := by
      have := block_lt_of_cell z0
      simpa [Addr.add] using this
    have key2 : ∀ i, i < len → ∃ k a n : Int, W.cell? ⟨b, off + i * 3, none⟩ = some (.int .i64 k) ∧ W.cell? ⟨b, off + i * 3 + 1, none⟩ = some (.int .i64 a) ∧ W.cell? ⟨b, off + i * 3 + 2, none⟩ = some (.int .i64 n) := by
      intro i hil
      obtain ⟨k, a, n, e0, e1, e2⟩ := key i hil
      rw [Go.WideShapes.add_plain] at e0 e1 e2
      exact ⟨k, a, n, e0, e1, e2⟩
    refine .inr ⟨b, off, fun i => numOf3 (W.cell? ⟨b, off + i * 3, none⟩), fun i => numOf3 (W.cell? ⟨b, off + i * 3 + 1, none⟩), fun i => numOf3 (W.cell? ⟨b, off + i * 3 + 2, none⟩), rfl, by unfold maxLen at hm; omega, hbl, fun i hil => ?_⟩
    obtain ⟨k, a, n, e0, e1, e2⟩ := key2 i hil
    simp only [e0, e1, e2, numOf3]
    exact ⟨trivial, trivial, trivial⟩
theorem plays_any (a0 : Int) (a1 : Option Addr) (len cap : Nat) (w : World) (hI : IsActs3 w a1 len) :
    Calls Try.prog 8 #[.int .i64 a0, .slice a1 len cap] w fun e w' => e = .returned (.bool true) ∧ Below w.heap.size w w' := by
  rcases hI with h0 | ⟨b, off, K, A, N, ha, hlen, hb, hacts⟩
  · exact plays_walk a0 a1 0 0 len cap (.inl h0) (fun _ => 0) (fun _ => 0) (fun _ => 0) w (fun i hi => absurd hi (by omega)) (fun h => absurd h (by omega)) (by omega)
  · exact plays_walk a0 a1 b off len cap (.inr ha) K A N w hacts (fun _ => hb) hlen
end Go.Proofs.Ytibmimdlgbhdnaa
