/-
  Both logs, side by side, while acts are done; acts that came in.
-/
import Derived.Test.YteokdibfdahabaaCn
import Derived.Test.YteokdibfdahabaaLb
import Derived.WalkKit
import Derived.ProofKit
import Derived.OpenShut
namespace Go.Proofs.Yteokdibfdahabaa
open Go.ChangeShapes Go.WideShapes Go.ChangeAt Go.RowKit Go.Deep
set_option linter.unusedVariables false
/-- A row of acts: three integers each. -/
def Acts3 (w : World) (b off len : Nat) (K A N : Nat → Int) : Prop := ∀ i, i < len → w.cell? ⟨b, off + i * 3, none⟩ = some (.int .i64 (K i)) ∧ w.cell? ⟨b, off + i * 3 + 1, none⟩ = some (.int .i64 (A i)) ∧ w.cell? ⟨b, off + i * 3 + 2, none⟩ = some (.int .i64 (N i))

/-- Both logs, behind some acts; a box of the law's own, and the acts, stay. -/
structure MI (w0 wr : World) (B : LB) (R : RB) (c : Cf) (s : LSt) (b : Nat) (t : TypeId) (cs : List Value) : Prop where
  two : Two wr B R c s
  fo : ∀ b, B.foot c.sh b → w0.heap.size ≤ b
  bs : w0.heap.size ≤ R.base
  T : Turn (fun b => w0.heap.size ≤ b) w0 wr
  bb : Blk wr b t
  rb : wr.rangeAt b 0 cs
  tt : (t ≠ 93 ∧ t ≠ 121 ∧ t ≠ 132 ∧ t ≠ 97 ∧ t ≠ 124 ∧ t ≠ 137) ∧ (t ≠ 101 ∧ t ≠ 128 ∧ t ≠ 126 ∧ t ≠ 62)
section
variable {w0 wr w2 : World} {B : LB} {R : RB} {c : Cf} {s : LSt} {b : Nat} {t : TypeId} {cs : List Value}
theorem MI.keep (h : MI w0 wr B R c s b t cs) (T : Turn (fun _ => False) wr w2) : MI w0 w2 B R c s b t cs :=
  ⟨h.two.keep T, h.fo, h.bs, h.T.trans (T.more (fun _ _ f => f.elim)), h.bb.turn T (fun f => f), range_turn h.rb T (fun f => f), h.tt⟩
theorem MI.step (h : MI w0 wr B R c s b t cs) {P : LSt → Prop} (A : Aft wr B R c P w2) : ∃ (R' : RB) (s' : LSt), R'.r = R.r ∧ MI w0 w2 B R' c s' b t cs ∧ P s' := by
  obtain ⟨R', s', h1, h2, h3, h4, h5⟩ := A
  have no := h.two.off h.bb h.tt.1 h.tt.2
  exact ⟨R', s', h2, ⟨h3, h.fo, by rw [h1]; exact h.bs, h.T.trans (h5.more (fun k hk q => by
    rcases q with q | q
    · exact h.fo k q
    · exact Nat.le_trans h.bs q.1)), h.bb.turn h5 no, range_turn h.rb h5 no, h.tt⟩, h4⟩
theorem MI.act (h : MI w0 wr B R c s b t cs) {ab off len : Nat} {K A N : Nat → Int} (hA : Acts3 w0 ab off len K A N) (hb : 0 < len → ab < w0.heap.size) {i : Nat} (hi : i < len) :
    wr.cell? ⟨ab, off + i * 3, none⟩ = some (.int .i64 (K i)) ∧ wr.cell? ⟨ab, off + i * 3 + 1, none⟩ = some (.int .i64 (A i)) ∧ wr.cell? ⟨ab, off + i * 3 + 2, none⟩ = some (.int .i64 (N i)) := by
  obtain ⟨x0, x1, x2⟩ := hA i hi
  have hl := hb (by omega)
  exact ⟨h.T.cell (by omega) x0, h.T.cell (by omega) x1, h.T.cell (by omega) x2⟩
end
section
variable {H : Type} {enc : TypeId × Value → H} {P : Program} {w : World} {base : Nat} {spare : Nat → Bool} {held : Bool}
theorem open_slice_fields3 {t e : TypeId} {fs : Array Field} {fuel : Nat} {cs : List Value} {x : DataW H × List MemPlace} (ht : P.underlying t = some (.slice e)) (he : P.underlying e = some (.struct fs))
    (hone : oneCellFields P fs = true) (hC : P.cellsOf e = fs.size) (h : DataW.trod enc P w base spare held fuel t cs = some x) :
    (cs = [.slice none 0 0] ∧ x = (.nil, [])) ∨
    ∃ (a : Addr) (len cap m : Nat) (D : Nat → DataW H) (Pl : Nat → List MemPlace), cs = [.slice (some a) len cap] ∧ base ≤ a.block ∧ len ≤ cap ∧ cap ≤ maxLen ∧ m = (if spare a.block then cap else len) ∧
      ∀ i, i < m → ∃ (ys : List (DataW H × List MemPlace)) (n : Nat), 
        ∀ (j : Nat) (f : Field), fs[j]? = some f → ∃ (v : Value) (y : DataW H × List MemPlace), w.cell? (a.add (i * fs.size + j)) = some v ∧ ys[j]? = some y ∧ DataW.trod enc P w base spare held n f.type [v] = some y := by
  rcases open_slice ht h with h0 | ⟨a, len, cap, m, n, D, Pl, hcs, hb, hl, hm, hmm, hx, hi⟩
  · exact .inl h0
  · refine .inr ⟨a, len, cap, m, D, Pl, hcs, hb, hl, hm, hmm, fun i him => ?_⟩
    obtain ⟨cs', hc, ht'⟩ := hi i him
    rw [hC] at hc
    obtain ⟨ys, n', hn', hy, hlen, hyl, hf⟩ := DataW.trod_struct he ht'
    obtain ⟨_, hcl, hat⟩ := World.cells?_some hc
    refine ⟨ys, n', fun j f hj => ?_⟩
    obtain ⟨ho, hk⟩ := hone_of hone j f hj
    have hjl : j < fs.size := (Array.getElem?_eq_some_iff.1 hj).1
    have hcell := hat j hjl
    have hv : cs'[j]? = some (cs'[j]'(by omega)) := List.getElem?_eq_getElem (by omega)
    have h1 := hf j f hj
    rw [ho, hk] at h1
    have hone' : (cs'.drop j).take 1 = [cs'[j]'(by omega)] := by
      rw [List.drop_eq_getElem_cons (by omega)]
      rfl
    rw [hone'] at h1
    have hys : ys[j]? = some (ys[j]'(by omega)) := List.getElem?_eq_getElem (by omega)
    refine ⟨_, _, ?_, hys, h1.trans hys⟩
    rw [← Go.Deep.add_add, hcell, hv]
end

def IsActs3 (w : World) (a : Option Addr) (len : Nat) : Prop :=
  len = 0 ∨ ∃ b off K A N, a = some ⟨b, off, none⟩ ∧ len ≤ 9223372036854775807 ∧ b < w.heap.size ∧ Acts3 w b off len K A N

def numOf3 : Option Value → Int
  | some (.int _ n) => n
  | _ => 0

theorem open_acts3 {H : Type} {enc : TypeId × Value → H} {W : World} {a : Option Addr} {len cap : Nat} {d : DataW H} {p : List MemPlace} (h : DataW.Trod enc Try.prog W 0 (fun _ => true) true 23 (.slice a len cap) d p) : IsActs3 W a len := by
  by_cases h0 : len = 0
  · exact .inl h0
  obtain ⟨fuel, hf⟩ := h
  rcases open_slice_fields3 Try.underlying23 Try.underlying34 (by kernel_rfl) (by kernel_rfl) hf with ⟨hcs, _⟩ | ⟨x, l, c, m, D, Pl, hcs, _, hl, hm, hmm, hi⟩
  · simp [Value.cells] at hcs
    exact absurd hcs.2.1 h0
  · simp [Value.cells] at hcs
    obtain ⟨rfl, rfl, rfl⟩ := hcs
    simp only [if_true] at hmm
    subst hmm
    have key : ∀ i, i < len → ∃ k a n : Int, W.cell? (x.add (i * 3)) = some (.int .i64 k) ∧ W.cell? (x.add (i * 3 + 1)) = some (.int .i64 a) ∧ W.cell? (x.add (i * 3 + 2)) = some (.int .i64 n) := by
      intro i hil
      obtain ⟨ys, n', hfj⟩ := hi i (by omega)
      obtain ⟨v0, y0, c0, _, t0⟩ := hfj 0 _ rfl
      obtain ⟨v1, y1, c1, _, t1⟩ := hfj 1 _ rfl
      obtain ⟨v2, y2, c2, _, t2⟩ := hfj 2 _ rfl
      obtain ⟨k0, q0, _⟩ := DataW.trod_int Try.underlying3 t0
      obtain ⟨k1, q1, _⟩ := DataW.trod_int Try.underlying3 t1
      obtain ⟨k2, q2, _⟩ := DataW.trod_int Try.underlying3 t2
      simp only [List.cons.injEq, and_true] at q0 q1 q2
      subst q0
      subst q1
      subst q2
      exact ⟨k0, k1, k2, c0, c1, c2⟩
    obtain ⟨b, off, spot⟩ := x
    obtain ⟨_, _, _, z0, _⟩ := key 0 (by omega)
    have hspot : spot = none := by simpa [Addr.add] using World.cell?_spot z0
    subst hspot
    have hbl : b < W.heap.size := by
      have := block_lt_of_cell z0
      simpa [Addr.add] using this
    have key2 : ∀ i, i < len → ∃ k a n : Int, W.cell? ⟨b, off + i * 3, none⟩ = some (.int .i64 k) ∧ W.cell? ⟨b, off + i * 3 + 1, none⟩ = some (.int .i64 a) ∧ W.cell? ⟨b, off + i * 3 + 2, none⟩ = some (.int .i64 n) := by
      intro i hil
      obtain ⟨k, a, n, e0, e1, e2⟩ := key i hil
      rw [Go.WideShapes.add_plain] at e0 e1 e2
      exact ⟨k, a, n, e0, e1, e2⟩
    refine .inr ⟨b, off, fun i => numOf3 (W.cell? ⟨b, off + i * 3, none⟩), fun i => numOf3 (W.cell? ⟨b, off + i * 3 + 1, none⟩), fun i => numOf3 (W.cell? ⟨b, off + i * 3 + 2, none⟩), rfl, by unfold maxLen at hm; omega, hbl, fun i hil => ?_⟩
    obtain ⟨k, a, n, e0, e1, e2⟩ := key2 i hil
    simp only [e0, e1, e2, numOf3]
    exact ⟨trivial, trivial, trivial⟩

theorem cells22 : Try.prog.cellsOf 22 = 3 := by kernel_rfl
theorem cells3 : Try.prog.cellsOf 3 = 1 := by kernel_rfl
theorem okWide_arr {P : Program} {w : World} {r : Reach} {base : Nat} {t : TypeId} {v : Value} {n : Nat} {e : TypeId} (ht : P.underlying t = some (.array n e)) (h : Value.okWide P w r base t v) : ∃ cs, v = .agg cs ∧ cs.size = P.cellsOf t := by
  simp only [Value.okWide, ht] at h
  obtain ⟨cs, h1, h2, _⟩ := h
  exact ⟨cs, h1, h2⟩
theorem array3' {α : Type} {a : Array α} (h : a.size = 3) : ∃ x y z, a = #[x, y, z] := by
  obtain ⟨l⟩ := a
  match l, h with
  | [x, y, z], _ => exact ⟨x, y, z, rfl⟩
set_option maxRecDepth 100000 in
theorem open_three {H : Type} {enc : TypeId × Value → H} {W : World} {r : Reach} {base : Nat} {v : Value} {d : DataW H} {p : List MemPlace} (hv : Value.okWide Try.prog W r base 22 v) (h : DataW.Trod enc Try.prog W 0 (fun _ => true) true 22 v d p) : ∃ n0 n1 n2, v = .agg #[.int .i64 n0, .int .i64 n1, .int .i64 n2] := by
  obtain ⟨cs, rfl, hsz⟩ := okWide_arr Try.underlying22 hv
  obtain ⟨c0, c1, c2, rfl⟩ := array3' (hsz.trans cells22)
  obtain ⟨fuel, hf⟩ := h
  obtain ⟨xs, m, _, _, _, hxl, hi⟩ := DataW.trod_array Try.underlying22 hf
  have x0 := hi 0 (by decide)
  have x1 := hi 1 (by decide)
  have x2 := hi 2 (by decide)
  rw [cells3] at x0 x1 x2
  rw [List.getElem?_eq_getElem (by omega)] at x0 x1 x2
  obtain ⟨n0, u0, _, _⟩ := DataW.trod_int Try.underlying3 x0
  obtain ⟨n1, u1, _, _⟩ := DataW.trod_int Try.underlying3 x1
  obtain ⟨n2, u2, _, _⟩ := DataW.trod_int Try.underlying3 x2
  simp [Value.cells] at u0 u1 u2
  exact ⟨n0, n1, n2, by rw [u0, u1, u2]⟩
end Go.Proofs.Yteokdibfdahabaa
