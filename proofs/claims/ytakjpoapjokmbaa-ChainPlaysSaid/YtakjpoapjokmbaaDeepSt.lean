/-
  What holds between two pushes of ChainDeep.
-/
import Derived.Test.YtakjpoapjokmbaaGrow
import Derived.Test.YtakjpoapjokmbaaAwake
namespace Go.Proofs.Ytakjpoapjokmbaa
open Go.ChangeShapes Go.WideShapes Go.ChangeAt Go.RowKit
set_option linter.unusedVariables false

def AtV (i : Nat) (v : Value) : Prop := (i = 0 ∧ v = .int .i64 (-1)) ∨ ∃ k : Nat, i = k + 1 ∧ v = .int .i64 (k : Int)
structure DSt (w : World) (c mb n₀ s i cell : Nat) (v9 : Value) (l : List Nd) (wr : World) : Prop where
  len : l.length = i
  ch : ∃ nn G, nn ≤ 2 * i ∧ Chn wr c mb nn i (i : Int) G ∧ GL 0 l G
  sts : Sts wr n₀ v9 (padL (setsL l) cell)
  sl : (padL (setsL l) cell).length = cell + 1
  cl : cell ≤ 5
  lst : ∀ q, l[i - 1]? = some q → q.cell ≤ (cell : Int) ∧ (cell : Int) ≤ q.cell + s
  zero : i = 0 → cell = 0
  bel : Below w.heap.size w wr
/-- A node was pushed, and its number isn't there yet. -/
structure WSt (w : World) (c mb n₀ i cell : Nat) (x : Int) (v9 : Value) (l : List Nd) (q : Nd) (wr : World) : Prop where
  len : l.length = i
  qc : q.cell = (cell : Int)
  qn : q.num = x
  ch : ∃ nn G, nn ≤ 2 * (i + 1) ∧ Chn wr c mb nn (i + 1) ((i : Int) + 1) G ∧ GL 0 (l ++ [q]) G
  sts : Sts wr n₀ v9 (padL (setsL l) cell)
  sl : (padL (setsL l) cell).length = cell + 1
  cl : cell ≤ 5
  bel : Below w.heap.size w wr
section
variable {w wr w' : World} {c mb n₀ s i cell : Nat} {v9 : Value} {l : List Nd}
theorem padL_snoc (L : List (List Int)) (c : Nat) (h : (padL L c).length = c + 1) : padL L (c + 1) = padL L c ++ [[]] := by
  unfold padL at h ⊢
  rw [List.length_append, List.length_replicate] at h
  rw [show c + 1 + 1 - L.length = (c + 1 - L.length) + 1 from by omega, List.replicate_succ', List.append_assoc]
theorem Sts.lies {W : World} {v : Value} {L : List (List Int)} (h : Sts W n₀ v L) (hL : 0 < L.length) : ∃ g cap, v = .slice (some ⟨g, 0, none⟩) L.length cap ∧ n₀ ≤ g ∧ g < W.heap.size := by
  obtain ⟨us, hO, hI⟩ := h
  obtain ⟨a, cap, rfl, ha⟩ := rrow_slice hO
  obtain ⟨g, rfl⟩ := ha hL
  have := rrow_cells hO (show Value.ownBlock _ = some g from rfl)
  exact ⟨g, cap, rfl, this.1, this.2.1⟩
theorem Sts.base {W : World} {v : Value} {L : List (List Int)} (h : Sts W n₀ v L) (hL : 0 < L.length) : n₀ ≤ W.heap.size := by
  obtain ⟨g, cap, rfl, h1, h2⟩ := h.lies hL
  omega
theorem sts_one (W : World) : Sts (W.alloc (.cells #[.slice none 0 0] 46)) W.heap.size (.slice (some ⟨W.heap.size, 0, none⟩) 1 1) [[]] :=
  ⟨[.slice none 0 0], ⟨rfl, .inr ⟨W.heap.size, 1, #[.slice none 0 0], rfl, Nat.le_refl _, World.alloc_heap_new _ _, Nat.le_refl _, by decide, rfl, rfl⟩⟩, ⟨fun j l u h1 h2 => by
    have hj : j = 0 := by have := (List.getElem?_eq_some_iff.1 h1).1; simp at this; omega
    subst hj
    simp at h1 h2
    subst h1
    subst h2
    exact World.ownsRow_nil _ _ _ _, fun i j u u' k h1 h2 hne => by
    have hj : j = 0 := by have := (List.getElem?_eq_some_iff.1 h2).1; simp at this; omega
    have hi : i = 0 := by have := (List.getElem?_eq_some_iff.1 h1).1; simp at this; omega
    omega⟩⟩
theorem DSt.start (h : Chn wr c mb 0 0 0 (fun _ => none)) (hs : Sts wr n₀ v9 [[]]) (hb : Below w.heap.size w wr) : DSt w c mb n₀ 0 0 0 v9 [] wr :=
  ⟨rfl, ⟨0, _, Nat.le_refl _, h, GL.nil 0⟩, hs, rfl, by omega, fun q hq => by simp at hq, fun _ => rfl, hb⟩
theorem DSt.more (h : DSt w c mb n₀ 0 i cell v9 l wr) (hi : 0 < i) (hc : cell < 5) {v' : Value} {w1 : World} (hs : Sts w1 n₀ v' (padL (setsL l) cell ++ [[]])) (hb : Below n₀ wr w1) (h1 : c < n₀) (h2 : mb < n₀) (h3 : w.heap.size ≤ n₀) : DSt w c mb n₀ 1 i (cell + 1) v' l w1 := by
  obtain ⟨nn, G, a1, a2, a3⟩ := h.ch
  refine ⟨h.len, ⟨nn, G, a1, a2.low hb h1 h2, a3⟩, by rw [padL_snoc _ _ h.sl]; exact hs, by rw [padL_length]; have := h.sl; rw [padL_length] at this; omega, by omega, fun q hq => ?_, by omega, h.bel.trans (hb.mono h3)⟩
  have := h.lst q hq
  omega
theorem DSt.weaken (h : DSt w c mb n₀ 0 i cell v9 l wr) : DSt w c mb n₀ 1 i cell v9 l wr :=
  ⟨h.len, h.ch, h.sts, h.sl, h.cl, fun q hq => by have := h.lst q hq; omega, h.zero, h.bel⟩
def PushPost (w : World) (c mb n₀ i cell : Nat) (x : Int) (v9 : Value) (l : List Nd) (e : Ending) (w' : World) : Prop :=
  e = .returned (.tuple #[.int .i64 (i : Int), .bool true]) ∧ ∃ q, WSt w c mb n₀ i cell x v9 l q w'
theorem DSt.push (h : DSt w c mb n₀ 1 i cell v9 l wr) (hi : i < 12) {a : Value} (ha : AtV i a) (x : Int) (h1 : c < n₀) (h2 : mb < n₀) (h3 : w.heap.size ≤ c) (h4 : w.heap.size ≤ mb) :
    Calls Try.prog 18 #[.pointer (some ⟨c, 0, none⟩), a, .int .i64 (cell : Int), .int .i64 x, .agg #[.int .i64 (i : Int), .int .i64 0]] wr (PushPost w c mb n₀ i cell x v9 l) := by
  obtain ⟨nn, G, a1, a2, a3⟩ := h.ch
  have hlen := h.len
  have hcl := h.cl
  rcases ha with ⟨rfl, rfl⟩ | ⟨k, rfl, rfl⟩
  · obtain rfl := h.zero rfl
    obtain rfl : l = [] := List.eq_nil_of_length_eq_zero hlen
    refine (push_first a2 (by omega) (by decide) (a3.out 0 (Int.le_refl 0)) a3.m1 x ((0 : Nat) : Int) 0).mono ?_
    rintro e W ⟨rfl, b1, b2⟩
    exact ⟨rfl, ⟨-1, 0, x, 0, 0, 1⟩, rfl, rfl, rfl, ⟨_, _, by omega, b1, a3.first⟩, h.sts.bt b2 h1 h2, h.sl, h.cl, h.bel.trans (b2.below h3 h4 h.bel.size)⟩
  · obtain ⟨q, hq⟩ : ∃ q, l[k]? = some q := ⟨_, List.getElem?_eq_getElem (by omega)⟩
    have hl := h.lst q hq
    obtain ⟨r1, r2, r3, r4, r5, r6⟩ := a3.rw.at_ k q hq
    have hG := a3.lo k q hq (.inr hlen.symm)
    refine (push_next (nx := ((k + 1 : Nat) : Int)) a2 (by omega) (by omega) (a3.out _ (by omega)) (i := (k : Int)) (wf_small (by omega) (by omega)) (Int.natCast_nonneg k) (q := q) hG (cell := (cell : Int)) (by omega) (by omega) ⟨r5, r6⟩ (by omega) x ((k + 1 : Nat) : Int) 0).mono ?_
    rintro e W ⟨rfl, b1, b2⟩
    have GN := a3.next hlen (Nat.zero_le _) hq (cell := (cell : Int)) (num := x) (by omega) (by omega)
    refine ⟨rfl, ⟨(k : Int), (cell : Int), x, (k : Int) + 1, 0, 1⟩, hlen, rfl, rfl, ⟨nn + 1 + 1, _, by omega, ?_, GN⟩, h.sts.bt b2 h1 h2, h.sl, h.cl, h.bel.trans (b2.below h3 h4 h.bel.size)⟩
    have e : ((k + 1 : Nat) : Int) = (k : Int) + 1 := by omega
    rw [e] at b1 ⊢
    exact b1
theorem WSt.put {x : Int} {q : Nd} (h : WSt w c mb n₀ i cell x v9 l q wr) {v' : Value} {w1 : World} {r : List Int} (hr : (padL (setsL l) cell)[cell]? = some r) (hs : Sts w1 n₀ v' ((padL (setsL l) cell).set cell (r ++ [x]))) (hb : Below n₀ wr w1) (h1 : c < n₀) (h2 : mb < n₀) (h3 : w.heap.size ≤ n₀) :
    DSt w c mb n₀ 0 (i + 1) cell v' (l ++ [q]) w1 := by
  obtain ⟨nn, G, a1, a2, a3⟩ := h.ch
  have e : setsL (l ++ [q]) = (padL (setsL l) cell).set cell (r ++ [x]) := by
    rw [setsL_snoc]
    unfold addL
    rw [h.qc, h.qn, Int.toNat_natCast, hr]
    rfl
  have e2 : padL (setsL (l ++ [q])) cell = setsL (l ++ [q]) := padL_of (by rw [e, List.length_set, h.sl]; omega)
  refine ⟨by simp [h.len], ⟨nn, G, a1, a2.low hb h1 h2, a3⟩, by rw [e2, e]; exact hs, by rw [e2, e, List.length_set, h.sl], h.cl, fun q' hq => ?_, fun h => by omega, h.bel.trans (hb.mono h3)⟩
  rw [show i + 1 - 1 = l.length from by rw [h.len]; omega] at hq
  simp at hq
  subst hq
  rw [h.qc]
  omega
end
end Go.Proofs.Ytakjpoapjokmbaa
