/-
  Matches put in order: insertion, in Lean and in memory.
-/
import Derived.Test.YtibmimdlgbhdnaaTupR
namespace Go.Proofs.Ytibmimdlgbhdnaa
open Go.ChangeShapes Go.WideShapes Go.ChangeAt Go.RowKit
set_option linter.unusedVariables false

/-- Rows that lie in blocks of which P holds. -/
def RowP (P : Nat → Prop) (w : World) (v : Value) (l : List Int) : Prop :=
  ∃ (a : Option Addr) (b off cap : Nat), v = .slice a l.length cap ∧ l.length ≤ cap ∧ (l = [] ∨ (a = some ⟨b, off, none⟩ ∧ P b)) ∧ ∀ (j : Nat) (x : Int), l[j]? = some x → w.cell? ⟨b, off + j, none⟩ = some (.int .i64 x)
def RowsP (P : Nat → Prop) (w : World) (v : Value) (L : List (List Int)) : Prop :=
  ∃ (a : Option Addr) (b off cap : Nat), v = .slice a L.length cap ∧ (L = [] ∨ (a = some ⟨b, off, none⟩ ∧ P b)) ∧ ∀ (k : Nat) (l : List Int), L[k]? = some l → ∃ r, w.cell? ⟨b, off + k, none⟩ = some r ∧ RowP P w r l
section
variable {P P' : Nat → Prop} {w w' : World} {v : Value} {l : List Int} {L : List (List Int)}
theorem RowP.at (h : RowP P w v l) : RowAt w v l := by
  obtain ⟨a, b, off, cap, e, hc, ha, hx⟩ := h
  exact ⟨a, b, off, cap, e, hc, ha.imp id And.left, hx⟩
theorem RowP.keep (h : RowP P w v l) (hk : ∀ k, P k → w'.heap[k]? = w.heap[k]?) : RowP P w' v l := by
  obtain ⟨a, b, off, cap, e, hc, ha, hx⟩ := h
  refine ⟨a, b, off, cap, e, hc, ha, fun j x hj => ?_⟩
  rcases ha with rfl | ⟨_, hb⟩
  · simp at hj
  · exact (World.cell?_of_block (w := w) (hk b hb)).trans (hx j x hj)
theorem RowP.imp (h : RowP P w v l) (hp : ∀ k, P k → P' k) : RowP P' w v l := by
  obtain ⟨a, b, off, cap, e, hc, ha, hx⟩ := h
  exact ⟨a, b, off, cap, e, hc, ha.imp id fun ⟨h1, h2⟩ => ⟨h1, hp _ h2⟩, hx⟩
theorem RowsP.at (h : RowsP P w v L) : RowsAt w v L := by
  obtain ⟨a, b, off, cap, e, ha, hx⟩ := h
  exact ⟨a, b, off, cap, e, ha.imp id And.left, fun k l hl => by
    obtain ⟨r, q1, q2⟩ := hx k l hl
    exact ⟨r, q1, q2.at⟩⟩
theorem RowsP.keep (h : RowsP P w v L) (hk : ∀ k, P k → w'.heap[k]? = w.heap[k]?) : RowsP P w' v L := by
  obtain ⟨a, b, off, cap, e, ha, hx⟩ := h
  refine ⟨a, b, off, cap, e, ha, fun k l hl => ?_⟩
  obtain ⟨r, q1, q2⟩ := hx k l hl
  rcases ha with rfl | ⟨_, hb⟩
  · simp at hl
  · exact ⟨r, (World.cell?_of_block (w := w) (hk b hb)).trans q1, q2.keep hk⟩
theorem RowsP.imp (h : RowsP P w v L) (hp : ∀ k, P k → P' k) : RowsP P' w v L := by
  obtain ⟨a, b, off, cap, e, ha, hx⟩ := h
  exact ⟨a, b, off, cap, e, ha.imp id fun ⟨h1, h2⟩ => ⟨h1, hp _ h2⟩, fun k l hl => by
    obtain ⟨r, q1, q2⟩ := hx k l hl
    exact ⟨r, q1, q2.imp hp⟩⟩
end
abbrev Mat := List (List Int)
abbrev cmpM (a b : Mat) : Int := cmpL (cmpL cmpI) a b
def leE (a b : Value × Mat) : Prop := cmpM a.2 b.2 ≤ 0
theorem leE.trans {a b c : Value × Mat} (h : leE a b) (k : leE b c) : leE a c := ord_match.t _ _ _ h k
/-- A match in memory, apart from block g. -/
structure Elt (g : Nat) (w : World) (e : Value × Mat) : Prop where
  rows : RowsP (fun k => k ≠ g) w e.1 e.2
  len : e.2.length ≤ 1000000
  lens : ∀ x ∈ e.2, x.length ≤ 1000000
theorem Elt.keep {g : Nat} {w w' : World} {e : Value × Mat} (h : Elt g w e) (hk : ∀ k, k ≠ g → k < w.heap.size → w'.heap[k]? = w.heap[k]?) : Elt g w' e := by
  refine ⟨?_, h.len, h.lens⟩
  have h1 : RowsP (fun k => k ≠ g ∧ k < w.heap.size) w e.1 e.2 := by
    obtain ⟨a, b, off, cap, e, ha, hx⟩ := h.rows
    refine ⟨a, b, off, cap, e, ?_, fun k l hl => ?_⟩
    · rcases ha with ha | ⟨ha, hb⟩
      · exact .inl ha
      · by_cases h0 : (‹Value × Mat›).2 = []
        · exact .inl h0
        · refine .inr ⟨ha, hb, ?_⟩
          obtain ⟨r, q1, _⟩ := hx 0 _ (List.getElem?_eq_getElem (List.length_pos_iff.2 h0))
          exact block_lt_of_cell q1
    · obtain ⟨r, q1, a, b2, off2, cap2, e, hc, ha2, hx2⟩ := hx k l hl
      refine ⟨r, q1, a, b2, off2, cap2, e, hc, ?_, hx2⟩
      rcases ha2 with ha2 | ⟨ha2, hb2⟩
      · exact .inl ha2
      · by_cases h0 : l = []
        · exact .inl h0
        · exact .inr ⟨ha2, hb2, block_lt_of_cell (hx2 0 _ (List.getElem?_eq_getElem (List.length_pos_iff.2 h0)))⟩
  exact (h1.keep fun k hk1 => hk k hk1.1 hk1.2).imp fun k hk1 => hk1.1
/-- Matches in a row of their own. -/
structure SortSt (B g cap : Nat) (w : World) (E : List (Value × Mat)) : Prop where
  own : w.ownsRow B 22 1 (.slice (some ⟨g, 0, none⟩) E.length cap) E.length (E.map Prod.fst)
  el : ∀ e ∈ E, Elt g w e
theorem SortSt.drewN {B g cap : Nat} {w : World} {E : List (Value × Mat)} (h : SortSt B g cap w E) (d : Nat) : SortSt B g cap (w.drewN d) E := ⟨h.own, fun e he => ⟨(h.el e he).rows, (h.el e he).len, (h.el e he).lens⟩⟩
theorem SortSt.keep {B g cap : Nat} {w w' : World} {E : List (Value × Mat)} (h : SortSt B g cap w E) (t : Turn (fun _ => False) w w') : SortSt B g cap w' E :=
  ⟨own_turn h.own t (fun _ _ => id), fun e he => (h.el e he).keep fun k _ hk => t.block k hk id⟩
theorem SortSt.swap {B g cap : Nat} {w : World} {A C : List (Value × Mat)} {x y : Value × Mat} (h : SortSt B g cap w (A ++ y :: x :: C)) : SortSt B g cap ((w.setCell ⟨g, A.length + 1, none⟩ y.1).setCell ⟨g, A.length, none⟩ x.1) (A ++ x :: y :: C) := by
  have h1 := (h.own.stored (A.length + 1) y.1).1
  have h2 := (h1.stored A.length x.1).1
  refine ⟨?_, fun e he => ?_⟩
  · have e1 : (((A ++ y :: x :: C).map Prod.fst).set (A.length + 1) y.1).set A.length x.1 = (A ++ x :: y :: C).map Prod.fst := by
      simp [List.map_append, List.set_append]
    rw [e1] at h2
    have e2 : (A ++ x :: y :: C).length = (A ++ y :: x :: C).length := by simp
    rw [e2]
    exact h2
  · have hm : e ∈ A ++ y :: x :: C := by
      simp only [List.mem_append, List.mem_cons] at he ⊢
      rcases he with h | h | h | h
      · exact .inl h
      · exact .inr (.inr (.inl h))
      · exact .inr (.inl h)
      · exact .inr (.inr (.inr h))
    exact (h.el e hm).keep fun k hk _ => (Below.heap_setCell _ _ _ _ (by exact hk)).trans (Below.heap_setCell _ _ _ _ (by exact hk))
theorem pair_ins {A B : List (Value × Mat)} {x : Value × Mat} (h : (A ++ B).Pairwise leE) (hb : ∀ b ∈ B, leE x b) (ha : ∀ a ∈ A, leE a x) : (A ++ x :: B).Pairwise leE := by
  obtain ⟨h1, h2, h3⟩ := List.pairwise_append.1 h
  refine List.pairwise_append.2 ⟨h1, List.pairwise_cons.2 ⟨hb, h2⟩, fun a ha1 b hb1 => ?_⟩
  rcases List.mem_cons.1 hb1 with rfl | hb1
  · exact ha a ha1
  · exact h3 a ha1 b hb1
end Go.Proofs.Ytibmimdlgbhdnaa
