/-
  What two nodes behind one make of a chain.
-/
import Derived.Test.YtakjpoapjokmbaaDeepEnd
namespace Go.Proofs.Ytakjpoapjokmbaa
open Go.ChangeShapes Go.WideShapes Go.ChangeAt Go.RowKit
set_option linter.unusedVariables false

def flat0 (l : List Nd) : Prop := ∀ q ∈ l, q.cell = 0
theorem flat0_nil : flat0 [] := fun q hq => by simp at hq
theorem flat0_snoc {l : List Nd} {q : Nd} (h : flat0 l) (hq : q.cell = 0) : flat0 (l ++ [q]) := fun r hr => by
  rcases List.mem_append.1 hr with hr | hr
  · exact h r hr
  · simp at hr
    subst hr
    exact hq
theorem sets_flat' (l : List Nd) : flat0 l.reverse → l ≠ [] → setsL l.reverse = [l.reverse.map Nd.num] := by
  induction l with
  | nil => intro _ h; exact absurd rfl h
  | cons q l ih =>
    intro h _
    rw [List.reverse_cons] at h ⊢
    have hq : q.cell = 0 := h q (by simp)
    rw [setsL_snoc]
    by_cases hl : l = []
    · subst hl
      simp [setsL, addL, padL, hq]
    · rw [ih (fun r hr => h r (by simp [hr])) hl]
      simp [addL, padL, hq]
theorem sets_flat {l : List Nd} (h : flat0 l) (hl : l ≠ []) : setsL l = [l.map Nd.num] := by
  have := sets_flat' l.reverse (by rw [List.reverse_reverse]; exact h) (by simpa using hl)
  rwa [List.reverse_reverse] at this
/-- The last of l is held k times, two more are behind it. -/
structure G5 (l : List Nd) (k : Nat) (x y : Int) (G : Int → Option Nd) : Prop where
  rw : Rw l
  len : l.length = k + 1
  fl : flat0 l
  lo : ∀ j : Nat, j < k → G (j : Int) = some (ndL l j)
  at_ : G (k : Int) = some (two (ndL l k))
  a : G ((k : Int) + 1) = some ⟨(k : Int), 1, x, 100, 0, 1⟩
  b : G ((k : Int) + 2) = some ⟨(k : Int), 0, y, 200, 0, 1⟩
  m1 : G (-1) = none
def ndK (l : List Nd) (k j : Nat) : Nd := if j = k then two (ndL l k) else ndL l j
section
variable {l : List Nd} {k : Nat} {x y : Int} {G : Int → Option Nd}
theorem GL.weak {d d' : Nat} (h : GL d l G) (h1 : l.length ≤ d + 1) (h2 : l.length ≤ d' + 1) : GL d' l G :=
  ⟨h.rw, fun k q hk a b => by omega, fun k q hk a => h.lo k q hk (by have := (List.getElem?_eq_some_iff.1 hk).1; omega), h.m1, h.out⟩
theorem ndK_prev (h : Rw l) (j : Nat) : (ndK l k j).prev = (j : Int) - 1 := by
  unfold ndK
  split
  · rename_i e
    subst e
    exact (h.nd _).1
  · exact (h.nd j).1
theorem map_ndK (h : l.length = k + 1) : ((List.range (k + 1)).map (ndK l k)).map Nd.num = l.map Nd.num ∧ ∀ q ∈ (List.range (k + 1)).map (ndK l k), flat0 l → q.cell = 0 := by
  have e : ∀ j, (ndK l k j).num = (ndL l j).num ∧ (ndK l k j).cell = (ndL l j).cell := fun j => by
    unfold ndK
    split
    · rename_i e
      subst e
      exact ⟨rfl, rfl⟩
    · exact ⟨rfl, rfl⟩
  refine ⟨?_, fun q hq hf => ?_⟩
  · rw [List.map_map]
    have : Nd.num ∘ ndK l k = Nd.num ∘ ndL l := by funext j; exact (e j).1
    rw [this, ← List.map_map, ← h, map_ndL]
  · obtain ⟨j, hj, rfl⟩ := List.mem_map.1 hq
    rw [(e j).2]
    have hj' : j < l.length := by simp at hj; omega
    unfold ndL
    rw [List.getElem?_eq_getElem hj']
    exact hf _ (List.getElem_mem hj')
theorem G5.way (h : G5 l k x y G) : ∀ j : Nat, j ≤ k → G (j : Int) = some (ndK l k j) := fun j hj => by
  unfold ndK
  split
  · rename_i e
    subst e
    exact h.at_
  · exact h.lo j (by omega)
theorem G5.path (h : G5 l k x y G) (hk : k ≤ 100) : PathOk (k + 1) G (k : Int) ∧ pathG (k + 1) G (k : Int) = ((List.range (k + 1)).reverse).map (ndK l k) :=
  ⟨pathOk_lin (ndK_prev h.rw) h.m1 k (by omega) h.way, path_lin (ndK_prev h.rw) h.m1 k h.way⟩
theorem sets_one_more (h : l.length = k + 1) (hf : flat0 l) (q : Nd) (hq : q.cell = 0 ∨ q.cell = 1) :
    setsG (q :: ((List.range (k + 1)).reverse).map (ndK l k)) = if q.cell = 0 then [l.map Nd.num ++ [q.num]] else [l.map Nd.num, [q.num]] := by
  rw [sets_both, List.reverse_cons, ← List.map_reverse, List.reverse_reverse, setsL_snoc]
  obtain ⟨e1, e2⟩ := map_ndK h
  rw [sets_flat (fun q hq => e2 q hq hf) (by simp), e1]
  rcases hq with e | e <;> simp [addL, padL, e]
theorem G5.sets_a (h : G5 l k x y G) (hk : k ≤ 100) : PathOk (k + 2) G ((k : Int) + 1) ∧ setsG (pathG (k + 2) G ((k : Int) + 1)) = [l.map Nd.num, [x]] ∧ ∀ q ∈ pathG (k + 2) G ((k : Int) + 1), 0 ≤ q.cell ∧ q.cell ≤ 5 := by
  obtain ⟨p1, p2⟩ := h.path hk
  have e : pathG (k + 2) G ((k : Int) + 1) = ⟨(k : Int), 1, x, 100, 0, 1⟩ :: ((List.range (k + 1)).reverse).map (ndK l k) := by rw [pathG_some h.a, p2]
  refine ⟨fun q hq => ?_, by rw [e, sets_one_more h.len h.fl _ (.inr rfl)]; rfl, fun q hq => ?_⟩
  · rw [h.a] at hq
    injection hq with hq
    subst hq
    exact ⟨show (Lit.int .i64 (k : Int)).wf = true from wf_small (by omega) (by omega), p1⟩
  · rw [e] at hq
    rcases List.mem_cons.1 hq with hq | hq
    · subst hq
      exact ⟨by show (0 : Int) ≤ 1; decide, by show (1 : Int) ≤ 5; decide⟩
    · have := (map_ndK h.len).2 q (by simpa using hq) h.fl
      omega
theorem G5.sets_b (h : G5 l k x y G) (hk : k ≤ 100) : PathOk (k + 2) G ((k : Int) + 2) ∧ setsG (pathG (k + 2) G ((k : Int) + 2)) = [l.map Nd.num ++ [y]] ∧ ∀ q ∈ pathG (k + 2) G ((k : Int) + 2), 0 ≤ q.cell ∧ q.cell ≤ 5 := by
  obtain ⟨p1, p2⟩ := h.path hk
  have e : pathG (k + 2) G ((k : Int) + 2) = ⟨(k : Int), 0, y, 200, 0, 1⟩ :: ((List.range (k + 1)).reverse).map (ndK l k) := by rw [pathG_some h.b, p2]
  refine ⟨fun q hq => ?_, by rw [e, sets_one_more h.len h.fl _ (.inl rfl)]; rfl, fun q hq => ?_⟩
  · rw [h.b] at hq
    injection hq with hq
    subst hq
    exact ⟨show (Lit.int .i64 (k : Int)).wf = true from wf_small (by omega) (by omega), p1⟩
  · rw [e] at hq
    rcases List.mem_cons.1 hq with hq | hq
    · subst hq
      exact ⟨by show (0 : Int) ≤ 0; decide, by show (0 : Int) ≤ 5; decide⟩
    · have := (map_ndK h.len).2 q (by simpa using hq) h.fl
      omega
/-- The first of both is let go. -/
theorem G5.drop_a (h : G5 l k x y G) (hk : k ≤ 100) : DropOk 2 G ((k : Int) + 1) ∧ (dropG 2 G ((k : Int) + 1)).2 = [(100, 0)] ∧ (dropG 2 G ((k : Int) + 1)).1 = updG (updG G ((k : Int) + 1) none) (k : Int) (some (ndL l k)) := by
  have e1 : updG G ((k : Int) + 1) none (k : Int) = some (two (ndL l k)) := by rw [updG_other (by omega)]; exact h.at_
  have e2 : dropG 1 (updG G ((k : Int) + 1) none) (k : Int) = (updG (updG G ((k : Int) + 1) none) (k : Int) (some (ndL l k)), []) := by
    rw [dropG_more (by omega) e1 (by show (1 : Int) < 2; decide)]
    have : ({ two (ndL l k) with count := (two (ndL l k)).count - 1 } : Nd) = ndL l k := by
      have hc := (h.rw.nd k).2.2.2
      generalize ndL l k = q at *
      obtain ⟨p1, p2, p3, p4, p5, p6⟩ := q
      simp only at hc
      subst hc
      rfl
    rw [this]
  have e3 : dropG 2 G ((k : Int) + 1) = (updG (updG G ((k : Int) + 1) none) (k : Int) (some (ndL l k)), [(100, 0)]) := by
    rw [dropG_last (by omega) h.a (by show ¬ (1 : Int) < 1; decide)]
    show ((dropG 1 (updG G ((k : Int) + 1) none) (k : Int)).1, (100, 0) :: (dropG 1 (updG G ((k : Int) + 1) none) (k : Int)).2) = _
    rw [e2]
  refine ⟨.inr ⟨_, h.a, by omega, by omega, by show (1 : Int) ≤ 1; decide, by show (1 : Int) ≤ 1000; decide, .inr (.inr ⟨_, e1, by show (0 : Int) ≤ (k : Int); omega, by show (k : Int) ≤ 1000; omega, by show (1 : Int) ≤ 2; decide, by show (2 : Int) ≤ 1000; decide, .inl (by show (1 : Int) < 2; decide)⟩)⟩, by rw [e3], by rw [e3]⟩
structure G6 (l : List Nd) (k : Nat) (y : Int) (G : Int → Option Nd) : Prop where
  rw : Rw l
  len : l.length = k + 1
  lo : ∀ j : Nat, j ≤ k → G (j : Int) = some (ndL l j)
  b : G ((k : Int) + 2) = some ⟨(k : Int), 0, y, 200, 0, 1⟩
  m1 : G (-1) = none
theorem G5.six (h : G5 l k x y G) (hk : k ≤ 100) : G6 l k y (dropG 2 G ((k : Int) + 1)).1 := by
  rw [(h.drop_a hk).2.2]
  refine ⟨h.rw, h.len, fun j hj => ?_, ?_, ?_⟩
  · by_cases e : j = k
    · subst e
      exact updG_same _ _
    · rw [updG_other (by omega), updG_other (by omega)]
      exact h.lo j (by omega)
  · rw [updG_other (by omega), updG_other (by omega)]
    exact h.b
  · rw [updG_other (by omega), updG_other (by omega)]
    exact h.m1
theorem G6.path (h : G6 l k y G) (hk : k ≤ 100) : PathOk (k + 2) G ((k : Int) + 2) ∧ (pathG (k + 2) G ((k : Int) + 2)).length = k + 2 := by
  have p1 := pathOk_lin (nd := ndL l) (fun k => (h.rw.nd k).1) h.m1 k (by omega) h.lo
  have p2 := path_lin (nd := ndL l) (fun k => (h.rw.nd k).1) h.m1 k h.lo
  refine ⟨fun q hq => ?_, ?_⟩
  · rw [h.b] at hq
    injection hq with hq
    subst hq
    exact ⟨show (Lit.int .i64 (k : Int)).wf = true from wf_small (by omega) (by omega), p1⟩
  · rw [pathG_some h.b]
    show (_ :: pathG (k + 1) G (k : Int)).length = _
    rw [p2]
    simp
theorem G6.drop (h : G6 l k y G) (hk : k ≤ 90) : DropOk (k + 2) G ((k : Int) + 2) ∧ (dropG (k + 2) G ((k : Int) + 2)).2.length = k + 2 := by
  have hG : ∀ j : Nat, j ≤ k → updG G ((k : Int) + 2) none (j : Int) = some (ndL l j) := fun j hj => by
    rw [updG_other (by omega)]
    exact h.lo j hj
  have d1 := dropOk_lin (nd := ndL l) (fun k => (h.rw.nd k).1) (fun k => (h.rw.nd k).2.2.2) k _ (by omega) hG
  have d2 := drop_lin (nd := ndL l) (fun k => (h.rw.nd k).1) (fun k => (h.rw.nd k).2.2.2) k _ hG
  refine ⟨.inr ⟨_, h.b, by omega, by omega, by show (1 : Int) ≤ 1; decide, by show (1 : Int) ≤ 1000; decide, .inr d1⟩, ?_⟩
  rw [dropG_last (by omega) h.b (by show ¬ (1 : Int) < 1; decide)]
  show (_ :: (dropG (k + 1) (updG G ((k : Int) + 2) none) (k : Int)).2).length = _
  rw [d2]
  simp
end
end Go.Proofs.Ytakjpoapjokmbaa
