/-
  Chains that are one row of nodes, some of which are held twice; rows of rows that grow.
-/
import Derived.Test.YtakjpoapjokmbaaLin
namespace Go.Proofs.Ytakjpoapjokmbaa
open Go.ChangeShapes Go.WideShapes Go.ChangeAt Go.RowKit
set_option linter.unusedVariables false

def dnd (k : Nat) : Nd := ⟨(k : Int) - 1, 0, 0, k, 0, 1⟩
def ndL (l : List Nd) (k : Nat) : Nd := (l[k]?).getD (dnd k)
def two (q : Nd) : Nd := { q with count := 2 }
structure Rw (l : List Nd) : Prop where
  at_ : ∀ (k : Nat) (q : Nd), l[k]? = some q → q.prev = (k : Int) - 1 ∧ q.slot = (k : Int) ∧ q.gen = 0 ∧ q.count = 1 ∧ 0 ≤ q.cell ∧ q.cell ≤ 5
theorem Rw.nd {l : List Nd} (h : Rw l) (k : Nat) : (ndL l k).prev = (k : Int) - 1 ∧ (ndL l k).slot = (k : Int) ∧ (ndL l k).gen = 0 ∧ (ndL l k).count = 1 := by
  unfold ndL
  cases e : l[k]? with
  | none => exact ⟨rfl, rfl, rfl, rfl⟩
  | some q =>
    obtain ⟨a, b, c, d, _⟩ := h.at_ k q e
    exact ⟨a, b, c, d⟩
theorem Rw.snoc {l : List Nd} (h : Rw l) {q : Nd} (h1 : q.prev = (l.length : Int) - 1) (h2 : q.slot = (l.length : Int)) (h3 : q.gen = 0) (h4 : q.count = 1) (h5 : 0 ≤ q.cell) (h6 : q.cell ≤ 5) : Rw (l ++ [q]) := ⟨fun k r hr => by
  by_cases hk : k < l.length
  · rw [List.getElem?_append_left hk] at hr
    exact h.at_ k r hr
  · have e : k = l.length := by have := (List.getElem?_eq_some_iff.1 hr).1; simp at this; omega
    subst e
    simp at hr
    subst hr
    exact ⟨h1, h2, h3, h4, h5, h6⟩⟩
/-- The nodes of l lie; those from d on, but the last one, are held twice. -/
structure GL (d : Nat) (l : List Nd) (G : Int → Option Nd) : Prop where
  rw : Rw l
  hi : ∀ (k : Nat) (q : Nd), l[k]? = some q → d ≤ k → k + 1 < l.length → G (k : Int) = some (two q)
  lo : ∀ (k : Nat) (q : Nd), l[k]? = some q → (k < d ∨ k + 1 = l.length) → G (k : Int) = some q
  m1 : G (-1) = none
  out : ∀ j : Int, (l.length : Int) ≤ j → G j = none
theorem GL.nil (d : Nat) : GL d [] (fun _ => none) := ⟨⟨fun k q h => by simp at h⟩, fun k q h => by simp at h, fun k q h => by simp at h, rfl, fun _ _ => rfl⟩
theorem GL.first {d d' : Nat} {G : Int → Option Nd} (h : GL d [] G) {num : Int} : GL d' [⟨-1, 0, num, 0, 0, 1⟩] (updG G 0 (some ⟨-1, 0, num, 0, 0, 1⟩)) := by
  refine ⟨?_, fun k q hk h1 h2 => ?_, fun k q hk _ => ?_, ?_, fun j hj => ?_⟩
  · exact Rw.snoc (l := []) ⟨fun k q h => by simp at h⟩ rfl rfl rfl rfl (Int.le_refl 0) (by show (0 : Int) ≤ 5; decide)
  · simp at h2
  · have e : k = 0 := by have := (List.getElem?_eq_some_iff.1 hk).1; simp at this; omega
    subst e
    simp at hk
    subst hk
    exact updG_same _ _
  · rw [updG_other (by omega)]
    exact h.m1
  · simp at hj
    rw [updG_other (by omega)]
    exact h.out j (by simp; omega)
theorem GL.next {d i : Nat} {l : List Nd} {G : Int → Option Nd} (h : GL d l G) (hl : l.length = i + 1) (hd : d ≤ i) {q : Nd} (hq : l[i]? = some q) {cell num : Int} (h5 : 0 ≤ cell) (h6 : cell ≤ 5) :
    GL d (l ++ [⟨(i : Int), cell, num, (i : Int) + 1, 0, 1⟩]) (updG (updG G (i : Int) (some { q with count := q.count + 1 })) ((i : Int) + 1) (some ⟨(i : Int), cell, num, (i : Int) + 1, 0, 1⟩)) := by
  have hqc := (h.rw.at_ i q hq).2.2.2.1
  have len : (l ++ [(⟨(i : Int), cell, num, (i : Int) + 1, 0, 1⟩ : Nd)]).length = i + 2 := by simp; omega
  refine ⟨h.rw.snoc (by simp; omega) (by simp; omega) rfl rfl h5 h6, fun k r hr h1 h2 => ?_, fun k r hr h1 => ?_, ?_, fun j hj => ?_⟩
  · rw [len] at h2
    rw [List.getElem?_append_left (by omega)] at hr
    rw [updG_other (by omega)]
    by_cases e : k = i
    · subst e
      rw [hq] at hr
      injection hr with hr
      subst hr
      rw [updG_same, hqc]
      rfl
    · rw [updG_other (by omega)]
      exact h.hi k r hr h1 (by omega)
  · rw [len] at h1
    by_cases hk : k < l.length
    · rw [List.getElem?_append_left hk] at hr
      rw [updG_other (by omega), updG_other (by omega)]
      exact h.lo k r hr (.inl (by omega))
    · have e : k = i + 1 := by have := (List.getElem?_eq_some_iff.1 hr).1; rw [len] at this; omega
      subst e
      rw [← hl] at hr
      simp at hr
      subst hr
      exact updG_same _ _
  · rw [updG_other (by omega), updG_other (by omega)]
    exact h.m1
  · rw [len] at hj
    rw [updG_other (by omega), updG_other (by omega)]
    exact h.out j (by omega)
/-- One that is held twice is let go once. -/
theorem GL.drop {d : Nat} {l : List Nd} {G : Int → Option Nd} (h : GL d l G) (hd : d + 1 < l.length) (hl : l.length ≤ 100) (f : Nat) :
    ∃ q, G (d : Int) = some q ∧ DropOk (f + 1) G (d : Int) ∧ (dropG (f + 1) G (d : Int)).2 = [] ∧ GL (d + 1) l (dropG (f + 1) G (d : Int)).1 := by
  obtain ⟨q, hq⟩ : ∃ q, l[d]? = some q := ⟨_, List.getElem?_eq_getElem (by omega)⟩
  have hG := h.hi d q hq (Nat.le_refl _) hd
  have hqc := (h.rw.at_ d q hq).2.2.2.1
  refine ⟨two q, hG, .inr ⟨two q, hG, by omega, by omega, by show (1 : Int) ≤ 2; decide, by show (2 : Int) ≤ 1000; decide, .inl (by show (1 : Int) < 2; decide)⟩, ?_, ?_⟩
  · rw [dropG_more (by omega) hG (by show (1 : Int) < 2; decide)]
  · rw [dropG_more (by omega) hG (by show (1 : Int) < 2; decide)]
    have e : ({ two q with count := (two q).count - 1 } : Nd) = q := by
      obtain ⟨p1, p2, p3, p4, p5, p6⟩ := q
      simp only at hqc
      subst hqc
      rfl
    rw [e]
    show GL (d + 1) l (updG G (d : Int) (some q))
    refine ⟨h.rw, fun k r hr h1 h2 => ?_, fun k r hr h1 => ?_, ?_, fun j hj => ?_⟩
    · rw [updG_other (by omega)]
      exact h.hi k r hr (by omega) h2
    · by_cases e2 : k = d
      · subst e2
        rw [hq] at hr
        injection hr with hr
        subst hr
        exact updG_same _ _
      · rw [updG_other (by omega)]
        exact h.lo k r hr (by omega)
    · rw [updG_other (by omega)]
      exact h.m1
    · rw [updG_other (by omega)]
      exact h.out j hj
theorem GL.all {d j : Nat} {l : List Nd} {G : Int → Option Nd} (h : GL d l G) (hl : l.length = j + 1) (hd : j ≤ d) (k : Nat) (hk : k ≤ j) : G (k : Int) = some (ndL l k) := by
  obtain ⟨q, hq⟩ : ∃ q, l[k]? = some q := ⟨_, List.getElem?_eq_getElem (by omega)⟩
  have : ndL l k = q := by unfold ndL; rw [hq]; rfl
  rw [this]
  exact h.lo k q hq (by omega)
theorem map_ndL (l : List Nd) : (List.range l.length).map (ndL l) = l := by
  apply List.ext_getElem?
  intro k
  rw [List.getElem?_map]
  by_cases hk : k < l.length
  · rw [List.getElem?_range hk]
    unfold ndL
    simp [List.getElem?_eq_getElem hk]
  · rw [List.getElem?_eq_none (by simp; omega), List.getElem?_eq_none (by omega)]
    rfl
/-- All are held once: with the last one all go. -/
theorem GL.last {d j : Nat} {l : List Nd} {G : Int → Option Nd} (h : GL d l G) (hl : l.length = j + 1) (hd : j ≤ d) (hj : j ≤ 100) :
    DropOk (j + 1) G (j : Int) ∧ (dropG (j + 1) G (j : Int)).2 = ((List.range (j + 1)).reverse).map (fun k : Nat => ((k : Int), (0 : Int))) := by
  refine ⟨dropOk_lin (nd := ndL l) (fun k => (h.rw.nd k).1) (fun k => (h.rw.nd k).2.2.2) j G (by omega) (fun k hk => h.all hl hd k hk), ?_⟩
  rw [drop_lin (nd := ndL l) (fun k => (h.rw.nd k).1) (fun k => (h.rw.nd k).2.2.2) j G (fun k hk => h.all hl hd k hk)]
  congr 1
  funext k
  rw [(h.rw.nd k).2.1, (h.rw.nd k).2.2.1]
theorem GL.path {d j : Nat} {l : List Nd} {G : Int → Option Nd} (h : GL d l G) (hl : l.length = j + 1) (hd : j ≤ d) (hj : j ≤ 100) :
    PathOk (j + 1) G (j : Int) ∧ pathG (j + 1) G (j : Int) = l.reverse ∧ setsG (pathG (j + 1) G (j : Int)) = setsL l := by
  have e : pathG (j + 1) G (j : Int) = l.reverse := by
    rw [path_lin (nd := ndL l) (fun k => (h.rw.nd k).1) h.m1 j (fun k hk => h.all hl hd k hk), List.map_reverse, ← hl, map_ndL]
  refine ⟨pathOk_lin (nd := ndL l) (fun k => (h.rw.nd k).1) h.m1 j (by omega) (fun k hk => h.all hl hd k hk), e, ?_⟩
  rw [e, sets_both, List.reverse_reverse]
section
variable {w w' : World} {c mb n m : Nat} {nx : Int} {G : Int → Option Nd}
theorem Chn.low {B : Nat} (h : Chn w c mb n m nx G) (hb : Below B w w') (h1 : c < B) (h2 : mb < B) : Chn w' c mb n m nx G := h.blocks (hb.block c h1) (hb.block mb h2)
theorem Sts.bt {n₀ : Nat} {v : Value} {L : List (List Int)} (h : Sts w n₀ v L) (hb : Bt c mb w w') (h1 : c < n₀) (h2 : mb < n₀) : Sts w' n₀ v L := h.blocks (fun k hk hl => hb.block k hl (by omega) (by omega))
theorem Sts.below {n₀ : Nat} {v : Value} {L : List (List Int)} (h : Sts w n₀ v L) (hb : Below w.heap.size w w') : Sts w' n₀ v L := h.blocks (fun k _ hl => hb.block k hl)
/-- One row more, of nothing. -/
theorem sts_more {n₀ : Nat} {v : Value} {L : List (List Int)} (h : Sts w n₀ v L) (hL : L.length ≤ 1000) (hn : n₀ ≤ w.heap.size) :
    ∃ v' w1, (Builtin.append_ #[49, 49] 49 #[v, .slice (some ⟨w.heap.size, 0, none⟩) 1 1]).run Try.prog (w.alloc (.cells #[.slice none 0 0] 46)) = .ok v' w1 ∧ Sts w1 n₀ v' (L ++ [[]]) ∧ Below n₀ w w1 := by
  obtain ⟨i0, hj, hz0, hz1, hz2⟩ := info_parts info46
  obtain ⟨us, hO, hI⟩ := h
  obtain ⟨v', w1, hr, hown, hg, _, _⟩ := run_append_own_at (P := Try.prog) (w.alloc (.cells #[.slice none 0 0] 46)) n₀ 49 49 46 i0 (.slice none 0 0) 1 24 Try.underlying49 hj hz0 hz1 hz2 rfl (by decide) _ _ _ (hO.alloc _) ⟨w.heap.size, 0, none⟩ 1 1 [.slice none 0 0] rfl (one_new w _ 46 _ rfl) (by simp [Value.oneCell']) (by unfold maxLen; omega) (by omega) (by simp; omega)
  refine ⟨v', w1, hr, Sts.more hO hI hown hg, ?_⟩
  have b1 : Below n₀ w (w.alloc (.cells #[.slice none 0 0] 46)) := (Below.refl _ w).alloc hn _
  refine b1.trans ⟨hg.os, hg.tape, hg.output, hg.size, fun k hk => hg.block k (by simp; omega) (fun e => ?_)⟩
  have := (rrow_cells hO e.symm).1
  omega
/-- A row is put one number longer. -/
theorem sts_put {n₀ g cap j : Nat} {L : List (List Int)} {l : List Int} (h : Sts w n₀ (.slice (some ⟨g, 0, none⟩) L.length cap) L) (hl : L[j]? = some l) (hl9 : l.length ≤ 900) (hn : n₀ ≤ w.heap.size) (x : Int) :
    ∃ ad2 cap2 g2 cap3 w1, w.cell? ⟨g, j, none⟩ = some (.slice ad2 l.length cap2) ∧ w.frozen? ⟨g, j, none⟩ = false ∧ g < w.heap.size ∧
      (Builtin.append_ #[46, 46] 46 #[.slice ad2 l.length cap2, .slice (some ⟨w.heap.size, 0, none⟩) 1 1]).run Try.prog (w.drew.alloc (.cells #[.int .i64 x] 3)) = .ok (.slice (some ⟨g2, 0, none⟩) (l.length + 1) cap3) w1 ∧
      w1.cell? ⟨g, j, none⟩ = some (.slice ad2 l.length cap2) ∧ w1.frozen? ⟨g, j, none⟩ = false ∧ Below n₀ w w1 ∧
      Sts (w1.setCell ⟨g, j, none⟩ (.slice (some ⟨g2, 0, none⟩) (l.length + 1) cap3)) n₀ (.slice (some ⟨g, 0, none⟩) L.length cap) (L.set j (l ++ [x])) ∧ Below n₀ w (w1.setCell ⟨g, j, none⟩ (.slice (some ⟨g2, 0, none⟩) (l.length + 1) cap3)) := by
  obtain ⟨i3, hj3, hy0, hy1, hy2⟩ := info_parts info3
  obtain ⟨us, hO, hI⟩ := h
  have hjl := (List.getElem?_eq_some_iff.1 hl).1
  obtain ⟨u, hu⟩ : ∃ u, us[j]? = some u := ⟨_, List.getElem?_eq_getElem (by have := hO.1; omega)⟩
  have hru := hI.at_ j l u hl hu
  obtain ⟨ad2, cap2, rfl, _⟩ := rrow_slice hru
  have cg : w.cell? ⟨g, j, none⟩ = some (.slice ad2 l.length cap2) := (hO.cellAt j (by omega)).trans hu
  have fg := hO.frozenAt j
  have hgb : n₀ ≤ g ∧ g < w.heap.size ∧ ∃ vs fr, w.heap[g]? = some (.cells vs 46 fr) := rrow_cells hO rfl
  have hsz1 : (w.drew.alloc (.cells #[.int .i64 x] 3)).heap.size = w.heap.size + 1 := by rw [World.size_alloc]; rfl
  obtain ⟨u', w1, hrun, hown', hgrow, hnil, hat⟩ := run_append_own_at (P := Try.prog) (w.drew.alloc (.cells #[.int .i64 x] 3)) n₀ 46 46 3 i3 (.int .i64 0) 1 8 Try.underlying46 hj3 hy0 hy1 hy2 rfl (by decide) _ _ _ (hru.drew.alloc _) ⟨w.heap.size, 0, none⟩ 1 1 [.int .i64 x] rfl (one_new w.drew (.int .i64 x) 3 w.heap.size rfl) (by simp [Value.oneCell']) (by unfold maxLen; omega) (by omega) (by omega)
  obtain ⟨g2, cap3, rfl⟩ := ownsRow_succ hown'
  have hown2 : w1.ownsRow n₀ 3 1 (.slice (some ⟨g2, 0, none⟩) (l.length + 1) cap3) (l ++ [x]).length (icells (l ++ [x])) := by
    rw [List.length_append]
    have : icells (l ++ [x]) = icells l ++ [.int .i64 x] := by simp [icells]
    rw [this]
    exact hown'
  have hoth : ∀ k, k < w.heap.size → (Value.slice ad2 l.length cap2).ownBlock ≠ some k → w1.heap[k]? = w.heap[k]? := fun k hk hne =>
    (hgrow.block k (by omega) (fun e => hne e.symm)).trans (Below.heap_alloc w.drew (.cells #[.int .i64 x] 3) k hk)
  have hO1 : w1.ownsRow n₀ 46 1 (.slice (some ⟨g, 0, none⟩) L.length cap) L.length us := rrow_keep (e := 46) hO (fun k hk => hoth k (rrow_cells hO hk).2.1 (row_types hO hru (by decide) hk))
  have hst := Sts.change hO hI hl hu hO1 hown2 hoth (fun k hk => by
    rcases hat with h | h
    · exact .inl (by rw [← h]; exact hk)
    · refine .inr ?_
      rw [h] at hk
      injection hk with hk
      omega)
  have hb1 : Below n₀ w w1 := ⟨hgrow.os, hgrow.tape, hgrow.output, by have := hgrow.size; omega, fun k hk => hoth k (by omega) (fun e => by have := (rrow_cells hru e).1; omega)⟩
  refine ⟨ad2, cap2, g2, cap3, w1, cg, fg, hgb.2.1, hrun, (hO1.cellAt j (by omega)).trans hu, hO1.frozenAt j, hb1, hst, hb1.setCell (by exact hgb.1) _⟩
end
end Go.Proofs.Ytakjpoapjokmbaa
