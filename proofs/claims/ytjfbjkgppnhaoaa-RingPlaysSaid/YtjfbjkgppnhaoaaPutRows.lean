/-
  What a Put of the document's own ring makes of its row: three appends.
-/
import Derived.Test.YtjfbjkgppnhaoaaRefr2
namespace Go.Proofs.Ytjfbjkgppnhaoaa
open Go.ChangeShapes Go.WideShapes Go.ChangeAt Go.RowKit
set_option linter.unusedVariables false

theorem IRow.app_row {W w : World} {v v2 : Value} {l m : List (Int × Int)} {b2 n2 : Nat} (h : IRow W w v l) (h2 : w.ownsRow b2 77 2 v2 n2 (icells m)) (hn : m.length = n2) (hl : l.length + m.length ≤ 1000) :
    ∃ v' w', (Builtin.append_ #[62, 62] 62 #[v, v2]).run Try.prog w = .ok v' w' ∧ IRow W w' v' (l ++ m) := by
  rcases h2.2 with ⟨rfl, hz⟩ | ⟨g, cap, cur, rfl, hg, hgg, hc, hm, hcs, htk⟩
  · have hm0 : m = [] := List.length_eq_zero_iff.1 (by omega)
    subst hm0
    exact ⟨v, w, h.app_none, by simpa using h⟩
  · obtain ⟨v', w', hr, hi, _⟩ := h.app_src ⟨g, 0, none⟩ n2 cap hn (h2.cells rfl) hl
    exact ⟨v', w', hr, hi⟩
theorem put_rows {W : World} {g cap n j b : Nat} {l : List (Int × Int)} (a x : Int) (hrow : W.ownsRow b 77 2 (.slice (some ⟨g, 0, none⟩) n cap) n (icells l)) (hl : l.length = n) (hj : j ≤ n) (hc : n ≤ cap) (hn : n ≤ 900) :
    ∃ v6 W6 v7 W7 v8 W8, (Builtin.append_ #[62, 62] 62 #[.slice (some ⟨W.heap.size, 0, none⟩) 0 0, .slice (if cap = j then some ⟨g, 0, none⟩ else some ⟨g, j * 2, none⟩) (n - j) (cap - j)]).run Try.prog (W.alloc (.cells #[] 77)) = .ok v6 W6 ∧
      (Builtin.append_ #[62, 62] 62 #[.slice (some ⟨g, 0, none⟩) j j, .slice (some ⟨W6.heap.size, 0, none⟩) 1 1]).run Try.prog (W6.alloc (.cells #[.int .i64 a, .int .i64 x] 77)) = .ok v7 W7 ∧
      (Builtin.append_ #[62, 62] 62 #[v7, v6]).run Try.prog W7 = .ok v8 W8 ∧ Below W.heap.size W W6 ∧ Below W.heap.size W W8 ∧ W8.ownsRow W.heap.size 77 2 v8 (n + 1) (icells (l.take j ++ (a, x) :: l.drop j)) := by
  have glt : g < W.heap.size := (prow_lt hrow (k := g) rfl).2
  have cells : ∀ k, k < n * 2 → W.cell? ⟨g, k, none⟩ = (icells l)[k]? := fun k hk => hrow.cellAt k hk
  have hlen := icells_len l
  obtain ⟨v6, W6, r6, i6, _⟩ := (IRow.empty W).app_src (m := l.drop j) (if cap = j then ⟨g, 0, none⟩ else ⟨g, j * 2, none⟩) (n - j) (cap - j) (by rw [List.length_drop]; omega) (fun k u hu => by
    rw [← icells_drop, List.getElem?_drop] at hu
    have hk := (List.getElem?_eq_some_iff.1 hu).1
    rw [if_neg (by omega), Go.WideShapes.add_plain]
    exact ((World.cell?_alloc_lt W _ _ glt).trans (cells (j * 2 + k) (by omega))).trans hu) (by simp; omega)
  rw [List.nil_append] at i6
  have eif : some (if cap = j then (⟨g, 0, none⟩ : Addr) else ⟨g, j * 2, none⟩) = if cap = j then some ⟨g, 0, none⟩ else some ⟨g, j * 2, none⟩ := by split <;> rfl
  rw [eif] at r6
  have htl : (l.take j).length = j := by rw [List.length_take]; omega
  have g6 : g < W6.heap.size := Nat.lt_of_lt_of_le glt i6.bel.size
  have b7 : Below W.heap.size W (W6.alloc (.cells #[.int .i64 a, .int .i64 x] 77)) := i6.bel.alloc i6.bel.size _
  obtain ⟨v7, W7, r7, i7⟩ := cut_grow (w := W6.alloc (.cells #[.int .i64 a, .int .i64 x] 77)) (g := g) (m := [(a, x)]) htl (fun k u hu => by
    rw [← icells_take] at hu
    have hk := (List.getElem?_eq_some_iff.1 hu).1
    rw [List.length_take] at hk
    rw [List.getElem?_take_of_lt (by omega)] at hu
    rw [Go.WideShapes.add_plain, Nat.zero_add]
    exact ((b7.cell (p := ⟨g, k, none⟩) glt).trans (cells k (by omega))).trans hu) ⟨W6.heap.size, 0, none⟩ 1 1 rfl (Nat.le_refl _) (two_new W6 _ _ 77 W6.heap.size rfl) (by omega)
  have row6 : W7.ownsRow W.heap.size 77 2 v6 (l.drop j).length (icells (l.drop j)) := prow_keep (e := 0) (i6.row.alloc (.cells #[.int .i64 a, .int .i64 x] 77)) (fun q hq => i7.bel.block q (prow_lt (i6.row.alloc _) hq).2)
  obtain ⟨v8, W8, r8, i8⟩ := i7.app_row row6 rfl (by simp; omega)
  refine ⟨v6, W6, v7, W7, v8, W8, r6, r7, r8, i6.bel, b7.trans (i8.bel.mono b7.size), ?_⟩
  have row8 := row_base i8.row (Nat.le_trans i6.bel.size (by rw [World.size_alloc]; omega) : W.heap.size ≤ (W6.alloc (.cells #[.int .i64 a, .int .i64 x] 77)).heap.size)
  have e8 : l.take j ++ [(a, x)] ++ l.drop j = l.take j ++ (a, x) :: l.drop j := by simp
  rw [e8] at row8
  have en : (l.take j ++ (a, x) :: l.drop j).length = n + 1 := by simp; omega
  rw [en] at row8
  exact row8
theorem put_rows_nil {W : World} (a x : Int) :
    ∃ v7 W7 v8 W8, (Builtin.append_ #[62, 62] 62 #[.slice (some ⟨W.heap.size, 0, none⟩) 0 0, .slice none 0 0]).run Try.prog (W.alloc (.cells #[] 77)) = .ok (.slice (some ⟨W.heap.size, 0, none⟩) 0 0) (W.alloc (.cells #[] 77)) ∧
      (Builtin.append_ #[62, 62] 62 #[.slice none 0 0, .slice (some ⟨W.heap.size + 1, 0, none⟩) 1 1]).run Try.prog ((W.alloc (.cells #[] 77)).alloc (.cells #[.int .i64 a, .int .i64 x] 77)) = .ok v7 W7 ∧
      (Builtin.append_ #[62, 62] 62 #[v7, .slice (some ⟨W.heap.size, 0, none⟩) 0 0]).run Try.prog W7 = .ok v8 W8 ∧ Below W.heap.size W W8 ∧ W8.ownsRow W.heap.size 77 2 v8 1 (icells [(a, x)]) := by
  have I0 := IRow.empty W
  have b7 : Below W.heap.size W ((W.alloc (.cells #[] 77)).alloc (.cells #[.int .i64 a, .int .i64 x] 77)) := I0.bel.alloc I0.bel.size _
  have ez : W.heap.size + 1 = (W.alloc (.cells #[] 77)).heap.size := (World.size_alloc _ _).symm
  have N : IRow ((W.alloc (.cells #[] 77)).alloc (.cells #[.int .i64 a, .int .i64 x] 77)) ((W.alloc (.cells #[] 77)).alloc (.cells #[.int .i64 a, .int .i64 x] 77)) (.slice none 0 0) [] := ⟨World.ownsRow_nil _ _ _ _, Below.refl _ _⟩
  obtain ⟨v7, W7, r7, i7, _⟩ := N.app_src (m := [(a, x)]) ⟨W.heap.size + 1, 0, none⟩ 1 1 rfl (two_new (W.alloc (.cells #[] 77)) _ _ 77 _ ez) (by simp)
  rw [List.nil_append] at i7
  obtain ⟨v8, W8, r8, i8, _⟩ := i7.app_src (m := []) ⟨W.heap.size, 0, none⟩ 0 0 rfl (fun j u hu => by simp [icells] at hu) (by simp)
  refine ⟨v7, W7, v8, W8, I0.app_none, r7, r8, b7.trans (i8.bel.mono b7.size), ?_⟩
  have row8 := row_base i8.row (b7.size : W.heap.size ≤ ((W.alloc (.cells #[] 77)).alloc (.cells #[.int .i64 a, .int .i64 x] 77)).heap.size)
  exact row8
end Go.Proofs.Ytjfbjkgppnhaoaa
