/-
  The stack that codes are reckoned with: what its two closures leave of it.
-/
import Derived.Test.YtfidnahbhomomaaRa
import Derived.OpenShut
import Derived.Handy
import Derived.WalkLawsBesides
import Derived.BigQuiet
import Derived.IntWalk
import Derived.Lib.Hide
import Derived.Laws.AppendOwn
import Derived.Laws.OwnMore
import Derived.Deep.AppendLies
import Derived.Deep.LoopGhost
import Derived.StillTailTactics
import Derived.Below
namespace Go.Proofs.Ytfidnahbhomomaa
open Go.ChangeShapes Go.WideShapes Go.ChangeAt Go.RowKit
set_option linter.unusedVariables false

def nums (st : List Int) : List Value := st.reverse.map (fun (x : Int) => .int .i64 x)
theorem nums_len (st : List Int) : (nums st).length = st.length := by simp [nums]
theorem nums_cons (v : Int) (st : List Int) : nums (v :: st) = nums st ++ [.int .i64 v] := by simp [nums]

/-- The stack of a reckoning: the row of numbers in a box, and whether all was well in another one. -/
structure Pd (w0 w : World) (bv bs base : Nat) (vv : Value) (st : List Int) (so : Bool) : Prop where
  lv : bv < base
  ls : bs < base
  ne : bv ≠ bs
  bw : base ≤ w.heap.size
  ov : w0.heap.size ≤ bv
  os : w0.heap.size ≤ bs
  cv : w.cell? ⟨bv, 0, none⟩ = some vv
  cs : w.cell? ⟨bs, 0, none⟩ = some (.bool so)
  fv : w.frozen? ⟨bv, 0, none⟩ = false
  fs : w.frozen? ⟨bs, 0, none⟩ = false
  row : w.ownsRow base 2 1 vv st.length (nums st)
  tr : Below w0.heap.size w0 w

theorem pcell_far (w : World) (b c i j : Nat) (u : Value) (h : b ≠ c) : (w.setCell ⟨b, i, none⟩ u).cell? ⟨c, j, none⟩ = w.cell? ⟨c, j, none⟩ :=
  World.cell?_setCell_other _ _ _ _ (fun e => h (by injection e))
theorem prow_keep {w w' : World} {base e size n : Nat} {t : TypeId} {v : Value} {xs : List Value} (h : w.ownsRow base t size v n xs) (hk : ∀ k, v.ownBlock = some k → w'.heap[k]? = w.heap[k]?) : w'.ownsRow base t size v n xs := by
  refine ⟨h.1, ?_⟩
  rcases h.2 with h0 | ⟨g, cap, cur, rfl, hg, hgg, rest⟩
  · exact .inl h0
  · exact .inr ⟨g, cap, cur, rfl, hg, (hk g rfl).trans hgg, rest⟩
theorem prow_lt {w : World} {base size n : Nat} {t : TypeId} {v : Value} {xs : List Value} (h : w.ownsRow base t size v n xs) {k : Nat} (hk : v.ownBlock = some k) : base ≤ k ∧ k < w.heap.size := by
  rcases h.2 with ⟨rfl, _⟩ | ⟨g, cap, cur, rfl, hg, hgg, rest⟩
  · cases hk
  · obtain rfl : g = k := by simpa [Value.ownBlock] using hk
    exact ⟨hg, (Array.getElem?_eq_some_iff.1 hgg).1⟩
theorem prow_slice {w : World} {base size n : Nat} {t : TypeId} {v : Value} {xs : List Value} (h : w.ownsRow base t size v n xs) : ∃ a cap, v = .slice a n cap ∧ (0 < n → ∃ g, a = some ⟨g, 0, none⟩) := by
  rcases h.2 with ⟨rfl, rfl⟩ | ⟨g, cap, cur, rfl, _⟩
  · exact ⟨none, 0, rfl, fun h => absurd h (Nat.lt_irrefl 0)⟩
  · exact ⟨_, _, rfl, fun _ => ⟨g, rfl⟩⟩

section
variable {w0 w w' : World} {bv bs base : Nat} {vv : Value} {st : List Int} {so : Bool}
theorem Pd.lo (h : Pd w0 w bv bs base vv st so) : w0.heap.size ≤ base := by
  have := h.lv
  have := h.ov
  omega
/-- Nothing of it has turned. -/
theorem Pd.keep (h : Pd w0 w bv bs base vv st so) (hb : Below w.heap.size w w') : Pd w0 w' bv bs base vv st so := by
  have h1 := h.lv
  have h2 := h.ls
  have h3 := h.bw
  have h4 := h.lo
  exact ⟨h.lv, h.ls, h.ne, Nat.le_trans h.bw hb.size, h.ov, h.os, (hb.cell (p := ⟨bv, 0, none⟩) (by show bv < _; omega)).trans h.cv, (hb.cell (p := ⟨bs, 0, none⟩) (by show bs < _; omega)).trans h.cs,
    (hb.frozen (p := ⟨bv, 0, none⟩) (by show bv < _; omega)).trans h.fv, (hb.frozen (p := ⟨bs, 0, none⟩) (by show bs < _; omega)).trans h.fs,
    prow_keep (e := 0) h.row (fun k hk => hb.block k (prow_lt h.row hk).2), h.tr.trans (hb.mono (by omega))⟩
theorem Pd.sound (h : Pd w0 w bv bs base vv st so) (b : Bool) : Pd w0 (w.setCell ⟨bs, 0, none⟩ (.bool b)) bv bs base vv st b := by
  have h2 := h.ls
  refine ⟨h.lv, h.ls, h.ne, by simpa using h.bw, h.ov, h.os, (pcell_far _ _ _ _ _ _ h.ne.symm).trans h.cv, World.cell?_setCell_same _ _ _ h.cs, by simpa using h.fv, by simpa using h.fs, ?_, h.tr.setCell (p := ⟨bs, 0, none⟩) h.os _⟩
  exact prow_keep (e := 0) h.row (fun k hk => Below.heap_setCell _ _ _ _ (by have := (prow_lt h.row hk).1; show k ≠ bs; omega))
theorem Pd.value (h : Pd w0 w bv bs base vv st so) {w1 : World} {v' : Value} {st' : List Int} (hg : ∀ k, k < w.heap.size → vv.ownBlock ≠ some k → w1.heap[k]? = w.heap[k]?) (hos : w1.os = w.os ∧ w1.tape = w.tape ∧ w1.output = w.output ∧ w.heap.size ≤ w1.heap.size)
    (ho : w1.ownsRow base 2 1 v' st'.length (nums st')) : Pd w0 (w1.setCell ⟨bv, 0, none⟩ v') bv bs base v' st' so := by
  have h1 := h.lv
  have h2 := h.ls
  have h3 := h.bw
  have h4 := h.lo
  have k1 : w1.heap[bv]? = w.heap[bv]? := hg bv (by omega) (fun e => by have := (prow_lt h.row e).1; omega)
  have k2 : w1.heap[bs]? = w.heap[bs]? := hg bs (by omega) (fun e => by have := (prow_lt h.row e).1; omega)
  refine ⟨h.lv, h.ls, h.ne, by simpa using Nat.le_trans h.bw hos.2.2.2, h.ov, h.os, World.cell?_setCell_same _ _ _ ((World.cell?_of_block (w := w) k1).trans h.cv), ?_, ?_, ?_, ?_, ?_⟩
  · exact (pcell_far _ _ _ _ _ _ h.ne).trans ((World.cell?_of_block (w := w) k2).trans h.cs)
  · simpa using (World.frozen?_of_block (w := w) k1).trans h.fv
  · simpa using (World.frozen?_of_block (w := w) k2).trans h.fs
  · exact prow_keep (e := 0) ho (fun k hk => Below.heap_setCell _ _ _ _ (by have := (prow_lt ho hk).1; show k ≠ bv; omega))
  · have B : Below w0.heap.size w w1 := ⟨hos.1, hos.2.1, hos.2.2.1, hos.2.2.2, fun k hk => hg k (by omega) (fun e => by have := (prow_lt h.row e).1; omega)⟩
    exact (h.tr.trans B).setCell (p := ⟨bv, 0, none⟩) h.ov _
end
theorem info2 : (Try.prog.info? 2).map (fun i => (i.zero, i.size, i.bytes)) = some (some (.int .i64 0), 1, 8) := by kernel_rfl

set_option maxRecDepth 100000 in
set_option maxHeartbeats 1000000 in
theorem Pd.put {w0 w : World} {bv bs base : Nat} {vv : Value} {st : List Int} {so : Bool} (h : Pd w0 w bv bs base vv st so) (hl : st.length ≤ 1000) (v : Int) (ok : Bool) :
    Calls Try.prog 79 #[.int .i64 v, .bool ok, .pointer (some ⟨bv, 0, none⟩), .pointer (some ⟨bs, 0, none⟩)] w fun e w' => e = .returned (.tuple #[]) ∧ ∃ vv', Pd w0 w' bv bs base vv' (v :: st) (so && ok) := by
  obtain ⟨i3, j1, j2, j3, j4⟩ := info_parts info2
  have cv := h.cv
  have cs := h.cs
  have fv := h.fv
  have fs := h.fs
  have ne := h.ne
  have row := h.row
  have bw := h.bw
  have l1 := h.lv
  have l2 := h.ls
  obtain ⟨ao, co, rfl, _⟩ := prow_slice row
  have nb : (Value.slice ao st.length co).ownBlock ≠ some bv := fun e => by have := (prow_lt row e).1; omega
  have nbs : (Value.slice ao st.length co).ownBlock ≠ some bs := fun e => by have := (prow_lt row e).1; omega
  have z0 : base ≤ (w.alloc (.cells #[.int .i64 v] 2)).heap.size := by rw [World.size_alloc]; omega
  have z1 : bv < (w.alloc (.cells #[.int .i64 v] 2)).heap.size := by rw [World.size_alloc]; omega
  have z2 : bs < (w.alloc (.cells #[.int .i64 v] 2)).heap.size := by rw [World.size_alloc]; omega
  have E := Lib.hid h
  clear h
  cases so <;> cases ok
  all_goals
    go_enter Try.func79, Try.ntmps79
    go_wp2_with (at_builtin; go_loud (refine wpList_append_lies _ rfl (.tmp 6) (.tmp 8) 120 rfl base 2 i3 _ 1 8 Try.underlying120 j1 j2 j3 j4 rfl (by decide) (.slice ao st.length co) st.length (nums st) rfl (row.alloc _) ⟨w.heap.size, 0, none⟩ 1 1 [.int .i64 v] rfl rfl (World.news_of_block (cs := #[.int .i64 v]) (t := 2) (fr := (0, 0)) (heap_alloc_new w _)) (by simp [Value.oneCell']) (by decide) (by unfold maxLen; omega) (by omega) z0 (w.heap.size + 1) (World.size_alloc _ _) ?_; intro gg cap2 w1 hown1 hgrow hat hlt; have f1 : w1.frozen? ⟨bv, 0, none⟩ = false := (by rw [hgrow.frozen_far _ z1 (Ne.symm nb)]; exact (frozen?_alloc_cells _ _ _ _).trans fv); have k1 : w1.cell? ⟨bv, 0, none⟩ = some (.slice ao st.length co) := (by rw [hgrow.cell_far _ z1 (Ne.symm nb)]; exact (World.cell?_alloc_lt w _ _ (block_lt_of_cell cv)).trans cv); have f2 : w1.frozen? ⟨bs, 0, none⟩ = false := (by rw [hgrow.frozen_far _ z2 (Ne.symm nbs)]; exact (frozen?_alloc_cells _ _ _ _).trans fs); have k2 := (hgrow.cell_far ⟨bs, 0, none⟩ z2 (Ne.symm nbs)).trans ((World.cell?_alloc_lt w _ _ (block_lt_of_cell cs)).trans cs)))
    go_end0
    exact ⟨rfl, _, (E.out.value (v' := .slice (some ⟨gg, 0, none⟩) (st.length + 1) cap2) (st' := v :: st) (fun k hk hne => (hgrow.block k (by rw [World.size_alloc]; omega) (fun e => hne e.symm)).trans (Below.heap_alloc w _ k hk)) ⟨hgrow.os, hgrow.tape, hgrow.output, by have := hgrow.size; rw [World.size_alloc] at this; omega⟩ (by rw [nums_cons]; exact hown1)).sound _⟩

theorem prow_pop {w : World} {base n cap g : Nat} {xs : List Value} {x : Value} (h : w.ownsRow base 2 1 (.slice (some ⟨g, 0, none⟩) (n + 1) cap) (n + 1) (xs ++ [x])) : w.ownsRow base 2 1 (.slice (some ⟨g, 0, none⟩) n cap) n xs := by
  have hl := h.1
  simp at hl
  refine ⟨by omega, ?_⟩
  rcases h.2 with ⟨e, _⟩ | ⟨g', cap', cur, e, hg, hgg, hn, hm, hc, ht⟩
  · cases e
  · cases e
    refine .inr ⟨g, cap, cur, rfl, hg, hgg, by omega, hm, hc, ?_⟩
    have t1 : (cur.toList.take ((n + 1) * 1)).take n = (xs ++ [x]).take n := by rw [ht]
    rw [List.take_take, Nat.min_eq_left (by omega)] at t1
    rw [Nat.mul_one, t1, List.take_append_of_le_length (by omega), List.take_of_length_le (by omega)]
set_option maxRecDepth 100000 in
set_option maxHeartbeats 1000000 in
theorem Pd.take {w0 w : World} {bv bs base : Nat} {vv : Value} {st : List Int} {so : Bool} {v : Int} (h : Pd w0 w bv bs base vv (v :: st) so) (hl : st.length ≤ 1000) :
    Calls Try.prog 80 #[.pointer (some ⟨bv, 0, none⟩), .pointer (some ⟨bs, 0, none⟩)] w fun e w' => e = .returned (.int .i64 v) ∧ ∃ vv', Pd w0 w' bv bs base vv' st so := by
  have cv := h.cv
  have fv := h.fv
  have row := h.row
  rw [nums_cons] at row
  obtain ⟨ao, co, rfl, so'⟩ := prow_slice row
  obtain ⟨g, rfl⟩ := so' (by simp)
  have hc : st.length + 1 ≤ co := by
    rcases row.2 with ⟨e, _⟩ | ⟨g', cap', cur, e, hg, hgg, hn, hm, hc, ht⟩
    · cases e
    · cases e
      exact hn
  have hm : co ≤ maxLen := by
    rcases row.2 with ⟨e, _⟩ | ⟨g', cap', cur, e, hg, hgg, hn, hm, hc, ht⟩
    · cases e
    · cases e
      exact hm
  have z : w.cell? ⟨g, st.length, none⟩ = some (.int .i64 v) := by
    refine (row.cellAt st.length (by simp)).trans ?_
    rw [List.getElem?_append_right (by rw [nums_len]; exact Nat.le_refl _), nums_len]
    simp
  have row2 := prow_pop row
  have E := Lib.hid (And.intro h row2)
  rw [List.length_cons] at cv
  unfold maxLen at hm
  have e1 : IntKind.i64.wrap (((st.length + 1 : Nat) : Int) - 1) = ((st.length : Nat) : Int) := by
    rw [show ((st.length + 1 : Nat) : Int) - 1 = ((st.length : Nat) : Int) from by omega]
    exact IntWalk.i64_in _ (by omega)
  clear h row row2 so'
  generalize hn : st.length = n at *
  have HN := Lib.hid hn
  clear hn
  have hz : (((n : Nat) : Int) + 1 == 0) = false := by simp; omega
  go_enter Try.func80, Try.ntmps80
  go_wp2
  go_ret
  exact ⟨rfl, _, E.out.1.value (v' := .slice (some ⟨g, 0, none⟩) n co) (st' := st) (fun k _ _ => rfl) ⟨rfl, rfl, rfl, Nat.le_refl _⟩ (by rw [HN.out]; exact E.out.2)⟩
theorem Pd.take_none {w0 w : World} {bv bs base : Nat} {vv : Value} {so : Bool} (h : Pd w0 w bv bs base vv [] so) :
    Calls Try.prog 80 #[.pointer (some ⟨bv, 0, none⟩), .pointer (some ⟨bs, 0, none⟩)] w fun e w' => e = .returned (.int .i64 0) ∧ Pd w0 w' bv bs base vv [] false := by
  have cv := h.cv
  have cs := h.cs
  have fs := h.fs
  obtain ⟨ao, co, rfl, _⟩ := prow_slice h.row
  have E := Lib.hid h
  rw [List.length_nil] at cv
  clear h
  go_enter Try.func80, Try.ntmps80
  go_wp2
  go_ret
  exact ⟨rfl, E.out.sound false⟩
end Go.Proofs.Ytfidnahbhomomaa
