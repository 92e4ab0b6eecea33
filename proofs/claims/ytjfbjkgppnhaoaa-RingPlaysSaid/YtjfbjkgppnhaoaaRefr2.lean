/-
  The ring of the document's own answer, in memory: its Drop, and a Put that puts.
-/
import Derived.Test.YtjfbjkgppnhaoaaRefr
namespace Go.Proofs.Ytjfbjkgppnhaoaa
open Go.ChangeShapes Go.WideShapes Go.ChangeAt Go.RowKit
set_option linter.unusedVariables false

theorem RefAt.cap {w : World} {base rr N L n : Nat} {ad : Option Addr} {cap : Nat} {l : List (Int × Int)} (h : RefAt w base rr N L (.slice ad n cap) n l) : n ≤ cap ∧ cap ≤ maxLen := by
  rcases h.row.2 with ⟨e, e2⟩ | ⟨g, c, cur, e, _, _, h1, h2, _⟩
  · injection e with _ _ e3
    subst e3
    subst e2
    exact ⟨Nat.le_refl _, Nat.zero_le _⟩
  · injection e with _ _ e3
    subst e3
    exact ⟨h1, h2⟩
theorem row_base {w : World} {b b' n : Nat} {v : Value} {xs : List Value} (h : w.ownsRow b 77 2 v n xs) (hb : b' ≤ b) : w.ownsRow b' 77 2 v n xs := by
  refine ⟨h.1, ?_⟩
  rcases h.2 with h0 | ⟨g, cap, cur, rfl, hg, rest⟩
  · exact .inl h0
  · exact .inr ⟨g, cap, cur, rfl, Nat.le_trans hb hg, rest⟩
theorem Near.of_below {r : Nat} {w W : World} (hb : Below w.heap.size w W) : Near r r w W := ⟨hb.os, hb.tape, hb.output, hb.size, fun i hi _ _ => hb.block i hi⟩
theorem RefAt.row_set {w W : World} {base rr N L n n' : Nat} {v v' : Value} {l l' : List (Int × Int)} (h : RefAt w base rr N L v n l) (hb : Below w.heap.size w W) (hr : W.ownsRow w.heap.size 77 2 v' n' (icells l')) (hn : l'.length = n') (hB : base ≤ w.heap.size) :
    RefAt (W.setCell ⟨rr, 2, none⟩ v') base rr N L v' n' l' ∧ Near rr rr w (W.setCell ⟨rr, 2, none⟩ v') := by
  have q0 : rr < w.heap.size := block_lt_of_cell h.c0
  have off : ∀ (j : Nat), 2 ≠ j → (W.setCell ⟨rr, 2, none⟩ v').cell? ⟨rr, j, none⟩ = W.cell? ⟨rr, j, none⟩ := fun j hij => World.cell?_setCell_other _ _ _ _ (fun e => hij (by injection e))
  refine ⟨⟨(off 0 (by decide)).trans ((hb.cell (p := ⟨rr, 0, none⟩) q0).trans h.c0), (off 1 (by decide)).trans ((hb.cell (p := ⟨rr, 1, none⟩) q0).trans h.c1), World.cell?_setCell_same _ _ _ ((hb.cell (p := ⟨rr, 2, none⟩) q0).trans h.c2), by rw [World.frozen?_setCell]; exact (hb.frozen (p := ⟨rr, 1, none⟩) q0).trans h.f1, by rw [World.frozen?_setCell]; exact (hb.frozen (p := ⟨rr, 2, none⟩) q0).trans h.f2, ?_, hn, h.lt⟩, (Near.of_below hb).setCell (p := ⟨rr, 2, none⟩) (Or.inl rfl) _⟩
  have hr' := row_base hr hB
  exact prow_keep (e := 0) hr' (fun k hk => by
    have := (prow_lt hr' hk).1
    have := h.lt
    have hne : k ≠ rr := by omega
    exact Go.heap_setCell_other _ _ _ _ hne)
theorem RefAt.lows {w : World} {base rr N L n : Nat} {v : Value} {l : List (Int × Int)} (h : RefAt w base rr N L v n l) : RefAt (w.setCell ⟨rr, 1, none⟩ (.int .i64 ((L + 1 : Nat) : Int))) base rr N (L + 1) v n l := by
  have off : ∀ (j : Nat), 1 ≠ j → (w.setCell ⟨rr, 1, none⟩ (.int .i64 ((L + 1 : Nat) : Int))).cell? ⟨rr, j, none⟩ = w.cell? ⟨rr, j, none⟩ := fun j hij => World.cell?_setCell_other _ _ _ _ (fun e => hij (by injection e))
  refine ⟨(off 0 (by decide)).trans h.c0, World.cell?_setCell_same _ _ _ h.c1, (off 2 (by decide)).trans h.c2, by rw [World.frozen?_setCell]; exact h.f1, by rw [World.frozen?_setCell]; exact h.f2, ?_, h.len, h.lt⟩
  exact prow_keep (e := 0) h.row (fun k hk => by
    have := (prow_lt h.row hk).1
    have := h.lt
    have hne : k ≠ rr := by omega
    exact Go.heap_setCell_other _ _ _ _ hne)
set_option maxRecDepth 100000 in
theorem ref_drop_nil {w : World} {base rr N L : Nat} {v : Value} (h : RefAt w base rr N L v 0 []) :
    Calls Try.prog 28 #[.pointer (some ⟨rr, 0, none⟩)] w fun e w' => e = .returned (.tuple #[.int .i64 0, .bool false]) ∧ ∃ d, w' = w.drewN d := by
  obtain ⟨ad, cap, rfl, _⟩ := row_slice h.row
  have c2 := h.c2
  clear h
  go_enter Try.func28, Try.ntmps28
  go_wp2_with fail
  go_quiet (fail)
  go_wp2_with fail
  go_ret2
  exact ⟨rfl, _, rfl⟩
set_option maxRecDepth 100000 in
theorem ref_drop_no {w : World} {base rr N L n : Nat} {v : Value} {l : List (Int × Int)} (h : RefAt w base rr N L v n l) {q : Int × Int} (hq : l[0]? = some q) (hL : q.1 ≠ (L : Int)) (hn : n ≤ 1000) :
    Calls Try.prog 28 #[.pointer (some ⟨rr, 0, none⟩)] w fun e w' => e = .returned (.tuple #[.int .i64 0, .bool false]) ∧ ∃ d, w' = w.drewN d := by
  have hpn : 0 < n := by have := (List.getElem?_eq_some_iff.1 hq).1; have := h.len; omega
  obtain ⟨ad, cap, rfl, _⟩ := row_slice h.row
  obtain ⟨g, q', rfl, hq', x0, x1⟩ := h.at hpn
  obtain rfl : q = q' := by rw [hq] at hq'; exact Option.some.inj hq'
  have c1 := h.c1
  have c2 := h.c2
  have t1 : (q.1 == (L : Int)) = false := by simpa using hL
  have t2 : ((n : Int) == 0) = false := by simp; omega
  have t3 : (n == 0) = false := by simp; omega
  have t4 : (0 : Int) < (n : Int) := by omega
  simp only [Nat.zero_mul] at x0
  clear h hq hq' x1
  generalize q.1 = y at *
  go_enter Try.func28, Try.ntmps28
  go_wp2_with fail
  go_quiet (fail)
  go_wp2_with fail
  go_ret2
  exact ⟨rfl, _, rfl⟩
set_option maxRecDepth 100000 in
set_option maxHeartbeats 4000000 in
theorem ref_drop_yes {w : World} {base rr N L n : Nat} {v : Value} {l : List (Int × Int)} {x : Int} (h : RefAt w base rr N L v (n + 1) (((L : Int), x) :: l)) (hn : n ≤ 1000) (hL : L ≤ 1000) (hb : base ≤ w.heap.size) :
    Calls Try.prog 28 #[.pointer (some ⟨rr, 0, none⟩)] w fun e w' => e = .returned (.tuple #[.int .i64 x, .bool true]) ∧ (∃ v', RefAt w' base rr N (L + 1) v' n l) ∧ Near rr rr w w' := by
  obtain ⟨ad, cap, rfl, _⟩ := row_slice h.row
  obtain ⟨g, q', rfl, hq', x0, x1⟩ := h.at (j := 0) (by omega)
  obtain rfl : ((L : Int), x) = q' := by simpa using hq'
  have c1 := h.c1
  have c2 := h.c2
  have f1 := h.f1
  have f2 := h.f2
  have t1 : ((L : Int) == (L : Int)) = true := by simp
  have t2 : (((n + 1 : Nat) : Int) == 0) = false := by simp; omega
  have t3 : (n + 1 == 0) = false := by simp
  have t4 : (0 : Int) < ((n + 1 : Nat) : Int) := by omega
  simp only [Nat.zero_mul, Nat.zero_add] at x0 x1
  have k1 := h.cap.1
  have k2 : cap ≤ 9223372036854775807 := by have := h.cap.2; unfold maxLen at this; omega
  have H := Lib.hid h
  have HL := Lib.hid (And.intro hb hL)
  clear h hq' f1 f2 hb hL
  go_enter Try.func28, Try.ntmps28
  go_wp2_with fail
  go_quiet (fail)
  have HW := Lib.hid (H.out.drewN nq)
  have NW := Lib.hid (Near.drewN (r := rr) (pb := rr) (w := w) nq)
  have c1 := HW.out.c1
  have c2 := HW.out.c2
  have x1 : (w.drewN nq).cell? ⟨g, 1, none⟩ = some (.int .i64 x) := x1
  have HB := Lib.hid (show base ≤ (w.drewN nq).heap.size ∧ L ≤ 1000 from HL.out)
  clear H HL
  generalize w.drewN nq = W at *
  have q0 : rr < W.heap.size := block_lt_of_cell c1
  have c2a : (W.alloc (.cells #[] 77)).cell? ⟨rr, 2, none⟩ = some (.slice (some ⟨g, 0, none⟩) (n + 1) cap) := (World.cell?_alloc_lt W _ _ q0).trans c2
  have I0 := IRow.empty W
  have hrow := HW.out.row
  have hn2 := HW.out.len
  simp only [List.length_cons] at hn2
  obtain ⟨v6, W6, r6, i6, g6⟩ := I0.app_src (m := l) (if cap = 1 then ⟨g, 0, none⟩ else ⟨g, 2, none⟩) n (cap - 1) (by omega) (fun j u hu => by
    have hlen := icells_len l
    have hj := (List.getElem?_eq_some_iff.1 hu).1
    rw [if_neg (by omega), Go.WideShapes.add_plain]
    have e := hrow.cellAt (2 + j) (by omega)
    refine ((World.cell?_alloc_lt W _ _ (show g < W.heap.size from block_lt_of_cell x1)).trans e).trans ?_
    rw [show 2 + j = j + 1 + 1 from by omega]
    exact hu) (by simp; omega)
  have eif : some (if cap = 1 then (⟨g, 0, none⟩ : Addr) else ⟨g, 2, none⟩) = if cap = 1 then some ⟨g, 0, none⟩ else some ⟨g, 2, none⟩ := by split <;> rfl
  rw [eif] at r6
  clear eif hn2
  rw [List.nil_append] at i6
  obtain ⟨a6, k6, rfl, _⟩ := row_slice i6.row
  have c2b := (i6.bel.cell (p := ⟨rr, 2, none⟩) q0).trans c2
  have c1b := (i6.bel.cell (p := ⟨rr, 1, none⟩) q0).trans c1
  have f1b := (i6.bel.frozen (p := ⟨rr, 1, none⟩) q0).trans HW.out.f1
  have f2b := (i6.bel.frozen (p := ⟨rr, 2, none⟩) q0).trans HW.out.f2
  have ew : wrap64 ((L : Int) + 1) = (L : Int) + 1 := by have := HB.out.2; unfold wrap64; omega
  have R6 := Lib.hid r6
  have I6 := Lib.hid i6
  clear r6 i6 g6 I0 hrow
  go_wp2_with (at_builtin; refine wpList_append_runR rfl _ _ _ rfl rfl rfl R6.out ?_)
  all_goals
    go_ret2
    have hn1 := HW.out.len
    simp only [List.length_cons] at hn1
    have R := HW.out.row_set (n' := n) I6.out.bel (by rw [show n = l.length from by omega]; exact I6.out.row) (by omega) HB.out.1
    exact ⟨rfl, ⟨_, by first | exact R.1.lows | (rw [show n = l.length from by omega] at *; exact R.1.lows)⟩, (NW.out.trans R.2).setCell (p := ⟨rr, 1, none⟩) (Or.inl rfl) _⟩
end Go.Proofs.Ytjfbjkgppnhaoaa
