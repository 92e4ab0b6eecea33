/-
  The document's End, of layer 15: a contract for the walks.
-/
import Derived.Test.YtbpcocobimdcnaaRw2
namespace Go.Proofs.Ytbpcocobimdcnaa
open Go.ChangeShapes Go.WideShapes Go.ChangeAt Go.RowKit
set_option linter.unusedVariables false

def EV.ended (e : EV) (at_ : Int) : EV := ⟨e.id, at_, e.cs, e.win, e.o⟩
theorem ecells_till : ∀ (l : List EV) (i : Nat) (e : EV) (at_ : Int), l[i]? = some e → (ecells l).set (i * 5 + 1) (.int .i64 at_) = ecells (l.set i (e.ended at_))
  | [], i, e, at_, h => by simp at h
  | q :: l, 0, e, at_, h => by
    simp at h
    subst h
    rfl
  | q :: l, i + 1, e, at_, h => by
    have ih := ecells_till l i e at_ (by simpa using h)
    rw [show (i + 1) * 5 + 1 = (i * 5 + 1) + 5 by omega]
    simp only [ecells, EV.cells, List.cons_append, List.nil_append, List.set_cons_succ, ih]
theorem rend_mem {w : World} {v : Value} {l : List EV} {i : Nat} {e : EV} {at_ : Int} (h : ERow w v l) (ht : TabsAt w l) (he : l[i]? = some e) :
    ∃ g c w4, (Builtin.append_ #[25, 25] 25 #[.slice (some ⟨w.heap.size + 1, 0, none⟩) 0 0, v]).run Try.prog ((w.alloc (.cells #[.slice none 0 0, .bool false] 33)).alloc (.cells #[] 48)) = .ok (.slice (some ⟨g, 0, none⟩) l.length c) w4 ∧
      (∃ u, w4.cell? ⟨g, i * 5 + 1, none⟩ = some u) ∧ w4.frozen? ⟨g, i * 5 + 1, none⟩ = false ∧ g ≠ w.heap.size ∧
      (w4.cell? ⟨w.heap.size, 0, none⟩ = some (.slice none 0 0) ∧ w4.cell? ⟨w.heap.size, 1, none⟩ = some (.bool false) ∧ w4.frozen? ⟨w.heap.size, 0, none⟩ = false ∧ w4.frozen? ⟨w.heap.size, 1, none⟩ = false) ∧
        ∀ W', Turn (fun b => b = w.heap.size) (w4.setCell ⟨g, i * 5 + 1, none⟩ (.int .i64 at_)) W' → ERow W' (.slice (some ⟨g, 0, none⟩) l.length c) (l.set i (e.ended at_)) ∧ Turn (fun _ => False) w W' := by
  have T1 : Turn (fun _ => False) w (w.alloc (.cells #[.slice none 0 0, .bool false] 33)) := (Turn.refl _ w).alloc _
  have z1 : (w.alloc (.cells #[.slice none 0 0, .bool false] 33)).heap.size = w.heap.size + 1 := by simp
  have p0 := World.cell?_alloc_new w #[.slice none 0 0, .bool false] 33
  have f0 : ∀ j, (w.alloc (.cells #[.slice none 0 0, .bool false] 33)).frozen? ⟨w.heap.size, j, none⟩ = false := fun j => by rw [frozen?_alloc_cells]; exact fz _ (Nat.le_refl _)
  generalize w.alloc (.cells #[.slice none 0 0, .bool false] 33) = w1 at *
  obtain ⟨a, c, w4, hrun, hown, T4⟩ := copy_run (h.turn T1) (ht.turn T1) z1.symm
  rw [z1] at hown
  have hil := (List.getElem?_eq_some_iff.1 he).1
  have hs := T4.size
  obtain ⟨g, rfl⟩ : ∃ g, a = some ⟨g, 0, none⟩ := by
    obtain ⟨a', c', e1, h2⟩ := own_slice hown
    cases e1
    exact h2 (by omega)
  have hgb : w.heap.size + 1 ≤ g := (hown.lt g rfl).1
  refine ⟨g, c, w4, hrun, ⟨_, (hown.cellAt (i * 5 + 1) (by omega)).trans (ecells_at l i e he).2.1⟩, hown.frozenAt _, by omega, ⟨?_, ?_, ?_, ?_⟩, fun W' t => ?_⟩
  · exact T4.cell (fun f => f) (p0 0)
  · exact T4.cell (fun f => f) (p0 1)
  · exact (World.frozen?_of_block (w := w1) (w' := w4) (a := ⟨w.heap.size, 0, none⟩) (T4.block w.heap.size (by omega) (fun f => f))).trans (f0 0)
  · exact (World.frozen?_of_block (w := w1) (w' := w4) (a := ⟨w.heap.size, 1, none⟩) (T4.block w.heap.size (by omega) (fun f => f))).trans (f0 1)
  · have h5 := (hown.stored (i * 5 + 1) (.int .i64 at_)).1
    rw [ecells_till l i e at_ he] at h5
    have T5 : Turn (fun _ => False) w (w4.setCell ⟨g, i * 5 + 1, none⟩ (.int .i64 at_)) := (T1.trans T4).setCell (.inr (by show w.heap.size ≤ g; omega)) _
    refine ⟨⟨?_, by rw [List.length_set]; exact h.lt⟩, T5.comp t (fun k hk e => by omega)⟩
    rw [List.length_set]
    exact row_low (own_turn h5 t (fun k hk e => by
      have := (h5.lt k hk).1
      omega)) (Nat.zero_le _)
set_option maxRecDepth 100000 in
set_option maxHeartbeats 2000000 in
theorem rEnd_yes {w : World} {v : Value} {l : List EV} {i : Nat} {e : EV} {at_ : Int} (h : ERow w v l) (hs : Sorted l) (ht : TabsAt w l) (he : l[i]? = some e) (hto : e.till = -1) (hat : e.id < at_) :
    Calls Try.prog 10 #[v, .int .i64 e.id, .int .i64 at_] w fun en w' => ∃ v', en = .returned (.agg #[v', .bool true]) ∧ ERow w' v' (l.set i (e.ended at_)) ∧ Turn (fun _ => False) w w' := by
  obtain ⟨g4, c4, w4, hrun4, ⟨u, hu⟩, fu, hne, ⟨d0, d1, k0, k1⟩, hfin⟩ := rend_mem (at_ := at_) h ht he
  have T1 : Turn (fun _ => False) w (w.alloc (.cells #[.slice none 0 0, .bool false] 33)) := (Turn.refl _ w).alloc _
  have FD := Lib.hid (rfind_is (h.turn T1) e.id)
  have hil := (List.getElem?_eq_some_iff.1 he).1
  have hll := h.lt
  obtain ⟨a, c, rfl, hg⟩ := own_slice h.own
  obtain ⟨g, rfl⟩ := hg (by omega)
  have y1 := T1.cell (fun f => f) ((h.own.cellAt (i * 5 + 1) (by omega)).trans (ecells_at l i e he).2.1)
  rw [hto] at y1
  have hi0 : (0 : Int) ≤ (i : Int) := by omega
  have hi1 : (i : Int) < (l.length : Int) := by omega
  have t1 : decide ((i : Int) < 0) = false := decide_eq_false (by omega)
  have t2 : decide (at_ ≤ e.id) = false := decide_eq_false (by omega)
  have UQ := Lib.hid (show ∀ z, FoundAt l e.id z → z = (i : Int) from fun z hz => by
    rcases hz with ⟨_, hno⟩ | ⟨j, e', rfl, hj, hid⟩
    · exact absurd rfl (hno e (List.mem_of_getElem? he))
    · rcases Nat.lt_trichotomy j i with q | q | q
      · have := hs.lt hj he q
        omega
      · rw [q]
      · have := hs.lt he hj q
        omega)
  have RUN4 := Lib.hid hrun4
  have FIN := Lib.hid hfin
  have hne' : w.heap.size ≠ g4 := fun e => hne e.symm
  have e0 := cell_far w4 g4 w.heap.size (i * 5 + 1) 0 (.int .i64 at_) hne
  have e1 := cell_far w4 g4 w.heap.size (i * 5 + 1) 1 (.int .i64 at_) hne
  rw [d0] at e0
  rw [d1] at e1
  clear hrun4 hfin h hs ht he hto hat hg T1
  generalize e.id = eid at *
  go_enter Try.func10, Try.ntmps10
  go_wp2_with fail
  with_reducible refine FD.out.mono ?_
  rintro en w2 ⟨z, rfl, hz, rfl⟩
  obtain rfl := UQ.out z hz
  clear hz UQ FD
  go_wp2_with (refine rl_append_run (by rfl) _ _ _ (by rfl) (by rfl) (by rfl) RUN4.out ?_)
  refine bodyPost_ret (v := .agg #[.slice (some ⟨g4, 0, none⟩) l.length c4, .bool true]) (by simp [results, Try.results10, go_sem, cell_off, e0, e1]) rfl ⟨_, rfl, FIN.out _ ?_⟩
  exact ((Turn.refl (fun b => b = w.heap.size) _).put rfl _).put rfl _
set_option maxRecDepth 100000 in
set_option maxHeartbeats 2000000 in
theorem rEnd_no {w : World} {v : Value} {l : List EV} {x at_ : Int} (h : ERow w v l) (hs : Sorted l) (hx : (∀ e ∈ l, e.id ≠ x) ∨ ∃ e, e ∈ l ∧ e.id = x ∧ (e.till ≠ -1 ∨ at_ ≤ x)) :
    Calls Try.prog 10 #[v, .int .i64 x, .int .i64 at_] w fun en w' => en = .returned (.agg #[v, .bool false]) ∧ Turn (fun _ => False) w w' := by
  have T1 : Turn (fun _ => False) w (w.alloc (.cells #[.slice none 0 0, .bool false] 33)) := (Turn.refl _ w).alloc _
  have FD := Lib.hid (rfind_is (h.turn T1) x)
  have hll := h.lt
  obtain ⟨a, c, rfl, hg⟩ := own_slice h.own
  have HH := Lib.hid (And.intro h (And.intro hs (And.intro hx (And.intro hg T1))))
  clear h hs hx hg T1
  go_enter Try.func10, Try.ntmps10
  go_wp2_with fail
  with_reducible refine FD.out.mono ?_
  rintro en w2 ⟨z, rfl, hz, rfl⟩
  rcases hz with ⟨rfl, hno⟩ | ⟨i, e, rfl, he, hid⟩
  · clear hno FD HH
    go_wp2
    refine bodyPost_ret (v := .agg #[.slice a l.length c, .bool false]) (by simp [results, Try.results10, go_sem, cell_off]) rfl ⟨rfl, (Turn.refl _ w).alloc _⟩
  · have hil := (List.getElem?_eq_some_iff.1 he).1
    obtain ⟨g, rfl⟩ := HH.out.2.2.2.1 (by omega)
    have y1 := HH.out.2.2.2.2.cell (fun f => f) ((HH.out.1.own.cellAt (i * 5 + 1) (by omega)).trans (ecells_at l i e he).2.1)
    have hi0 : (0 : Int) ≤ (i : Int) := by omega
    have hi1 : (i : Int) < (l.length : Int) := by omega
    have t1 : decide ((i : Int) < 0) = false := decide_eq_false (by omega)
    have key : e.till ≠ -1 ∨ at_ ≤ x := by
      rcases HH.out.2.2.1 with hno | ⟨e', hm, h2, h3⟩
      · exact absurd hid (hno e (List.mem_of_getElem? he))
      · obtain ⟨j, hj⟩ := List.getElem?_of_mem hm
        have : j = i := by
          rcases Nat.lt_trichotomy j i with q | q | q
          · have := HH.out.2.1.lt hj he q
            omega
          · exact q
          · have := HH.out.2.1.lt he hj q
            omega
        subst this
        rw [he] at hj
        cases hj
        exact h3
    generalize e.till = till at *
    clear he hid FD HH
    by_cases ht : till = -1
    · subst ht
      have t2 : decide (at_ ≤ x) = true := decide_eq_true (key.resolve_left (by simp))
      clear key
      go_wp2
      refine bodyPost_ret (v := .agg #[.slice (some ⟨g, 0, none⟩) l.length c, .bool false]) (by simp [results, Try.results10, go_sem, cell_off]) rfl ⟨rfl, (Turn.refl _ w).alloc _⟩
    · have t2 : (till != -1) = true := by simpa using ht
      clear key ht
      go_wp2
      refine bodyPost_ret (v := .agg #[.slice (some ⟨g, 0, none⟩) l.length c, .bool false]) (by simp [results, Try.results10, go_sem, cell_off]) rfl ⟨rfl, (Turn.refl _ w).alloc _⟩
end Go.Proofs.Ytbpcocobimdcnaa
