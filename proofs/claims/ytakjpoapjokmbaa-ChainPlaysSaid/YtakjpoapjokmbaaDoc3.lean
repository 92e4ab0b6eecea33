/-
  The chain of the document's own answer, in memory: its Keep.
-/
import Derived.Test.YtakjpoapjokmbaaDoc2
namespace Go.Proofs.Ytakjpoapjokmbaa
open Go.ChangeShapes Go.WideShapes Go.ChangeAt Go.RowKit
set_option linter.unusedVariables false

theorem ncells_set : ∀ (l : List No) (k : Nat) (q : No) (x : Int), l[k]? = some q → (ncells l).set (k * 7 + 5) (.int .i64 x) = ncells (l.set k { q with kept := x })
  | [], k, q, x, h => by simp at h
  | r :: l, 0, q, x, h => by
    simp at h
    subst h
    rfl
  | r :: l, k + 1, q, x, h => by
    have h' : l[k]? = some q := by simpa using h
    show (ncell r ++ ncells l).set ((k + 1) * 7 + 5) _ = ncell r ++ ncells (l.set k _)
    rw [List.set_append_right _ _ (by show 7 ≤ _; omega), ← ncells_set l k q x h']
    congr 2
    show (k + 1) * 7 + 5 - 7 = _
    omega
theorem RefC.keepRow {w : World} {base rc g n cap : Nat} {l : List No} (h : RefC w base rc (.slice (some ⟨g, 0, none⟩) n cap) l) {k : Nat} {q : No} (hq : l[k]? = some q) (x : Int) :
    RefC (w.setCell ⟨g, k * 7 + 5, none⟩ (.int .i64 x)) base rc (.slice (some ⟨g, 0, none⟩) n cap) (l.set k { q with kept := x }) ∧ w.frozen? ⟨g, k * 7 + 5, none⟩ = false ∧ base ≤ g := by
  rcases h.row.2 with ⟨e, _⟩ | ⟨g', cap', cur, e, hbg, hgg, hnc, hcm, hcs, htk⟩
  · cases e
  · injection e with e1 e2 e3
    injection e1 with e1
    injection e1 with e1
    subst e1
    subst e3
    have hlt := h.lt
    have hne : rc ≠ g := by omega
    have hk := (List.getElem?_eq_some_iff.1 hq).1
    refine ⟨⟨?_, by rw [World.frozen?_setCell]; exact h.f0, ?_, h.lt, by rw [List.length_set]; exact h.few⟩, ?_, hbg⟩
    · exact (World.cell?_setCell_other _ _ _ _ (fun e => hne (by injection e with e; exact e.symm))).trans h.c0
    · rw [List.length_set]
      refine ⟨by rw [ncells_len, List.length_set], .inr ⟨g, cap, _, by rw [e2], hbg, Go.heap_setCell_same w g _ cur 41 _ hgg, hnc, hcm, ?_, ?_⟩⟩
      · simpa using hcs
      · rw [← ncells_set l k q x hq, ← htk]
        simp [List.take_set]
    · unfold World.frozen?
      rw [hgg]
      simp
set_option maxRecDepth 100000 in
theorem dkeep_no {w : World} {base rc : Nat} {v : Value} {l : List No} (h : RefC w base rc v l) {i : Int} (hi : isL l i = false) :
    Calls Try.prog 23 #[.pointer (some ⟨rc, 0, none⟩), .int .i64 i] w fun e w' => e = .returned (.bool false) ∧ w = w' := by
  have I := is_at h i
  rw [hi] at I
  have I := Lib.hid I
  clear h hi
  go_enter Try.func23, Try.ntmps23
  go_wp2_with fail
  refine I.out.mono ?_
  rintro e w1 ⟨rfl, rfl⟩
  go_wp2_with fail
  go_ret
  exact ⟨rfl, rfl⟩
set_option maxRecDepth 100000 in
theorem dkeep_yes {w : World} {base rc : Nat} {v : Value} {l : List No} (h : RefC w base rc v l) {k : Nat} {q : No} (hq : l[k]? = some q) (hg : q.gone = false) (hb : -100000 ≤ q.kept ∧ q.kept ≤ 100000) (hB : base ≤ w.heap.size) :
    Calls Try.prog 23 #[.pointer (some ⟨rc, 0, none⟩), .int .i64 (k : Int)] w fun e w' => e = .returned (.bool true) ∧ RefC w' base rc v (l.set k { q with kept := q.kept + 1 }) ∧ Below base w w' := by
  have I := is_at h (k : Int)
  rw [isL_at hq, hg] at I
  have I := Lib.hid I
  obtain ⟨ad, cap, rfl⟩ := h.shape
  have c0 := h.c0
  obtain ⟨g, rfl, _, hc⟩ := h.at hq
  have c5 : w.cell? ⟨g, k * 7 + 5, none⟩ = some (.int .i64 q.kept) := hc 5 (by decide)
  have hkl : k < l.length := (List.getElem?_eq_some_iff.1 hq).1
  have hkn : (k : Int) < (l.length : Int) := by omega
  obtain ⟨hR, hf, hbg⟩ := h.keepRow hq (q.kept + 1)
  have ew : wrap64 (q.kept + 1) = q.kept + 1 := by unfold wrap64; omega
  have FIN := Lib.hid (And.intro hR (show Below base w (w.setCell ⟨g, k * 7 + 5, none⟩ (.int .i64 (q.kept + 1))) from (Below.refl base w).setCell (by exact hbg) _))
  clear h hq hg hc hR hb
  go_enter Try.func23, Try.ntmps23
  go_wp2_with fail
  refine I.out.mono ?_
  rintro e w1 ⟨rfl, rfl⟩
  go_wp2_with fail
  go_ret
  exact ⟨rfl, FIN.out⟩
end Go.Proofs.Ytakjpoapjokmbaa
