/-
  Names.
-/
import Derived.Test.YtadogobdlcionaaDoorSh
namespace Go.Proofs.YtadogobdlcionaaDoor
open Go.ChangeShapes Go.WideShapes Go.ChangeAt Go.RowKit Go.Shelf
set_option linter.unusedVariables false
/-- Is a text a name, and nothing else? -/
def nameT (t : ByteArray) : Bool := match toksB t.data.toList with
  | [x] => decide (skipB (endB [x]) t.data.toList = t.size) && (decide (textOf t x = t) && nameB t x)
  | _ => false
theorem skip_at_most (t : ByteArray) : skipB (endB (toksB t.data.toList)) t.data.toList ≤ t.size := by
  by_cases h : skipB (endB (toksB t.data.toList)) t.data.toList ≤ t.size
  · exact h
  · exfalso
    have h1 : endB (toksB t.data.toList) ≤ t.data.toList.length := endB_le _ (fun x hx => (eachB_mem _ _ _ x hx).1)
    have h2 := skipB_le h1
    have h3 : t.data.toList.length = t.size := by rw [Array.length_toList]; rfl
    omega
set_option maxRecDepth 100000 in
set_option maxHeartbeats 4000000 in
theorem name_is (w : World) (t : ByteArray) (hs : t.size ≤ 140737488355328) (hE : ErrAt w) : Calls Tryd.prog 27 #[.string t] w fun y w' => y = .returned (.bool (nameT t)) ∧ Turn (fun _ => False) w w' := by
  have LX := Lib.hid (lex_is w t hs hE)
  have NT := Lib.hid (fun w x => (name_tells t).2 w x)
  obtain ⟨R, hR⟩ : ∃ R, R = nameT t := ⟨_, rfl⟩
  rw [← hR]
  have HR := Lib.hid hR
  clear hs hE hR
  go_enter Tryd.func27, Tryd.ntmps27
  go_wp2_with fail
  with_reducible refine LX.out.mono ?_
  rintro y w1 ⟨T1, (⟨x, r, pre, e1, e2, rfl⟩ | ⟨e1, e2, rfl⟩ | ⟨e1, e2, v, rfl, e3⟩)⟩
  · have hr : R = false := by
      rw [HR.out]
      unfold nameT
      have hl : 200 < (toksB t.data.toList).length := by rw [e1, List.length_append, e2]; simp
      split
      · rename_i z hz
        rw [hz] at hl
        simp at hl
      · rfl
    have F := Lib.hid (And.intro T1 hr)
    clear e1 e2 T1 hr
    go_wp2_with fail
    go_ret
    exact ⟨by rw [F.out.2]; rfl, F.out.1⟩
  · have hr : R = false := by
      rw [HR.out]
      unfold nameT
      split
      · rename_i z hz
        rw [hz] at e2
        rw [decide_eq_false (by omega)]
        rfl
      · rfl
    have F := Lib.hid (And.intro T1 hr)
    clear e1 e2 T1 hr
    go_wp2_with fail
    go_ret
    exact ⟨by rw [F.out.2]; rfl, F.out.1⟩
  · obtain ⟨a, c, rfl, hg⟩ := own_slice e3
    by_cases h1 : (toksB t.data.toList).length = 1
    · obtain ⟨x, hx⟩ := List.length_eq_one_iff.1 h1
      obtain ⟨g, rfl⟩ := hg (by omega)
      obtain ⟨q0, q1, q2, q3⟩ := tok_cells e3 rfl (j := 0) (x := x) (by rw [hx]; rfl)
      replace q0 : w1.cell? ⟨g, 0, none⟩ = some (.int .i64 (x.2.kind : Int)) := q0
      replace q1 : w1.cell? ⟨g, 1, none⟩ = some (.int .i64 (x.1 : Int)) := q1
      replace q2 : w1.cell? ⟨g, 2, none⟩ = some (.string (textOf t x)) := q2
      replace q3 : w1.cell? ⟨g, 3, none⟩ = some (.int .i64 (x.2.n : Int)) := q3
      have hr : R = (decide (textOf t x = t) && nameB t x) := by
        rw [HR.out]
        unfold nameT
        rw [hx] at e2 ⊢
        dsimp only
        rw [decide_eq_true e2]
        rfl
      have HT := Lib.hid T1
      have HRR := Lib.hid hr
      rw [h1]
      clear e1 e2 e3 T1 hr hx h1 hg
      by_cases ht : textOf t x = t
      · have u1 : ((textOf t x).toList == t.toList) = true := by rw [text_beq]; exact decide_eq_true ht
        have HX := Lib.hid ht
        have N1 := Lib.hid (NT.out w1 x)
        rw [show tokC t x = tokL x.2.kind x.1 x.2.n (textOf t x) from rfl] at N1
        unfold tokL at N1
        clear ht
        generalize textOf t x = tx at *
        go_wp2_with fail
        with_reducible refine N1.out.mono ?_
        rintro y w2 ⟨rfl, T2⟩
        have F := Lib.hid (HT.out.trans T2)
        clear T2
        go_wp2_with fail
        go_ret
        refine ⟨?_, F.out⟩
        rw [HRR.out, decide_eq_true HX.out]
        rfl
      · have u1 : ((textOf t x).toList == t.toList) = false := by rw [text_beq]; exact decide_eq_false ht
        have HX := Lib.hid ht
        clear ht
        generalize textOf t x = tx at *
        go_wp2_with fail
        go_ret
        refine ⟨?_, HT.out⟩
        rw [HRR.out, decide_eq_false HX.out]
        rfl
    · have u1 : (((toksB t.data.toList).length : Int) == 1) = false := by
        rw [beq_eq_false_iff_ne]
        omega
      have hr : R = false := by
        rw [HR.out]
        unfold nameT
        split
        · rename_i z hz
          rw [hz] at h1
          exact absurd rfl h1
        · rfl
      have F := Lib.hid (And.intro T1 hr)
      clear e1 e2 e3 T1 hr h1 hg
      generalize (toksB t.data.toList).length = n at *
      go_wp2_with fail
      go_ret
      exact ⟨by rw [F.out.2]; rfl, F.out.1⟩
end Go.Proofs.YtadogobdlcionaaDoor
