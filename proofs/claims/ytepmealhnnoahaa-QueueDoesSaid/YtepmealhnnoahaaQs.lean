/-
  What waits, read out of its row.
-/
import Derived.Test.YtepmealhnnoahaaQp
namespace Go.Proofs.Ytepmealhnnoahaa
open Go.ChangeShapes Go.WideShapes Go.ChangeAt Go.RowKit
set_option linter.unusedVariables false
theorem fcells_at : ∀ (ps : List (Value × Value)) (j : Nat) (p : Value × Value), ps[j]? = some p → (fcells ps)[j * 2]? = some p.1 ∧ (fcells ps)[j * 2 + 1]? = some p.2
  | [], j, p, h => by simp at h
  | q :: ps, 0, p, h => by
    simp at h
    subst h
    simp [fcells]
  | q :: ps, j + 1, p, h => by
    have := fcells_at ps j p (by simpa using h)
    have e1 : (j + 1) * 2 = j * 2 + 1 + 1 := by omega
    rw [e1]
    simp only [fcells, List.getElem?_cons_succ]
    exact this
theorem FRow.at {w : World} {base : Nat} {M : Nat → Prop} {g n cap : Nat} {l : List Fnd} (h : FRow w base M (.slice (some ⟨g, 0, none⟩) n cap) l) {j : Nat} {f : Fnd} (hj : l[j]? = some f) :
    ∃ vs vr, w.rangeAt g (j * 2) [vs, vr] ∧ FoundAt w (fun k => ¬ M k) vs vr f := by
  obtain ⟨ps, h1, h2, h3⟩ := h.ex
  obtain ⟨a, c, e, _⟩ := own_slice h2
  cases e
  have hlt := (List.getElem?_eq_some_iff.1 hj).1
  obtain ⟨p, hp⟩ : ∃ p, ps[j]? = some p := ⟨_, List.getElem?_eq_getElem (by omega)⟩
  obtain ⟨c1, c2⟩ := fcells_at ps j p hp
  refine ⟨p.1, p.2, fun x v hx => ?_, h3 j f p hj hp⟩
  match x, hx with
  | 0, hx =>
    simp at hx
    subst hx
    have := h2.cellAt (j * 2) (by omega)
    rw [c1] at this
    exact this
  | 1, hx =>
    simp at hx
    subst hx
    have := h2.cellAt (j * 2 + 1) (by omega)
    rw [c2] at this
    exact this
end Go.Proofs.Ytepmealhnnoahaa
