/-
  Both chains side by side: Push and Keep.
-/
import Derived.Test.YtakjpoapjokmbaaJnt
namespace Go.Proofs.Ytakjpoapjokmbaa
open Go.ChangeShapes Go.WideShapes Go.ChangeAt Go.RowKit
set_option linter.unusedVariables false

theorem kids_none {i : Int} : ∀ {l : List No}, (∀ (k : Nat) (q : No), l[k]? = some q → q.prev ≠ i) → kidsL i l = 0
  | [], _ => rfl
  | r :: l, h => by
    have h0 : r.prev ≠ i := h 0 r rfl
    have := kids_none (i := i) (l := l) (fun k q hq => h (k + 1) q (by simpa using hq))
    show (if kidB i r then 1 else 0) + kidsL i l = 0
    rw [if_neg (by unfold kidB; simp [h0]), this]
section
variable {l : List No} {G : Int → Option Nd} {k : Nat} {q : No}
theorem ndOf_x {l : List No} {k : Nat} {q : No} : ndOf l (-1) k q = ⟨q.prev, q.cell, q.num, q.slot, q.gen, q.kept + ((kidsL (k : Int) l : Nat) : Int)⟩ := by
  unfold ndOf bumpX
  rw [if_neg (by omega)]
  congr 1
  omega
theorem snoc_at {l : List No} {r q : No} {j : Nat} (h : (l ++ [r])[j]? = some q) : (j < l.length ∧ l[j]? = some q) ∨ (j = l.length ∧ q = r) := by
  by_cases hj : j < l.length
  · rw [List.getElem?_append_left hj] at h
    exact .inl ⟨hj, h⟩
  · have e : j = l.length := by have := (List.getElem?_eq_some_iff.1 h).1; simp at this; omega
    subst e
    simp at h
    exact .inr ⟨rfl, h.symm⟩
/-- A node behind none, or behind one that is there: what it does to both, if it is told so. -/
theorem InvX.push (h : InvX (-1) l G) {pv cell num s g : Int} (hp : pv = -1 ∨ ∃ (k : Nat) (q : No), pv = (k : Int) ∧ l[k]? = some q ∧ q.gone = false) (hc : 0 ≤ cell ∧ cell ≤ 5) {G' : Int → Option Nd}
    (hn : G' (l.length : Int) = some ⟨pv, cell, num, s, g, 1⟩) (hpv : ∀ (k : Nat) (q : No), l[k]? = some q → q.gone = false → pv = (k : Int) → G' (k : Int) = some { ndOf l (-1) k q with count := (ndOf l (-1) k q).count + 1 })
    (ho : ∀ j : Int, j ≠ (l.length : Int) → (j ≠ pv ∨ j < 0) → G' j = G j) : InvX (-1) (l ++ [⟨pv, cell, num, s, g, 1, false⟩]) G' := by
  have hlt : pv < (l.length : Int) := by
    rcases hp with e | ⟨k, q, e, hq, _⟩
    · omega
    · have := (List.getElem?_eq_some_iff.1 hq).1
      omega
  have hk : ∀ i, kidsL i (l ++ [⟨pv, cell, num, s, g, 1, false⟩]) = kidsL i l + if pv = i then 1 else 0 := fun i => by
    rw [kidsL_snoc]
    congr 1
    unfold kidB
    simp
  have hk0 : kidsL (l.length : Int) l = 0 := kids_none (fun k q hq e => by
    have := h.wf k q hq
    have := (List.getElem?_eq_some_iff.1 hq).1
    omega)
  refine ⟨fun j r hr hrg => ?_, fun j r hr hrg => ?_, fun j hj => ?_, fun j r hr => ?_, fun j r hr hrg p t ht hpp => ?_, fun j r hr hrg => ?_⟩
  · rw [ndOf_x, hk]
    rcases snoc_at hr with ⟨hj, hr'⟩ | ⟨rfl, rfl⟩
    · by_cases e : pv = (j : Int)
      · rw [hpv j r hr' hrg e, ndOf_x, if_pos e]
        simp only [Option.some.injEq, Nd.mk.injEq, true_and]
        omega
      · rw [ho j (by omega) (.inl (fun e2 => e e2.symm)), h.node j r hr' hrg, ndOf_x, if_neg e]
        congr 2
    · dsimp only
      rw [hn, hk0, if_neg (show ¬ pv = (l.length : Int) by omega)]
      rfl
  · rcases snoc_at hr with ⟨hj, hr'⟩ | ⟨rfl, rfl⟩
    · have hne : pv ≠ (j : Int) := by
        rintro e
        rcases hp with e' | ⟨k, q, e', hq, hg⟩
        · omega
        · obtain rfl : k = j := by omega
          rw [hq] at hr'
          injection hr' with hr'
          subst hr'
          rw [hg] at hrg
          cases hrg
      rw [ho j (by omega) (.inl (fun e => hne e.symm))]
      exact h.gone j r hr' hrg
    · cases hrg
  · simp only [List.length_append, List.length_singleton] at hj
    rw [ho j (by omega) (by omega)]
    exact h.out j (by omega)
  · rcases snoc_at hr with ⟨hj, hr'⟩ | ⟨rfl, rfl⟩
    · exact h.wf j r hr'
    · dsimp only
      refine ⟨by omega, by omega, hc.1, hc.2, ?_, hlt⟩
      rcases hp with e | ⟨k, q, e, _⟩ <;> omega
  · have hpl : p < l.length := by
      rcases snoc_at hr with ⟨hj, hr'⟩ | ⟨rfl, rfl⟩
      · have := h.wf j r hr'
        omega
      · dsimp only at hpp
        omega
    rw [List.getElem?_append_left hpl] at ht
    rcases snoc_at hr with ⟨hj, hr'⟩ | ⟨rfl, rfl⟩
    · exact h.up j r hr' hrg p t ht hpp
    · dsimp only at hpp
      rcases hp with e' | ⟨k, q, e', hq, hg⟩
      · omega
      · obtain rfl : k = p := by omega
        rw [hq] at ht
        injection ht with ht
        subst ht
        exact hg
  · rw [hk]
    unfold bumpX
    rw [if_neg (show ¬ (j : Int) = -1 by omega)]
    rcases snoc_at hr with ⟨hj, hr'⟩ | ⟨rfl, rfl⟩
    · have := h.pos j r hr' hrg
      unfold bumpX at this
      rw [if_neg (by omega)] at this
      omega
    · dsimp only
      split <;> omega
/-- One is kept once more. -/
theorem InvX.keep (h : InvX (-1) l G) (hq : l[k]? = some q) (hg : q.gone = false) (hk : q.kept ≤ 199) : InvX (-1) (l.set k { q with kept := q.kept + 1 }) (updG G (k : Int) (some { ndOf l (-1) k q with count := (ndOf l (-1) k q).count + 1 })) := by
  have hkl := (List.getElem?_eq_some_iff.1 hq).1
  have hkd : ∀ i, kidsL i (l.set k { q with kept := q.kept + 1 }) = kidsL i l := fun i => by
    have := kidsL_set i l k q { q with kept := q.kept + 1 } hq
    have e : kidB i ({ q with kept := q.kept + 1 } : No) = kidB i q := rfl
    rw [e] at this
    omega
  have at' : ∀ (j : Nat) (r : No), (l.set k { q with kept := q.kept + 1 })[j]? = some r → (j = k ∧ r = { q with kept := q.kept + 1 }) ∨ (j ≠ k ∧ l[j]? = some r) := fun j r hr => by
    by_cases e : j = k
    · subst e
      rw [List.getElem?_set_self hkl] at hr
      injection hr with hr
      exact .inl ⟨rfl, hr.symm⟩
    · rw [List.getElem?_set_ne (Ne.symm e)] at hr
      exact .inr ⟨e, hr⟩
  have hw := h.wf k q hq
  refine ⟨fun j r hr hrg => ?_, fun j r hr hrg => ?_, fun j hj => ?_, fun j r hr => ?_, fun j r hr hrg p s hs hp => ?_, fun j r hr hrg => ?_⟩
  · have en : ndOf (l.set k { q with kept := q.kept + 1 }) (-1) j r = ⟨r.prev, r.cell, r.num, r.slot, r.gen, r.kept + ((kidsL (j : Int) l : Nat) : Int)⟩ := by rw [ndOf_x, hkd]
    rw [en]
    clear en
    rcases at' j r hr with ⟨rfl, rfl⟩ | ⟨hne, hr'⟩
    · rw [updG_same, ndOf_x]
      simp only [Option.some.injEq, Nd.mk.injEq, true_and]
      omega
    · rw [updG_other (by omega), h.node j r hr' hrg, ndOf_x]
  · rcases at' j r hr with ⟨rfl, rfl⟩ | ⟨hne, hr'⟩
    · dsimp only at hrg
      rw [hg] at hrg
      cases hrg
    · rw [updG_other (by omega)]
      exact h.gone j r hr' hrg
  · rw [List.length_set] at hj
    rw [updG_other (by omega)]
    exact h.out j hj
  · rcases at' j r hr with ⟨rfl, rfl⟩ | ⟨hne, hr'⟩
    · dsimp only
      omega
    · exact h.wf j r hr'
  · have hrp : ∃ r', l[j]? = some r' ∧ r'.gone = false ∧ r'.prev = r.prev := by
      rcases at' j r hr with ⟨rfl, rfl⟩ | ⟨hne, hr'⟩
      · exact ⟨q, hq, hg, rfl⟩
      · exact ⟨r, hr', hrg, rfl⟩
    obtain ⟨r', h1, h2, h3⟩ := hrp
    rcases at' p s hs with ⟨rfl, rfl⟩ | ⟨hne, hs'⟩
    · exact hg
    · exact h.up j r' h1 h2 p s hs' (by rw [h3]; exact hp)
  · rw [hkd]
    rcases at' j r hr with ⟨rfl, rfl⟩ | ⟨hne, hr'⟩
    · have := h.pos _ q hq hg
      dsimp only
      omega
    · exact h.pos j r hr' hrg
end
end Go.Proofs.Ytakjpoapjokmbaa
