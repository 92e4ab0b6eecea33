/-
  Both chains side by side: what each act does to both.
-/
import Derived.Test.YtakjpoapjokmbaaDoc6
import Derived.Test.YtakjpoapjokmbaaLin
namespace Go.Proofs.Ytakjpoapjokmbaa
open Go.ChangeShapes Go.WideShapes Go.ChangeAt Go.RowKit
set_option linter.unusedVariables false

def bumpX (x : Int) (k : Nat) : Int := if (k : Int) = x then 1 else 0
def ndOf (l : List No) (x : Int) (k : Nat) (q : No) : Nd := ⟨q.prev, q.cell, q.num, q.slot, q.gen, q.kept + ((kidsL (k : Int) l : Nat) : Int) + bumpX x k⟩
/-- Both chains; the node x is held once more in the one than in the other. -/
structure InvX (x : Int) (l : List No) (G : Int → Option Nd) : Prop where
  node : ∀ (k : Nat) (q : No), l[k]? = some q → q.gone = false → G (k : Int) = some (ndOf l x k q)
  gone : ∀ (k : Nat) (q : No), l[k]? = some q → q.gone = true → G (k : Int) = none ∧ q.kept = 0
  out : ∀ j : Int, (j < 0 ∨ (l.length : Int) ≤ j) → G j = none
  wf : ∀ (k : Nat) (q : No), l[k]? = some q → 0 ≤ q.kept ∧ q.kept ≤ 200 ∧ 0 ≤ q.cell ∧ q.cell ≤ 5 ∧ -1 ≤ q.prev ∧ q.prev < (k : Int)
  up : ∀ (k : Nat) (q : No), l[k]? = some q → q.gone = false → ∀ (p : Nat) (r : No), l[p]? = some r → q.prev = (p : Int) → r.gone = false
  pos : ∀ (k : Nat) (q : No), l[k]? = some q → q.gone = false → 0 < q.kept + ((kidsL (k : Int) l : Nat) : Int) + bumpX x k
theorem kidsL_set (i : Int) : ∀ (l : List No) (k : Nat) (q q' : No), l[k]? = some q → kidsL i (l.set k q') + (if kidB i q then 1 else 0) = kidsL i l + (if kidB i q' then 1 else 0)
  | [], k, q, q', h => by simp at h
  | r :: l, 0, q, q', h => by
    simp at h
    subst h
    show (_ + kidsL i l) + _ = (_ + kidsL i l) + _
    omega
  | r :: l, k + 1, q, q', h => by
    have h' : l[k]? = some q := by simpa using h
    have := kidsL_set i l k q q' h'
    show (_ + kidsL i (l.set k q')) + _ = (_ + kidsL i l) + _
    omega
theorem liveL_set : ∀ (l : List No) (k : Nat) (q q' : No), l[k]? = some q → liveL (l.set k q') + (if q.gone then 0 else 1) = liveL l + (if q'.gone then 0 else 1)
  | [], k, q, q', h => by simp at h
  | r :: l, 0, q, q', h => by
    simp at h
    subst h
    show (_ + liveL l) + _ = (_ + liveL l) + _
    omega
  | r :: l, k + 1, q, q', h => by
    have h' : l[k]? = some q := by simpa using h
    have := liveL_set l k q q' h'
    show (_ + liveL (l.set k q')) + _ = (_ + liveL l) + _
    omega
theorem kids_pos {i : Int} : ∀ {l : List No} {k : Nat} {q : No}, l[k]? = some q → kidB i q = true → 0 < kidsL i l
  | [], k, q, h, _ => by simp at h
  | r :: l, 0, q, h, hb => by
    simp at h
    subst h
    show 0 < (if kidB i r then 1 else 0) + _
    rw [if_pos hb]
    omega
  | r :: l, k + 1, q, h, hb => by
    have h' : l[k]? = some q := by simpa using h
    have := kids_pos h' hb
    show 0 < _ + kidsL i l
    omega
section
variable {x : Int} {l : List No} {G : Int → Option Nd} {k : Nat} {q : No}
theorem InvX.nil : InvX (-1) [] (fun _ => none) := ⟨fun k q h => by simp at h, fun k q h => by simp at h, fun _ _ => rfl, fun k q h => by simp at h, fun k q h => by simp at h, fun k q h => by simp at h⟩
/-- One that is held is marked down on one side. -/
theorem InvX.down (h : InvX (-1) l G) (hq : l[k]? = some q) (hg : q.gone = false) (hk : 0 < q.kept) : InvX (k : Int) (l.set k { q with kept := q.kept - 1 }) G := by
  have hkl := (List.getElem?_eq_some_iff.1 hq).1
  have hkd : ∀ i, kidsL i (l.set k { q with kept := q.kept - 1 }) = kidsL i l := fun i => by
    have := kidsL_set i l k q { q with kept := q.kept - 1 } hq
    have e : kidB i ({ q with kept := q.kept - 1 } : No) = kidB i q := rfl
    rw [e] at this
    omega
  have at' : ∀ (j : Nat) (r : No), (l.set k { q with kept := q.kept - 1 })[j]? = some r → (j = k ∧ r = { q with kept := q.kept - 1 }) ∨ (j ≠ k ∧ l[j]? = some r) := fun j r hr => by
    by_cases e : j = k
    · subst e
      rw [List.getElem?_set_self hkl] at hr
      injection hr with hr
      exact .inl ⟨rfl, hr.symm⟩
    · rw [List.getElem?_set_ne (Ne.symm e)] at hr
      exact .inr ⟨e, hr⟩
  have hw := h.wf k q hq
  refine ⟨fun j r hr hrg => ?_, fun j r hr hrg => ?_, fun j hj => h.out j (by rw [List.length_set] at hj; exact hj), fun j r hr => ?_, fun j r hr hrg p s hs hp => ?_, fun j r hr hrg => ?_⟩
  · unfold ndOf bumpX
    rw [hkd]
    rcases at' j r hr with ⟨rfl, rfl⟩ | ⟨hne, hr'⟩
    · rw [h.node _ q hq hg]
      unfold ndOf bumpX
      rw [if_pos rfl, if_neg (by omega)]
      congr 2
      dsimp only
      omega
    · rw [h.node j r hr' hrg]
      unfold ndOf bumpX
      rw [if_neg (by omega), if_neg (by omega)]
  · rcases at' j r hr with ⟨rfl, rfl⟩ | ⟨hne, hr'⟩
    · dsimp only at hrg
      rw [hg] at hrg
      cases hrg
    · exact h.gone j r hr' hrg
  · rcases at' j r hr with ⟨rfl, rfl⟩ | ⟨hne, hr'⟩
    · dsimp only
      omega
    · exact h.wf j r hr'
  · have hrp : ∃ r', l[j]? = some r' ∧ r'.gone = false ∧ r'.prev = r.prev := by
      rcases at' j r hr with ⟨rfl, rfl⟩ | ⟨hne, hr'⟩
      · exact ⟨q, hq, hg, rfl⟩
      · exact ⟨r, hr', hrg, rfl⟩
    obtain ⟨r', h1, h2, h3⟩ := hrp
    rcases at' p s hs with ⟨rfl, rfl⟩ | ⟨hne, hs'⟩
    · exact hg
    · exact h.up j r' h1 h2 p s hs' (by rw [h3]; exact hp)
  · rw [hkd]
    unfold bumpX
    rcases at' j r hr with ⟨rfl, rfl⟩ | ⟨hne, hr'⟩
    · rw [if_pos rfl]
      dsimp only
      omega
    · rw [if_neg (by omega)]
      have := h.pos j r hr' hrg
      unfold bumpX at this
      rw [if_neg (by omega)] at this
      exact this
/-- What a drop does to both. -/
structure Dropped (f : Nat) (l : List No) (G : Int → Option Nd) (x : Int) : Prop where
  ok : DropOk f G x
  dok : DDropOk f l x
  refs : (dropG f G x).2 = (ddropL f l x).2
  inv : InvX (-1) (ddropL f l x).1 (dropG f G x).1
  len : (ddropL f l x).1.length = l.length
  live : liveL (ddropL f l x).1 + (ddropL f l x).2.length = liveL l
  kept : ∀ k : Nat, ((ddropL f l x).1[k]?).map No.kept = (l[k]?).map No.kept
theorem drop_both : ∀ (f : Nat) (l : List No) (G : Int → Option Nd) (x : Int), InvX x l G → l.length ≤ 100 → (x = -1 ∨ ∃ (k : Nat) (q : No), x = (k : Int) ∧ l[k]? = some q ∧ q.gone = false) → x < (f : Int) → Dropped f l G x
  | 0, l, G, x, h, hl, hx, hf => by
    have e : x = -1 := by
      rcases hx with e | ⟨k, q, rfl, _⟩
      · exact e
      · omega
    subst e
    exact ⟨rfl, by show (-1 : Int) < 0; omega, rfl, h, rfl, rfl, fun _ => rfl⟩
  | f + 1, l, G, x, h, hl, hx, hf => by
    rcases hx with e | ⟨k, q, rfl, hq, hg⟩
    · subst e
      have e1 := dropG_end (f + 1) G
      have e2 := ddropL_end (f + 1) l (i := -1) (by omega)
      exact ⟨.inl rfl, .inl (by omega), by rw [e1, e2], by rw [e1, e2]; exact h, by rw [e2], by rw [e2]; rfl, fun _ => by rw [e2]⟩
    · have hkl := (List.getElem?_eq_some_iff.1 hq).1
      have hG := h.node k q hq hg
      have hw := h.wf k q hq
      have hkids := kidsL_le (k : Int) l
      have hcnt : (ndOf l (k : Int) k q).count = q.kept + ((kidsL (k : Int) l : Nat) : Int) + 1 := by
        unfold ndOf bumpX
        rw [if_pos rfl]
      by_cases hc : 0 < q.kept + ((kidsL (k : Int) l : Nat) : Int)
      · have e1 := dropG_more (f := f) (by omega) hG (by rw [hcnt]; omega)
        have e2 := ddropL_stop (f := f) hq hc
        refine ⟨.inr ⟨_, hG, by omega, by omega, by rw [hcnt]; omega, by rw [hcnt]; omega, .inl (by rw [hcnt]; omega)⟩, .inr ⟨k, q, rfl, hq, hg, by omega, by omega, .inl hc⟩, by rw [e1, e2], ?_, by rw [e2], by rw [e2]; rfl, fun _ => by rw [e2]⟩
        rw [e1, e2]
        refine ⟨fun j r hr hrg => ?_, fun j r hr hrg => ?_, fun j hj => ?_, h.wf, h.up, fun j r hr hrg => ?_⟩
        · by_cases e : j = k
          · subst e
            rw [hq] at hr
            injection hr with hr
            subst hr
            show updG G _ _ _ = _
            rw [updG_same]
            unfold ndOf bumpX
            rw [if_pos rfl, if_neg (by omega)]
            congr 2
            dsimp only
            omega
          · show updG G _ _ _ = _
            rw [updG_other (by omega), h.node j r hr hrg]
            unfold ndOf bumpX
            rw [if_neg (by omega), if_neg (by omega)]
        · have hne : j ≠ k := by
            rintro rfl
            rw [hq] at hr
            injection hr with hr
            subst hr
            rw [hg] at hrg
            cases hrg
          show updG G _ _ _ = _ ∧ _
          rw [updG_other (by omega)]
          exact h.gone j r hr hrg
        · show updG G _ _ _ = _
          rw [updG_other (by dsimp only at hj; omega)]
          exact h.out j hj
        · by_cases e : j = k
          · subst e
            rw [hq] at hr
            injection hr with hr
            subst hr
            unfold bumpX
            rw [if_neg (by omega)]
            dsimp only
            omega
          · have := h.pos j r hr hrg
            unfold bumpX at this ⊢
            rw [if_neg (by omega)] at this
            rw [if_neg (by omega)]
            exact this
      · have e1 := dropG_last (f := f) (by omega) hG (by rw [hcnt]; omega)
        have e2 := ddropL_more (f := f) hq hc
        have hk0 : q.kept = 0 ∧ kidsL (k : Int) l = 0 := by omega
        have at' : ∀ (j : Nat) (r : No), (l.set k { q with gone := true })[j]? = some r → (j = k ∧ r = { q with gone := true }) ∨ (j ≠ k ∧ l[j]? = some r) := fun j r hr => by
          by_cases e : j = k
          · subst e
            rw [List.getElem?_set_self hkl] at hr
            injection hr with hr
            exact .inl ⟨rfl, hr.symm⟩
          · rw [List.getElem?_set_ne (Ne.symm e)] at hr
            exact .inr ⟨e, hr⟩
        have hkd : ∀ i, kidsL i (l.set k { q with gone := true }) + (if q.prev = i then 1 else 0) = kidsL i l := fun i => by
          have := kidsL_set i l k q { q with gone := true } hq
          have e : kidB i ({ q with gone := true } : No) = false := rfl
          rw [e] at this
          have e2 : kidB i q = (q.prev == i) := by unfold kidB; rw [hg]; rfl
          rw [e2] at this
          simp only [beq_iff_eq] at this
          simpa using this
        have inv : InvX q.prev (l.set k { q with gone := true }) (updG G (k : Int) none) := by
          refine ⟨fun j r hr hrg => ?_, fun j r hr hrg => ?_, fun j hj => ?_, fun j r hr => ?_, fun j r hr hrg p s hs hp => ?_, fun j r hr hrg => ?_⟩
          · rcases at' j r hr with ⟨rfl, rfl⟩ | ⟨hne, hr'⟩
            · cases hrg
            · rw [updG_other (by omega), h.node j r hr' hrg]
              have := hkd (j : Int)
              unfold ndOf bumpX
              rw [if_neg (by omega)]
              congr 2
              split <;> split at this <;> omega
          · rcases at' j r hr with ⟨rfl, rfl⟩ | ⟨hne, hr'⟩
            · exact ⟨updG_same _ _, hk0.1⟩
            · rw [updG_other (by omega)]
              exact h.gone j r hr' hrg
          · rw [List.length_set] at hj
            rw [updG_other (by omega)]
            exact h.out j hj
          · rcases at' j r hr with ⟨rfl, rfl⟩ | ⟨hne, hr'⟩
            · exact hw
            · exact h.wf j r hr'
          · rcases at' j r hr with ⟨rfl, rfl⟩ | ⟨hne, hr'⟩
            · cases hrg
            · rcases at' p s hs with ⟨rfl, rfl⟩ | ⟨hne2, hs'⟩
              · exfalso
                have := kids_pos (i := (p : Int)) hr' (by unfold kidB; rw [hrg, hp]; simp)
                omega
              · exact h.up j r hr' hrg p s hs' hp
          · rcases at' j r hr with ⟨rfl, rfl⟩ | ⟨hne, hr'⟩
            · cases hrg
            · have h1 := h.pos j r hr' hrg
              have h2 := hkd (j : Int)
              unfold bumpX at h1 ⊢
              rw [if_neg (by omega)] at h1
              split <;> split at h2 <;> omega
        have hx' : q.prev = -1 ∨ ∃ (k' : Nat) (q' : No), q.prev = (k' : Int) ∧ (l.set k { q with gone := true })[k']? = some q' ∧ q'.gone = false := by
          by_cases e : q.prev = -1
          · exact .inl e
          · obtain ⟨p, hp⟩ : ∃ p : Nat, q.prev = (p : Int) := ⟨q.prev.toNat, by omega⟩
            obtain ⟨r, hr⟩ : ∃ r, l[p]? = some r := ⟨_, List.getElem?_eq_getElem (by omega)⟩
            refine .inr ⟨p, r, hp, ?_, h.up k q hq hg p r hr hp⟩
            rw [List.getElem?_set_ne (by omega)]
            exact hr
        have D := drop_both f (l.set k { q with gone := true }) (updG G (k : Int) none) q.prev inv (by rw [List.length_set]; exact hl) hx' (by omega)
        have hlive := liveL_set l k q { q with gone := true } hq
        rw [hg] at hlive
        simp only [if_true, if_false, Bool.false_eq_true] at hlive
        have epv : (ndOf l (k : Int) k q).prev = q.prev := rfl
        rw [epv] at e1
        refine ⟨.inr ⟨_, hG, by omega, by omega, by rw [hcnt]; omega, by rw [hcnt]; omega, .inr D.ok⟩, .inr ⟨k, q, rfl, hq, hg, by omega, by omega, .inr D.dok⟩, ?_, ?_, ?_, ?_, fun j => ?_⟩
        · rw [e1, e2]
          show _ :: _ = _ :: _
          rw [D.refs]
          rfl
        · rw [e1, e2]
          exact D.inv
        · rw [e2]
          exact D.len.trans (List.length_set ..)
        · rw [e2]
          have := D.live
          dsimp only
          rw [List.length_cons]
          omega
        · rw [e2]
          refine (D.kept j).trans ?_
          by_cases e : j = k
          · subst e
            rw [List.getElem?_set_self hkl, hq]
            rfl
          · rw [List.getElem?_set_ne (Ne.symm e)]
end
end Go.Proofs.Ytakjpoapjokmbaa
