/-
  What waits: one more is put behind.
-/
import Derived.Test.YtepmealhnnoahaaQi
namespace Go.Proofs.Ytepmealhnnoahaa
open Go.ChangeShapes Go.WideShapes Go.ChangeAt Go.RowKit
set_option linter.unusedVariables false
theorem info71 : (Try.prog.info? 71).map (fun i => (i.zero, i.size, i.bytes)) = some (some (.agg #[.slice none 0 0, .slice none 0 0]), 2, 48) := by kernel_rfl
theorem HoldAt.more {M M' : Nat → Prop} {w : World} {base : Nat} {Q : Int → Option Wt} {F : Int → List Fnd} (h : HoldAt w base M Q F) (sub : ∀ k, M k → M' k) (lt : ∀ k, M' k → k < w.heap.size)
    (no : ∀ (i : Int) (q : Wt) (k : Nat), Q i = some q → q.sl.ownBlock = some k → ¬ M' k) : HoldAt w base M' Q F :=
  ⟨fun i q hq => ⟨(h.row i q hq).1, (h.row i q hq).2.more sub⟩, h.apart, lt, no, h.gap⟩
theorem FRow.lt {M : Nat → Prop} {w : World} {base : Nat} {v : Value} {l : List Fnd} (h : FRow w base M v l) : ∀ k, v.ownBlock = some k → base ≤ k ∧ k < w.heap.size := by
  obtain ⟨ps, h1, h2, h3⟩ := h.ex
  exact fun k hk => h2.lt k hk
set_option maxRecDepth 100000 in
theorem HoldAt.add {M : Nat → Prop} {w : World} {base : Nat} {Q : Int → Option Wt} {F : Int → List Fnd} (h : HoldAt w base M Q F) {i : Int} {q : Wt} (hq : Q i = some q) (hb : base ≤ w.heap.size)
    (hn : (F i).length ≤ 1000000) {vs vr : Value} {f : Fnd} (hf : FoundAt w (fun k => ¬ M k) vs vr f) :
    ∃ q' w2, (Builtin.append_ #[89, 89] 89 #[q.sl, .slice (some ⟨w.heap.size, 0, none⟩) 1 1]).run Try.prog (w.alloc (.cells #[vs, vr] 71)) = .ok (Wt.sl q') w2 ∧ q'.lost = q.lost ∧ q'.n = q.n + 1 ∧
      HoldAt w2 base M (updI Q i (some q')) (updI F i (F i ++ [f])) ∧ Turn (fun k => q.sl.ownBlock = some k) w w2 ∧ (∀ k, q'.sl.ownBlock = some k → q.sl.ownBlock = some k ∨ w.heap.size ≤ k) := by
  obtain ⟨en, ⟨ps, hl, ho, hall⟩⟩ := h.row i q hq
  have T1 : Turn (fun _ => False) w (w.alloc (.cells #[vs, vr] 71)) := (Turn.refl _ w).alloc _
  have ho1 := own_turn ho T1 (fun _ _ q => q)
  obtain ⟨i3, j1, j2, j3, j4⟩ := info_parts info71
  have o1 : vs.oneCell' = true := by obtain ⟨_, _, e⟩ := hf.sets.sl; rw [e]; rfl
  have o2 : vr.oneCell' = true := by obtain ⟨_, _, e⟩ := hf.refs.sl; rw [e]; rfl
  obtain ⟨v', w2, hr, ho2, hg, _, hbl⟩ := run_append_own_at (w.alloc (.cells #[vs, vr] 71)) base 89 89 71 i3 _ 2 48 Try.underlying89 j1 j2 j3 j4 rfl (by decide) _ _ _ ho1 ⟨w.heap.size, 0, none⟩ 1 1 [vs, vr] rfl
    (cells_new w [vs, vr] 71 _ rfl) (fun u hu => by
      simp only [List.mem_cons, List.not_mem_nil, or_false] at hu
      rcases hu with rfl | rfl
      · exact o1
      · exact o2) (by unfold maxLen; omega) (by omega) (by rw [World.size_alloc]; omega)
  rw [World.size_alloc] at hbl
  obtain ⟨a, c, rfl, ha⟩ := own_slice ho2
  obtain ⟨g, rfl⟩ := ha (by omega)
  have T : Turn (fun k => q.sl.ownBlock = some k) w w2 := (T1.more (fun _ _ q => q.elim)).trans ((Turn.refl _ _).grown hg (fun k hk => .inl hk))
  have hM : ∀ k, M k → ¬ q.sl.ownBlock = some k := fun k m e => h.mno i q k hq e m
  have hfr : ∀ k, (Wt.sl ⟨some g, (F i).length + 1, c, q.lost⟩).ownBlock = some k → q.sl.ownBlock = some k ∨ w.heap.size + 1 ≤ k := fun k hk => by
    rcases hbl with e | e
    · exact .inl (e ▸ hk)
    · have hk2 : (Value.slice (some ⟨g, 0, none⟩) ((F i).length + 1) c).ownBlock = some k := hk
      rw [e] at hk2
      cases hk2
      exact .inr (Nat.le_refl _)
  have hnew : FoundAt w2 (fun k => ¬ M k) vs vr f := hf.turn T (fun k _ e m => hM k m e)
  refine ⟨⟨some g, (F i).length + 1, c, q.lost⟩, w2, hr, rfl, by rw [en], ⟨?_, ?_, fun k m => Nat.lt_of_lt_of_le (h.mlt k m) T.size, ?_, ?_⟩, T, fun k hk => (hfr k hk).imp id (fun e => by omega)⟩
  · intro j r hr
    by_cases e : j = i
    · subst e
      rw [updI_at] at hr ⊢
      cases hr
      refine ⟨by simp, ⟨ps ++ [(vs, vr)], by simp [hl], ?_, ?_⟩⟩
      · rw [fcells_app, List.length_append]
        exact ho2
      · intro x f' p hx hp
        rw [List.getElem?_append] at hx hp
        rw [hl] at hp
        split at hx
        · rename_i hlt
          rw [if_pos hlt] at hp
          exact (hall x f' p hx hp).turn T (fun k _ e m => hM k m e)
        · rename_i hlt
          rw [if_neg hlt] at hp
          have h0 : x - (F j).length = 0 := by
            have := (List.getElem?_eq_some_iff.1 hx).1
            simpa using this
          rw [h0] at hx hp
          simp at hx hp
          subst hx; subst hp
          exact hnew
    · rw [updI_off _ _ e] at hr ⊢
      exact ⟨(h.row j r hr).1, (h.row j r hr).2.turn T hM (fun k hk e2 => h.apart j i r q k e hr hq hk e2)⟩
  · intro j l r s k hne hR hs hk hk2
    have ltx : ∀ (x : Int) (t : Wt), Q x = some t → t.sl.ownBlock = some k → k < w.heap.size := fun x t ht e => ((h.row x t ht).2.lt k e).2
    by_cases e : j = i
    · subst e
      rw [updI_at] at hR
      cases hR
      rw [updI_off _ _ (Ne.symm hne)] at hs
      rcases hfr k hk with e | e
      · exact h.apart j l q s k hne hq hs e hk2
      · have := ltx l s hs hk2
        omega
    · rw [updI_off _ _ e] at hR
      by_cases e2 : l = i
      · subst e2
        rw [updI_at] at hs
        cases hs
        rcases hfr k hk2 with e3 | e3
        · exact h.apart j l r q k hne hR hq hk e3
        · have := ltx j r hR hk
          omega
      · rw [updI_off _ _ e2] at hs
        exact h.apart j l r s k hne hR hs hk hk2
  · intro j r k hr hk m
    by_cases e : j = i
    · subst e
      rw [updI_at] at hr
      cases hr
      rcases hfr k hk with e | e
      · exact h.mno j q k hq e m
      · have := h.mlt k m
        omega
    · rw [updI_off _ _ e] at hr
      exact h.mno j r k hr hk m
  · intro j hj
    by_cases e : j = i
    · subst e
      rw [updI_at] at hj
      cases hj
    · rw [updI_off _ _ e] at hj ⊢
      exact h.gap j hj
end Go.Proofs.Ytepmealhnnoahaa
