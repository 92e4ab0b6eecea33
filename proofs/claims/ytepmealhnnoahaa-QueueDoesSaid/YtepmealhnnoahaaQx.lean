/-
  What is told of matches; the first ones taken out of a row.
-/
import Derived.Test.YtepmealhnnoahaaQw
namespace Go.Proofs.Ytepmealhnnoahaa
open Go.ChangeShapes Go.WideShapes Go.ChangeAt Go.RowKit
set_option linter.unusedVariables false
theorem fcells_drop : ∀ (ps : List (Value × Value)) (k : Nat), fcells (ps.drop k) = (fcells ps).drop (k * 2)
  | [], k => by simp [fcells]
  | p :: ps, 0 => by simp
  | p :: ps, k + 1 => by
    rw [show (k + 1) * 2 = k * 2 + 1 + 1 from by omega]
    simp only [List.drop_succ_cons, fcells]
    exact fcells_drop ps k
theorem fcells_one : ∀ (ps : List (Value × Value)), (∀ p ∈ ps, p.1.oneCell' = true ∧ p.2.oneCell' = true) → ∀ u ∈ fcells ps, u.oneCell' = true
  | [], h, u, hu => by simp [fcells] at hu
  | p :: ps, h, u, hu => by
    simp only [fcells, List.mem_cons] at hu
    rcases hu with rfl | rfl | hu
    · exact (h p (by simp)).1
    · exact (h p (by simp)).2
    · exact fcells_one ps (fun q hq => h q (by simp [hq])) u hu
theorem FRow.del {w : World} {base : Nat} {M : Nat → Prop} {ad : Option Addr} {n cap k : Nat} {l : List Fnd} (h : FRow w base M (.slice ad n cap) l) (hn : n = l.length) (hk : k ≤ n) (hk1 : 1 ≤ k ∨ k = 0) (hN : n ≤ 1000000) (hM : ∀ q, M q → ad ≠ some ⟨q, 0, none⟩) :
    Calls Try.prog 41 #[.slice ad n cap, .int .i64 0, .int .i64 (k : Int)] w fun e w' => e = .returned (.slice ad (n - k) cap) ∧ FRow w' base M (.slice ad (n - k) cap) (l.drop k) ∧ Turn (fun q => ad = some ⟨q, 0, none⟩) w w' := by
  obtain ⟨ps, h1, h2, h3⟩ := h.ex
  rcases hk1 with hk1 | rfl
  · obtain ⟨a, c, e, hs⟩ := own_slice h2
    obtain ⟨g, hs⟩ := hs (by omega)
    simp only [Value.slice.injEq] at e
    obtain ⟨rfl, _, rfl⟩ := e
    subst hs
    rw [← hn] at h2
    have one : ∀ u ∈ fcells ps, u.oneCell' = true := fcells_one ps (fun p hp => by
      obtain ⟨j, hj, rfl⟩ := List.mem_iff_getElem.1 hp
      have := h3 j (l[j]'(by omega)) ps[j] (List.getElem?_eq_getElem _) (List.getElem?_eq_getElem _)
      obtain ⟨_, _, e1⟩ := this.sets.sl
      obtain ⟨_, _, e2⟩ := this.refs.sl
      rw [e1, e2]
      exact ⟨rfl, rfl⟩)
    refine (del_first h2 one hk1 hk hN).mono ?_
    rintro e w' ⟨rfl, ho, T⟩
    have T' : Turn (fun q => (some ⟨g, 0, none⟩ : Option Addr) = some ⟨q, 0, none⟩) w w' := T.more (fun q _ e => by rw [e])
    refine ⟨rfl, ⟨ps.drop k, by simp [h1], ?_, fun j f p hf hp => ?_⟩, T'⟩
    · rw [fcells_drop, List.length_drop, ← hn]
      exact ho
    · rw [List.getElem?_drop] at hf hp
      exact (h3 (k + j) f p hf hp).turn T' (fun q _ e m => hM q m e)
  · have hcm : n ≤ cap ∧ cap ≤ maxLen ∧ (ad = none → cap = 0) := by
      rcases h2.2 with ⟨e, _⟩ | ⟨g', cap', cu, e, hb, hg, hnc, hcm, hcs, ht⟩
      · simp at e
        obtain ⟨rfl, rfl, rfl⟩ := e
        exact ⟨Nat.le_refl _, by unfold maxLen; omega, fun _ => rfl⟩
      · simp at e
        obtain ⟨rfl, e2, rfl⟩ := e
        exact ⟨by omega, hcm, fun q => by cases q⟩
    refine (del_none hcm.1 hcm.2.1 hcm.2.2).mono ?_
    rintro e w' ⟨rfl, rfl⟩
    exact ⟨rfl, by simpa using h, Turn.refl _ _⟩
/-- What is told: rows of sets. -/
structure MRow (w : World) (base : Nat) (N : Nat → Prop) (v : Value) (L : List (List (List Int))) : Prop where
  ex : ∃ ps : List Value, ps.length = L.length ∧ w.ownsRow base 69 1 v L.length ps ∧ ∀ (j : Nat) (l : List (List Int)) (p : Value), L[j]? = some l → ps[j]? = some p → SetsAt w N p l
theorem MRow.nil (w : World) (base : Nat) (N : Nat → Prop) : MRow w base N (.slice none 0 0) [] := ⟨[], rfl, ⟨rfl, .inl ⟨rfl, rfl⟩⟩, fun j l p h _ => by simp at h⟩
theorem MRow.turn {S N : Nat → Prop} {w w' : World} {base : Nat} {v : Value} {L : List (List (List Int))} (h : MRow w base N v L) (T : Turn S w w') (hN : ∀ k, k < w.heap.size → S k → N k) (hv : ∀ k, v.ownBlock = some k → ¬ S k) : MRow w' base N v L := by
  obtain ⟨ps, h1, h2, h3⟩ := h.ex
  exact ⟨ps, h1, own_turn h2 T hv, fun j l p hl hp => (h3 j l p hl hp).turn T hN⟩
theorem MRow.blk {N : Nat → Prop} {w : World} {base : Nat} {v : Value} {L : List (List (List Int))} (h : MRow w base N v L) {k : Nat} (hk : v.ownBlock = some k) : Blk w k 69 ∧ base ≤ k := by
  obtain ⟨ps, _, ho, _⟩ := h.ex
  rcases ho.2 with ⟨e, _⟩ | ⟨g', cap, cur, e, hb, hgg, _⟩
  · rw [e] at hk; simp [Value.ownBlock] at hk
  · rw [e] at hk
    have : g' = k := by simpa [Value.ownBlock] using hk
    subst this
    exact ⟨⟨_, hgg⟩, hb⟩
theorem MRow.sl {N : Nat → Prop} {w : World} {base : Nat} {v : Value} {L : List (List (List Int))} (h : MRow w base N v L) : ∃ a c, v = .slice a L.length c := by
  obtain ⟨ps, _, ho, _⟩ := h.ex
  obtain ⟨a, c, e, _⟩ := own_slice ho
  exact ⟨a, c, e⟩
theorem info69 : (Try.prog.info? 69).map (fun i => (i.zero, i.size, i.bytes)) = some (some (.slice none 0 0), 1, 24) := by kernel_rfl
theorem MRow.add {N : Nat → Prop} {w : World} {base : Nat} {v : Value} {L : List (List (List Int))} (h : MRow w base N v L) (hb : base ≤ w.heap.size) (hn : L.length ≤ 1000000) {vs : Value} {l : List (List Int)} (hs : SetsAt w N vs l) (hN : ∀ k, v.ownBlock = some k → N k) :
    ∃ v' w2, (Builtin.append_ #[51, 51] 51 #[v, .slice (some ⟨w.heap.size, 0, none⟩) 1 1]).run Try.prog (w.alloc (.cells #[vs] 69)) = .ok v' w2 ∧ MRow w2 base N v' (L ++ [l]) ∧ Turn (fun k => v.ownBlock = some k) w w2 ∧ (∀ k, v'.ownBlock = some k → v.ownBlock = some k ∨ w.heap.size ≤ k) := by
  obtain ⟨ps, hl, ho, hall⟩ := h.ex
  have T1 : Turn (fun _ => False) w (w.alloc (.cells #[vs] 69)) := (Turn.refl _ w).alloc _
  have ho1 := own_turn ho T1 (fun _ _ q => q)
  obtain ⟨i3, j1, j2, j3, j4⟩ := info_parts info69
  have o1 : vs.oneCell' = true := by obtain ⟨_, _, e⟩ := hs.sl; rw [e]; rfl
  obtain ⟨v', w2, hr, ho2, hg, _, hbl⟩ := run_append_own_at (w.alloc (.cells #[vs] 69)) base 51 51 69 i3 _ 1 24 Try.underlying51 j1 j2 j3 j4 rfl (by decide) _ _ _ ho1 ⟨w.heap.size, 0, none⟩ 1 1 [vs] rfl
    (cells_new w [vs] 69 _ rfl) (fun u hu => by
      simp only [List.mem_cons, List.not_mem_nil, or_false] at hu
      rcases hu with rfl
      exact o1) (by unfold maxLen; omega) (by omega) (by rw [World.size_alloc]; omega)
  rw [World.size_alloc] at hbl
  have T : Turn (fun k => v.ownBlock = some k) w w2 := (T1.more (fun _ _ q => q.elim)).trans ((Turn.refl _ _).grown hg (fun k hk => .inl hk))
  refine ⟨v', w2, hr, ⟨ps ++ [vs], by simp [hl], by rw [List.length_append]; exact ho2, fun j l' p hl' hp => ?_⟩, T, fun k hk => ?_⟩
  · rw [List.getElem?_append] at hl' hp
    rw [hl] at hp
    split at hl'
    · rename_i hlt
      rw [if_pos hlt] at hp
      exact (hall j l' p hl' hp).turn T (fun k _ e => hN k e)
    · rename_i hlt
      rw [if_neg hlt] at hp
      have h0 : j - L.length = 0 := by
        have := (List.getElem?_eq_some_iff.1 hl').1
        simpa using this
      rw [h0] at hl' hp
      simp at hl' hp
      subst hl'; subst hp
      exact hs.turn T (fun k _ e => hN k e)
  · rcases hbl with e | e
    · exact .inl (e ▸ hk)
    · rw [e] at hk
      cases hk
      exact .inr (by omega)
/-- The first matches less. -/
theorem HoldAt.drop {S M : Nat → Prop} {w w' : World} {base : Nat} {Q : Int → Option Wt} {F : Int → List Fnd} (h : HoldAt w base M Q F) {i : Int} {bk : Option Nat} {n cap k : Nat} {lo : Bool} (hq : Q i = some ⟨bk, n, cap, lo⟩) (hk : k ≤ n)
    (hr : FRow w' base M (Wt.sl ⟨bk, n - k, cap, lo⟩) ((F i).drop k)) (T : Turn S w w') (hM : ∀ k, M k → ¬ S k) (hR : ∀ (j : Int) (q : Wt) (k : Nat), j ≠ i → Q j = some q → q.sl.ownBlock = some k → ¬ S k) :
    HoldAt w' base M (updI Q i (some ⟨bk, n - k, cap, lo⟩)) (updI F i ((F i).drop k)) := by
  have ob : ∀ m, (Wt.sl ⟨bk, n - k, cap, lo⟩).ownBlock = some m → (Wt.sl ⟨bk, n, cap, lo⟩).ownBlock = some m := fun m hm => by
    unfold Wt.sl at hm ⊢
    cases bk with
    | none => simp [Value.ownBlock] at hm
    | some b => simpa [Value.ownBlock] using hm
  refine ⟨fun j r hr' => ?_, fun j l r s m hne hR' hs hm hm2 => ?_, fun m hm => Nat.lt_of_lt_of_le (h.mlt m hm) T.size, fun j r m hr' hm => ?_, fun j hj => ?_⟩
  · by_cases e : j = i
    · subst e
      rw [updI_at] at hr' ⊢
      cases hr'
      have := (h.row j _ hq).1
      dsimp only at this
      exact ⟨by simp [this], hr⟩
    · rw [updI_off _ _ e] at hr' ⊢
      exact ⟨(h.row j r hr').1, (h.row j r hr').2.turn T hM (fun k hk => hR j r k e hr' hk)⟩
  · by_cases e : j = i
    · subst e
      rw [updI_at] at hR'
      cases hR'
      rw [updI_off _ _ (Ne.symm hne)] at hs
      exact h.apart j l _ s m hne hq hs (ob m hm) hm2
    · rw [updI_off _ _ e] at hR'
      by_cases e2 : l = i
      · subst e2
        rw [updI_at] at hs
        cases hs
        exact h.apart j l r _ m hne hR' hq hm (ob m hm2)
      · rw [updI_off _ _ e2] at hs
        exact h.apart j l r s m hne hR' hs hm hm2
  · by_cases e : j = i
    · subst e
      rw [updI_at] at hr'
      cases hr'
      exact h.mno j _ m hq (ob m hm)
    · rw [updI_off _ _ e] at hr'
      exact h.mno j r m hr' hm
  · by_cases e : j = i
    · subst e
      rw [updI_at] at hj
      cases hj
    · rw [updI_off _ _ e] at hj ⊢
      exact h.gap j hj
end Go.Proofs.Ytepmealhnnoahaa
