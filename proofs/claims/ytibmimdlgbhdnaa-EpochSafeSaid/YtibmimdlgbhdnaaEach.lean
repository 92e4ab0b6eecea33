/-
  The arrays of EpochEach beside epochs: for each actor what it retired in order, when that was, and how much of it came out.
-/
import Derived.Test.YtibmimdlgbhdnaaRipeO
namespace Go.Proofs.Ytibmimdlgbhdnaa
open Go.ChangeShapes Go.WideShapes Go.ChangeAt Go.RowKit
set_option linter.unusedVariables false

def ids (l : List Nat) : List Value := l.map (fun (k : Nat) => .int .i64 (k : Int))

/-- Sixteen rows of numbers, sixty epochs, sixteen counts. -/
structure Arr (w : World) (ob tb nb base : Nat) (Vo : Nat → Value) (O : Nat → List Nat) (A : Nat → Int) (N : Nat → Nat) : Prop where
  lo : ob < base
  lt : tb < base
  ln : nb < base
  ot : ob ≠ tb
  on : ob ≠ nb
  tn : tb ≠ nb
  bw : base ≤ w.heap.size
  co : ∀ k, k < 5 → w.cell? ⟨ob, k, none⟩ = some (Vo k)
  ct : ∀ k, k < 60 → w.cell? ⟨tb, k, none⟩ = some (.int .i64 (A k))
  cn : ∀ k, k < 5 → w.cell? ⟨nb, k, none⟩ = some (.int .i64 (N k : Int))
  fo : ∀ i, w.frozen? ⟨ob, i, none⟩ = false
  ft : ∀ i, w.frozen? ⟨tb, i, none⟩ = false
  fn : ∀ i, w.frozen? ⟨nb, i, none⟩ = false
  rows : ∀ k, k < 5 → w.ownsRow base 3 1 (Vo k) (O k).length (ids (O k))
  apart : ∀ a b, a < 5 → b < 5 → a ≠ b → (Vo a).ownBlock = none ∨ (Vo a).ownBlock ≠ (Vo b).ownBlock

def AOwn (ob tb nb : Nat) (Vo : Nat → Value) (k : Nat) : Prop := k = ob ∨ k = tb ∨ k = nb ∨ ∃ a, a < 5 ∧ (Vo a).ownBlock = some k

section
variable {w w' : World} {ob tb nb base : Nat} {Vo : Nat → Value} {O : Nat → List Nat} {A : Nat → Int} {N : Nat → Nat}
  {x lb n : Nat} {now : Int} {P : Nat → Int} {V : Nat → Value} {Q : Nat → List (Int × Int × Int)}

theorem Arr.keep (h : Arr w ob tb nb base Vo O A N) {S : Nat → Prop} (ht : Turn S w w') (hs : ∀ k, k < w.heap.size → AOwn ob tb nb Vo k → ¬ S k) : Arr w' ob tb nb base Vo O A N := by
  have e1 := ht.block ob (Nat.lt_of_lt_of_le h.lo h.bw) (hs ob (Nat.lt_of_lt_of_le h.lo h.bw) (.inl rfl))
  have e2 := ht.block tb (Nat.lt_of_lt_of_le h.lt h.bw) (hs tb (Nat.lt_of_lt_of_le h.lt h.bw) (.inr (.inl rfl)))
  have e3 := ht.block nb (Nat.lt_of_lt_of_le h.ln h.bw) (hs nb (Nat.lt_of_lt_of_le h.ln h.bw) (.inr (.inr (.inl rfl))))
  exact ⟨h.lo, h.lt, h.ln, h.ot, h.on, h.tn, Nat.le_trans h.bw ht.size, fun k hk => (World.cell?_of_block (w := w) e1).trans (h.co k hk), fun k hk => (World.cell?_of_block (w := w) e2).trans (h.ct k hk), fun k hk => (World.cell?_of_block (w := w) e3).trans (h.cn k hk),
    fun i => (World.frozen?_of_block (w := w) e1).trans (h.fo i), fun i => (World.frozen?_of_block (w := w) e2).trans (h.ft i), fun i => (World.frozen?_of_block (w := w) e3).trans (h.fn i),
    fun a ha => own_turn (h.rows a ha) ht (fun k hk => hs k ((h.rows a ha).lt k hk).2 (.inr (.inr (.inr ⟨a, ha, hk⟩)))), h.apart⟩
theorem Arr.same (h : Arr w ob tb nb base Vo O A N) (ht : Turn (fun _ => False) w w') : Arr w' ob tb nb base Vo O A N := h.keep ht (fun _ _ _ => id)

/-- The epochs' blocks lie apart from the arrays. -/
structure EOff (x lb ob tb nb base : Nat) : Prop where
  nx : x ≠ ob ∧ x ≠ tb ∧ x ≠ nb
  nl : lb ≠ ob ∧ lb ≠ tb ∧ lb ≠ nb
  bx : x < base
  bl : lb < base
theorem e_both (g : Arr w ob tb nb base Vo O A N) (h : Epo w x lb n base now P V Q) (o : EOff x lb ob tb nb base) {k : Nat} (h1 : AOwn ob tb nb Vo k) (h2 : EpoOwn x lb n V k) : False := by
  obtain ⟨⟨a1, a2, a3⟩, ⟨b1, b2, b3⟩, o4, o5⟩ := o
  have l1 := g.lo
  have l2 := g.lt
  have l3 := g.ln
  rcases h2 with rfl | rfl | ⟨b, hb, e⟩
  · rcases h1 with h1 | h1 | h1 | ⟨a, ha, e⟩
    · exact a1 h1
    · exact a2 h1
    · exact a3 h1
    · have := ((g.rows a ha).lt k e).1
      omega
  · rcases h1 with h1 | h1 | h1 | ⟨a, ha, e⟩
    · exact b1 h1
    · exact b2 h1
    · exact b3 h1
    · have := ((g.rows a ha).lt k e).1
      omega
  · have := h.rowx hb e
    rcases h1 with h1 | h1 | h1 | ⟨a, ha, e2⟩
    · omega
    · omega
    · omega
    · rcases own_apart (g.rows a ha) (h.rows b hb) (by decide) with q | q
      · rw [e2] at q
        cases q
      · exact q (by rw [e, e2])
theorem Arr.keepE (g : Arr w ob tb nb base Vo O A N) (h : Epo w x lb n base now P V Q) (o : EOff x lb ob tb nb base) (ht : Turn (EpoOwn x lb n V) w w') : Arr w' ob tb nb base Vo O A N :=
  g.keep ht (fun k _ h1 h2 => e_both g h o h1 h2)
theorem Epo.keepA (h : Epo w x lb n base now P V Q) (g : Arr w ob tb nb base Vo O A N) (o : EOff x lb ob tb nb base) (ht : Turn (AOwn ob tb nb Vo) w w') : Epo w' x lb n base now P V Q :=
  h.keep ht (fun k _ h1 h2 => e_both g h o h2 h1)

theorem Arr.setAt (h : Arr w ob tb nb base Vo O A N) {k : Nat} (hk : k < 60) (v : Int) : Arr (w.setCell ⟨tb, k, none⟩ (.int .i64 v)) ob tb nb base Vo O (upd A k v) N ∧ Turn (AOwn ob tb nb Vo) w (w.setCell ⟨tb, k, none⟩ (.int .i64 v)) := by
  have ht : Turn (AOwn ob tb nb Vo) w (w.setCell ⟨tb, k, none⟩ (.int .i64 v)) := (Turn.refl _ w).setCell (p := ⟨tb, k, none⟩) (.inl (.inr (.inl rfl))) _
  refine ⟨⟨h.lo, h.lt, h.ln, h.ot, h.on, h.tn, by simpa using h.bw, fun j hj => by rw [cell_far _ _ _ _ _ _ (Ne.symm h.ot)]; exact h.co j hj, fun j hj => ?_, fun j hj => by rw [cell_far _ _ _ _ _ _ h.tn]; exact h.cn j hj, fun i => by simpa using h.fo i, fun i => by simpa using h.ft i, fun i => by simpa using h.fn i,
    fun a ha => own_keep (h.rows a ha) (fun b hb => Below.heap_setCell _ _ _ _ (by have := ((h.rows a ha).lt b hb).1; have := h.lt; show b ≠ tb; omega)), h.apart⟩, ht⟩
  by_cases e : j = k
  · subst e
    rw [upd_at]
    exact World.cell?_setCell_same _ _ _ (h.ct j hj)
  · rw [cell_off _ _ _ _ _ (Ne.symm e), upd_off _ _ e]
    exact h.ct j hj
theorem Arr.setNext (h : Arr w ob tb nb base Vo O A N) {k : Nat} (hk : k < 5) (v : Nat) : Arr (w.setCell ⟨nb, k, none⟩ (.int .i64 (v : Int))) ob tb nb base Vo O A (upd N k v) ∧ Turn (AOwn ob tb nb Vo) w (w.setCell ⟨nb, k, none⟩ (.int .i64 (v : Int))) := by
  have ht : Turn (AOwn ob tb nb Vo) w (w.setCell ⟨nb, k, none⟩ (.int .i64 (v : Int))) := (Turn.refl _ w).setCell (p := ⟨nb, k, none⟩) (.inl (.inr (.inr (.inl rfl)))) _
  refine ⟨⟨h.lo, h.lt, h.ln, h.ot, h.on, h.tn, by simpa using h.bw, fun j hj => by rw [cell_far _ _ _ _ _ _ (Ne.symm h.on)]; exact h.co j hj, fun j hj => by rw [cell_far _ _ _ _ _ _ (Ne.symm h.tn)]; exact h.ct j hj, fun j hj => ?_, fun i => by simpa using h.fo i, fun i => by simpa using h.ft i, fun i => by simpa using h.fn i,
    fun a ha => own_keep (h.rows a ha) (fun b hb => Below.heap_setCell _ _ _ _ (by have := ((h.rows a ha).lt b hb).1; have := h.ln; show b ≠ nb; omega)), h.apart⟩, ht⟩
  by_cases e : j = k
  · subst e
    rw [upd_at]
    exact World.cell?_setCell_same _ _ _ (h.cn j hj)
  · rw [cell_off _ _ _ _ _ (Ne.symm e), upd_off _ _ e]
    exact h.cn j hj
theorem Arr.put (h : Arr w ob tb nb base Vo O A N) {a : Nat} (ha : a < 5) {v' : Value} {q' : List Nat} (ht : Turn (fun k => (Vo a).ownBlock = some k) w w') (ho : w'.ownsRow base 3 1 v' q'.length (ids q'))
    (hf : ∀ b, b < 5 → b ≠ a → v'.ownBlock = none ∨ v'.ownBlock ≠ (Vo b).ownBlock) : Arr (w'.setCell ⟨ob, a, none⟩ v') ob tb nb base (upd Vo a v') (upd O a q') A N ∧ Turn (AOwn ob tb nb Vo) w (w'.setCell ⟨ob, a, none⟩ v') := by
  have l1 := h.lo
  have l2 := h.lt
  have l3 := h.ln
  have e1 := ht.block ob (Nat.lt_of_lt_of_le h.lo h.bw) (fun e => by have := ((h.rows a ha).lt ob e).1; omega)
  have e2 := ht.block tb (Nat.lt_of_lt_of_le h.lt h.bw) (fun e => by have := ((h.rows a ha).lt tb e).1; omega)
  have e3 := ht.block nb (Nat.lt_of_lt_of_le h.ln h.bw) (fun e => by have := ((h.rows a ha).lt nb e).1; omega)
  refine ⟨⟨h.lo, h.lt, h.ln, h.ot, h.on, h.tn, by simpa using Nat.le_trans h.bw ht.size, fun b hb => ?_, fun k hk => by rw [cell_far _ _ _ _ _ _ h.ot]; exact (World.cell?_of_block (w := w) e2).trans (h.ct k hk), fun k hk => by rw [cell_far _ _ _ _ _ _ h.on]; exact (World.cell?_of_block (w := w) e3).trans (h.cn k hk),
    fun i => by simpa using (World.frozen?_of_block (w := w) e1).trans (h.fo i), fun i => by simpa using (World.frozen?_of_block (w := w) e2).trans (h.ft i), fun i => by simpa using (World.frozen?_of_block (w := w) e3).trans (h.fn i), fun b hb => ?_, fun b c hb hc hbc => ?_⟩, ?_⟩
  · by_cases e : b = a
    · subst e
      rw [upd_at]
      exact World.cell?_setCell_same _ _ _ ((World.cell?_of_block (w := w) e1).trans (h.co b hb))
    · rw [cell_off _ _ _ _ _ (Ne.symm e), upd_off _ _ e]
      exact (World.cell?_of_block (w := w) e1).trans (h.co b hb)
  · by_cases e : b = a
    · subst e
      rw [upd_at, upd_at]
      exact own_keep ho (fun k hk => Below.heap_setCell _ _ _ _ (by have := (ho.lt k hk).1; show k ≠ ob; omega))
    · rw [upd_off _ _ e, upd_off _ _ e]
      refine own_keep (own_keep (w' := w') (h.rows b hb) (fun k hk => ht.block k ((h.rows b hb).lt k hk).2 (fun e3 => ?_))) (fun k hk => Below.heap_setCell _ _ _ _ (by have := ((h.rows b hb).lt k hk).1; show k ≠ ob; omega))
      rcases h.apart b a hb ha e with q | q
      · rw [hk] at q
        exact absurd q (by simp)
      · exact q (by rw [hk, e3])
  · by_cases eb : b = a
    · subst eb
      rw [upd_at, upd_off _ _ (Ne.symm hbc)]
      exact hf c hc (Ne.symm hbc)
    · by_cases ec : c = a
      · subst ec
        rw [upd_at, upd_off _ _ eb]
        rcases hf b hb eb with q | q
        · rcases h.apart b c hb ha eb with q2 | q2
          · exact .inl q2
          · rw [q]
            cases hv : (Vo b).ownBlock
            · exact .inl rfl
            · exact .inr (by simp)
        · exact .inr (Ne.symm q)
      · rw [upd_off _ _ eb, upd_off _ _ ec]
        exact h.apart b c hb hc hbc
  · exact (ht.more (fun k _ hk => .inr (.inr (.inr ⟨a, ha, hk⟩)))).setCell (p := ⟨ob, a, none⟩) (.inl (.inl rfl)) _
end

/-- The first of a limbo that is in order are told, the others stay, and the first of these is not ripe. -/
theorem srt_split (t : Int) : ∀ (l : List (Int × Int × Int)), l.Pairwise (fun p q => p.2.2 ≤ q.2.2) → ∃ m, m ≤ l.length ∧ told t l = (l.take m).map ref ∧ kept t l = l.drop m ∧ (∀ (j : Nat) q, j < m → l[j]? = some q → q.2.2 ≤ t - 2) ∧ ∀ q, l[m]? = some q → ¬ q.2.2 ≤ t - 2
  | [], _ => ⟨0, Nat.le_refl _, rfl, rfl, fun j q hj => absurd hj (Nat.not_lt_zero j), fun q hq => by simp at hq⟩
  | q :: l, h => by
    have h1 := List.pairwise_cons.1 h
    by_cases hq : rp t q = true
    · obtain ⟨m, hm, e1, e2, e3, e4⟩ := srt_split t l h1.2
      refine ⟨m + 1, by simpa using hm, ?_, ?_, fun j p hj hp => ?_, fun p hp => e4 p (by simpa using hp)⟩
      · simp only [told, List.filter_cons, hq, if_true, List.map_cons, List.take_succ_cons] at e1 ⊢
        rw [e1]
      · simp only [kept, List.filter_cons, hq, List.drop_succ_cons] at e2 ⊢
        simpa using e2
      · cases j with
        | zero =>
          simp at hp
          subst hp
          simpa [rp] using hq
        | succ j => exact e3 j p (by omega) (by simpa using hp)
    · have hno : ∀ p ∈ l, rp t p = false := fun p hp => by
        have := h1.1 p hp
        simp only [rp, decide_eq_true_eq, decide_eq_false_iff_not] at hq ⊢
        omega
      have e1 : l.filter (rp t) = [] := List.filter_eq_nil_iff.2 (fun p hp => by rw [hno p hp]; simp)
      have e2 : l.filter (fun p => !rp t p) = l := List.filter_eq_self.2 (fun p hp => by rw [hno p hp]; rfl)
      have hq' : rp t q = false := by simpa using hq
      refine ⟨0, Nat.zero_le _, by simp [told, hq', e1], by simp [kept, hq', e2], fun j p hj => absurd hj (Nat.not_lt_zero j), fun p hp => ?_⟩
      simp at hp
      subst hp
      simpa [rp] using hq
end Go.Proofs.Ytibmimdlgbhdnaa
