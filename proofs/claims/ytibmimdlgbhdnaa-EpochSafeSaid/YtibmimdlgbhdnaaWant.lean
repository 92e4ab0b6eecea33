/-
  Four rows of refs in an array of slices, beside epochs; and what ripens of a limbo that is in order.
-/
import Derived.Test.YtibmimdlgbhdnaaWaitsWalk
namespace Go.Proofs.Ytibmimdlgbhdnaa
open Go.ChangeShapes Go.WideShapes Go.ChangeAt Go.RowKit
set_option linter.unusedVariables false

/-- Four slices of refs in the cells of block wb, each a row of its own from block base on. -/
structure Wnt (w : World) (wb base : Nat) (Vw : Nat → Value) (W : Nat → List (Int × Int)) : Prop where
  lw : wb < base
  bw : base ≤ w.heap.size
  cv : ∀ k, k < 4 → w.cell? ⟨wb, k, none⟩ = some (Vw k)
  fz : ∀ i, w.frozen? ⟨wb, i, none⟩ = false
  rows : ∀ k, k < 4 → w.ownsRow base 51 2 (Vw k) (W k).length (cells2 (W k))
  apart : ∀ a b, a < 4 → b < 4 → a ≠ b → (Vw a).ownBlock = none ∨ (Vw a).ownBlock ≠ (Vw b).ownBlock

def WOwn (wb : Nat) (Vw : Nat → Value) (k : Nat) : Prop := k = wb ∨ ∃ a, a < 4 ∧ (Vw a).ownBlock = some k

section
variable {w w' : World} {wb base base' : Nat} {Vw : Nat → Value} {W : Nat → List (Int × Int)}
  {x lb n : Nat} {now : Int} {P : Nat → Int} {V : Nat → Value} {Q : Nat → List (Int × Int × Int)}

theorem Wnt.keep (h : Wnt w wb base Vw W) {S : Nat → Prop} (ht : Turn S w w') (hs : ∀ k, k < w.heap.size → WOwn wb Vw k → ¬ S k) : Wnt w' wb base Vw W := by
  have lw : wb < w.heap.size := Nat.lt_of_lt_of_le h.lw h.bw
  have e1 := ht.block wb lw (hs wb lw (.inl rfl))
  exact ⟨h.lw, Nat.le_trans h.bw ht.size, fun k hk => (World.cell?_of_block (w := w) e1).trans (h.cv k hk), fun i => (World.frozen?_of_block (w := w) e1).trans (h.fz i),
    fun a ha => own_turn (h.rows a ha) ht (fun k hk => hs k ((h.rows a ha).lt k hk).2 (.inr ⟨a, ha, hk⟩)), h.apart⟩
theorem Wnt.same (h : Wnt w wb base Vw W) (ht : Turn (fun _ => False) w w') : Wnt w' wb base Vw W := h.keep ht (fun _ _ _ => id)
theorem Epo.same (h : Epo w x lb n base now P V Q) (ht : Turn (fun _ => False) w w') : Epo w' x lb n base now P V Q := h.keep ht (fun _ _ _ => id)

/-- The array lies apart from the epochs. -/
structure Off (wb base x lb base' : Nat) : Prop where
  nx : wb ≠ x
  nl : wb ≠ lb
  nb : wb < base'
  bx : x < base
  bl : lb < base

theorem off_both (g : Wnt w wb base Vw W) (h : Epo w x lb n base' now P V Q) (o : Off wb base x lb base') {k : Nat} (h1 : WOwn wb Vw k) (h2 : EpoOwn x lb n V k) : False := by
  have o1 := o.nx
  have o2 := o.nl
  have o3 := o.nb
  have o4 := o.bx
  have o5 := o.bl
  rcases h1 with rfl | ⟨a, ha, e⟩
  · rcases h2 with e | e | ⟨b, hb, e⟩
    · exact o1 e
    · exact o2 e
    · have := h.rowx hb e
      omega
  · have l1 := ((g.rows a ha).lt k e).1
    rcases h2 with e2 | e2 | ⟨b, hb, e2⟩
    · omega
    · omega
    · rcases own_apart (g.rows a ha) (h.rows b hb) (by decide) with q | q
      · rw [e] at q
        cases q
      · exact q (by rw [e, e2])
theorem Wnt.keepE (g : Wnt w wb base Vw W) (h : Epo w x lb n base' now P V Q) (o : Off wb base x lb base') (ht : Turn (EpoOwn x lb n V) w w') : Wnt w' wb base Vw W :=
  g.keep ht (fun k _ h1 h2 => off_both g h o h1 h2)
theorem Epo.keepW (h : Epo w x lb n base' now P V Q) (g : Wnt w wb base Vw W) (o : Off wb base x lb base') (ht : Turn (WOwn wb Vw) w w') : Epo w' x lb n base' now P V Q :=
  h.keep ht (fun k _ h1 h2 => off_both g h o h2 h1)

theorem Wnt.put (h : Wnt w wb base Vw W) {a : Nat} (ha : a < 4) {v' : Value} {q' : List (Int × Int)} (ht : Turn (fun k => (Vw a).ownBlock = some k) w w') (ho : w'.ownsRow base 51 2 v' q'.length (cells2 q'))
    (hf : ∀ b, b < 4 → b ≠ a → v'.ownBlock = none ∨ v'.ownBlock ≠ (Vw b).ownBlock) : Wnt (w'.setCell ⟨wb, a, none⟩ v') wb base (upd Vw a v') (upd W a q') ∧ Turn (WOwn wb Vw) w (w'.setCell ⟨wb, a, none⟩ v') := by
  have lw : wb < w.heap.size := Nat.lt_of_lt_of_le h.lw h.bw
  have hlw := h.lw
  have e1 := ht.block wb lw (fun e => by have := ((h.rows a ha).lt wb e).1; omega)
  refine ⟨⟨h.lw, by simpa using Nat.le_trans h.bw ht.size, fun b hb => ?_, fun i => by simpa using (World.frozen?_of_block (w := w) e1).trans (h.fz i), fun b hb => ?_, fun b c hb hc hbc => ?_⟩, ?_⟩
  · by_cases e : b = a
    · subst e
      rw [upd_at]
      exact World.cell?_setCell_same _ _ _ ((World.cell?_of_block (w := w) e1).trans (h.cv b hb))
    · rw [cell_off _ _ _ _ _ (Ne.symm e), upd_off _ _ e]
      exact (World.cell?_of_block (w := w) e1).trans (h.cv b hb)
  · by_cases e : b = a
    · subst e
      rw [upd_at, upd_at]
      exact own_keep ho (fun k hk => Below.heap_setCell _ _ _ _ (by have := (ho.lt k hk).1; show k ≠ wb; omega))
    · rw [upd_off _ _ e, upd_off _ _ e]
      refine own_keep (own_keep (w' := w') (h.rows b hb) (fun k hk => ht.block k ((h.rows b hb).lt k hk).2 (fun e3 => ?_))) (fun k hk => Below.heap_setCell _ _ _ _ (by have := ((h.rows b hb).lt k hk).1; show k ≠ wb; omega))
      rcases h.apart b a hb ha e with q | q
      · rw [hk] at q
        exact absurd q (by simp)
      · exact q (by rw [hk, e3])
  · by_cases eb : b = a
    · subst eb
      rw [upd_at, upd_off _ _ (Ne.symm hbc)]
      exact hf c hc (Ne.symm hbc)
    · by_cases ec : c = a
      · subst ec
        rw [upd_at, upd_off _ _ eb]
        rcases hf b hb eb with q | q
        · rcases h.apart b c hb ha eb with q2 | q2
          · exact .inl q2
          · rw [q]
            cases hv : (Vw b).ownBlock
            · exact .inl rfl
            · exact .inr (by simp)
        · exact .inr (Ne.symm q)
      · rw [upd_off _ _ eb, upd_off _ _ ec]
        exact h.apart b c hb hc hbc
  · exact (ht.more (fun k _ hk => .inr ⟨a, ha, hk⟩)).setCell (p := ⟨wb, a, none⟩) (.inl (.inl rfl)) _

theorem wnt_new (w : World) (B : Nat) (hB : B = w.heap.size) (base : Nat) (hb : base = B + 1) : Wnt (w.alloc (.cells #[.slice none 0 0, .slice none 0 0, .slice none 0 0, .slice none 0 0] 67)) B base (fun _ => .slice none 0 0) (fun _ => []) := by
  subst hB hb
  refine ⟨Nat.lt_succ_self _, by simp, fun k hk => ?_, fun i => ?_, fun k _ => World.ownsRow_nil _ _ _ _, fun a b _ _ _ => .inl rfl⟩
  · have : k = 0 ∨ k = 1 ∨ k = 2 ∨ k = 3 := by omega
    rcases this with rfl | rfl | rfl | rfl <;> exact World.cell?_alloc_new ..
  · rw [frozen?_alloc_cells]
    exact Go.Proofs.Ytibmimdlgbhdnaa.fz _ (Nat.le_refl _)
end

theorem cells2_one : ∀ (l : List (Int × Int)), ∀ u ∈ cells2 l, u.oneCell' = true
  | [], u, h => by simp [cells2] at h
  | y :: l, u, h => by
    simp only [cells2, List.mem_cons] at h
    rcases h with rfl | rfl | h
    · rfl
    · rfl
    · exact cells2_one l u h
theorem cells2_app : ∀ (l m : List (Int × Int)), cells2 (l ++ m) = cells2 l ++ cells2 m
  | [], m => rfl
  | y :: l, m => by simp [cells2, cells2_app l m]

/-- A row of refs that is appended to a row of refs. -/
theorem append_refs {w : World} {base b2 : Nat} {v v2 : Value} {l m : List (Int × Int)} (h : w.ownsRow base 51 2 v l.length (cells2 l)) (h2 : w.ownsRow b2 51 2 v2 m.length (cells2 m)) (hb : base ≤ w.heap.size) (hl : l.length + m.length ≤ 1000000) :
    ∃ v' w', (Builtin.append_ #[53, 53] 53 #[v, v2]).run Try.prog w = .ok v' w' ∧ w'.ownsRow base 51 2 v' (l ++ m).length (cells2 (l ++ m)) ∧ w.grownBy w' v.ownBlock := by
  obtain ⟨i3, j1, j2, j3, j4⟩ := info_parts info51
  rcases h2.2 with ⟨rfl, hn⟩ | ⟨g, cap, cur, rfl, hg, hgg, hc, hm, hcs, htk⟩
  · have hm0 : m = [] := List.length_eq_zero_iff.1 hn
    subst hm0
    exact ⟨v, w, run_append_owned_none w base 53 53 51 i3 2 Try.underlying53 j1 v l.length (cells2 l) h, by simpa using h, ⟨rfl, rfl, rfl, Nat.le_refl _, fun _ _ _ => rfl⟩⟩
  · obtain ⟨v', w', hr, ho, hg2, _⟩ := run_append_own w base 53 53 51 i3 (.agg #[.int .i64 0, .int .i64 0]) 2 16 Try.underlying53 j1 j2 j3 j4 rfl (by decide) v l.length (cells2 l) h ⟨g, 0, none⟩ m.length cap (cells2 m) h2.1 (h2.cells rfl) (cells2_one m) (by unfold maxLen; omega) (by omega) hb
    exact ⟨v', w', hr, by rw [List.length_append, cells2_app]; exact ho, hg2⟩
/-- In order, and not beyond. -/
def Srt (N : Int) (l : List (Int × Int × Int)) : Prop := l.Pairwise (fun p q => p.2.2 ≤ q.2.2) ∧ ∀ q ∈ l, q.2.2 ≤ N
theorem Srt.snoc {N : Int} {l : List (Int × Int × Int)} (h : Srt N l) (a b : Int) : Srt N (l ++ [(a, b, N)]) := by
  refine ⟨List.pairwise_append.2 ⟨h.1, List.pairwise_singleton _ _, fun p hp q hq => ?_⟩, fun q hq => ?_⟩
  · simp at hq
    subst hq
    exact h.2 p hp
  · rcases List.mem_append.1 hq with hq | hq
    · exact h.2 q hq
    · simp at hq
      subst hq
      exact Int.le_refl _
theorem Srt.more {N M : Int} {l : List (Int × Int × Int)} (h : Srt N l) (hN : N ≤ M) : Srt M l := ⟨h.1, fun q hq => Int.le_trans (h.2 q hq) hN⟩
theorem srt_parts (t : Int) : ∀ (l : List (Int × Int × Int)), l.Pairwise (fun p q => p.2.2 ≤ q.2.2) → told t l ++ (kept t l).map ref = l.map ref
  | [], _ => rfl
  | q :: l, h => by
    have h1 := List.pairwise_cons.1 h
    by_cases hq : rp t q = true
    · have ih := srt_parts t l h1.2
      simp only [told, kept, List.filter_cons, hq, if_true, Bool.not_true, List.map_cons, List.cons_append] at ih ⊢
      simpa using ih
    · have hno : ∀ p ∈ l, rp t p = false := fun p hp => by
        have := h1.1 p hp
        simp only [rp, decide_eq_true_eq, decide_eq_false_iff_not] at hq ⊢
        omega
      have e1 : l.filter (rp t) = [] := List.filter_eq_nil_iff.2 (fun p hp => by rw [hno p hp]; simp)
      have e2 : l.filter (fun p => !rp t p) = l := List.filter_eq_self.2 (fun p hp => by rw [hno p hp]; rfl)
      have hq' : rp t q = false := by simpa using hq
      simp [told, kept, hq', e1, e2]
theorem told_all {t : Int} {l : List (Int × Int × Int)} (h : ∀ q ∈ l, q.2.2 ≤ t - 2) : told t l = l.map ref ∧ kept t l = [] := by
  have hr : ∀ q ∈ l, rp t q = true := fun q hq => by simpa [rp] using h q hq
  exact ⟨by rw [told, List.filter_eq_self.2 hr], List.filter_eq_nil_iff.2 (fun p hp => by rw [hr p hp]; simp)⟩
theorem kept_mem {t : Int} {l : List (Int × Int × Int)} {q : Int × Int × Int} (h : q ∈ kept t l) : q ∈ l := (List.mem_filter.1 h).1
/-- What was told at once and two steps later is all that was retired, in order; and nothing is left. -/
theorem ripe_twice {N : Int} {l : List (Int × Int × Int)} (h : Srt N l) : told N l ++ told (N + 1 + 1) (kept N l) = l.map ref ∧ kept (N + 1 + 1) (kept N l) = [] := by
  obtain ⟨a, b⟩ := told_all (t := N + 1 + 1) (l := kept N l) (fun q hq => by have := h.2 q (kept_mem hq); omega)
  rw [a]
  exact ⟨srt_parts N l h.1, b⟩
end Go.Proofs.Ytibmimdlgbhdnaa
