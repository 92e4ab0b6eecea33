/-
  A desk told by what waits: a query comes, is ended, is asked.
-/
import Derived.Test.YtepmealhnnoahaaRi
namespace Go.Proofs.Ytepmealhnnoahaa
set_option linter.unusedSimpArgs false
open Go.ChangeShapes Go.WideShapes Go.ChangeAt Go.RowKit
set_option linter.unusedVariables false
/-- What a desk answers, and what it is then. -/
structure Res where
  S : Int → Option (List Fnd × Bool)
  m : Nat
  err : Int
  num : Int
  ms : List (List (List Int))
  gone : List (Int × Int)
def regR (qu : Int) (S : Int → Option (List Fnd × Bool)) (m : Nat) (i : Int) : Res :=
  if (m : Int) < qu then ⟨updI S i (some ((S i).getD ([], false))), if (S i).isSome then m else m + 1, 0, i, [], []⟩ else ⟨S, m, 16, 0, [], []⟩
def unrR (S : Int → Option (List Fnd × Bool)) (m : Nat) (i : Int) : Res := match S i with
  | none => ⟨S, m, 15, 0, [], []⟩
  | some (l, _) => ⟨updI S i none, m - 1, 0, 0, [], frefs l⟩
def polR (S : Int → Option (List Fnd × Bool)) (m : Nat) (i most : Int) : Res :=
  if most < 1 then ⟨S, m, 1, 0, [], []⟩ else match S i with
  | none => ⟨S, m, 15, 0, [], []⟩
  | some (l, lo) => if l = [] ∧ lo = true then ⟨S, m, 20, 0, [], []⟩ else
    ⟨updI S i (some (l.drop (min most.toNat l.length), lo)), m, 0, 0, (l.take (min most.toNat l.length)).map (·.sets), frefs (l.take (min most.toNat l.length))⟩
section
variable {w w' : World} {d mb base : Nat} {qu ou : Int} {cnt m : Nat} {S : Int → Option (List Fnd × Bool)} {P : Nat → Prop} {gbase gb : Nat} {l : List (Int × Int)}
theorem DAt.register (h : DAt w d mb base qu ou cnt m S P) {i : Int} (hi : (Lit.int .i64 i).wf = true) (hcnt : cnt < maxLen) :
    Calls Try.prog 29 #[.pointer (some ⟨d, 0, none⟩), .int .i64 i] w fun e w' => e = .returned (.agg (ansL (regR qu S m i).err (regR qu S m i).num).toArray) ∧ DAt w' d mb base qu ou (cnt + 1) (regR qu S m i).m (regR qu S m i).S P ∧ Turn (fun k => k = mb) w w' := by
  have hP := h
  obtain ⟨⟨Q, F, M, c, h1, h2, h3, h4, rfl, rfl⟩, hb, hc⟩ := h
  unfold regR
  by_cases hm : (m : Int) < qu
  · rw [if_pos hm]
    refine (h2.register_yes (by omega) hm hi (m' := if (absS Q F i).isSome then m else m + 1) (by unfold absS; cases Q i <;> rfl)).mono ?_
    rintro e w' ⟨rfl, hd, T⟩
    have nm : ∀ k, M k → k ≠ mb := fun k m e => by
      rcases h4 k m with h | h | h
      · exact h2.ne h e
      · exact h2.ne h e
      · exact h2.ne h e
    have h3' := h3.turn T (fun k m => nm k m) (fun j r k hr hk => h2.ne (h3.blk hr hk))
    have rowEq : ∀ j r, updI Q i (some ((Q i).getD Wt.zero)) j = some r → Q j = some r ∨ (j = i ∧ Q i = none ∧ r = Wt.zero) := fun j r hr => by
      by_cases e : j = i
      · subst e
        rw [updI_at] at hr
        cases hq : Q j with
        | none => rw [hq] at hr; cases hr; exact .inr ⟨rfl, rfl, rfl⟩
        | some q => rw [hq] at hr; cases hr; exact .inl rfl
      · rw [updI_off _ _ e] at hr
        exact .inl hr
    have noz : ∀ k, Wt.zero.sl.ownBlock ≠ some k := fun k e => by simp [Wt.zero, Wt.sl, Value.ownBlock] at e
    refine ⟨rfl, ⟨⟨updI Q i (some ((Q i).getD Wt.zero)), F, M, c + 1, by omega, hd, ⟨fun j r hr => ?_, fun j j2 r s k hne hr hs hk hk2 => ?_, h3'.mlt, fun j r k hr hk => ?_, fun j hj => ?_⟩, fun k m => (h4 k m).turn T (nm k m), ?_, ?_⟩, Nat.le_trans hb T.size, hc⟩, T⟩
    · rcases rowEq j r hr with hr | ⟨rfl, hq, rfl⟩
      · exact h3'.row j r hr
      · rw [h3.gap j hq]
        exact ⟨rfl, ⟨[], rfl, ⟨rfl, .inl ⟨rfl, rfl⟩⟩, fun x f p hf _ => by simp at hf⟩⟩
    · rcases rowEq j r hr with hr | ⟨_, _, rfl⟩
      · rcases rowEq j2 s hs with hs | ⟨_, _, rfl⟩
        · exact h3'.apart j j2 r s k hne hr hs hk hk2
        · exact noz k hk2
      · exact noz k hk
    · rcases rowEq j r hr with hr | ⟨_, _, rfl⟩
      · exact h3'.mno j r k hr hk
      · exact absurd hk (noz k)
    · by_cases e : j = i
      · subst e
        rw [updI_at] at hj
        cases hj
      · rw [updI_off _ _ e] at hj
        exact h3.gap j hj
    · funext j
      dsimp only
      by_cases e : j = i
      · subst e
        rw [updI_at]
        unfold absS
        rw [updI_at]
        cases hq : Q j with
        | none => rw [h3.gap j hq]; rfl
        | some q => rfl
      · rw [updI_off _ _ e]
        unfold absS
        rw [updI_off _ _ e]
    · funext k
      unfold OwnP
      refine propext ⟨?_, ?_⟩
      · rintro (h | h | h | ⟨j, r, hr, hk⟩)
        · exact .inl h
        · exact .inr (.inl h)
        · exact .inr (.inr (.inl h))
        · by_cases e : j = i
          · subst e
            exact .inr (.inr (.inr ⟨j, r, by rw [updI_at, hr]; rfl, hk⟩))
          · exact .inr (.inr (.inr ⟨j, r, by rw [updI_off _ _ e]; exact hr, hk⟩))
      · rintro (h | h | h | ⟨j, r, hr, hk⟩)
        · exact .inl h
        · exact .inr (.inl h)
        · exact .inr (.inr (.inl h))
        · rcases rowEq j r hr with hr | ⟨_, _, rfl⟩
          · exact .inr (.inr (.inr ⟨j, r, hr, hk⟩))
          · exact absurd hk (noz k)
  · rw [if_neg hm]
    refine (h2.register_no (by omega) i).mono ?_
    rintro e w' ⟨rfl, T⟩
    exact ⟨rfl, (hP.turn T (fun _ _ q => q)).more (Nat.le_succ _), T.more (fun _ _ q => q.elim)⟩
theorem DAt.unregister (h : DAt w d mb base qu ou cnt m S P) {i : Int} (hi : (Lit.int .i64 i).wf = true) (hg : GoneAt w gbase gb l) (hgp : ∀ k, P k → k ≠ gb ∧ ¬ GB w gb k) (hn : ∀ l' lo, S i = some (l', lo) → l.length + (frefs l').length ≤ 1000000 ∧ l'.length ≤ 1000000) :
    Calls Try.prog 30 #[.pointer (some ⟨d, 0, none⟩), .int .i64 i, .func (.func 28) #[] #[.pointer (some ⟨gb, 0, none⟩)]] w fun e w' => e = .returned (.agg (ansL (unrR S m i).err (unrR S m i).num).toArray) ∧ ∃ P', Aft w w' d mb base qu ou (cnt + 1) (unrR S m i).m (unrR S m i).S P P' gbase gb (l ++ (unrR S m i).gone) := by
  have hP := h
  obtain ⟨⟨Q, F, M, c, h1, h2, h3, h4, rfl, rfl⟩, hb, hc⟩ := h
  have nm : ∀ k, M k → k ≠ mb := fun k m e => by
    rcases h4 k m with h | h | h
    · exact h2.ne h e
    · exact h2.ne h e
    · exact h2.ne h e
  have szd : ∀ k, OwnP d mb Q M k → k < w.heap.size := fun k q => hP.lt q
  unfold unrR
  cases hq : Q i with
  | none =>
    have e1 : absS Q F i = none := by unfold absS; rw [hq]; rfl
    rw [e1]
    refine (h2.unregister_no hi hq _).mono ?_
    rintro e w' ⟨rfl, T⟩
    refine ⟨rfl, OwnP d mb Q M, ?_⟩
    rw [List.append_nil]
    have := (Aft.refl hP hg hgp).none T
    exact ⟨this.desk.more (Nat.le_succ _), this.gone, this.turn, this.own, this.gbs, this.apart, this.ms, this.ap0⟩
  | some q =>
    obtain ⟨bk, n, cap, lo⟩ := q
    have e1 : absS Q F i = some (F i, lo) := by unfold absS; rw [hq]; rfl
    have hn2 := hn _ _ e1
    rw [e1]
    have hrow := (h3.row i _ hq).1
    dsimp only at hrow ⊢
    refine (h2.unregister_yes hi hq h3 hg (fun k m => ⟨nm k m, hgp k (.inr (.inr (.inl m)))⟩) (fun k hk => (hgp k (.inr (.inr (.inr ⟨i, _, hq, by rw [hk]; rfl⟩)))).2) hn2.1 (by omega)).mono ?_
    rintro e w' ⟨rfl, hd, hg', T, hgb⟩
    have hz : ∀ k, OwnP d mb Q M k → k ≠ mb → ¬ (k = mb ∨ k = gb ∨ GB w gb k) := fun k p h0 q => by
      rcases q with q | q | q
      · exact h0 q
      · exact (hgp k p).1 q
      · exact (hgp k p).2 q
    have h3' := (h3.turn T (fun k m => hz k (.inr (.inr (.inl m))) (nm k m)) (fun j r k hr hk => hz k (.inr (.inr (.inr ⟨j, r, hr, hk⟩))) (h2.ne (h3.blk hr hk)))).gone i
    have eP : ∀ k, OwnP d mb (updI Q i none) M k → OwnP d mb Q M k := fun k p => by
      rcases p with p | p | p | ⟨j, r, hr, hk⟩
      · exact .inl p
      · exact .inr (.inl p)
      · exact .inr (.inr (.inl p))
      · by_cases e : j = i
        · subst e
          rw [updI_at] at hr
          cases hr
        · rw [updI_off _ _ e] at hr
          exact .inr (.inr (.inr ⟨j, r, hr, hk⟩))
    refine ⟨rfl, _, ⟨⟨_, _, M, c, by omega, hd, h3', fun k m => (h4 k m).turn T (hz k (.inr (.inr (.inl m))) (nm k m)), ?_, rfl⟩, Nat.le_trans hb T.size, hc⟩, hg', T.more (fun k _ q => ?_), fun k p => .inl (eP k p), hgb, fun k p => ⟨(hgp k (eP k p)).1, fun g => (hgb k g).elim (hgp k (eP k p)).2 (fun q => by have := szd k (eP k p); omega)⟩, fun k p t => T.block k t.lt (hz k p (t.nmb h2)), hgp⟩
    · funext j
      by_cases e : j = i
      · subst e
        unfold absS
        rw [updI_at, updI_at, updI_at]
        rfl
      · unfold absS
        rw [updI_off _ _ e, updI_off _ _ e, updI_off _ _ e]
    · rcases q with q | q | q
      · exact .inl (.inr (.inl q))
      · exact .inr (.inl q)
      · exact .inr (.inr q)
theorem MRow.weak {N N' : Nat → Prop} {w : World} {b : Nat} {v : Value} {L : List (List (List Int))} (h : MRow w b N v L) (hN : ∀ k, N' k → N k) : MRow w b N' v L := by
  obtain ⟨ps, h1, h2, h3⟩ := h.ex
  exact ⟨ps, h1, h2, fun j l p hl hp => (h3 j l p hl hp).weak hN⟩
theorem DAt.poll (h : DAt w d mb base qu ou cnt m S P) {i most : Int} (hi : (Lit.int .i64 i).wf = true) (hcnt : cnt < maxLen) (hg : GoneAt w gbase gb l) (hgp : ∀ k, P k → k ≠ gb ∧ ¬ GB w gb k) (hn : ∀ l' lo, S i = some (l', lo) → l.length + (frefs l').length ≤ 1000000 ∧ l'.length ≤ 1000000) :
    Calls Try.prog 32 #[.pointer (some ⟨d, 0, none⟩), .int .i64 i, .int .i64 most, .func (.func 28) #[] #[.pointer (some ⟨gb, 0, none⟩)]] w fun e w' => ∃ av, e = .returned (.agg #[.int .i64 (polR S m i most).err, .int .i64 (polR S m i most).num, av]) ∧ ∃ P', Aft w w' d mb base qu ou (cnt + 1) (polR S m i most).m (polR S m i most).S P P' gbase gb (l ++ (polR S m i most).gone) ∧
      MRow w' w.heap.size (fun q => ¬ P' q) av (polR S m i most).ms := by
  have hP := h
  obtain ⟨⟨Q, F, M, c, h1, h2, h3, h4, rfl, rfl⟩, hb, hc⟩ := h
  have nm : ∀ k, M k → k ≠ mb := fun k m e => by
    rcases h4 k m with h | h | h
    · exact h2.ne h e
    · exact h2.ne h e
    · exact h2.ne h e
  have szd : ∀ k, OwnP d mb Q M k → k < w.heap.size := fun k q => hP.lt q
  have quiet : ∀ {w'}, Turn (fun _ => False) w w' → Aft w w' d mb base qu ou (cnt + 1) m (absS Q F) (OwnP d mb Q M) (OwnP d mb Q M) gbase gb (l ++ []) := fun T => by
    rw [List.append_nil]
    have := (Aft.refl hP hg hgp).none T
    exact ⟨this.desk.more (Nat.le_succ _), this.gone, this.turn, this.own, this.gbs, this.apart, this.ms, this.ap0⟩
  unfold polR
  by_cases hm : most < 1
  · rw [if_pos hm]
    refine (h2.poll_arg hi hm _).mono ?_
    rintro e w' ⟨rfl, T⟩
    exact ⟨_, rfl, _, quiet T, MRow.nil _ _ _⟩
  · rw [if_neg hm]
    cases hq : Q i with
    | none =>
      have e1 : absS Q F i = none := by unfold absS; rw [hq]; rfl
      rw [e1]
      refine (h2.poll_none hi (by omega) hq _).mono ?_
      rintro e w' ⟨rfl, T⟩
      exact ⟨_, rfl, _, quiet T, MRow.nil _ _ _⟩
    | some q =>
      obtain ⟨bk, n, cap, lo⟩ := q
      have e1 : absS Q F i = some (F i, lo) := by unfold absS; rw [hq]; rfl
      have hn2 := hn _ _ e1
      rw [e1]
      have hrow := (h3.row i _ hq).1
      dsimp only at hrow ⊢
      by_cases hl : F i = [] ∧ lo = true
      · rw [if_pos hl]
        obtain ⟨q1, rfl⟩ := hl
        obtain rfl : n = 0 := by rw [hrow, q1]; rfl
        refine (h2.poll_lost hi (by omega) hq _).mono ?_
        rintro e w' ⟨rfl, T⟩
        exact ⟨_, rfl, _, quiet T, MRow.nil _ _ _⟩
      · rw [if_neg hl]
        have hlo : 1 ≤ n ∨ lo = false := by
          cases lo with
          | false => exact .inr rfl
          | true =>
            refine .inl (Nat.pos_of_ne_zero fun e => hl ⟨?_, rfl⟩)
            rw [e] at hrow
            exact List.eq_nil_of_length_eq_zero hrow.symm
        rw [← hrow]
        refine (h2.poll_yes hi (by omega) hq hlo (k := min most.toNat n) (by omega) (by omega) h3 hg (fun k m => ⟨nm k m, hgp k (.inr (.inr (.inl m)))⟩) hn2.1 (by omega)).mono ?_
        rintro e w' ⟨av, rfl, hd, hh, hM, hg', T, hgb⟩
        have eP : ∀ k, OwnP d mb (updI Q i (some ⟨bk, n - min most.toNat n, cap, lo⟩)) M k → OwnP d mb Q M k := fun k p => by
          rcases p with p | p | p | ⟨j, r, hr, hk⟩
          · exact .inl p
          · exact .inr (.inl p)
          · exact .inr (.inr (.inl p))
          · by_cases e : j = i
            · subst e
              rw [updI_at] at hr
              cases hr
              refine .inr (.inr (.inr ⟨j, _, hq, ?_⟩))
              unfold Wt.sl at hk ⊢
              cases bk with
              | none => simp [Value.ownBlock] at hk
              | some b => simpa [Value.ownBlock] using hk
            · rw [updI_off _ _ e] at hr
              exact .inr (.inr (.inr ⟨j, r, hr, hk⟩))
        have nmS : ∀ k, M k → ¬ (k = mb ∨ k = gb ∨ GB w gb k ∨ bk = some k) := fun k m q => by
          rcases q with q | q | q | q
          · exact nm k m q
          · exact (hgp k (.inr (.inr (.inl m)))).1 q
          · exact (hgp k (.inr (.inr (.inl m)))).2 q
          · exact h3.mno i _ k hq (by rw [q]; rfl) m
        refine ⟨av, rfl, _, ⟨⟨⟨_, _, M, c + 1, by omega, hd, hh, fun k m => (h4 k m).turn T (nmS k m), ?_, rfl⟩, Nat.le_trans hb T.size, hc⟩, hg', T.more (fun k _ q => ?_), fun k p => .inl (eP k p), hgb, fun k p => ⟨(hgp k (eP k p)).1, fun g => (hgb k g).elim (hgp k (eP k p)).2 (fun q => by have := szd k (eP k p); omega)⟩, fun k p t => T.block k t.lt (fun q => by
          rcases q with q | q | q | q
          · exact t.nmb h2 q
          · exact (hgp k p).1 q
          · exact (hgp k p).2 q
          · exact t.ne (h3.blk hq (show (Wt.sl ⟨bk, n, cap, lo⟩).ownBlock = some k by rw [q]; rfl)) (by decide) rfl), hgp⟩, hM.weak (fun k q m => q (.inr (.inr (.inl m))))⟩
        · rw [absS_upd]
        · rcases q with q | q | q | q
          · exact .inl (.inr (.inl q))
          · exact .inr (.inl q)
          · exact .inr (.inr q)
          · exact .inl (.inr (.inr (.inr ⟨i, _, hq, by rw [q]; rfl⟩)))
end
end Go.Proofs.Ytepmealhnnoahaa
