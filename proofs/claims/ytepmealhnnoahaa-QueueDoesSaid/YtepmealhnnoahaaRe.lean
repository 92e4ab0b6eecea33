/-
  A desk told by what waits: a match is put, a query is lost.
-/
import Derived.Test.YtepmealhnnoahaaRd
namespace Go.Proofs.Ytepmealhnnoahaa
open Go.ChangeShapes Go.WideShapes Go.ChangeAt Go.RowKit
set_option linter.unusedVariables false
def MTy (w : World) (k : Nat) : Prop := Blk w k 46 ∨ Blk w k 3 ∨ Blk w k 38
theorem MTy.turn {S : Nat → Prop} {w w' : World} {k : Nat} (h : MTy w k) (T : Turn S w w') (hs : ¬ S k) : MTy w' k := h.imp (fun q => q.turn T hs) (fun q => q.imp (fun q => q.turn T hs) (fun q => q.turn T hs))
theorem MTy.lt {w : World} {k : Nat} (h : MTy w k) : k < w.heap.size := h.elim (fun q => q.lt) (fun q => q.elim (fun q => q.lt) (fun q => q.lt))
theorem MTy.ne {w : World} {k : Nat} (h : MTy w k) {b : Nat} {t : TypeId} (hb : Blk w b t) (ht : t ≠ 46 ∧ t ≠ 3 ∧ t ≠ 38) : k ≠ b := by
  rcases h with h | h | h
  · exact h.ne hb (Ne.symm ht.1)
  · exact h.ne hb (Ne.symm ht.2.1)
  · exact h.ne hb (Ne.symm ht.2.2)
theorem rowv_blk {w : World} {e : TypeId} {s n : Nat} {v : Value} {xs : List Value} (h : RowV w e s n v xs) {k : Nat} (hk : v.ownBlock = some k) : Blk w k e := by
  obtain ⟨b, cap, e1, hb, _⟩ := h
  rw [e1] at hk
  have : b = k := by simpa [Value.ownBlock] using hk
  rw [← this]
  exact hb
theorem SetsAt.typed {w : World} {N : Nat → Prop} {v : Value} {L : List (List Int)} (h : SetsAt w N v L) : SetsAt w (fun k => N k ∨ ¬ MTy w k) v L := by
  obtain ⟨b, cap, vs, e, h1, hb, hr, hi⟩ := h
  refine ⟨b, cap, vs, e, fun q => q.elim h1 (fun q => q (.inl hb)), hb, hr, hi.1, fun j l u hl hu => ?_⟩
  obtain ⟨x1, x2, x3⟩ := hi.2 j l u hl hu
  exact ⟨x1, fun k hk q => q.elim (x2 k hk) (fun q => q (.inr (.inl (rowv_blk x1 hk)))), x3⟩
theorem FoundAt.typed {N : Nat → Prop} {w : World} {vs vr : Value} {f : Fnd} (h : FoundAt w N vs vr f) : FoundAt w (fun k => N k ∨ ¬ MTy w k) vs vr f :=
  ⟨h.sets.typed, h.refs, fun k hk q => q.elim (h.apart k hk) (fun q => q (.inr (.inr (rowv_blk h.refs hk)))), h.s1, h.s2, h.r1, h.r2⟩
theorem HoldAt.typed {M : Nat → Prop} {w : World} {base : Nat} {Q : Int → Option Wt} {F : Int → List Fnd} (h : HoldAt w base M Q F) : HoldAt w base (fun k => M k ∧ MTy w k) Q F :=
  ⟨fun i q hq => ⟨(h.row i q hq).1, by
    obtain ⟨ps, h1, h2, h3⟩ := (h.row i q hq).2.ex
    exact ⟨ps, h1, h2, fun j f p hf hp => (h3 j f p hf hp).typed.weak (fun k q => by
      by_cases hm : M k
      · exact .inr (fun t => q ⟨hm, t⟩)
      · exact .inl hm)⟩⟩, h.apart, fun k m => h.mlt k m.1, fun i q k hq hk m => h.mno i q k hq hk m.1, h.gap⟩
theorem MTy.nmb {w : World} {d mb : Nat} {qu ou : Int} {cnt m : Nat} {Q : Int → Option Wt} (h : DeskAt w d mb qu ou cnt m Q) {k : Nat} (t : MTy w k) : k ≠ mb := fun e => by
  rcases t with t | t | t
  · exact h.ne t e
  · exact h.ne t e
  · exact h.ne t e
/-- The desk's own blocks. -/
def OwnP (d mb : Nat) (Q : Int → Option Wt) (M : Nat → Prop) (k : Nat) : Prop := k = d ∨ k = mb ∨ M k ∨ ∃ i q, Q i = some q ∧ q.sl.ownBlock = some k
/-- What waits, told. -/
def absS (Q : Int → Option Wt) (F : Int → List Fnd) (i : Int) : Option (List Fnd × Bool) := (Q i).map fun q => (F i, q.lost)
structure DAt (w : World) (d mb base : Nat) (qu ou : Int) (cnt m : Nat) (S : Int → Option (List Fnd × Bool)) (P : Nat → Prop) : Prop where
  ex : ∃ (Q : Int → Option Wt) (F : Int → List Fnd) (M : Nat → Prop) (c : Nat), c ≤ cnt ∧ DeskAt w d mb qu ou c m Q ∧ HoldAt w base M Q F ∧ (∀ k, M k → MTy w k) ∧ S = absS Q F ∧ P = OwnP d mb Q M
  bs : base ≤ w.heap.size
  cap : ou ≤ 4096
section
variable {w w' : World} {d mb base : Nat} {qu ou : Int} {cnt m : Nat} {S : Int → Option (List Fnd × Bool)} {P : Nat → Prop}
theorem DAt.turn {Z : Nat → Prop} (h : DAt w d mb base qu ou cnt m S P) (T : Turn Z w w') (hz : ∀ k, P k → ¬ Z k) : DAt w' d mb base qu ou cnt m S P := by
  obtain ⟨⟨Q, F, M, c, h1, h2, h3, h4, h5, rfl⟩, hb, hc⟩ := h
  exact ⟨⟨Q, F, M, c, h1, h2.turn T (hz d (.inl rfl)) (hz mb (.inr (.inl rfl))), h3.turn T (fun k m => hz k (.inr (.inr (.inl m)))) (fun i q k hq hk => hz k (.inr (.inr (.inr ⟨i, q, hq, hk⟩)))), fun k m => (h4 k m).turn T (hz k (.inr (.inr (.inl m)))), h5, rfl⟩, Nat.le_trans hb T.size, hc⟩
theorem DAt.more {cnt' : Nat} (h : DAt w d mb base qu ou cnt m S P) (hc : cnt ≤ cnt') : DAt w d mb base qu ou cnt' m S P := by
  obtain ⟨⟨Q, F, M, c, h1, h2⟩, hb, hcap⟩ := h
  exact ⟨⟨Q, F, M, c, Nat.le_trans h1 hc, h2⟩, hb, hcap⟩
theorem DAt.lt (h : DAt w d mb base qu ou cnt m S P) {k : Nat} (hk : P k) : k < w.heap.size := by
  obtain ⟨⟨Q, F, M, c, h1, h2, h3, h4, h5, rfl⟩, hb, hc⟩ := h
  rcases hk with rfl | rfl | hk | ⟨i, q, hq, hk⟩
  · exact h2.bl.lt
  · exact h2.mp.lt
  · exact h3.mlt k hk
  · exact (h3.blk hq hk).lt
theorem DAt.pd (h : DAt w d mb base qu ou cnt m S P) : P d := by
  obtain ⟨⟨Q, F, M, c, h1, h2, h3, h4, h5, rfl⟩, hb, hc⟩ := h
  exact .inl rfl
theorem DAt.pm (h : DAt w d mb base qu ou cnt m S P) : P mb := by
  obtain ⟨⟨Q, F, M, c, h1, h2, h3, h4, h5, rfl⟩, hb, hc⟩ := h
  exact .inr (.inl rfl)
/-- A block of cells of another type is none of the desk's. -/
theorem DAt.no (h : DAt w d mb base qu ou cnt m S P) {b : Nat} {t : TypeId} (hb : Blk w b t) (ht : t ≠ 82 ∧ t ≠ 71 ∧ t ≠ 46 ∧ t ≠ 3 ∧ t ≠ 38) : ¬ P b := by
  obtain ⟨⟨Q, F, M, c, h1, h2, h3, h4, h5, rfl⟩, hb2, hc⟩ := h
  rintro (rfl | rfl | hk | ⟨i, q, hq, hk⟩)
  · exact hb.ne h2.bl ht.1 rfl
  · exact h2.ne hb rfl
  · exact (h4 b hk).ne hb ⟨ht.2.2.1, ht.2.2.2.1, ht.2.2.2.2⟩ rfl
  · exact hb.ne (h3.blk hq hk) ht.2.1 rfl
/-- No block but the map's is anything but cells. -/
theorem DAt.cells (h : DAt w d mb base qu ou cnt m S P) {k : Nat} (hk : P k) : k = mb ∨ ∃ t, Blk w k t ∧ (t = 82 ∨ t = 71 ∨ t = 46 ∨ t = 3 ∨ t = 38) := by
  obtain ⟨⟨Q, F, M, c, h1, h2, h3, h4, h5, rfl⟩, hb, hc⟩ := h
  rcases hk with rfl | rfl | hk | ⟨i, q, hq, hk⟩
  · exact .inr ⟨82, h2.bl, .inl rfl⟩
  · exact .inl rfl
  · rcases h4 k hk with h | h | h
    · exact .inr ⟨46, h, by simp⟩
    · exact .inr ⟨3, h, by simp⟩
    · exact .inr ⟨38, h, by simp⟩
  · exact .inr ⟨71, h3.blk hq hk, by simp⟩
def putD (ou : Int) (S : Int → Option (List Fnd × Bool)) (x : Ht) : Int → Option (List Fnd × Bool) := match S x.id with
  | none => S
  | some (l, lo) => if lo = true ∨ ou ≤ (l.length : Int) then updI S x.id (some (l, true)) else updI S x.id (some (l ++ [x.f], false))
def putG (ou : Int) (S : Int → Option (List Fnd × Bool)) (x : Ht) : List (Int × Int) := match S x.id with
  | none => x.f.refs
  | some (l, lo) => if lo = true ∨ ou ≤ (l.length : Int) then x.f.refs else []
def loseD (S : Int → Option (List Fnd × Bool)) (i : Int) : Int → Option (List Fnd × Bool) := match S i with
  | none => S
  | some (l, _) => updI S i (some (l, true))
theorem absS_upd {Q : Int → Option Wt} {F : Int → List Fnd} {i : Int} {q : Wt} {l : List Fnd} : absS (updI Q i (some q)) (updI F i l) = updI (absS Q F) i (some (l, q.lost)) := by
  funext j
  unfold absS updI
  split
  · rfl
  · rfl
theorem absS_lose {Q : Int → Option Wt} {F : Int → List Fnd} {i : Int} {q : Wt} : absS (updI Q i (some q)) F = updI (absS Q F) i (some (F i, q.lost)) := by
  funext j
  unfold absS updI
  split
  · rename_i e; subst e; rfl
  · rfl
theorem DAt.lose (h : DAt w d mb base qu ou cnt m S P) {i : Int} (hi : (Lit.int .i64 i).wf = true) (hcnt : cnt < maxLen) :
    Calls Try.prog 40 #[.pointer (some ⟨d, 0, none⟩), .int .i64 i] w fun e w' => e = .returned (.tuple #[]) ∧ DAt w' d mb base qu ou (cnt + 1) m (loseD S i) P ∧ Turn (fun k => k = mb) w w' := by
  obtain ⟨⟨Q, F, M, c, h1, h2, h3, h4, rfl, rfl⟩, hb, hc⟩ := h
  cases hq : Q i with
  | none =>
    refine (h2.lose_no hi hq).mono ?_
    rintro e w' ⟨rfl, T⟩
    have e1 : loseD (absS Q F) i = absS Q F := by unfold loseD absS; rw [hq]; rfl
    rw [e1]
    exact ⟨rfl, (DAt.turn ⟨⟨Q, F, M, c, h1, h2, h3, h4, rfl, rfl⟩, hb, hc⟩ T (fun _ _ q => q)).more (Nat.le_succ _), T.more (fun _ _ q => q.elim)⟩
  | some q =>
    refine (h2.lose_yes (by omega) hi hq).mono ?_
    rintro e w' ⟨rfl, hd, T⟩
    have nm : ∀ k, M k → k ≠ mb := fun k m e => by
      rcases h4 k m with h | h | h
      · exact h2.ne h e
      · exact h2.ne h e
      · exact h2.ne h e
    have h3' := (h3.turn T (fun k m => nm k m) (fun j r k hr hk => h2.ne (h3.blk hr hk))).lose hq
    refine ⟨rfl, ⟨⟨_, F, M, c + 1, by omega, hd, h3', fun k m => (h4 k m).turn T (nm k m), ?_, ?_⟩, Nat.le_trans hb T.size, hc⟩, T⟩
    · rw [absS_lose]
      unfold loseD absS
      rw [hq]
      rfl
    · funext k
      unfold OwnP
      refine propext ⟨?_, ?_⟩
      · rintro (h | h | h | ⟨j, r, hr, hk⟩)
        · exact .inl h
        · exact .inr (.inl h)
        · exact .inr (.inr (.inl h))
        · by_cases e : j = i
          · subst e
            rw [hq] at hr
            cases hr
            exact .inr (.inr (.inr ⟨j, _, updI_at _ _ _, hk⟩))
          · exact .inr (.inr (.inr ⟨j, r, by rw [updI_off _ _ e]; exact hr, hk⟩))
      · rintro (h | h | h | ⟨j, r, hr, hk⟩)
        · exact .inl h
        · exact .inr (.inl h)
        · exact .inr (.inr (.inl h))
        · by_cases e : j = i
          · subst e
            rw [updI_at] at hr
            cases hr
            exact .inr (.inr (.inr ⟨j, q, hq, hk⟩))
          · rw [updI_off _ _ e] at hr
            exact .inr (.inr (.inr ⟨j, r, hr, hk⟩))
end
end Go.Proofs.Ytepmealhnnoahaa
