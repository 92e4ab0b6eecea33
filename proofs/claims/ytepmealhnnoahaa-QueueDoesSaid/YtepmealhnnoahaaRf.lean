/-
  A desk told by what waits: a match is put.
-/
import Derived.Test.YtepmealhnnoahaaRe
namespace Go.Proofs.Ytepmealhnnoahaa
open Go.ChangeShapes Go.WideShapes Go.ChangeAt Go.RowKit
set_option linter.unusedVariables false
section
variable {w w' : World} {d mb base : Nat} {qu ou : Int} {cnt m : Nat} {S : Int → Option (List Fnd × Bool)} {P : Nat → Prop}
/-- What a call leaves: the desk, what is let go, what turned. -/
structure Aft (w w' : World) (d mb base : Nat) (qu ou : Int) (cnt m : Nat) (S' : Int → Option (List Fnd × Bool)) (P P' : Nat → Prop) (gbase gb : Nat) (l' : List (Int × Int)) : Prop where
  desk : DAt w' d mb base qu ou cnt m S' P'
  gone : GoneAt w' gbase gb l'
  turn : Turn (fun k => P k ∨ k = gb ∨ GB w gb k) w w'
  own : ∀ k, P' k → P k ∨ w.heap.size ≤ k
  gbs : ∀ k, GB w' gb k → GB w gb k ∨ w.heap.size ≤ k
  apart : ∀ k, P' k → k ≠ gb ∧ ¬ GB w' gb k
  ms : ∀ k, P k → MTy w k → w'.heap[k]? = w.heap[k]?
  ap0 : ∀ k, P k → k ≠ gb ∧ ¬ GB w gb k
theorem gone_same {Z : Nat → Prop} {gbase gb : Nat} {l : List (Int × Int)} (h : GoneAt w gbase gb l) (T : Turn Z w w') (h1 : ¬ Z gb) (h2 : ∀ k, GB w gb k → ¬ Z k) : GoneAt w' gbase gb l ∧ (∀ k, GB w' gb k → GB w gb k) := ⟨h.turn T h1 h2, fun k g => g.turn h T h1⟩
theorem DAt.put (h : DAt w d mb base qu ou cnt m S P) {x : Ht} (hi : (Lit.int .i64 x.id).wf = true) (hcnt : cnt < maxLen) {gbase gb : Nat} {l : List (Int × Int)} (hg : GoneAt w gbase gb l) (hgp : ∀ k, P k → k ≠ gb ∧ ¬ GB w gb k)
    {N : Nat → Prop} (hf : FoundAt w N (.slice x.sa x.sn x.sc) (.slice x.ra x.rn x.rc) x.f) (hn : l.length + x.f.refs.length ≤ 1000000) :
    Calls Try.prog 39 #[.pointer (some ⟨d, 0, none⟩), x.val, .func (.func 28) #[] #[.pointer (some ⟨gb, 0, none⟩)]] w fun e w' => e = .returned (.tuple #[]) ∧ ∃ P', Aft w w' d mb base qu ou (cnt + 1) m (putD ou S x) P P' gbase gb (l ++ putG ou S x) := by
  have hP := h
  obtain ⟨⟨Q, F, M, c, h1, h2, h3, h4, rfl, rfl⟩, hb, hc⟩ := h
  have nm : ∀ k, M k → k ≠ mb := fun k m e => by
    rcases h4 k m with h | h | h
    · exact h2.ne h e
    · exact h2.ne h e
    · exact h2.ne h e
  have szd : ∀ k, OwnP d mb Q M k → k < w.heap.size := fun k q => hP.lt q
  cases hq : Q x.id with
  | none =>
    have e1 : putD ou (absS Q F) x = absS Q F := by unfold putD absS; rw [hq]; rfl
    have e2 : putG ou (absS Q F) x = x.f.refs := by unfold putG absS; rw [hq]; rfl
    rw [e1, e2]
    refine (h2.put_none hi hq hg hf.refs hn).mono ?_
    rintro e w' ⟨rfl, hd, hg', T, hgb⟩
    have hz : ∀ k, OwnP d mb Q M k → ¬ (k = gb ∨ GB w gb k) := fun k p q => q.elim (hgp k p).1 (hgp k p).2
    exact ⟨rfl, _, (hP.turn T hz).more (Nat.le_succ _), hg', T.more (fun k _ q => .inr q), fun k p => .inl p, hgb, fun k p => ⟨(hgp k p).1, fun g => (hgb k g).elim (hgp k p).2 (fun q => by have := szd k p; omega)⟩, fun k p t => T.block k t.lt (hz k p), hgp⟩
  | some q =>
    obtain ⟨bk, n, cap, lo⟩ := q
    have hrow := (h3.row x.id _ hq).1
    dsimp only at hrow
    have rp : ∀ k, (Wt.sl ⟨bk, n, cap, lo⟩).ownBlock = some k → OwnP d mb Q M k := fun k hk => .inr (.inr (.inr ⟨x.id, _, hq, hk⟩))
    by_cases hfull : lo = true ∨ ou ≤ (n : Int)
    · have e1 : putD ou (absS Q F) x = absS (updI Q x.id (some ⟨bk, n, cap, true⟩)) F := by
        rw [absS_lose]
        unfold putD absS
        rw [hq]
        dsimp only [Option.map_some]
        rw [if_pos (by rw [← hrow]; exact hfull)]
      have e2 : putG ou (absS Q F) x = x.f.refs := by
        unfold putG absS
        rw [hq]
        dsimp only [Option.map_some]
        rw [if_pos (by rw [← hrow]; exact hfull)]
      rw [e1, e2]
      refine (h2.put_full hi hq hfull (by omega) hg hf.refs hn).mono ?_
      rintro e w' ⟨rfl, hd, hg', T, hgb⟩
      have hz : ∀ k, OwnP d mb Q M k → k ≠ mb → ¬ (k = gb ∨ GB w gb k ∨ k = mb) := fun k p h0 q => by
        rcases q with q | q | q
        · exact (hgp k p).1 q
        · exact (hgp k p).2 q
        · exact h0 q
      have h3' := (h3.turn T (fun k m => hz k (.inr (.inr (.inl m))) (nm k m)) (fun j r k hr hk => hz k (.inr (.inr (.inr ⟨j, r, hr, hk⟩))) (h2.ne (h3.blk hr hk)))).lose hq
      have eP : ∀ k, OwnP d mb (updI Q x.id (some ⟨bk, n, cap, true⟩)) M k → OwnP d mb Q M k := fun k p => by
        rcases p with p | p | p | ⟨j, r, hr, hk⟩
        · exact .inl p
        · exact .inr (.inl p)
        · exact .inr (.inr (.inl p))
        · by_cases e : j = x.id
          · subst e
            rw [updI_at] at hr
            cases hr
            exact rp k hk
          · rw [updI_off _ _ e] at hr
            exact .inr (.inr (.inr ⟨j, r, hr, hk⟩))
      refine ⟨rfl, _, ⟨⟨_, F, M, c + 1, by omega, hd, h3', fun k m => (h4 k m).turn T (hz k (.inr (.inr (.inl m))) (nm k m)), rfl, rfl⟩, Nat.le_trans hb T.size, hc⟩, hg', T.more (fun k _ q => ?_), fun k p => .inl (eP k p), hgb, fun k p => ⟨(hgp k (eP k p)).1, fun g => (hgb k g).elim (hgp k (eP k p)).2 (fun q => by have := szd k (eP k p); omega)⟩, fun k p t => T.block k t.lt (hz k p (t.nmb h2)), hgp⟩
      rcases q with q | q | q
      · exact .inr (.inl q)
      · exact .inr (.inr q)
      · exact .inl (.inr (.inl q))
    · have hlo : lo = false := by cases lo with
        | true => exact absurd (.inl rfl) hfull
        | false => rfl
      subst hlo
      have hlt : (n : Int) < ou := by
        have : ¬ ou ≤ (n : Int) := fun q => hfull (.inr q)
        omega
      have e2 : putG ou (absS Q F) x = [] := by
        unfold putG absS
        rw [hq]
        dsimp only [Option.map_some]
        rw [if_neg (by rw [← hrow]; exact hfull)]
      rw [e2, List.append_nil]
      refine (h2.put_yes hi hq hlt (by omega) h3 (fun q => nm mb q rfl) hb (by omega) hf).mono ?_
      rintro e w' ⟨rfl, q', M', hd, hql, hh, T, hM', hq'⟩
      have e1 : putD ou (absS Q F) x = absS (updI Q x.id (some q')) (updI F x.id (F x.id ++ [x.f])) := by
        rw [absS_upd, hql]
        unfold putD absS
        rw [hq]
        dsimp only [Option.map_some]
        rw [if_neg (by rw [← hrow]; exact hfull)]
      rw [e1]
      have hzP : ∀ k, (k = mb ∨ (Wt.sl ⟨bk, n, cap, false⟩).ownBlock = some k) → OwnP d mb Q M k := fun k q => q.elim (fun q => .inr (.inl q)) (rp k)
      obtain ⟨hg', hgb⟩ := gone_same hg T (fun q => (hgp gb (hzP gb q)).1 rfl) (fun k g q => (hgp k (hzP k q)).2 g)
      have eP : ∀ k, OwnP d mb (updI Q x.id (some q')) (fun k => M' k ∧ MTy w' k) k → OwnP d mb Q M k ∨ w.heap.size ≤ k := fun k p => by
        rcases p with p | p | p | ⟨j, r, hr, hk⟩
        · exact .inl (.inl p)
        · exact .inl (.inr (.inl p))
        · exact (hM' k p.1).imp (fun q => .inr (.inr (.inl q))) id
        · by_cases e : j = x.id
          · subst e
            rw [updI_at] at hr
            cases hr
            exact (hq' k hk).imp (rp k) id
          · rw [updI_off _ _ e] at hr
            exact .inl (.inr (.inr (.inr ⟨j, r, hr, hk⟩)))
      have gl : ∀ k, GB w gb k → k < w.heap.size := fun k g => (hg.blk g).1.lt
      refine ⟨rfl, _, ⟨⟨_, _, _, c + 1, by omega, hd, hh.typed, fun k m => m.2, rfl, rfl⟩, Nat.le_trans hb T.size, hc⟩, hg', T.more (fun k _ q => .inl (hzP k q)), eP, fun k g => .inl (hgb k g), fun k p => ?_, fun k p t => T.block k t.lt (fun q => q.elim (t.nmb h2) (fun q => t.ne (h3.blk hq q) (by decide) rfl)), hgp⟩
      rcases eP k p with q | q
      · exact ⟨(hgp k q).1, fun g => (hgp k q).2 (hgb k g)⟩
      · have hgl := hg.gbl.1
        exact ⟨fun e => by omega, fun g => by have := gl k (hgb k g); omega⟩
end
end Go.Proofs.Ytepmealhnnoahaa
