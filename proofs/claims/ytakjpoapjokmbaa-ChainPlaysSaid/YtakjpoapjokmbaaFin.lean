/-
  The end of ChainCounts: all is dropped as often as it was kept.
-/
import Derived.Test.YtakjpoapjokmbaaDoes
namespace Go.Proofs.Ytakjpoapjokmbaa
open Go.ChangeShapes Go.WideShapes Go.ChangeAt Go.RowKit
set_option linter.unusedVariables false

theorem kids_ex {i : Int} : ∀ {l : List No}, 0 < kidsL i l → ∃ (j : Nat) (q : No), l[j]? = some q ∧ kidB i q = true
  | [], h => absurd h (Nat.lt_irrefl 0)
  | r :: l, h => by
    cases hb : kidB i r with
    | true => exact ⟨0, r, rfl, hb⟩
    | false =>
      have h' : 0 < kidsL i l := by
        have : kidsL i (r :: l) = (if kidB i r then 1 else 0) + kidsL i l := rfl
        rw [this, hb] at h
        simpa using h
      obtain ⟨j, q, h1, h2⟩ := kids_ex h'
      exact ⟨j + 1, q, by simpa using h1, h2⟩
theorem live_zero : ∀ {l : List No}, (∀ (k : Nat) (q : No), l[k]? = some q → q.gone = true) → liveL l = 0
  | [], _ => rfl
  | r :: l, h => by
    have h0 : r.gone = true := h 0 r rfl
    have := live_zero (l := l) (fun k q hq => h (k + 1) q (by simpa using hq))
    show (if r.gone then 0 else 1) + liveL l = 0
    rw [h0, this]
    rfl
theorem InvX.over {l : List No} {G : Int → Option Nd} (h : InvX (-1) l G) (hk : ∀ (k : Nat) (q : No), l[k]? = some q → q.kept = 0) : liveL l = 0 := by
  refine live_zero ?_
  have key : ∀ (d k : Nat) (q : No), l.length ≤ k + d → l[k]? = some q → q.gone = true := by
    intro d
    induction d with
    | zero =>
      intro k q hd hq
      have := (List.getElem?_eq_some_iff.1 hq).1
      omega
    | succ d ih =>
      intro k q hd hq
      cases hg : q.gone with
      | true => rfl
      | false =>
        exfalso
        have hp := h.pos k q hq hg
        have h0 := hk k q hq
        unfold bumpX at hp
        rw [if_neg (by omega)] at hp
        obtain ⟨j, r, hr, hb⟩ := kids_ex (i := (k : Int)) (l := l) (by omega)
        unfold kidB at hb
        simp only [Bool.and_eq_true, Bool.not_eq_true', beq_iff_eq] at hb
        have hw := h.wf j r hr
        have := ih j r (by omega) hr
        rw [hb.1] at this
        cases this
  exact fun k q hq => key l.length k q (by omega) hq
/-- The memory's list is l; the chain is where l2 is: below n nothing is kept any more, at n it is m times, above as ever. -/
structure Fin2 (w : World) (c mb rc base : Nat) (l : List No) (n : Nat) (m : Int) (l2 : List No) (wr : World) : Prop where
  ch : ∃ nn G, nn ≤ 90000 - (l.length - n) * 200 - m.toNat ∧ Chn wr c mb nn (liveL l2) (l2.length : Int) G ∧ InvX (-1) l2 G
  rf : ∃ v, RefC wr base rc v l
  len : l2.length = l.length
  few : l.length ≤ 60
  mm : 0 ≤ m ∧ m ≤ 200
  nn : n ≤ l.length
  low : ∀ (k : Nat) (q : No), k < n → l2[k]? = some q → q.kept = 0
  at_ : ∀ (q : No), l2[n]? = some q → q.kept = m
  high : ∀ (k : Nat), n < k → (l2[k]?).map No.kept = (l[k]?).map No.kept
  wfl : ∀ (k : Nat) (q : No), l[k]? = some q → 0 ≤ q.kept ∧ q.kept ≤ 200 ∧ (q.gone = true → q.kept = 0)
  sz : base ≤ wr.heap.size
  bel : Below w.heap.size w wr
section
variable {w wr w' : World} {c mb rc base t n : Nat} {l l2 : List No} {m : Int}
theorem Jt.fin (h : Jt w c mb rc base t l wr) (ht : t ≤ 60) : ∃ m, Fin2 w c mb rc base l 0 m l wr ∧ ∀ q, l[0]? = some q → m = q.kept := by
  obtain ⟨nn, G, a1, a2, a3⟩ := h.ch
  have hlen := h.len
  have hw : ∀ (k : Nat) (q : No), l[k]? = some q → 0 ≤ q.kept ∧ q.kept ≤ 200 ∧ (q.gone = true → q.kept = 0) := fun k q hq => ⟨(a3.wf k q hq).1, (a3.wf k q hq).2.1, fun hg => (a3.gone k q hq hg).2⟩
  cases hq : l[0]? with
  | none => exact ⟨0, ⟨⟨nn, G, by have : (0 : Int).toNat = 0 := rfl; omega, a2, a3⟩, h.rf, rfl, by omega, by omega, Nat.zero_le _, fun k q hk => absurd hk (Nat.not_lt_zero k), (fun q h => by rw [hq] at h; cases h), fun _ _ => rfl, hw, h.sz, h.bel⟩, fun q h => by cases h⟩
  | some q0 =>
    have := hw 0 q0 hq
    exact ⟨q0.kept, ⟨⟨nn, G, by omega, a2, a3⟩, h.rf, rfl, by omega, by omega, Nat.zero_le _, fun k q hk => absurd hk (Nat.not_lt_zero k), fun q h => by rw [hq] at h; injection h with h; rw [h], fun _ _ => rfl, hw, h.sz, h.bel⟩, fun q h => by injection h with h; rw [h]⟩
theorem Fin2.next (h : Fin2 w c mb rc base l n 0 l2 wr) (hn : n < l.length) : ∃ m, Fin2 w c mb rc base l (n + 1) m l2 wr ∧ ∀ q, l[n + 1]? = some q → m = q.kept := by
  obtain ⟨nn, G, a1, a2, a3⟩ := h.ch
  have few := h.few
  have low : ∀ (k : Nat) (q : No), k < n + 1 → l2[k]? = some q → q.kept = 0 := fun k q hk hq => by
    by_cases e : k = n
    · subst e
      exact h.at_ q hq
    · exact h.low k q (by omega) hq
  have e0 : (0 : Int).toNat = 0 := rfl
  cases hq : l[n + 1]? with
  | none =>
    have hl := List.getElem?_eq_none_iff.1 hq
    exact ⟨0, ⟨⟨nn, G, by omega, a2, a3⟩, h.rf, h.len, h.few, by omega, hn, low, (fun q h2 => by
      have := h.high (n + 1) (by omega)
      rw [h2, hq] at this
      cases this), fun k hk => h.high k (by omega), h.wfl, h.sz, h.bel⟩, fun q h => by cases h⟩
  | some q0 =>
    have := h.wfl _ q0 hq
    exact ⟨q0.kept, ⟨⟨nn, G, by omega, a2, a3⟩, h.rf, h.len, h.few, by omega, hn, low, fun q h2 => by
      have := h.high (n + 1) (by omega)
      rw [h2, hq] at this
      injection this, fun k hk => h.high k (by omega), h.wfl, h.sz, h.bel⟩, fun q h => by injection h with h; rw [h]⟩
def FPost (w : World) (c mb rc base : Nat) (l : List No) (n : Nat) (m : Int) (l2 : List No) (e : Ending) (w' : World) : Prop :=
  ∃ (ad : Option Addr) (k cap : Nat) (l3 : List No), e = .returned (.tuple #[.slice ad k cap, .bool true]) ∧ liveL l3 + k = liveL l2 ∧ Fin2 w c mb rc base l n (m - 1) l3 w'
theorem Fin2.drop (h : Fin2 w c mb rc base l n m l2 wr) (hm : 0 < m) (hn : n < l.length) (cn : Cn w c mb rc base) : Calls Try.prog 17 #[.pointer (some ⟨c, 0, none⟩), .int .i64 (n : Int)] wr (FPost w c mb rc base l n m l2) := by
  obtain ⟨nn, G, a1, a2, a3⟩ := h.ch
  have few := h.few
  have mm := h.mm
  have hlen := h.len
  obtain ⟨q, hq⟩ : ∃ q, l2[n]? = some q := ⟨_, List.getElem?_eq_getElem (by omega)⟩
  have hk := h.at_ q hq
  have hg : q.gone = false := by
    cases hg : q.gone with
    | false => rfl
    | true =>
      have := (a3.gone n q hq hg).2
      omega
  have hkl := (List.getElem?_eq_some_iff.1 hq).1
  have hw := a3.wf n q hq
  have I1 := a3.down hq hg (by omega)
  have D := drop_both (l2.length + 1) (l2.set n { q with kept := q.kept - 1 }) G (n : Int) I1 (by rw [List.length_set]; omega) (.inr ⟨n, _, rfl, List.getElem?_set_self hkl, hg⟩) (by omega)
  have hlv := liveL_set l2 n q { q with kept := q.kept - 1 } hq
  rw [show ({ q with kept := q.kept - 1 } : No).gone = q.gone from rfl] at hlv
  have hlive := D.live
  refine (drop_at (f := l2.length + 1) a2 (a3.node n q hq hg) (by omega) (by omega) D.ok (by omega) (by omega)).mono ?_
  rintro e W ⟨v, n', rfl, r, hc, hn', bt⟩
  rw [D.refs] at r hc
  obtain ⟨ad, cap, rfl, _⟩ := rrow_slice r
  have kept' : ∀ k : Nat, k ≠ n → ((ddropL (l2.length + 1) (l2.set n { q with kept := q.kept - 1 }) (n : Int)).1[k]?).map No.kept = (l2[k]?).map No.kept := fun k hk => by rw [D.kept k, List.getElem?_set_ne (Ne.symm hk)]
  obtain ⟨vv, hv⟩ := h.rf
  refine ⟨ad, _, cap, _, rfl, by omega, ⟨n', _, by omega, ?_, D.inv⟩, ⟨vv, hv.bt (Bt.of_but bt) cn h.sz⟩, by rw [D.len, List.length_set]; exact hlen, few, by omega, h.nn, fun k q' hk' hq' => ?_, fun q' hq' => ?_, fun k hk' => (kept' k (by omega)).trans (h.high k hk'), h.wfl, Nat.le_trans h.sz bt.size, (Bt.of_but bt).bel h.bel cn⟩
  · rw [D.len, List.length_set, show liveL (ddropL (l2.length + 1) (l2.set n { q with kept := q.kept - 1 }) (n : Int)).1 = liveL l2 - (ddropL (l2.length + 1) (l2.set n { q with kept := q.kept - 1 }) (n : Int)).2.length from by omega]
    exact hc
  · have e := kept' k (by omega)
    rw [hq'] at e
    cases h2 : l2[k]? with
    | none => rw [h2] at e; cases e
    | some r' =>
      rw [h2] at e
      injection e with e
      rw [e]
      exact h.low k r' hk' h2
  · have e := D.kept n
    rw [hq', List.getElem?_set_self hkl] at e
    injection e with e
    rw [e]
    dsimp only
    omega
theorem Fin2.all (h : Fin2 w c mb rc base l l.length m l2 wr) : liveL l2 = 0 := by
  obtain ⟨nn, G, a1, a2, a3⟩ := h.ch
  exact a3.over (fun k q hq => h.low k q (by have := (List.getElem?_eq_some_iff.1 hq).1; have := h.len; omega) hq)
end
end Go.Proofs.Ytakjpoapjokmbaa
