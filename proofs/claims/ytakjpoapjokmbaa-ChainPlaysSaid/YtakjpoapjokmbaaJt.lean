/-
  Both chains in memory, between two acts; each act, first with the one, then with the other.
-/
import Derived.Test.YtakjpoapjokmbaaRefu
import Derived.Test.YtakjpoapjokmbaaGrow
import Derived.Test.YtakjpoapjokmbaaSts
namespace Go.Proofs.Ytakjpoapjokmbaa
open Go.ChangeShapes Go.WideShapes Go.ChangeAt Go.RowKit
set_option linter.unusedVariables false

structure Cn (w : World) (c mb rc base : Nat) : Prop where
  c0 : w.heap.size ≤ c
  m0 : w.heap.size ≤ mb
  r0 : w.heap.size ≤ rc
  c1 : c < base
  m1 : mb < base
  r1 : rc < base
  cr : c ≠ rc
  mr : mb ≠ rc
structure Jt (w : World) (c mb rc base t : Nat) (l : List No) (wr : World) : Prop where
  ch : ∃ nn G, nn ≤ 2 * t ∧ Chn wr c mb nn (liveL l) (l.length : Int) G ∧ InvX (-1) l G
  rf : ∃ v, RefC wr base rc v l
  len : l.length ≤ t
  kp : ∀ (k : Nat) (q : No), l[k]? = some q → q.kept ≤ (t : Int) + 1
  sz : base ≤ wr.heap.size
  bel : Below w.heap.size w wr
/-- The one has done it, the other hasn't. -/
structure Jh (w : World) (c mb rc base t : Nat) (l l' : List No) (wr : World) : Prop where
  ch : ∃ nn G, nn ≤ 2 * (t + 1) ∧ Chn wr c mb nn (liveL l') (l'.length : Int) G ∧ InvX (-1) l' G
  rf : ∃ v, RefC wr base rc v l
  sz : base ≤ wr.heap.size
  bel : Below w.heap.size w wr
section
variable {w wr w' : World} {c mb rc base t : Nat} {l l' : List No}
theorem RefC.bt {v : Value} (h : RefC wr base rc v l) (hb : Bt c mb wr w') (cn : Cn w c mb rc base) (hB : base ≤ wr.heap.size) : RefC w' base rc v l := by
  have e := hb.block rc (by have := cn.r1; omega) (Ne.symm cn.cr) (Ne.symm cn.mr)
  exact ⟨(World.cell?_of_block (a := ⟨rc, 0, none⟩) e).trans h.c0, (World.frozen?_of_block (w := wr) (a := ⟨rc, 0, none⟩) e).trans h.f0, rrow_keep (e := 41) h.row (fun k hk => by
    have := rrow_lt h.row hk
    have h1 := cn.c1
    have h2 := cn.m1
    exact hb.block k this.2 (by omega) (by omega)), h.lt, h.few⟩
theorem Chn.db {nn m : Nat} {nx : Int} {G : Int → Option Nd} (h : Chn wr c mb nn m nx G) (hb : Db base rc wr w') (cn : Cn w c mb rc base) : Chn w' c mb nn m nx G := h.blocks (hb.block c cn.c1 cn.cr) (hb.block mb cn.m1 cn.mr)
theorem Db.bel (hb : Db base rc wr w') (h : Below w.heap.size w wr) (cn : Cn w c mb rc base) : Below w.heap.size w w' :=
  h.trans ⟨hb.os, hb.tape, hb.output, hb.size, fun k hk => hb.block k (by have := cn.r0; have := cn.r1; omega) (by have := cn.r0; omega)⟩
theorem Bt.bel (hb : Bt c mb wr w') (h : Below w.heap.size w wr) (cn : Cn w c mb rc base) : Below w.heap.size w w' := h.trans (hb.below cn.c0 cn.m0 h.size)
theorem Jt.half (h : Jt w c mb rc base t l wr) (cn : Cn w c mb rc base) (hb : Bt c mb wr w') (hc : ∃ nn G, nn ≤ 2 * (t + 1) ∧ Chn w' c mb nn (liveL l') (l'.length : Int) G ∧ InvX (-1) l' G) : Jh w c mb rc base t l l' w' := by
  obtain ⟨v, hv⟩ := h.rf
  exact ⟨hc, ⟨v, hv.bt hb cn h.sz⟩, Nat.le_trans h.sz hb.size, hb.bel h.bel cn⟩
theorem Jt.below (h : Jt w c mb rc base t l wr) (hb : Below wr.heap.size wr w') : Jt w c mb rc base t l w' := by
  obtain ⟨nn, G, a1, a2, a3⟩ := h.ch
  obtain ⟨v, hv⟩ := h.rf
  exact ⟨⟨nn, G, a1, a2.below hb, a3⟩, ⟨v, hv.below0 hb h.sz⟩, h.len, h.kp, Nat.le_trans h.sz hb.size, h.bel.trans (hb.mono h.bel.size)⟩
theorem Jh.below (h : Jh w c mb rc base t l l' wr) (hb : Below wr.heap.size wr w') : Jh w c mb rc base t l l' w' := by
  obtain ⟨nn, G, a1, a2, a3⟩ := h.ch
  obtain ⟨v, hv⟩ := h.rf
  exact ⟨⟨nn, G, a1, a2.below hb, a3⟩, ⟨v, hv.below0 hb h.sz⟩, Nat.le_trans h.sz hb.size, h.bel.trans (hb.mono h.bel.size)⟩
theorem Jh.done (h : Jh w c mb rc base t l l' wr) (cn : Cn w c mb rc base) (hb : Db base rc wr w') (hv : ∃ v, RefC w' base rc v l') (hl : l'.length ≤ t + 1) (hk : ∀ (k : Nat) (q : No), l'[k]? = some q → q.kept ≤ ((t + 1 : Nat) : Int) + 1) : Jt w c mb rc base (t + 1) l' w' := by
  obtain ⟨nn, G, a1, a2, a3⟩ := h.ch
  exact ⟨⟨nn, G, a1, a2.db hb cn, a3⟩, hv, hl, hk, Nat.le_trans h.sz hb.size, hb.bel h.bel cn⟩
/-- What is said of one call on each side: both answer alike. -/
def Pair (w : World) (c mb rc base t : Nat) (l : List No) (wr : World) (f d : Nat) (xs ys : Array Value) (v : Value) : Prop :=
  ∃ (l' : List No), Calls Try.prog f xs wr (fun e W => e = .returned v ∧ Jh w c mb rc base t l l' W ∧ Bt c mb wr W) ∧ ∀ W, Jh w c mb rc base t l l' W → Calls Try.prog d ys W (fun e W' => e = .returned v ∧ Jt w c mb rc base (t + 1) l' W')
theorem Jt.same (h : Jt w c mb rc base t l wr) (cn : Cn w c mb rc base) (hb : Below wr.heap.size wr w') : Jh w c mb rc base t l l w' ∧ Bt c mb wr w' := by
  obtain ⟨nn, G, a1, a2, a3⟩ := h.ch
  exact ⟨h.half cn (Bt.of_below hb) ⟨nn, G, by omega, a2.below hb, a3⟩, Bt.of_below hb⟩
theorem Jh.stays (h : Jh w c mb rc base t l l wr) (hj : l.length ≤ t ∧ ∀ (k : Nat) (q : No), l[k]? = some q → q.kept ≤ (t : Int) + 1) (cn : Cn w c mb rc base) (hb : Below wr.heap.size wr w') : Jt w c mb rc base (t + 1) l w' := by
  obtain ⟨v, hv⟩ := h.rf
  exact h.done cn (Db.of_below hb h.sz) ⟨v, hv.below0 hb h.sz⟩ (by omega) (fun k q hq => by have := hj.2 k q hq; omega)
theorem alive_or {l : List No} (i : Int) : isL l i = false ∨ ∃ (k : Nat) (q : No), i = (k : Int) ∧ l[k]? = some q ∧ q.gone = false := by
  by_cases h0 : 0 ≤ i
  · obtain ⟨k, rfl⟩ : ∃ k : Nat, i = (k : Int) := ⟨i.toNat, by omega⟩
    cases hq : l[k]? with
    | none => exact .inl (by unfold isL; rw [if_pos h0, Int.toNat_natCast, hq])
    | some q =>
      cases hg : q.gone with
      | true => exact .inl (by rw [isL_at hq, hg]; rfl)
      | false => exact .inr ⟨k, q, rfl, hq, hg⟩
  · exact .inl (by unfold isL; rw [if_neg h0])
theorem InvX.none {x : Int} {G : Int → Option Nd} (h : InvX x l G) {i : Int} (hi : isL l i = false) : G i = none := by
  by_cases h0 : 0 ≤ i
  · obtain ⟨k, rfl⟩ : ∃ k : Nat, i = (k : Int) := ⟨i.toNat, by omega⟩
    cases hq : l[k]? with
    | none => exact h.out _ (.inr (by have := List.getElem?_eq_none_iff.1 hq; omega))
    | some q =>
      rw [isL_at hq] at hi
      exact (h.gone k q hq (by simpa using hi)).1
  · exact h.out i (.inl (by omega))
theorem Jt.keep (h : Jt w c mb rc base t l wr) (ht : t ≤ 100) (cn : Cn w c mb rc base) {i : Int} (h1 : -1 ≤ i) (h2 : i ≤ 200) :
    ∃ ok : Bool, Pair w c mb rc base t l wr 22 23 #[.pointer (some ⟨c, 0, none⟩), .int .i64 i] #[.pointer (some ⟨rc, 0, none⟩), .int .i64 i] (.bool ok) := by
  obtain ⟨nn, G, a1, a2, a3⟩ := h.ch
  have hlen := h.len
  rcases alive_or (l := l) i with hi | ⟨k, q, rfl, hq, hg⟩
  · refine ⟨false, l, (keep_no a2 (wf_small (by omega) (by omega)) (a3.none hi)).mono ?_, fun W hW => ?_⟩
    · rintro e W ⟨rfl, hb⟩
      exact ⟨rfl, h.same cn hb⟩
    · obtain ⟨v, hv⟩ := hW.rf
      refine (dkeep_no hv hi).mono ?_
      rintro e W' ⟨rfl, rfl⟩
      exact ⟨rfl, hW.stays ⟨h.len, h.kp⟩ cn (Below.refl _ _)⟩
  · have hkp := h.kp k q hq
    have hw := a3.wf k q hq
    have hkl := (List.getElem?_eq_some_iff.1 hq).1
    have hkids := kidsL_le (k : Int) l
    have hG := a3.node k q hq hg
    have hc : (ndOf l (-1) k q).count = q.kept + ((kidsL (k : Int) l : Nat) : Int) := by rw [ndOf_x]
    refine ⟨true, l.set k { q with kept := q.kept + 1 }, (keep_yes a2 (wf_small (by omega) (by omega)) hG (by rw [hc]; omega) (by omega)).mono ?_, fun W hW => ?_⟩
    · rintro e W ⟨rfl, hc', hb⟩
      have hlv := liveL_set l k q { q with kept := q.kept + 1 } hq
      have e1 : liveL (l.set k { q with kept := q.kept + 1 }) = liveL l := by rw [show ({ q with kept := q.kept + 1 } : No).gone = q.gone from rfl] at hlv; omega
      exact ⟨rfl, h.half cn (Bt.of_but hb) ⟨nn + 1, _, by omega, by rw [e1, List.length_set]; exact hc', a3.keep hq hg (by omega)⟩, Bt.of_but hb⟩
    · obtain ⟨v, hv⟩ := hW.rf
      refine (dkeep_yes hv hq hg (by omega) hW.sz).mono ?_
      rintro e W' ⟨rfl, hv', hb⟩
      refine ⟨rfl, hW.done cn ⟨hb.os, hb.tape, hb.output, hb.size, fun k hk _ => hb.block k hk⟩ ⟨_, hv'⟩ (by rw [List.length_set]; omega) (fun j r hr => ?_)⟩
      by_cases e : j = k
      · subst e
        rw [List.getElem?_set_self hkl] at hr
        injection hr with hr
        subst hr
        dsimp only
        omega
      · rw [List.getElem?_set_ne (Ne.symm e)] at hr
        have := h.kp j r hr
        omega
theorem Jt.push (h : Jt w c mb rc base t l wr) (ht : t ≤ 100) (cn : Cn w c mb rc base) {i : Int} (h1 : -1 ≤ i) (h2 : i ≤ 200) {cell : Int} (hc0 : 0 ≤ cell) (num s g : Int) :
    ∃ (a : Int) (ok : Bool), Pair w c mb rc base t l wr 18 25 #[.pointer (some ⟨c, 0, none⟩), .int .i64 i, .int .i64 cell, .int .i64 num, .agg #[.int .i64 s, .int .i64 g]] #[.pointer (some ⟨rc, 0, none⟩), .int .i64 i, .int .i64 cell, .int .i64 num, .agg #[.int .i64 s, .int .i64 g]] (.tuple #[.int .i64 a, .bool ok]) := by
  obtain ⟨nn, G, a1, a2, a3⟩ := h.ch
  have hlen := h.len
  have kp' : ∀ (q' : No), q'.kept = 1 → ∀ (k : Nat) (q : No), (l ++ [q'])[k]? = some q → q.kept ≤ ((t + 1 : Nat) : Int) + 1 := fun q' hq' k q hq => by
    rcases snoc_at hq with ⟨_, hq⟩ | ⟨_, rfl⟩
    · have := h.kp k q hq
      omega
    · omega
  have hlast : G (l.length : Int) = none := a3.out _ (.inr (Int.le_refl _))
  have hm1 : G (-1) = none := a3.out _ (.inl (by omega))
  rcases alive_or (l := l) i with hi | ⟨k, q, rfl, hq, hg⟩
  · by_cases hz : i = -1 ∧ cell = 0
    · obtain ⟨rfl, rfl⟩ := hz
      refine ⟨(l.length : Int), true, l ++ [⟨-1, 0, num, s, g, 1, false⟩], (push_first a2 (by omega) (by omega) hlast hm1 num s g).mono ?_, fun W hW => ?_⟩
      · rintro e W ⟨rfl, hc', hb⟩
        refine ⟨rfl, h.half cn hb ⟨nn + 1, _, by omega, by rw [liveL_snoc, List.length_append]; exact hc', a3.push (.inl rfl) ⟨by omega, by omega⟩ (updG_same _ _) (fun k q hq hg e => by omega) (fun j h1 h2 => updG_other h1)⟩, hb⟩
      · obtain ⟨v, hv⟩ := hW.rf
        refine (dpush_none hv hW.sz num s g (by omega)).mono ?_
        rintro e W' ⟨rfl, hv', hb⟩
        exact ⟨rfl, hW.done cn hb hv' (by simp; omega) (kp' _ rfl)⟩
    · refine ⟨-1, false, l, (push_no a2 (i := i) (cell := cell) (num := num) (s := s) (g := g) (fun W hb => ?_)).mono ?_, fun W hW => ?_⟩
      · by_cases e : i = -1
        · subst e
          have hz' : (cell == 0) = false := by simp; omega
          refine (fits_none cell _ W).mono ?_
          rintro e W' ⟨rfl, rfl⟩
          exact ⟨by rw [hz'], Below.refl _ _⟩
        · exact fits_gone (a2.below hb) (wf_small (by omega) (by omega)) e (a3.none hi) cell
      · rintro e W ⟨rfl, hb⟩
        exact ⟨rfl, h.same cn hb⟩
      · obtain ⟨v, hv⟩ := hW.rf
        refine (dpush_no hv hW.sz hi (cell := cell) (by omega) num s g).mono ?_
        rintro e W' ⟨rfl, hb⟩
        exact ⟨rfl, hW.stays ⟨h.len, h.kp⟩ cn hb⟩
  · have hkp := h.kp k q hq
    have hw := a3.wf k q hq
    have hkl := (List.getElem?_eq_some_iff.1 hq).1
    have hkids := kidsL_le (k : Int) l
    have hG := a3.node k q hq hg
    have hcn : (ndOf l (-1) k q).count = q.kept + ((kidsL (k : Int) l : Nat) : Int) := by rw [ndOf_x]
    by_cases hf : cell < 6 ∧ (cell = q.cell ∨ cell = q.cell + 1)
    · refine ⟨(l.length : Int), true, l ++ [⟨(k : Int), cell, num, s, g, 1, false⟩], (push_next a2 (by omega) (by omega) hlast (i := (k : Int)) (wf_small (by omega) (by omega)) (Int.natCast_nonneg k) (q := ndOf l (-1) k q) hG hf.1 hf.2 (by show 0 ≤ q.cell ∧ q.cell ≤ 5; omega) (by rw [hcn]; omega) num s g).mono ?_, fun W hW => ?_⟩
      · rintro e W ⟨rfl, hc', hb⟩
        refine ⟨rfl, h.half cn hb ⟨nn + 1 + 1, _, by omega, by rw [liveL_snoc, List.length_append]; exact hc', a3.push (.inr ⟨k, q, rfl, hq, hg⟩) ⟨by omega, by omega⟩ (updG_same _ _) (fun j r hr hrg e => ?_) (fun j h1 h2 => ?_)⟩, hb⟩
        · obtain rfl : k = j := by omega
          rw [hq] at hr
          injection hr with hr
          subst hr
          rw [updG_other (by omega), updG_same]
        · rw [updG_other h1, updG_other (by omega)]
      · obtain ⟨v, hv⟩ := hW.rf
        refine (dpush_on hv hW.sz hq hg (by omega) (by omega) (by omega) (by omega) num s g (by omega)).mono ?_
        rintro e W' ⟨rfl, hv', hb⟩
        exact ⟨rfl, hW.done cn hb hv' (by simp; omega) (kp' _ rfl)⟩
    · refine ⟨-1, false, l, (push_no a2 (i := (k : Int)) (cell := cell) (num := num) (s := s) (g := g) (fun W hb => fits_far (a2.below hb) (wf_small (by omega) (by omega)) (by omega) hG hf (by show 0 ≤ q.cell ∧ q.cell ≤ 5; omega))).mono ?_, fun W hW => ?_⟩
      · rintro e W ⟨rfl, hb⟩
        exact ⟨rfl, h.same cn hb⟩
      · obtain ⟨v, hv⟩ := hW.rf
        refine (dpush_far hv hW.sz hq hg (cell := cell) (by omega) (by omega) num s g).mono ?_
        rintro e W' ⟨rfl, hb⟩
        exact ⟨rfl, hW.stays ⟨h.len, h.kp⟩ cn hb⟩
/-- A drop, first by the one, then by the other: the same refs. -/
def DPair (w : World) (c mb rc base t : Nat) (l : List No) (wr : World) (i : Int) : Prop :=
  ∃ (ok : Bool) (L : List (Int × Int)) (l' : List No), Calls Try.prog 17 #[.pointer (some ⟨c, 0, none⟩), .int .i64 i] wr (fun e W => ∃ v, e = .returned (.tuple #[v, .bool ok]) ∧ W.ownsRow wr.heap.size 39 2 v L.length (rcells L) ∧ Jh w c mb rc base t l l' W ∧ wr.heap.size ≤ W.heap.size) ∧
    (∀ W v1, Jh w c mb rc base t l l' W → W.ownsRow wr.heap.size 39 2 v1 L.length (rcells L) → wr.heap.size ≤ W.heap.size → Calls Try.prog 24 #[.pointer (some ⟨rc, 0, none⟩), .int .i64 i] W (fun e W' => ∃ v, e = .returned (.tuple #[v, .bool ok]) ∧ W'.ownsRow wr.heap.size 39 2 v L.length (rcells L) ∧ W'.ownsRow wr.heap.size 39 2 v1 L.length (rcells L) ∧ Jt w c mb rc base (t + 1) l' W')) ∧ L.length ≤ 100
theorem Jt.drop (h : Jt w c mb rc base t l wr) (ht : t ≤ 90) (cn : Cn w c mb rc base) {i : Int} (h1 : -1 ≤ i) (h2 : i ≤ 200) (hk : ∀ (k : Nat) (q : No), i = (k : Int) → l[k]? = some q → q.gone = false → 0 < q.kept) : DPair w c mb rc base t l wr i := by
  obtain ⟨nn, G, a1, a2, a3⟩ := h.ch
  have hlen := h.len
  rcases alive_or (l := l) i with hi | ⟨k, q, rfl, hq, hg⟩
  · refine ⟨false, [], l, (drop_no a2 (wf_small (by omega) (by omega)) (a3.none hi)).mono ?_, fun W v1 hW hr1 hd => ?_, by simp⟩
    · rintro e W ⟨rfl, hb⟩
      exact ⟨_, rfl, World.ownsRow_nil _ _ _ _, (h.same cn hb).1, hb.size⟩
    · obtain ⟨v, hv⟩ := hW.rf
      refine (ddrop_no hv hi).mono ?_
      rintro e W' ⟨rfl, rfl⟩
      exact ⟨_, rfl, World.ownsRow_nil _ _ _ _, hr1, hW.stays ⟨h.len, h.kp⟩ cn (Below.refl _ _)⟩
  · have hk0 := hk k q rfl hq hg
    have hkp := h.kp k q hq
    have hw := a3.wf k q hq
    have hkl := (List.getElem?_eq_some_iff.1 hq).1
    have I1 := a3.down hq hg hk0
    have D := drop_both (l.length + 1) (l.set k { q with kept := q.kept - 1 }) G (k : Int) I1 (by rw [List.length_set]; omega) (.inr ⟨k, _, rfl, List.getElem?_set_self hkl, hg⟩) (by omega)
    have hlv := liveL_set l k q { q with kept := q.kept - 1 } hq
    rw [show ({ q with kept := q.kept - 1 } : No).gone = q.gone from rfl] at hlv
    have hlive := D.live
    have hl100 := liveL_le l
    refine ⟨true, (ddropL (l.length + 1) (l.set k { q with kept := q.kept - 1 }) (k : Int)).2, (ddropL (l.length + 1) (l.set k { q with kept := q.kept - 1 }) (k : Int)).1, (drop_at (f := l.length + 1) a2 (a3.node k q hq hg) (by omega) (by omega) D.ok (by omega) (by omega)).mono ?_, fun W v1 hW hr1 hd => ?_, by omega⟩
    · rintro e W ⟨v, n', rfl, r, hc, hn', bt⟩
      rw [D.refs] at r hc
      refine ⟨v, rfl, r, h.half cn (Bt.of_but bt) ⟨n', _, by omega, ?_, D.inv⟩, bt.size⟩
      rw [D.len, List.length_set, show liveL (ddropL (l.length + 1) (l.set k { q with kept := q.kept - 1 }) (k : Int)).1 = liveL l - (ddropL (l.length + 1) (l.set k { q with kept := q.kept - 1 }) (k : Int)).2.length from by omega]
      exact hc
    · obtain ⟨v, hv⟩ := hW.rf
      have hdv := fun k hk => row_types (k := k) hr1 hv.row (by decide) hk
      obtain ⟨ad, cap, rfl⟩ := hv.shape
      obtain ⟨gb, rfl, _, _⟩ := hv.at hq
      refine (ddrop_at hv hq hg (by omega) D.dok (by omega)).mono ?_
      rintro e W' ⟨v', rfl, r, hv', bt⟩
      have hgb := (rrow_lt hv.row (show Value.ownBlock _ = some gb from rfl)).1
      refine ⟨v', rfl, row_weaken r hd, rrow_keep (e := 39) hr1 (fun k hk => bt.block k (rrow_lt hr1 hk).2 (fun e => hdv k hk (by rw [e]; rfl))), hW.done cn ⟨bt.os, bt.tape, bt.output, bt.size, fun k hk _ => bt.block k (by have := hW.sz; omega) (by omega)⟩ ⟨_, hv'⟩ (by rw [D.len, List.length_set]; omega) (fun j r hr => ?_)⟩
      · have e := D.kept j
        rw [hr] at e
        by_cases ej : j = k
        · subst ej
          rw [List.getElem?_set_self hkl] at e
          injection e with e
          rw [e]
          dsimp only
          omega
        · rw [List.getElem?_set_ne (Ne.symm ej)] at e
          cases hlj : l[j]? with
          | none => rw [hlj] at e; cases e
          | some r' =>
            rw [hlj] at e
            injection e with e
            rw [e]
            have := h.kp j r' hlj
            omega
end
end Go.Proofs.Ytakjpoapjokmbaa
