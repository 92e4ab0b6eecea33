/-
  What holds between the acts of ChainShares.
-/
import Derived.Test.YtakjpoapjokmbaaShar
namespace Go.Proofs.Ytakjpoapjokmbaa
open Go.ChangeShapes Go.WideShapes Go.ChangeAt Go.RowKit
set_option linter.unusedVariables false

structure SSt (w : World) (c mb i : Nat) (l : List Nd) (wr : World) : Prop where
  len : l.length = i
  fl : flat0 l
  ch : ∃ nn G, nn ≤ 3 * i ∧ Chn wr c mb nn i (i : Int) G ∧ GL i l G
  bel : Below w.heap.size w wr
structure S2St (w : World) (c mb i : Nat) (l : List Nd) (wr : World) : Prop where
  len : l.length = i + 1
  fl : flat0 l
  ch : ∃ nn G, nn ≤ 3 * i + 2 ∧ Chn wr c mb nn (i + 1) ((i + 1 : Nat) : Int) G ∧ GL (i - 1) l G
  bel : Below w.heap.size w wr
section
variable {w wr w' : World} {c mb i : Nat} {l : List Nd}
theorem SSt.start (h : Chn wr c mb 0 0 0 (fun _ => none)) (hb : Below w.heap.size w wr) : SSt w c mb 0 [] wr := ⟨rfl, flat0_nil, ⟨0, _, Nat.le_refl _, h, GL.nil 0⟩, hb⟩
def SPushPost (w : World) (c mb i : Nat) (e : Ending) (w' : World) : Prop := e = .returned (.tuple #[.int .i64 (i : Int), .bool true]) ∧ ∃ l, S2St w c mb i l w'
theorem SSt.push (h : SSt w c mb i l wr) (hi : i < 12) {a : Value} (ha : AtV i a) (x : Int) (h3 : w.heap.size ≤ c) (h4 : w.heap.size ≤ mb) :
    Calls Try.prog 18 #[.pointer (some ⟨c, 0, none⟩), a, .int .i64 0, .int .i64 x, .agg #[.int .i64 (i : Int), .int .i64 0]] wr (SPushPost w c mb i) := by
  obtain ⟨nn, G, a1, a2, a3⟩ := h.ch
  have hlen := h.len
  rcases ha with ⟨rfl, rfl⟩ | ⟨k, rfl, rfl⟩
  · obtain rfl : l = [] := List.eq_nil_of_length_eq_zero hlen
    refine (push_first a2 (by omega) (by decide) (a3.out 0 (Int.le_refl 0)) a3.m1 x ((0 : Nat) : Int) 0).mono ?_
    rintro e W ⟨rfl, b1, b2⟩
    exact ⟨rfl, [⟨-1, 0, x, 0, 0, 1⟩], rfl, fun q hq => by simp at hq; subst hq; rfl, ⟨_, _, by omega, b1, a3.first⟩, h.bel.trans (b2.below h3 h4 h.bel.size)⟩
  · obtain ⟨q, hq⟩ : ∃ q, l[k]? = some q := ⟨_, List.getElem?_eq_getElem (by omega)⟩
    obtain ⟨r1, r2, r3, r4, r5, r6⟩ := a3.rw.at_ k q hq
    have hq0 := h.fl q (List.mem_of_getElem? hq)
    have hG := a3.lo k q hq (.inr hlen.symm)
    refine (push_next (nx := ((k + 1 : Nat) : Int)) a2 (by omega) (by omega) (a3.out _ (by omega)) (i := (k : Int)) (wf_small (by omega) (by omega)) (Int.natCast_nonneg k) (q := q) hG (cell := 0) (by omega) (by omega) ⟨r5, r6⟩ (by omega) x ((k + 1 : Nat) : Int) 0).mono ?_
    rintro e W ⟨rfl, b1, b2⟩
    have GN := (a3.weak (d' := k) (by omega) (by omega)).next hlen (Nat.le_refl _) hq (cell := 0) (num := x) (by omega) (by omega)
    refine ⟨rfl, l ++ [⟨(k : Int), 0, x, (k : Int) + 1, 0, 1⟩], by simp; omega, flat0_snoc h.fl rfl, ⟨nn + 1 + 1, _, by omega, ?_, GN⟩, h.bel.trans (b2.below h3 h4 h.bel.size)⟩
    have e : ((k + 1 : Nat) : Int) = (k : Int) + 1 := by omega
    rw [e] at b1
    rw [show ((k + 1 + 1 : Nat) : Int) = (k : Int) + 1 + 1 from by omega]
    exact b1
theorem S2St.first (h : S2St w c mb 0 l wr) : SSt w c mb 1 l wr := by
  obtain ⟨nn, G, a1, a2, a3⟩ := h.ch
  exact ⟨h.len, h.fl, ⟨nn, G, by omega, a2, a3.weak (by have := h.len; omega) (by have := h.len; omega)⟩, h.bel⟩
def SDropPost (w : World) (c mb k : Nat) (l : List Nd) (e : Ending) (w' : World) : Prop := ∃ v, e = .returned (.tuple #[v, .bool true]) ∧ SSt w c mb (k + 2) l w'
theorem S2St.drop {k : Nat} (h : S2St w c mb (k + 1) l wr) (hk : k < 12) (h4 : w.heap.size ≤ mb) : Calls Try.prog 17 #[.pointer (some ⟨c, 0, none⟩), .int .i64 (k : Int)] wr (SDropPost w c mb k l) := by
  obtain ⟨nn, G, a1, a2, a3⟩ := h.ch
  have hlen := h.len
  obtain ⟨q, hG, hok, hr, hg⟩ := a3.drop (d := k) (by omega) (by omega) 0
  refine (drop_at (f := 1) a2 hG (by omega) (by omega) hok (by omega) (by omega)).mono ?_
  rintro e W ⟨v, n', rfl, r, hc, hn', bt⟩
  rw [hr] at r hc
  exact ⟨v, rfl, hlen, h.fl, ⟨n', _, by omega, hc, hg.weak (by omega) (by omega)⟩, h.bel.trans (bt.below h4 h.bel.size)⟩
/-! ### The fork -/
def cnt (n : Int) (q : Nd) : Nd := { q with count := n }
structure Fk (n : Int) (l : List Nd) (k : Nat) (G : Int → Option Nd) : Prop where
  rw : Rw l
  len : l.length = k + 1
  fl : flat0 l
  lo : ∀ j : Nat, j < k → G (j : Int) = some (ndL l j)
  at_ : G (k : Int) = some (cnt n (ndL l k))
  m1 : G (-1) = none
structure F0St (w : World) (c mb k : Nat) (l : List Nd) (wr : World) : Prop where
  ch : ∃ nn G, nn ≤ 40 ∧ Chn wr c mb nn (k + 1) ((k : Int) + 1) G ∧ Fk 1 l k G ∧ ∀ j : Int, (k : Int) + 1 ≤ j → G j = none
  bel : Below w.heap.size w wr
structure F1St (w : World) (c mb k : Nat) (x : Int) (l : List Nd) (wr : World) : Prop where
  ch : ∃ nn G, nn ≤ 42 ∧ Chn wr c mb nn (k + 2) ((k : Int) + 2) G ∧ Fk 2 l k G ∧ G ((k : Int) + 1) = some ⟨(k : Int), 1, x, 100, 0, 1⟩ ∧ ∀ j : Int, (k : Int) + 2 ≤ j → G j = none
  bel : Below w.heap.size w wr
structure F2St (w : World) (c mb k : Nat) (x y : Int) (l : List Nd) (wr : World) : Prop where
  ch : ∃ nn G, nn ≤ 44 ∧ Chn wr c mb nn (k + 3) ((k : Int) + 3) G ∧ Fk 3 l k G ∧ G ((k : Int) + 1) = some ⟨(k : Int), 1, x, 100, 0, 1⟩ ∧ G ((k : Int) + 2) = some ⟨(k : Int), 0, y, 200, 0, 1⟩
  bel : Below w.heap.size w wr
structure F3St (w : World) (c mb k : Nat) (x y : Int) (l : List Nd) (wr : World) : Prop where
  ch : ∃ nn G, nn ≤ 45 ∧ Chn wr c mb nn (k + 3) ((k : Int) + 3) G ∧ G5 l k x y G
  bel : Below w.heap.size w wr
structure F4St (w : World) (c mb k : Nat) (y : Int) (l : List Nd) (wr : World) : Prop where
  ch : ∃ nn G, nn ≤ 46 ∧ Chn wr c mb nn (k + 2) ((k : Int) + 3) G ∧ G6 l k y G
  bel : Below w.heap.size w wr
theorem cnt_one {l : List Nd} (h : Rw l) (k : Nat) : cnt 1 (ndL l k) = ndL l k := by
  have hc := (h.nd k).2.2.2
  generalize ndL l k = q at *
  obtain ⟨p1, p2, p3, p4, p5, p6⟩ := q
  simp only at hc
  subst hc
  rfl
theorem SSt.fork {k : Nat} (h : SSt w c mb (k + 1) l wr) (hk : k < 9) : F0St w c mb k l wr := by
  obtain ⟨nn, G, a1, a2, a3⟩ := h.ch
  have hlen := h.len
  refine ⟨⟨nn, G, by omega, ?_, ⟨a3.rw, h.len, h.fl, fun j hj => a3.all hlen (by omega) j (by omega), ?_, a3.m1⟩, fun j hj => a3.out j (by omega)⟩, h.bel⟩
  · rw [show ((k : Int) + 1) = ((k + 1 : Nat) : Int) from by omega]
    exact a2
  · rw [cnt_one a3.rw]
    exact a3.all hlen (by omega) k (Nat.le_refl _)
variable {k : Nat} {x y : Int}
theorem Fk.cell {n : Int} {G : Int → Option Nd} (h : Fk n l k G) : (ndL l k).cell = 0 := by
  have hk : k < l.length := by have := h.len; omega
  unfold ndL
  rw [List.getElem?_eq_getElem hk]
  exact h.fl _ (List.getElem_mem hk)
theorem Fk.push {n : Int} {G : Int → Option Nd} (h : Fk n l k G) {j : Int} (hj : (k : Int) < j) (q : Nd) : Fk (n + 1) l k (updG (updG G (k : Int) (some { cnt n (ndL l k) with count := (cnt n (ndL l k)).count + 1 })) j (some q)) := by
  refine ⟨h.rw, h.len, h.fl, fun i hi => ?_, ?_, ?_⟩
  · rw [updG_other (by omega), updG_other (by omega)]
    exact h.lo i hi
  · rw [updG_other (by omega), updG_same]
    rfl
  · rw [updG_other (by omega), updG_other (by omega)]
    exact h.m1
theorem F0St.push (h : F0St w c mb k l wr) (hk : k < 9) (x : Int) (h3 : w.heap.size ≤ c) (h4 : w.heap.size ≤ mb) :
    Calls Try.prog 18 #[.pointer (some ⟨c, 0, none⟩), .int .i64 (k : Int), .int .i64 1, .int .i64 x, .agg #[.int .i64 100, .int .i64 0]] wr fun e w' => e = .returned (.tuple #[.int .i64 ((k : Int) + 1), .bool true]) ∧ F1St w c mb k x l w' ∧ Bt c mb wr w' := by
  obtain ⟨nn, G, a1, a2, a3, a4⟩ := h.ch
  have hc := a3.cell
  refine (push_next a2 (by omega) (by omega) (a4 _ (Int.le_refl _)) (i := (k : Int)) (wf_small (by omega) (by omega)) (Int.natCast_nonneg k) (q := cnt 1 (ndL l k)) a3.at_ (cell := 1) (by omega) (.inr (by show (1 : Int) = (ndL l k).cell + 1; omega)) (by show 0 ≤ (ndL l k).cell ∧ (ndL l k).cell ≤ 5; omega) (by show (0 : Int) ≤ 1 ∧ (1 : Int) ≤ 1000; omega) x 100 0).mono ?_
  rintro e W ⟨rfl, b1, b2⟩
  refine ⟨rfl, ⟨⟨nn + 1 + 1, _, by omega, by rw [show (k : Int) + 2 = (k : Int) + 1 + 1 from by omega]; exact b1, a3.push (by omega) _, updG_same _ _, fun j hj => ?_⟩, h.bel.trans (b2.below h3 h4 h.bel.size)⟩, b2⟩
  rw [updG_other (by omega), updG_other (by omega)]
  exact a4 j (by omega)
theorem F1St.push (h : F1St w c mb k x l wr) (hk : k < 9) (y : Int) (h3 : w.heap.size ≤ c) (h4 : w.heap.size ≤ mb) :
    Calls Try.prog 18 #[.pointer (some ⟨c, 0, none⟩), .int .i64 (k : Int), .int .i64 0, .int .i64 y, .agg #[.int .i64 200, .int .i64 0]] wr fun e w' => e = .returned (.tuple #[.int .i64 ((k : Int) + 2), .bool true]) ∧ F2St w c mb k x y l w' ∧ Bt c mb wr w' := by
  obtain ⟨nn, G, a1, a2, a3, a4, a5⟩ := h.ch
  have hc := a3.cell
  refine (push_next a2 (by omega) (by omega) (a5 _ (Int.le_refl _)) (i := (k : Int)) (wf_small (by omega) (by omega)) (Int.natCast_nonneg k) (q := cnt 2 (ndL l k)) a3.at_ (cell := 0) (by omega) (.inl (by show (0 : Int) = (ndL l k).cell; omega)) (by show 0 ≤ (ndL l k).cell ∧ (ndL l k).cell ≤ 5; omega) (by show (0 : Int) ≤ 2 ∧ (2 : Int) ≤ 1000; omega) y 200 0).mono ?_
  rintro e W ⟨rfl, b1, b2⟩
  refine ⟨rfl, ⟨⟨nn + 1 + 1, _, by omega, by rw [show (k : Int) + 3 = (k : Int) + 2 + 1 from by omega]; exact b1, a3.push (by omega) _, ?_, updG_same _ _⟩, h.bel.trans (b2.below h3 h4 h.bel.size)⟩, b2⟩
  rw [updG_other (by omega), updG_other (by omega)]
  exact a4
def VPost (Q : World → Prop) (e : Ending) (w' : World) : Prop := ∃ v, e = .returned (.tuple #[v, .bool true]) ∧ Q w'
theorem F2St.drop (h : F2St w c mb k x y l wr) (hk : k < 9) (h4 : w.heap.size ≤ mb) :
    Calls Try.prog 17 #[.pointer (some ⟨c, 0, none⟩), .int .i64 (k : Int)] wr (VPost (fun W => F3St w c mb k x y l W ∧ Bt c mb wr W)) := by
  obtain ⟨nn, G, a1, a2, a3, a4, a5⟩ := h.ch
  have hG := a3.at_
  have e1 : dropG 1 G (k : Int) = (updG G (k : Int) (some (two (ndL l k))), []) := dropG_more (by omega) hG (by show (1 : Int) < 3; decide)
  refine (drop_at (f := 1) a2 hG (by omega) (by omega) (.inr ⟨_, hG, by omega, by omega, by show (1 : Int) ≤ 3; decide, by show (3 : Int) ≤ 1000; decide, .inl (by show (1 : Int) < 3; decide)⟩) (by omega) (by omega)).mono ?_
  rintro e W ⟨v, n', rfl, r, hc, hn', bt⟩
  rw [e1] at r hc
  dsimp only at r hc
  refine ⟨v, rfl, ⟨⟨n', _, by omega, hc, ⟨a3.rw, a3.len, a3.fl, fun j hj => ?_, updG_same _ _, ?_, ?_, ?_⟩⟩, h.bel.trans (bt.below h4 h.bel.size)⟩, Bt.of_but bt⟩
  · rw [updG_other (by omega)]
    exact a3.lo j hj
  · rw [updG_other (by omega)]
    exact a4
  · rw [updG_other (by omega)]
    exact a5
  · rw [updG_other (by omega)]
    exact a3.m1
theorem F3St.below (h : F3St w c mb k x y l wr) (hb : Below wr.heap.size wr w') : F3St w c mb k x y l w' := by
  obtain ⟨nn, G, a1, a2, a3⟩ := h.ch
  exact ⟨⟨nn, G, a1, a2.below hb, a3⟩, h.bel.trans (hb.mono h.bel.size)⟩
def GPost (wr : World) (L : List (List Int)) (e : Ending) (w' : World) : Prop := ∃ v, e = .returned v ∧ Sts w' wr.heap.size v L ∧ Below wr.heap.size wr w'
theorem F3St.sets_a (h : F3St w c mb k x y l wr) (hk : k < 9) : Calls Try.prog 19 #[.pointer (some ⟨c, 0, none⟩), .int .i64 ((k : Int) + 1)] wr (GPost wr [l.map Nd.num, [x]]) := by
  obtain ⟨nn, G, a1, a2, a3⟩ := h.ch
  obtain ⟨b1, b2, b3⟩ := a3.sets_a (by omega)
  refine (a2.sets (i := (k : Int) + 1) (wf_small (by omega) (by omega)) b1 (by omega) b3).mono ?_
  rintro e W ⟨v, rfl, hs, hb⟩
  rw [b2] at hs
  exact ⟨v, rfl, hs, hb⟩
theorem F3St.sets_b (h : F3St w c mb k x y l wr) (hk : k < 9) : Calls Try.prog 19 #[.pointer (some ⟨c, 0, none⟩), .int .i64 ((k : Int) + 2)] wr (GPost wr [l.map Nd.num ++ [y]]) := by
  obtain ⟨nn, G, a1, a2, a3⟩ := h.ch
  obtain ⟨b1, b2, b3⟩ := a3.sets_b (by omega)
  refine (a2.sets (i := (k : Int) + 2) (wf_small (by omega) (by omega)) b1 (by omega) b3).mono ?_
  rintro e W ⟨v, rfl, hs, hb⟩
  rw [b2] at hs
  exact ⟨v, rfl, hs, hb⟩
theorem F0St.sets (h : F0St w c mb k l wr) (hk : k < 9) : Calls Try.prog 19 #[.pointer (some ⟨c, 0, none⟩), .int .i64 (k : Int)] wr (GPost wr [l.map Nd.num]) := by
  obtain ⟨nn, G, a1, a2, a3, a4⟩ := h.ch
  have hlo : ∀ j : Nat, j ≤ k → G (j : Int) = some (ndL l j) := fun j hj => by
    by_cases e : j = k
    · subst e
      rw [a3.at_, cnt_one a3.rw]
    · exact a3.lo j (by omega)
  have e : pathG (k + 1) G (k : Int) = l.reverse := by rw [path_lin (nd := ndL l) (fun k => (a3.rw.nd k).1) a3.m1 k hlo, List.map_reverse, ← a3.len, map_ndL]
  refine (a2.sets (i := (k : Int)) (wf_small (by omega) (by omega)) (pathOk_lin (nd := ndL l) (fun k => (a3.rw.nd k).1) a3.m1 k (by omega) hlo) (by omega) (fun q hq => ?_)).mono ?_
  · rw [e] at hq
    have := a3.fl q (by simpa using hq)
    omega
  · rintro e' W ⟨v, rfl, hs, hb⟩
    rw [e, sets_both, List.reverse_reverse, sets_flat a3.fl (fun h => by have := a3.len; rw [h] at this; simp at this)] at hs
    exact ⟨v, rfl, hs, hb⟩
theorem F3St.many (h : F3St w c mb k x y l wr) : (l.map Nd.num).length = k + 1 := by
  obtain ⟨_, _, _, _, h⟩ := h.ch
  rw [List.length_map]
  exact h.len
theorem F0St.below (h : F0St w c mb k l wr) (hb : Below wr.heap.size wr w') : F0St w c mb k l w' := by
  obtain ⟨nn, G, a1, a2, a3⟩ := h.ch
  exact ⟨⟨nn, G, a1, a2.below hb, a3⟩, h.bel.trans (hb.mono h.bel.size)⟩
def D4Post (w : World) (c mb k : Nat) (y : Int) (l : List Nd) (e : Ending) (w' : World) : Prop := ∃ g cap, e = .returned (.tuple #[.slice (some ⟨g, 0, none⟩) 1 cap, .bool true]) ∧ w'.cell? ⟨g, 0, none⟩ = some (.int .i64 100) ∧ g < w'.heap.size ∧ F4St w c mb k y l w' ∧ g ≠ c ∧ g ≠ mb
theorem F3St.drop (h : F3St w c mb k x y l wr) (hk : k < 9) (h4 : w.heap.size ≤ mb) :
    Calls Try.prog 17 #[.pointer (some ⟨c, 0, none⟩), .int .i64 ((k : Int) + 1)] wr (D4Post w c mb k y l) := by
  obtain ⟨nn, G, a1, a2, a3⟩ := h.ch
  obtain ⟨b1, b2, b3⟩ := a3.drop_a (by omega)
  have hl := a2.lt
  refine (drop_at (f := 2) a2 a3.a (by omega) (by omega) b1 (by omega) (by omega)).mono ?_
  rintro e W ⟨v, n', rfl, r, hc, hn', bt⟩
  rw [b2] at r hc
  obtain ⟨ad, cap, rfl, had⟩ := rrow_slice r
  obtain ⟨g, rfl⟩ := had (by decide)
  have hr := rrow_cells r (show Value.ownBlock _ = some g from rfl)
  exact ⟨g, cap, rfl, (r.cellAt 0 (by decide)).trans rfl, hr.2.1, ⟨⟨n', _, by omega, hc, a3.six (by omega)⟩, h.bel.trans (bt.below h4 h.bel.size)⟩, by omega, by omega⟩
theorem F4St.live (h : F4St w c mb k y l wr) : Calls Try.prog 13 #[.pointer (some ⟨c, 0, none⟩)] wr fun e w' => e = .returned (.int .i64 ((k : Int) + 2)) ∧ wr = w' := by
  obtain ⟨nn, G, a1, a2, a3⟩ := h.ch
  exact (live_at a2).mono fun e W ⟨h1, h2⟩ => ⟨by rw [h1, show ((k + 2 : Nat) : Int) = (k : Int) + 2 from by omega], h2⟩
def BkPost (wr : World) (n : Nat) (e : Ending) (w' : World) : Prop := ∃ ad cap, e = .returned (.slice ad n cap) ∧ Below wr.heap.size wr w'
theorem F4St.back (h : F4St w c mb k y l wr) (hk : k < 9) : Calls Try.prog 21 #[.pointer (some ⟨c, 0, none⟩), .int .i64 ((k : Int) + 2)] wr (BkPost wr (k + 2)) := by
  obtain ⟨nn, G, a1, a2, a3⟩ := h.ch
  obtain ⟨b1, b2⟩ := a3.path (by omega)
  refine (a2.back (i := (k : Int) + 2) (wf_small (by omega) (by omega)) b1 (by omega)).mono ?_
  rintro e W ⟨v, rfl, r, hb⟩
  rw [List.length_map, b2] at r
  obtain ⟨ad, cap, rfl, _⟩ := rrow_slice r
  exact ⟨ad, cap, rfl, hb⟩
theorem F4St.below (h : F4St w c mb k y l wr) (hb : Below wr.heap.size wr w') : F4St w c mb k y l w' := by
  obtain ⟨nn, G, a1, a2, a3⟩ := h.ch
  exact ⟨⟨nn, G, a1, a2.below hb, a3⟩, h.bel.trans (hb.mono h.bel.size)⟩
def D5Post (w wr : World) (c mb k : Nat) (e : Ending) (w' : World) : Prop := ∃ ad cap, e = .returned (.tuple #[.slice ad (k + 2) cap, .bool true]) ∧ (∃ nn nx G, Chn w' c mb nn 0 nx G) ∧ Bt c mb wr w' ∧ Below w.heap.size w w'
theorem F4St.drop (h : F4St w c mb k y l wr) (hk : k < 9) (h4 : w.heap.size ≤ mb) : Calls Try.prog 17 #[.pointer (some ⟨c, 0, none⟩), .int .i64 ((k : Int) + 2)] wr (D5Post w wr c mb k) := by
  obtain ⟨nn, G, a1, a2, a3⟩ := h.ch
  obtain ⟨b1, b2⟩ := a3.drop (by omega)
  refine (drop_at (f := k + 2) a2 a3.b (by omega) (by omega) b1 (by omega) (by omega)).mono ?_
  rintro e W ⟨v, n', rfl, r, hc, hn', bt⟩
  rw [b2] at r hc
  obtain ⟨ad, cap, rfl, _⟩ := rrow_slice r
  rw [Nat.sub_self] at hc
  exact ⟨ad, cap, rfl, ⟨_, _, _, hc⟩, Bt.of_but bt, h.bel.trans (bt.below h4 h.bel.size)⟩
end
end Go.Proofs.Ytakjpoapjokmbaa
