/-
  Rows of matches merged, one after the other: the iterator that Merge makes.
-/
import Derived.Shelf.Abstract
import Derived.Shelf.RegionOpen
import Derived.WalkKit
import Derived.OwnWalkIn
import Derived.TacticsInMore
import Derived.LoopNIn
import Derived.LoopIn
import Derived.Sort.QuietIn
import Derived.Maps.OwnIn
import Derived.Outline
import Derived.Test.YtepmealhnnoahaaRangeT
import Derived.Test.YtepmealhnnoahaaRc
namespace Go.Proofs.Ytepmealhnnoahaa
open Go.ChangeShapes Go.WideShapes Go.ChangeAt Go.RowKit Go.Shelf
set_option linter.unusedVariables false
attribute [local go_sem] Oper.semAt_some

/-- Cells that the iterator reads. -/
def HTy (t : TypeId) : Prop := t = 66 ∨ t = 73 ∨ t = 101 ∨ t = 107
/-- What a round keeps. -/
def KH (W W' : World) : Prop := W.heap.size ≤ W'.heap.size ∧ ∀ k t, Blk W k t → HTy t → W'.heap[k]? = W.heap[k]?
theorem kh_t {A B C : World} (h : KH A B) (k : KH B C) : KH A C := ⟨Nat.le_trans h.1 k.1, fun i t hb ht => by
  have e := h.2 i t hb ht
  refine (k.2 i t ?_ ht).trans e
  obtain ⟨cs, hb⟩ := hb
  exact ⟨cs, e.trans hb⟩⟩
theorem kh_b (W : World) (l : Nat) (o o' : Obj) (h : W.heap[l]? = some o) (ho : o.isCells = false) : KH W (W.putObj l o') :=
  ⟨(grownBy_putObj' W l o').size, fun k t hb ht => World.putObj_heap_other (fun e => by
    subst e
    obtain ⟨cs, hb⟩ := hb
    rw [h] at hb
    cases hb
    cases ho)⟩
theorem kh_turn {S : Nat → Prop} {W W' : World} (T : Turn S W W') (hs : ∀ k t, Blk W k t → HTy t → ¬ S k) : KH W W' := ⟨T.size, fun k t hb ht => T.block k hb.lt (hs k t hb ht)⟩
theorem RowAt.keep {w w' : World} {v : Value} {l : List Ht} (h : RowAt w v l) (hk : ∀ k, Blk w k 73 → w'.heap[k]? = w.heap[k]?) : RowAt w' v l := by
  obtain ⟨a, b, off, cap, e, hc, ha, hx⟩ := h
  refine ⟨a, b, off, cap, e, hc, ha.imp id (fun q => ⟨q.1, by
    obtain ⟨cs, hb⟩ := q.2
    exact ⟨cs, (hk b q.2).trans hb⟩⟩), fun j x hj k v hv => ?_⟩
  have hb : Blk w b 73 := by
    rcases ha with rfl | ha
    · simp at hj
    · exact ha.2
  exact (World.cell?_of_block (w := w) (hk b hb)).trans (hx j x hj k v hv)
/-- A row of rows of one's own. -/
theorem rows_own {w : World} {base : Nat} {v : Value} {L : List (List Ht)} {xs : List Value} (ho : w.ownsRow base 66 1 v L.length xs) (h : ∀ (k : Nat) (l : List Ht), L[k]? = some l → ∃ r, xs[k]? = some r ∧ RowAt w r l) : RowsAt w v L := by
  rcases ho.2 with ⟨e, e2⟩ | ⟨g, cap, cur, e, _⟩
  · obtain rfl := List.eq_nil_of_length_eq_zero e2
    exact ⟨none, 0, 0, 0, e, .inl rfl, fun k l h => by simp at h⟩
  · subst e
    refine ⟨some ⟨g, 0, none⟩, g, 0, cap, rfl, .inr rfl, fun k l hl => ?_⟩
    have hk := (List.getElem?_eq_some_iff.1 hl).1
    obtain ⟨r, q1, q2⟩ := h k l hl
    refine ⟨r, ?_, q2⟩
    rw [Nat.zero_add]
    exact (ho.cellAt k (by omega)).trans q1
theorem own_blk {w : World} {base size n : Nat} {e : TypeId} {v : Value} {xs : List Value} (h : w.ownsRow base e size v n xs) {k : Nat} (hk : v.ownBlock = some k) : Blk w k e ∧ base ≤ k := by
  rcases h.2 with ⟨e, _⟩ | ⟨g', cap, cur, e, hb, hgg, _⟩
  · rw [e] at hk; simp [Value.ownBlock] at hk
  · rw [e] at hk
    have : g' = k := by simpa [Value.ownBlock] using hk
    subst this
    exact ⟨⟨_, hgg⟩, hb⟩
/-- The heads, in a row of their own. -/
def HSt (B : Nat) (w : World) (v : Value) (S : List (List Ht)) : Prop :=
  ∃ xs, w.ownsRow B 66 1 v S.length xs ∧ ∀ (k : Nat) (l : List Ht), S[k]? = some l → ∃ r, xs[k]? = some r ∧ RowAt w r l
theorem HSt.rows {B : Nat} {w : World} {v : Value} {S : List (List Ht)} (h : HSt B w v S) : RowsAt w v S := by
  obtain ⟨xs, ho, hr⟩ := h
  exact rows_own ho hr
theorem HSt.keep {B : Nat} {w w' : World} {v : Value} {S : List (List Ht)} (h : HSt B w v S) (hk : KH w w') : HSt B w' v S := by
  obtain ⟨xs, ho, hr⟩ := h
  refine ⟨xs, own_keep ho fun k hk1 => hk.2 k 66 (own_blk ho hk1).1 (.inl rfl), fun k l hl => ?_⟩
  obtain ⟨r, q1, q2⟩ := hr k l hl
  exact ⟨r, q1, q2.keep fun k hb => hk.2 k 73 hb (.inr (.inl rfl))⟩
theorem HSt.turn {B : Nat} {w w' : World} {v : Value} {S : List (List Ht)} (h : HSt B w v S) (T : Turn (fun _ => False) w w') : HSt B w' v S := h.keep (kh_turn T (fun _ _ _ _ q => q))
theorem grown_set (w : World) (a : Addr) (u : Value) : w.grownBy (w.setCell a u) (some a.block) :=
  ⟨rfl, rfl, rfl, by simp, fun k hk hne => Below.heap_setCell _ _ _ _ (fun e => hne (by rw [e]))⟩
theorem HSt.set {B g cap i : Nat} {w : World} {S : List (List Ht)} {l : List Ht} {u : Value} (h : HSt B w (.slice (some ⟨g, 0, none⟩) S.length cap) S) (hi : i < S.length) (hu : RowAt w u l) : HSt B (w.setCell ⟨g, i, none⟩ u) (.slice (some ⟨g, 0, none⟩) (S.set i l).length cap) (S.set i l) := by
  obtain ⟨xs, ho, hr⟩ := h
  have hg := (own_blk ho rfl).1
  have keep : ∀ k, Blk w k 73 → (w.setCell ⟨g, i, none⟩ u).heap[k]? = w.heap[k]? := fun k hk => Below.heap_setCell _ _ _ _ (hk.ne hg (by decide))
  have hx := ho.1
  refine ⟨xs.set i u, by rw [List.length_set]; exact (ho.stored i u).1, fun k l' hl' => ?_⟩
  by_cases e : k = i
  · subst e
    rw [List.getElem?_set_self hi] at hl'
    cases hl'
    exact ⟨u, List.getElem?_set_self (by omega), hu.keep keep⟩
  · rw [List.getElem?_set_ne (Ne.symm e)] at hl'
    obtain ⟨r, q1, q2⟩ := hr k l' hl'
    exact ⟨r, by rw [List.getElem?_set_ne (Ne.symm e)]; exact q1, q2.keep keep⟩
theorem rowAt_tail {w : World} {b off cap : Nat} {x : Ht} {l : List Ht} (h : RowAt w (.slice (some ⟨b, off, none⟩) (l.length + 1) cap) (x :: l)) : RowAt w (.slice (some (if cap = 1 then ⟨b, off, none⟩ else ⟨b, off + 3, none⟩)) l.length (cap - 1)) l := by
  obtain ⟨a, b', off', cap', e, hc, ha, hx⟩ := h
  injection e with e1 e2 e3
  subst e3
  obtain ⟨ha, hb⟩ := ha.resolve_left (by simp)
  subst ha
  injection e1 with e1
  injection e1 with e4 e5
  subst e4
  subst e5
  simp only [List.length_cons] at hc
  by_cases h1 : cap = 1
  · rw [if_pos h1]
    obtain rfl : l = [] := List.eq_nil_of_length_eq_zero (by omega)
    exact ⟨_, b, off, cap - 1, rfl, by simp, .inl rfl, fun j x h => by simp at h⟩
  · rw [if_neg h1]
    refine ⟨_, b, off + 3, cap - 1, rfl, by omega, .inr ⟨rfl, hb⟩, fun j y hj => ?_⟩
    have := hx (j + 1) y (by simpa using hj)
    rw [show off + 3 + j * 3 = off + (j + 1) * 3 from by omega]
    exact this

/-- What the iterator's rounds are: a measure, of the heads' lengths. -/
def lenV : Value → Nat
  | .slice _ n _ => n
  | _ => 0
def headsLen (v : Value) (n : Nat) (w : World) : Nat := match v with
  | .slice (some a) _ _ => ((List.range n).map fun k => ((w.cell? ⟨a.block, k, none⟩).map lenV).getD 0).sum
  | _ => 0
theorem headsLen_is {B : Nat} {w : World} {v : Value} {S : List (List Ht)} (h : HSt B w v S) : headsLen v S.length w = total S := by
  obtain ⟨xs, ho, hr⟩ := h
  rcases ho.2 with ⟨e, e2⟩ | ⟨g, cap, cur, e, hg, hgg, _⟩
  · obtain rfl := List.eq_nil_of_length_eq_zero e2
    subst e
    rfl
  · subst e
    unfold headsLen total
    simp only
    congr 1
    refine List.ext_getElem (by simp) fun k h1 h2 => ?_
    simp only [List.length_map, List.length_range] at h1 h2
    simp only [List.getElem_map, List.getElem_range]
    obtain ⟨r, q1, a, b, off, cp, q2, _⟩ := hr k S[k] (List.getElem?_eq_getElem h2)
    rw [ho.cellAt k (by omega), q1, q2]
    rfl

def IRel (lb B m : Nat) (hv : Value) (out : List Ht) (J : List Ht → World → Prop) (v : Value) (wr : World) : Prop :=
  ∃ pre S, v = .int .i64 (firstAt ltH S) ∧ S.length = m ∧ pre ++ mergeN ltH (total S) S = out ∧ J pre wr ∧ HSt B wr hv S ∧ wr.cell? ⟨lb, 0, none⟩ = some (.func (.func 38) #[] #[]) ∧ Blk wr lb 101

set_option maxRecDepth 100000 in
set_option maxHeartbeats 2000000 in
theorem merge1_in (n : Nat) (hn : 1 ≤ n) (lo kb lb hb m : Nat) (L : List (List Ht)) (f : Nat → Value) (hm : m = L.length) (hL : L.length ≤ 1000000) (J : List Ht → World → Prop) (W : World) (hlb : Blk W lb 101)
    (hJ : BearsT 66 W.heap.size J)
    (hY : ∀ pre x W1, J pre W1 → (∃ r, pre ++ x :: r = mergeN ltH (total L) L) → YieldAt Fence.wide (n - 1) Try.prog lo #[x.val] W1 fun en W' => en = .returned (.bool true) ∧ J (pre ++ [x]) W' ∧ KH W1 W')
    (h0 : J [] W) (ck : W.cell? ⟨kb, 0, none⟩ = some (.slice (some ⟨hb, 0, none⟩) m m)) (cl : W.cell? ⟨lb, 0, none⟩ = some (.func (.func 38) #[] #[])) (ch : ∀ k, k < m → W.cell? ⟨hb, k, none⟩ = some (f k)) (hR : ∀ k l, L[k]? = some l → RowAt W (f k) l) :
    CallsIn Fence.wide n Try.prog 45 #[.func (.yield lo) #[] #[], .pointer (some ⟨kb, 0, none⟩), .pointer (some ⟨lb, 0, none⟩)] W fun en W' => (∃ v, en = .returned v) ∧ J (mergeN ltH (total L) L) W' := by
  have CH := Lib.hid (clone_heads (cap := m) (by omega) ch (fun k hk => by
    obtain ⟨a, b, off, cap, e, _⟩ := hR k _ (List.getElem?_eq_getElem (by omega))
    rw [e]
    rfl))
  have IN := Lib.hid (And.intro hR (And.intro h0 (And.intro hJ hY)))
  have FI := Lib.hid (fun (w : World) (v : Value) (S : List (List Ht)) (h : RowsAt w v S) (hS : S.length = m) => first_is h (by omega))
  have HM := Lib.hid hm
  have HLL := Lib.hid hL
  clear hR ch h0 hJ hY hL hm
  refine callsIn_of_wp Try.func45 rfl trivial ?_ rfl
  simp only [Try.ntmps45, List.size_toArray, List.length_cons, List.length_nil, Nat.reduceAdd, Nat.reduceSub, Array.replicate_succ, Array.replicate_zero, List.push_toArray, List.append_toArray, List.nil_append, List.cons_append]
  gi_wp2_with fail
  refine ⟨trivial, ?_⟩
  refine (callsIn_wide.2 CH.out).mono ?_
  rintro e w1 ⟨hv, rfl, ho, T⟩
  have HS0 : HSt W.heap.size w1 hv L := by
    refine ⟨_, by rw [← HM.out]; exact ho, fun k l hl => ⟨f k, ?_, ?_⟩⟩
    · have hk := (List.getElem?_eq_some_iff.1 hl).1
      rw [List.getElem?_map, List.getElem?_range (by have := HM.out; omega)]
      rfl
    · exact (IN.out.1 k l hl).keep fun j hj => T.block j hj.lt id
  have J0 : J [] w1 := IN.out.2.2.1 _ W w1 none IN.out.2.1 ⟨T.os, T.tape, T.output, T.size, fun k hk _ => T.block k hk id⟩ (fun r e => by cases e)
  have cl1 := T.cell id cl
  have bl1 := hlb.turn T id
  have TZ := T.size
  have X1 := Lib.hid (And.intro HS0 (And.intro J0 TZ))
  have F1 := Lib.hid (FI.out w1 hv L HS0.rows HM.out.symm)
  clear ho T HS0 J0 CH ck cl TZ hlb
  gi_wp2_with fail
  refine ⟨trivial, ?_⟩
  refine (callsIn_wide.2 F1.out).mono ?_
  rintro e w2 ⟨rfl, T2⟩
  have R0 : IRel lb W.heap.size m hv (mergeN ltH (total L) L) J (.int .i64 (firstAt ltH L)) w2 :=
    ⟨[], L, rfl, HM.out.symm, rfl, IN.out.2.2.1 _ w1 _ none X1.out.2.1 ⟨T2.os, T2.tape, T2.output, T2.size, fun k hk _ => T2.block k hk id⟩ (fun r e => by cases e), X1.out.1.turn T2, T2.cell id cl1, bl1.turn T2 id⟩
  clear F1 X1 cl1 bl1 T2
  gi_wp2_with fail
  gi_loopw [5] (fun v wr => IRel lb W.heap.size m hv (mergeN ltH (total L) L) J v wr) (fun _ wr => headsLen hv m wr)
  case atStart => exact R0
  case round =>
    clear R0
    obtain ⟨pre, S, rfl, hSm, hpre, hj, hs, cl, bl⟩ := hrel
    rcases firstAt_or ltH S with hf | ⟨i, x, l, hf, hx⟩
    · have F := Lib.hid (show J (mergeN ltH (total L) L) wr from by
        rw [mergeN_none hf, List.append_nil] at hpre
        rw [← hpre]
        exact hj)
      rw [hf]
      clear hpre hj hs hf
      gi_wp2
      go_end0
      exact ⟨⟨_, rfl⟩, F.out⟩
    · have hil : i < S.length := (List.getElem?_eq_some_iff.1 hx).1
      obtain ⟨xs, ho, hr⟩ := id hs
      obtain ⟨a, cap, e1, e2⟩ := own_slice ho
      obtain ⟨g, rfl⟩ := e2 (by omega)
      obtain ⟨r, q1, q2⟩ := hr i _ hx
      obtain ⟨ra, b, off, rc, rfl, hrc, hra, hrx⟩ := id q2
      obtain ⟨rfl, hb0⟩ := hra.resolve_left (by simp)
      have z1 : wr.cell? ⟨g, i, none⟩ = some (.slice (some ⟨b, off, none⟩) (l.length + 1) rc) := by
        have h := ho
        rw [e1] at h
        exact (h.cellAt i (by omega)).trans q1
      have hr0 := hrx 0 x rfl
      rw [Nat.zero_mul, Nat.add_zero] at hr0
      have z2 : wr.cell? ⟨b, off, none⟩ = some (.int .i64 x.id) := hr0 0 _ rfl
      have z3 : wr.cell? ⟨b, off + 1, none⟩ = some (.slice x.sa x.sn x.sc) := hr0 1 _ rfl
      have z4 : wr.cell? ⟨b, off + 2, none⟩ = some (.slice x.ra x.rn x.rc) := hr0 2 _ rfl
      have TA : Turn (fun _ => False) wr (wr.alloc (.cells #[.int .i64 x.id, .slice x.sa x.sn x.sc, .slice x.ra x.rn x.rc] 73)) := (Turn.refl _ wr).alloc _
      have RA : (wr.alloc (.cells #[.int .i64 x.id, .slice x.sa x.sn x.sc, .slice x.ra x.rn x.rc] 73)).rangeAt wr.heap.size 0 x.cells := range_new wr [.int .i64 x.id, .slice x.sa x.sn x.sc, .slice x.ra x.rn x.rc] 73
      have BA : Blk (wr.alloc (.cells #[.int .i64 x.id, .slice x.sa x.sn x.sc, .slice x.ra x.rn x.rc] 73)) wr.heap.size 73 := Blk.new wr [.int .i64 x.id, .slice x.sa x.sn x.sc, .slice x.ra x.rn x.rc] 73
      have z5 := TA.cell id z1
      have ho5 := own_turn ho TA (fun _ _ q => q)
      have fr : (wr.alloc (.cells #[.int .i64 x.id, .slice x.sa x.sn x.sc, .slice x.ra x.rn x.rc] 73)).frozen? ⟨g, i, none⟩ = false := by
        have h := ho5
        rw [e1] at h
        exact h.frozenAt i
      have hgB := (ho.lt g (by rw [e1]; rfl))
      have bg : Blk wr g 66 := (own_blk ho (by rw [e1]; rfl)).1
      have ST := hs.turn TA
      rw [e1] at ST
      have S2 := ST.set hil (rowAt_tail (q2.turn TA))
      rw [List.length_set, hSm] at S2
      have G2 := grown_set (wr.alloc (.cells #[.int .i64 x.id, .slice x.sa x.sn x.sc, .slice x.ra x.rn x.rc] 73)) ⟨g, i, none⟩ (.slice (some (if rc = 1 then ⟨b, off, none⟩ else ⟨b, off + 3, none⟩)) l.length (rc - 1))
      have J1 := IN.out.2.2.1 _ wr (wr.alloc (.cells #[.int .i64 x.id, .slice x.sa x.sn x.sc, .slice x.ra x.rn x.rc] 73)) none hj ⟨TA.os, TA.tape, TA.output, TA.size, fun k hk _ => TA.block k hk id⟩ (fun r e => by cases e)
      have J2 := IN.out.2.2.1 _ _ _ _ J1 G2 (fun r e => by
        cases e
        obtain ⟨cs, hcs⟩ := bg.turn TA id
        exact ⟨hgB.1, cs, _, hcs⟩)
      have n6 : g ≠ wr.heap.size := by have := hgB.2; omega
      have y0 : ((wr.alloc (.cells #[.int .i64 x.id, .slice x.sa x.sn x.sc, .slice x.ra x.rn x.rc] 73)).setCell ⟨g, i, none⟩ (.slice (some (if rc = 1 then ⟨b, off, none⟩ else ⟨b, off + 3, none⟩)) l.length (rc - 1))).cell? ⟨wr.heap.size, 0, none⟩ = some (.int .i64 x.id) := (cell_far _ _ _ _ _ _ n6).trans (RA 0 _ rfl)
      have y1 : ((wr.alloc (.cells #[.int .i64 x.id, .slice x.sa x.sn x.sc, .slice x.ra x.rn x.rc] 73)).setCell ⟨g, i, none⟩ (.slice (some (if rc = 1 then ⟨b, off, none⟩ else ⟨b, off + 3, none⟩)) l.length (rc - 1))).cell? ⟨wr.heap.size, 1, none⟩ = some (.slice x.sa x.sn x.sc) := (cell_far _ _ _ _ _ _ n6).trans (RA 1 _ rfl)
      have y2 : ((wr.alloc (.cells #[.int .i64 x.id, .slice x.sa x.sn x.sc, .slice x.ra x.rn x.rc] 73)).setCell ⟨g, i, none⟩ (.slice (some (if rc = 1 then ⟨b, off, none⟩ else ⟨b, off + 3, none⟩)) l.length (rc - 1))).cell? ⟨wr.heap.size, 2, none⟩ = some (.slice x.ra x.rn x.rc) := (cell_far _ _ _ _ _ _ n6).trans (RA 2 _ rfl)
      have T5 : Turn (fun q => q = g) wr ((wr.alloc (.cells #[.int .i64 x.id, .slice x.sa x.sn x.sc, .slice x.ra x.rn x.rc] 73)).setCell ⟨g, i, none⟩ (.slice (some (if rc = 1 then ⟨b, off, none⟩ else ⟨b, off + 3, none⟩)) l.length (rc - 1))) := (TA.more (fun _ _ q => q.elim)).trans (Turn.put _ _ _ _)
      have nlg : lb ≠ g := bl.ne bg (by decide)
      have cl2 := T5.cell nlg cl
      have bl2 := bl.turn T5 nlg
      have ht := total_set hx
      have hM := headsLen_is hs
      rw [hSm] at hM
      have hstep : mergeN ltH (total S) S = x :: mergeN ltH (total (S.set i l)) (S.set i l) := by
        rw [← ht]
        exact mergeN_step hf hx
      rw [hstep] at hpre
      have hpl : ∃ r, pre ++ x :: r = mergeN ltH (total L) L := ⟨_, hpre⟩
      obtain ⟨fn, tmps, assign, body, hy, hRd⟩ := IN.out.2.2.2 pre x _ J2 hpl
      have h1l : (l.length + 1 : Nat) = (x :: l).length := rfl
      have hi1 : (i : Int) < (S.length : Int) := by omega
      have hi0 : (0 : Int) ≤ (i : Int) := by omega
      simp only [List.length_cons] at hrc
      have X := Lib.hid (And.intro hpre (And.intro S2 (And.intro ht (And.intro hM (And.intro cl2 bl2)))))
      have SL : (S.set i l).length = S.length := List.length_set
      have t1 : decide ((0 : Int) ≤ (i : Int)) = true := by simp
      rw [hf]
      rw [hSm] at e1
      subst e1
      unfold Ht.val at hy
      have HY := Lib.hid hy
      have HR := Lib.hid hRd
      clear hpre hj hs ho hr q1 q2 hrx ST S2 G2 J1 J2 cl2 bl2 ht hM hstep hpl hx cl bl h1l SL hy hRd TA RA BA ho5 hgB bg T5 hr0
      by_cases h1 : rc = 1
      case pos =>
        subst h1
        obtain rfl : l = [] := List.eq_nil_of_length_eq_zero (by omega)
        simp only [↓reduceIte, Nat.reduceSub, List.length_nil] at X HY HR y0 y1 y2
        simp only [List.length_nil, Nat.reduceAdd] at z1 z5
        have hy := HY.out
        gi_wp2_with fail
        refine HR.out.mono ?_
        rintro e W3 ⟨rfl, hJ3, hk3⟩
        have HS3 := X.out.2.1.keep hk3
        have bl3 : Blk W3 lb 101 := by
          obtain ⟨cs, hb⟩ := X.out.2.2.2.2.2
          exact ⟨cs, (hk3.2 lb 101 ⟨cs, hb⟩ (.inr (.inr (.inl rfl)))).trans hb⟩
        have cl3 := (World.cell?_of_block (w := _) (w' := W3) (a := ⟨lb, 0, none⟩) (hk3.2 lb 101 X.out.2.2.2.2.2 (.inr (.inr (.inl rfl))))).trans X.out.2.2.2.2.1
        have F3 := Lib.hid (FI.out W3 _ _ HS3.rows (List.length_set.trans hSm))
        have Y := Lib.hid (And.intro hJ3 (And.intro HS3 bl3))
        clear hk3 hJ3 HS3 bl3
        gi_wp2_with fail
        refine ⟨trivial, ?_⟩
        with_reducible refine (callsIn_wide.2 F3.out).mono ?_
        rintro e w4 ⟨rfl, T4⟩
        gi_wp2_with fail
        go_roundw
        case rel => exact ⟨pre ++ [x], S.set i [], rfl, List.length_set.trans hSm, by rw [List.append_assoc]; exact X.out.1, IN.out.2.2.1 _ W3 _ none Y.out.1 ⟨T4.os, T4.tape, T4.output, T4.size, fun k hk _ => T4.block k hk id⟩ (fun r e => by cases e), Y.out.2.1.turn T4, T4.cell id cl3, Y.out.2.2.turn T4 id⟩
        case measure =>
          have h1 := headsLen_is (Y.out.2.1.turn T4)
          rw [List.length_set, hSm] at h1
          rw [h1, X.out.2.2.2.1]
          have := X.out.2.2.1
          omega
      case neg =>
        simp only [if_neg h1] at X HY HR y0 y1 y2
        have hy := HY.out
        gi_wp2_with fail
        refine HR.out.mono ?_
        rintro e W3 ⟨rfl, hJ3, hk3⟩
        have HS3 := X.out.2.1.keep hk3
        have bl3 : Blk W3 lb 101 := by
          obtain ⟨cs, hb⟩ := X.out.2.2.2.2.2
          exact ⟨cs, (hk3.2 lb 101 ⟨cs, hb⟩ (.inr (.inr (.inl rfl)))).trans hb⟩
        have cl3 := (World.cell?_of_block (w := _) (w' := W3) (a := ⟨lb, 0, none⟩) (hk3.2 lb 101 X.out.2.2.2.2.2 (.inr (.inr (.inl rfl))))).trans X.out.2.2.2.2.1
        have F3 := Lib.hid (FI.out W3 _ _ HS3.rows (List.length_set.trans hSm))
        have Y := Lib.hid (And.intro hJ3 (And.intro HS3 bl3))
        clear hk3 hJ3 HS3 bl3
        gi_wp2_with fail
        refine ⟨trivial, ?_⟩
        with_reducible refine (callsIn_wide.2 F3.out).mono ?_
        rintro e w4 ⟨rfl, T4⟩
        gi_wp2_with fail
        go_roundw
        case rel => exact ⟨pre ++ [x], S.set i l, rfl, List.length_set.trans hSm, by rw [List.append_assoc]; exact X.out.1, IN.out.2.2.1 _ W3 _ none Y.out.1 ⟨T4.os, T4.tape, T4.output, T4.size, fun k hk _ => T4.block k hk id⟩ (fun r e => by cases e), Y.out.2.1.turn T4, T4.cell id cl3, Y.out.2.2.turn T4 id⟩
        case measure =>
          have h1 := headsLen_is (Y.out.2.1.turn T4)
          rw [List.length_set, hSm] at h1
          rw [h1, X.out.2.2.2.1]
          have := X.out.2.2.1
          omega
end Go.Proofs.Ytepmealhnnoahaa
