/-
  Rows that are merged, one thing after the other: the iterator that Merge makes.
-/
import Derived.Shelf.Abstract
import Derived.Shelf.RegionOpen
import Derived.WalkKit
import Derived.OwnWalkIn
import Derived.TacticsInMore
import Derived.LoopNIn
import Derived.LoopIn
import Derived.Sort.QuietIn
import Derived.Maps.OwnIn
import Derived.Outline
import Derived.Test.YtibmimdlgbhdnaaRangeT
import Derived.Test.YtibmimdlgbhdnaaTupP
import Derived.Test.YtibmimdlgbhdnaaTupR
namespace Go.Proofs.Ytibmimdlgbhdnaa
open Go.ChangeShapes Go.WideShapes Go.ChangeAt Go.RowKit Go.Shelf
set_option linter.unusedVariables false
attribute [local go_sem] Oper.semAt_some

/-- A row of numbers that lies below n0. -/
def RowLo (n0 : Nat) (w : World) (v : Value) (l : List Int) : Prop :=
  ∃ (a : Option Addr) (b off cap : Nat), v = .slice a l.length cap ∧ l.length ≤ cap ∧ (l = [] ∨ (a = some ⟨b, off, none⟩ ∧ b < n0)) ∧ ∀ (j : Nat) (x : Int), l[j]? = some x → w.cell? ⟨b, off + j, none⟩ = some (.int .i64 x)
theorem RowLo.at {n0 : Nat} {w : World} {v : Value} {l : List Int} (h : RowLo n0 w v l) : RowAt w v l := by
  obtain ⟨a, b, off, cap, e, hc, ha, hx⟩ := h
  exact ⟨a, b, off, cap, e, hc, ha.imp id And.left, hx⟩
theorem RowLo.keep {n0 : Nat} {w w' : World} {v : Value} {l : List Int} (h : RowLo n0 w v l) (hk : ∀ k, k < n0 → w'.heap[k]? = w.heap[k]?) : RowLo n0 w' v l := by
  obtain ⟨a, b, off, cap, e, hc, ha, hx⟩ := h
  refine ⟨a, b, off, cap, e, hc, ha, fun j x hj => ?_⟩
  have hb : b < n0 := by
    rcases ha with rfl | ha
    · simp at hj
    · exact ha.2
  exact (World.cell?_of_block (w := w) (hk b hb)).trans (hx j x hj)
theorem rowLo_own {w : World} {base n0 : Nat} {v : Value} {l : List Int} (h : w.ownsRow base 3 1 v l.length (intsV l)) (hn : w.heap.size ≤ n0) : RowLo n0 w v l := by
  obtain ⟨a, b, off, cap, e, hc, ha, hx⟩ := rowAt_own h
  refine ⟨a, b, off, cap, e, hc, ha.imp id fun ha => ⟨ha, ?_⟩, hx⟩
  subst ha
  have := (h.lt b (by rw [e]; rfl)).2
  omega
/-- What a round keeps: all below n0, and rows of rows but the one at n0. -/
def KN (n0 : Nat) (W W' : World) : Prop := W.heap.size ≤ W'.heap.size ∧ ∀ k, k ≠ n0 → (k < n0 ∨ ∃ cs q, W.heap[k]? = some (.cells cs 27 q)) → W'.heap[k]? = W.heap[k]?
theorem kn_t {n0 : Nat} {A B C : World} (h : KN n0 A B) (k : KN n0 B C) : KN n0 A C := ⟨Nat.le_trans h.1 k.1, fun i hi hc => by
  have e := h.2 i hi hc
  refine (k.2 i hi ?_).trans e
  rcases hc with hc | ⟨cs, q, hc⟩
  · exact .inl hc
  · exact .inr ⟨cs, q, e.trans hc⟩⟩
theorem kn_b {n0 : Nat} {w : World} (hn : n0 ≤ w.heap.size) (W : World) (l : Nat) (o o' : Obj) (hl : w.heap.size ≤ l) (h : W.heap[l]? = some o) (ho : o.isCells = false) : KN n0 W (W.putObj l o') :=
  ⟨(grownBy_putObj' W l o').size, fun k hk hc => World.putObj_heap_other (fun e => by
    subst e
    rcases hc with hc | ⟨cs, q, hc⟩
    · omega
    · rw [h] at hc
      cases hc
      cases ho)⟩
/-- The heads, in a row of their own. -/
def HSt (n0 B : Nat) (w : World) (v : Value) (S : List (List Int)) : Prop :=
  ∃ xs, w.ownsRow B 27 1 v S.length xs ∧ ∀ (k : Nat) (l : List Int), S[k]? = some l → ∃ r, xs[k]? = some r ∧ RowLo n0 w r l
theorem HSt.rows {n0 B : Nat} {w : World} {v : Value} {S : List (List Int)} (h : HSt n0 B w v S) : RowsAt w v S := by
  obtain ⟨xs, ho, hr⟩ := h
  exact rows_own ho fun k l hl => by
    obtain ⟨r, q1, q2⟩ := hr k l hl
    exact ⟨r, q1, q2.at⟩
theorem HSt.keep {n0 B : Nat} {w w' : World} {v : Value} {S : List (List Int)} (h : HSt n0 B w v S) (hB : n0 < B) (hk : KN n0 w w') : HSt n0 B w' v S := by
  obtain ⟨xs, ho, hr⟩ := h
  refine ⟨xs, own_keep ho fun k hk1 => ?_, fun k l hl => ?_⟩
  · have h1 := (ho.lt k hk1).1
    rcases ho.2 with ⟨e, _⟩ | ⟨g, cap, cur, e, hg, hgg, _⟩
    · rw [e] at hk1
      cases hk1
    · rw [e] at hk1
      obtain rfl : g = k := by simpa [Value.ownBlock] using hk1
      exact hk.2 g (by omega) (.inr ⟨_, _, hgg⟩)
  · obtain ⟨r, q1, q2⟩ := hr k l hl
    exact ⟨r, q1, q2.keep fun k hk1 => hk.2 k (by omega) (.inl hk1)⟩
theorem HSt.drewN {n0 B : Nat} {w : World} {v : Value} {S : List (List Int)} (h : HSt n0 B w v S) (d : Nat) : HSt n0 B (w.drewN d) v S := h
theorem grown_set (w : World) (a : Addr) (u : Value) : w.grownBy (w.setCell a u) (some a.block) :=
  ⟨rfl, rfl, rfl, by simp, fun k hk hne => Below.heap_setCell _ _ _ _ (fun e => hne (by rw [e]))⟩
theorem HSt.set {n0 B g cap i : Nat} {w : World} {S : List (List Int)} {l : List Int} {u : Value} (h : HSt n0 B w (.slice (some ⟨g, 0, none⟩) S.length cap) S) (hB : n0 < B) (hi : i < S.length) (hu : RowLo n0 w u l) : HSt n0 B (w.setCell ⟨g, i, none⟩ u) (.slice (some ⟨g, 0, none⟩) (S.set i l).length cap) (S.set i l) := by
  obtain ⟨xs, ho, hr⟩ := h
  have hg := (ho.lt g rfl).1
  have keep : ∀ k, k < n0 → (w.setCell ⟨g, i, none⟩ u).heap[k]? = w.heap[k]? := fun k hk => Below.heap_setCell _ _ _ _ (by show k ≠ g; omega)
  have hx := ho.1
  refine ⟨xs.set i u, by rw [List.length_set]; exact (ho.stored i u).1, fun k l' hl' => ?_⟩
  by_cases e : k = i
  · subst e
    rw [List.getElem?_set_self hi] at hl'
    cases hl'
    exact ⟨u, List.getElem?_set_self (by omega), hu.keep keep⟩
  · rw [List.getElem?_set_ne (Ne.symm e)] at hl'
    obtain ⟨r, q1, q2⟩ := hr k l' hl'
    exact ⟨r, by rw [List.getElem?_set_ne (Ne.symm e)]; exact q1, q2.keep keep⟩
theorem rowLo_tail {n0 : Nat} {w : World} {b off cap : Nat} {x : Int} {l : List Int} (h : RowLo n0 w (.slice (some ⟨b, off, none⟩) (l.length + 1) cap) (x :: l)) : RowLo n0 w (.slice (some (if cap = 1 then ⟨b, off, none⟩ else ⟨b, off + 1, none⟩)) l.length (cap - 1)) l := by
  obtain ⟨a, b', off', cap', e, hc, ha, hx⟩ := h
  injection e with e1 e2 e3
  subst e3
  obtain ⟨ha, hb⟩ := ha.resolve_left (by simp)
  subst ha
  injection e1 with e1
  injection e1 with e4 e5
  subst e4
  subst e5
  simp only [List.length_cons] at hc
  by_cases h1 : cap = 1
  · rw [if_pos h1]
    obtain rfl : l = [] := List.eq_nil_of_length_eq_zero (by omega)
    exact ⟨_, b, off, cap - 1, rfl, by simp, .inl rfl, fun j x h => by simp at h⟩
  · rw [if_neg h1]
    refine ⟨_, b, off + 1, cap - 1, rfl, by omega, .inr ⟨rfl, hb⟩, fun j y hj => ?_⟩
    have := hx (j + 1) y (by simpa using hj)
    rw [show off + 1 + j = off + (j + 1) from by omega]
    exact this

/-- What the iterator's rounds are: a measure, of the heads' lengths. -/
def lenV : Value → Nat
  | .slice _ n _ => n
  | _ => 0
def headsLen (v : Value) (n : Nat) (w : World) : Nat := match v with
  | .slice (some a) _ _ => ((List.range n).map fun k => ((w.cell? ⟨a.block, k, none⟩).map lenV).getD 0).sum
  | _ => 0
theorem headsLen_is {n0 B : Nat} {w : World} {v : Value} {S : List (List Int)} (h : HSt n0 B w v S) : headsLen v S.length w = total S := by
  obtain ⟨xs, ho, hr⟩ := h
  rcases ho.2 with ⟨e, e2⟩ | ⟨g, cap, cur, e, hg, hgg, _⟩
  · obtain rfl := List.eq_nil_of_length_eq_zero e2
    subst e
    rfl
  · subst e
    unfold headsLen total
    simp only
    congr 1
    refine List.ext_getElem (by simp) fun k h1 h2 => ?_
    simp only [List.length_map, List.length_range] at h1 h2
    simp only [List.getElem_map, List.getElem_range]
    obtain ⟨r, q1, a, b, off, cp, q2, _⟩ := hr k S[k] (List.getElem?_eq_getElem h2)
    rw [ho.cellAt k (by omega), q1, q2]
    rfl

def IRel (lt : Int → Int → Bool) (n0 lb B m : Nat) (hv : Value) (out : List Int) (J : List Int → World → Prop) (v : Value) (wr : World) : Prop :=
  ∃ pre S, v = .int .i64 (firstAt lt S) ∧ S.length = m ∧ pre ++ mergeN lt (total S) S = out ∧ J pre wr ∧ HSt n0 B wr hv S ∧ wr.cell? ⟨lb, 0, none⟩ = some (.func (.func 56) #[] #[])

set_option maxRecDepth 100000 in
set_option maxHeartbeats 2000000 in
theorem merge1_in (n : Nat) (hn : 1 ≤ n) {lt : Int → Int → Bool} (HL : Less 56 lt) (lo kb lb hb n0 m : Nat) (L : List (List Int)) (f : Nat → Value) (hm : m = L.length) (hL : L.length ≤ 1000000) (J : List Int → World → Prop) (W : World) (hn0 : n0 < W.heap.size) (hlb : lb < n0)
    (hJ : BearsT 27 W.heap.size J)
    (hY : ∀ pre x W1, J pre W1 → pre.length < (mergeN lt (total L) L).length → YieldAt Fence.wide (n - 1) Try.prog lo #[.int .i64 x] W1 fun en W' => en = .returned (.bool true) ∧ J (pre ++ [x]) W' ∧ KN n0 W1 W')
    (h0 : J [] W) (ck : W.cell? ⟨kb, 0, none⟩ = some (.slice (some ⟨hb, 0, none⟩) m m)) (cl : W.cell? ⟨lb, 0, none⟩ = some (.func (.func 56) #[] #[])) (ch : ∀ k, k < m → W.cell? ⟨hb, k, none⟩ = some (f k)) (hR : ∀ k l, L[k]? = some l → RowLo n0 W (f k) l) :
    CallsIn Fence.wide n Try.prog 65 #[.func (.yield lo) #[] #[], .pointer (some ⟨kb, 0, none⟩), .pointer (some ⟨lb, 0, none⟩)] W fun en W' => (∃ v, en = .returned v) ∧ J (mergeN lt (total L) L) W' := by
  have CH := Lib.hid (clone_heads (cap := m) (by omega) ch (fun k hk => by
    obtain ⟨a, b, off, cap, e, _⟩ := hR k _ (List.getElem?_eq_getElem (by omega))
    rw [e]
    rfl))
  have IN := Lib.hid (And.intro hR (And.intro h0 (And.intro hJ hY)))
  have FI := Lib.hid (fun (w : World) (v : Value) (S : List (List Int)) (h : RowsAt w v S) (hS : S.length = m) => first_is HL h (by omega))
  have HM := Lib.hid hm
  have HLL := Lib.hid hL
  clear hR ch h0 hJ hY hL hm
  refine callsIn_of_wp Try.func65 rfl trivial ?_ rfl
  simp only [Try.ntmps65, List.size_toArray, List.length_cons, List.length_nil, Nat.reduceAdd, Nat.reduceSub, Array.replicate_succ, Array.replicate_zero, List.push_toArray, List.append_toArray, List.nil_append, List.cons_append]
  gi_wp2_with fail
  refine ⟨trivial, ?_⟩
  refine (callsIn_wide.2 CH.out).mono ?_
  rintro e w1 ⟨hv, rfl, ho, T⟩
  have HS0 : HSt n0 W.heap.size w1 hv L := by
    refine ⟨_, by rw [← HM.out]; exact ho, fun k l hl => ⟨f k, ?_, ?_⟩⟩
    · have hk := (List.getElem?_eq_some_iff.1 hl).1
      rw [List.getElem?_map, List.getElem?_range (by have := HM.out; omega)]
      rfl
    · exact (IN.out.1 k l hl).keep fun j hj => T.block j (by omega) id
  have J0 : J [] w1 := IN.out.2.2.1 _ W w1 none IN.out.2.1 ⟨T.os, T.tape, T.output, T.size, fun k hk _ => T.block k hk id⟩ (fun r e => by cases e)
  have cl1 := T.cell id cl
  have TZ := T.size
  have X1 := Lib.hid (And.intro HS0 (And.intro J0 TZ))
  have F1 := Lib.hid (FI.out w1 hv L HS0.rows HM.out.symm)
  clear ho T HS0 J0 CH ck cl TZ
  gi_wp2_with fail
  refine ⟨trivial, ?_⟩
  refine (callsIn_wide.2 F1.out).mono ?_
  rintro e w2 ⟨rfl, d, rfl⟩
  have R0 : IRel lt n0 lb W.heap.size m hv (mergeN lt (total L) L) J (.int .i64 (firstAt lt L)) (w1.drewN d) :=
    ⟨[], L, rfl, HM.out.symm, rfl, IN.out.2.2.1 _ w1 _ none X1.out.2.1 ⟨rfl, rfl, rfl, Nat.le_refl _, fun _ _ _ => rfl⟩ (fun r e => by cases e), X1.out.1, cl1⟩
  clear F1 X1 cl1
  gi_wp2_with fail
  gi_loopw [5] (fun v wr => IRel lt n0 lb W.heap.size m hv (mergeN lt (total L) L) J v wr) (fun _ wr => headsLen hv m wr)
  case atStart => exact R0
  case round =>
    clear R0
    obtain ⟨pre, S, rfl, hSm, hpre, hj, hs, cl⟩ := hrel
    rcases firstAt_or lt S with hf | ⟨i, x, l, hf, hx⟩
    · have F := Lib.hid (show J (mergeN lt (total L) L) wr from by
        rw [mergeN_none hf, List.append_nil] at hpre
        rw [← hpre]
        exact hj)
      rw [hf]
      clear hpre hj hs hf
      gi_wp2
      go_end0
      exact ⟨⟨_, rfl⟩, F.out⟩
    · have hil : i < S.length := (List.getElem?_eq_some_iff.1 hx).1
      obtain ⟨xs, ho, hr⟩ := id hs
      obtain ⟨a, cap, e1, e2⟩ := own_slice ho
      obtain ⟨g, rfl⟩ := e2 (by omega)
      obtain ⟨r, q1, q2⟩ := hr i _ hx
      obtain ⟨ra, b, off, rc, rfl, hrc, hra, hrx⟩ := id q2
      obtain ⟨rfl, hb0⟩ := hra.resolve_left (by simp)
      have z1 : wr.cell? ⟨g, i, none⟩ = some (.slice (some ⟨b, off, none⟩) (l.length + 1) rc) := by
        have h := ho
        rw [e1] at h
        exact (h.cellAt i (by omega)).trans q1
      have z2 : wr.cell? ⟨b, off, none⟩ = some (.int .i64 x) := hrx 0 x rfl
      have fr : wr.frozen? ⟨g, i, none⟩ = false := by
        have h := ho
        rw [e1] at h
        exact h.frozenAt i
      have hgB := (ho.lt g (by rw [e1]; rfl)).1
      have ST := hs
      rw [e1] at ST
      have S2 := ST.set hn0 hil (rowLo_tail q2)
      rw [List.length_set, hSm] at S2
      have G2 := grown_set wr ⟨g, i, none⟩ (.slice (some (if rc = 1 then ⟨b, off, none⟩ else ⟨b, off + 1, none⟩)) l.length (rc - 1))
      have J2 := IN.out.2.2.1 _ _ _ _ hj G2 (fun r e => by
        cases e
        rcases ho.2 with ⟨e, _⟩ | ⟨g', cap', cur, e, hg, hgg, _⟩
        · rw [e1] at e
          cases e
        · rw [e1] at e
          injection e with e _ _
          injection e with e
          injection e with e _ _
          subst e
          exact ⟨hg, _, _, hgg⟩)
      have cl2 : (wr.setCell ⟨g, i, none⟩ (.slice (some (if rc = 1 then ⟨b, off, none⟩ else ⟨b, off + 1, none⟩)) l.length (rc - 1))).cell? ⟨lb, 0, none⟩ = some (.func (.func 56) #[] #[]) := by
        rw [cell_far _ _ _ _ _ _ (by omega)]
        exact cl
      have ht := total_set hx
      have hM := headsLen_is hs
      rw [hSm] at hM
      have hstep : mergeN lt (total S) S = x :: mergeN lt (total (S.set i l)) (S.set i l) := by
        rw [← ht]
        exact mergeN_step hf hx
      rw [hstep] at hpre
      have hpl : pre.length < (mergeN lt (total L) L).length := by
        rw [← hpre, List.length_append, List.length_cons]
        omega
      obtain ⟨fn, tmps, assign, body, hy, hRd⟩ := IN.out.2.2.2 pre x _ J2 hpl
      have h1l : (l.length + 1 : Nat) = (x :: l).length := rfl
      have hi1 : (i : Int) < (S.length : Int) := by omega
      have hi0 : (0 : Int) ≤ (i : Int) := by omega
      simp only [List.length_cons] at hrc
      have X := Lib.hid (And.intro hpre (And.intro S2 (And.intro ht (And.intro hM cl2))))
      have SL : (S.set i l).length = S.length := List.length_set
      have t1 : decide ((0 : Int) ≤ (i : Int)) = true := by simp
      rw [hf]
      rw [hSm] at e1
      subst e1
      have HY := Lib.hid hy
      have HR := Lib.hid hRd
      clear hpre hj hs ho hr q1 q2 hrx ST S2 G2 J2 cl2 ht hM hstep hpl hx cl h1l SL hy hRd
      by_cases h1 : rc = 1
      case pos =>
        subst h1
        obtain rfl : l = [] := List.eq_nil_of_length_eq_zero (by omega)
        simp only [↓reduceIte, Nat.reduceSub, List.length_nil] at X HY HR
        simp only [List.length_nil, Nat.reduceAdd] at z1
        have hy := HY.out
        gi_wp2_with fail
        refine HR.out.mono ?_
        rintro e W3 ⟨rfl, hJ3, hk3⟩
        have HS3 := X.out.2.1.keep hn0 hk3
        have cl3 := (World.cell?_of_block (w := _) (w' := W3) (a := ⟨lb, 0, none⟩) (hk3.2 lb (by omega) (.inl hlb))).trans X.out.2.2.2.2
        have F3 := Lib.hid (FI.out W3 _ _ HS3.rows (List.length_set.trans hSm))
        have Y := Lib.hid (And.intro hJ3 HS3)
        clear hk3 hJ3 HS3
        gi_wp2_with fail
        refine ⟨trivial, ?_⟩
        with_reducible refine (callsIn_wide.2 F3.out).mono ?_
        rintro e w4 ⟨rfl, d4, rfl⟩
        gi_wp2_with fail
        go_roundw
        case rel => exact ⟨pre ++ [x], S.set i [], rfl, List.length_set.trans hSm, by rw [List.append_assoc]; exact X.out.1, IN.out.2.2.1 _ W3 _ none Y.out.1 ⟨rfl, rfl, rfl, Nat.le_refl _, fun _ _ _ => rfl⟩ (fun r e => by cases e), Y.out.2, cl3⟩
        case measure =>
          have h1 := headsLen_is (Y.out.2.drewN d4)
          rw [List.length_set, hSm] at h1
          rw [h1, X.out.2.2.2.1]
          have := X.out.2.2.1
          omega
      case neg =>
        simp only [if_neg h1] at X HY HR
        have hy := HY.out
        gi_wp2_with fail
        refine HR.out.mono ?_
        rintro e W3 ⟨rfl, hJ3, hk3⟩
        have HS3 := X.out.2.1.keep hn0 hk3
        have cl3 := (World.cell?_of_block (w := _) (w' := W3) (a := ⟨lb, 0, none⟩) (hk3.2 lb (by omega) (.inl hlb))).trans X.out.2.2.2.2
        have F3 := Lib.hid (FI.out W3 _ _ HS3.rows (List.length_set.trans hSm))
        have Y := Lib.hid (And.intro hJ3 HS3)
        clear hk3 hJ3 HS3
        gi_wp2_with fail
        refine ⟨trivial, ?_⟩
        with_reducible refine (callsIn_wide.2 F3.out).mono ?_
        rintro e w4 ⟨rfl, d4, rfl⟩
        gi_wp2_with fail
        go_roundw
        case rel => exact ⟨pre ++ [x], S.set i l, rfl, List.length_set.trans hSm, by rw [List.append_assoc]; exact X.out.1, IN.out.2.2.1 _ W3 _ none Y.out.1 ⟨rfl, rfl, rfl, Nat.le_refl _, fun _ _ _ => rfl⟩ (fun r e => by cases e), Y.out.2, cl3⟩
        case measure =>
          have h1 := headsLen_is (Y.out.2.drewN d4)
          rw [List.length_set, hSm] at h1
          rw [h1, X.out.2.2.2.1]
          have := X.out.2.2.1
          omega
end Go.Proofs.Ytibmimdlgbhdnaa
