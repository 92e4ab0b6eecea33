/-
  The nodes from one on back, one by one: the iterator behind Sets and Back.
-/
import Derived.Test.YtakjpoapjokmbaaGives
import Derived.Test.YtakjpoapjokmbaaNil
import Derived.Test.YtakjpoapjokmbaaDrop
import Derived.Shelf.RegionOpen
import Derived.OwnWalkIn
import Derived.TacticsInMore
import Derived.LoopNIn
import Derived.LoopIn
import Derived.Sort.QuietIn
import Derived.Maps.OwnIn
import Derived.Outline
namespace Go.Proofs.Ytakjpoapjokmbaa
open Go.ChangeShapes Go.WideShapes Go.ChangeAt Go.RowKit Go.Shelf
set_option linter.unusedVariables false
attribute [local go_sem] Oper.semAt_some

/-- A node as a variable of its own. -/
def NodeVar (o : Obj) : Prop := ∃ vs fr, o = .cells vs 61 fr
/-- The blocks of S, and the nodes' variables, are as they were. -/
structure KpS (S : Nat → Prop) (W W' : World) : Prop where
  s : ∀ k : Nat, S k → W'.heap[k]? = W.heap[k]?
  n : ∀ (k : Nat) (o : Obj), NodeVar o → W.heap[k]? = some o → W'.heap[k]? = some o
theorem KpS.trans {S : Nat → Prop} {A B C : World} (h : KpS S A B) (k : KpS S B C) : KpS S A C := ⟨fun i hi => (k.s i hi).trans (h.s i hi), fun i o ho hi => k.n i o ho (h.n i o ho hi)⟩
theorem KpS.put {S : Nat → Prop} {B : Nat} (hS : ∀ k, S k → k < B) (W : World) (l : Nat) (o o' : Obj) (hl : B ≤ l) (h : W.heap[l]? = some o) (hc : o.isCells = false) : KpS S W (W.putObj l o') := by
  have hg := grownBy_putObj' W l o'
  have h2 := (Array.getElem?_eq_some_iff.1 h).1
  refine ⟨fun k hk => ?_, fun k o2 ho hk => ?_⟩
  · have := hS k hk
    exact hg.block k (by omega) (fun e => by injection e with e; omega)
  · refine (hg.block k (Array.getElem?_eq_some_iff.1 hk).1 (fun e => ?_)).trans hk
    injection e with e
    subst e
    rw [h] at hk
    cases hk
    obtain ⟨vs, fr, rfl⟩ := ho
    cases hc
theorem KpS.below {S : Nat → Prop} {W W' : World} (hS : ∀ k, S k → k < W.heap.size) (h : Below W.heap.size W W') : KpS S W W' :=
  ⟨fun k hk => h.block k (hS k hk), fun k o _ hk => (h.block k (Array.getElem?_eq_some_iff.1 hk).1).trans hk⟩
/-- What find tells of a chain, or of none, wherever the blocks of S are as they were. -/
def Told (S : Nat → Prop) (w : World) (p : Option Addr) (G : Int → Option Nd) : Prop :=
  ∀ W, (∀ k, S k → W.heap[k]? = w.heap[k]?) → ∀ i, (Lit.int .i64 i).wf = true → Calls Try.prog 29 #[.pointer p, .int .i64 i] W fun e W' => e = .returned (.tuple #[((G i).getD Nd.zero).val, .bool (G i).isSome]) ∧ Below W.heap.size W W'
theorem told_chn {w : World} {c mb n m : Nat} {nx : Int} {G : Int → Option Nd} (h : Chn w c mb n m nx G) (S : Nat → Prop) (h1 : S c) (h2 : S mb) : Told S w (some ⟨c, 0, none⟩) G := fun W hk i hi => find_at (h.blocks (hk c h1) (hk mb h2)) hi
theorem told_nil (S : Nat → Prop) (w : World) : Told S w none (fun _ => none) := fun W _ i _ => find_nil i W
theorem Told.keep {S : Nat → Prop} {w w' : World} {p : Option Addr} {G : Int → Option Nd} (h : Told S w p G) (hk : ∀ k, S k → w'.heap[k]? = w.heap[k]?) : Told S w' p G := fun W hW => h W (fun k hs => (hW k hs).trans (hk k hs))
/-- From one on back: the numbers of the nodes ahead may be numbers, and at last there is none. -/
def PathOk : Nat → (Int → Option Nd) → Int → Prop
  | 0, G, i => G i = none
  | f + 1, G, i => ∀ q, G i = some q → (Lit.int .i64 q.prev).wf = true ∧ PathOk f G q.prev
theorem pathG_none {f : Nat} {G : Int → Option Nd} {i : Int} (h : G i = none) : pathG f G i = [] := by
  cases f with
  | zero => rfl
  | succ f => rw [pathG, h]
theorem pathG_some {f : Nat} {G : Int → Option Nd} {i : Int} {q : Nd} (h : G i = some q) : pathG (f + 1) G i = q :: pathG f G q.prev := by
  rw [pathG, h]
def encN (q : Nd) : Array Value := #[q.val]
def BkRel (W : World) (S : Nat → Prop) (G : Int → Option Nd) (xs : List Nd) (J : List Nd → World → Prop) (gh : Nat) (v4 v5 : Value) (wr : World) : Prop :=
  ∃ (pre : List Nd) (i : Int) (k : Nat) (p1 p2 p3 p4 p5 p6 : Int), v4 = .pointer (some ⟨k, 0, none⟩) ∧ v5 = .bool (G i).isSome ∧ wr.heap[k]? = some (.cells #[.int .i64 p1, .int .i64 p2, .int .i64 p3, .int .i64 p4, .int .i64 p5, .int .i64 p6] 61 (0, 0)) ∧
    (G i).getD Nd.zero = ⟨p1, p2, p3, p4, p5, p6⟩ ∧ PathOk gh G i ∧ xs = pre ++ pathG gh G i ∧ J pre wr ∧ (∀ k, S k → wr.heap[k]? = W.heap[k]?) ∧ W.heap.size ≤ k
theorem cells_of {w : World} {k : Nat} {vs : List Value} {t : TypeId} (h : w.heap[k]? = some (.cells vs.toArray t (0, 0))) (i : Nat) (v : Value) (hv : vs[i]? = some v) : w.cell? ⟨k, i, none⟩ = some v := by
  unfold World.cell?
  simp [h, hv]

theorem cell_set {W : World} {k j : Nat} {cur : Array Value} {t : TypeId} (h : W.heap[k]? = some (.cells cur t (0, 0))) (v : Value) : (W.setCell ⟨k, j, none⟩ v).heap[k]? = some (.cells (cur.setIfInBounds j v) t (0, 0)) := by
  obtain ⟨hk, he⟩ := Array.getElem?_eq_some_iff.1 h
  simp [World.setCell, Array.getElem?_modify, h]
theorem six_set {W : World} {k : Nat} {a1 a2 a3 a4 a5 a6 : Value} {t : TypeId} (h : W.heap[k]? = some (.cells #[a1, a2, a3, a4, a5, a6] t (0, 0))) (r1 r2 r3 r4 r5 r6 : Value) :
    ((((((W.setCell ⟨k, 0, none⟩ r1).setCell ⟨k, 1, none⟩ r2).setCell ⟨k, 2, none⟩ r3).setCell ⟨k, 3, none⟩ r4).setCell ⟨k, 4, none⟩ r5).setCell ⟨k, 5, none⟩ r6).heap[k]? = some (.cells #[r1, r2, r3, r4, r5, r6] t (0, 0)) := by
  have := cell_set (j := 5) (cell_set (j := 4) (cell_set (j := 3) (cell_set (j := 2) (cell_set (j := 1) (cell_set (j := 0) h r1) r2) r3) r4) r5) r6
  simpa using this
theorem grown_set (W : World) (k j : Nat) (v : Value) : W.grownBy (W.setCell ⟨k, j, none⟩ v) (some k) :=
  ⟨rfl, rfl, rfl, by simp [World.setCell], fun i hi hne => by
    have : i ≠ k := fun e => hne (by rw [e])
    simp [World.setCell, Array.getElem?_modify, Ne.symm this]⟩
theorem grown_two {A B C : World} {k : Nat} (h : A.grownBy B (some k)) (h2 : B.grownBy C (some k)) : A.grownBy C (some k) :=
  ⟨h2.os.trans h.os, h2.tape.trans h.tape, h2.output.trans h.output, Nat.le_trans h.size h2.size, fun i hi hne => (h2.block i (Nat.lt_of_lt_of_le hi h.size) hne).trans (h.block i hi hne)⟩
theorem six_grown (W : World) (k : Nat) (r1 r2 r3 r4 r5 r6 : Value) :
    W.grownBy ((((((W.setCell ⟨k, 0, none⟩ r1).setCell ⟨k, 1, none⟩ r2).setCell ⟨k, 2, none⟩ r3).setCell ⟨k, 3, none⟩ r4).setCell ⟨k, 4, none⟩ r5).setCell ⟨k, 5, none⟩ r6) (some k) :=
  grown_two (grown_two (grown_two (grown_two (grown_two (grown_set W k 0 r1) (grown_set _ k 1 r2)) (grown_set _ k 2 r3)) (grown_set _ k 3 r4)) (grown_set _ k 4 r5)) (grown_set _ k 5 r6)

set_option maxRecDepth 100000 in
set_option maxHeartbeats 2000000 in
theorem back1_in (n : Nat) (hn : 1 ≤ n) (lo bc bi : Nat) (S : Nat → Prop) (h1 : S bc) (h2 : S bi) (f : Nat) (G : Int → Option Nd) (i : Int) (hi : (Lit.int .i64 i).wf = true) (hok : PathOk f G i) (p : Option Addr) (J : List Nd → World → Prop) (W : World) (hS : ∀ k, S k → k < W.heap.size)
    (hJ : Stays NodeVar W.heap.size J) (hc1 : W.cell? ⟨bc, 0, none⟩ = some (.pointer p)) (hc2 : W.cell? ⟨bi, 0, none⟩ = some (.int .i64 i)) (hT : Told S W p G)
    (hY : ∀ pre x W1, J pre W1 → (∃ post, pathG f G i = pre ++ x :: post) → YieldAt Fence.wide (n - 1) Try.prog lo (encN x) W1 fun e W' => e = .returned (.bool true) ∧ J (pre ++ [x]) W' ∧ KpS S W1 W') (h0 : J [] W) :
    CallsIn Fence.wide n Try.prog 35 #[.func (.yield lo) #[] #[], .pointer (some ⟨bc, 0, none⟩), .pointer (some ⟨bi, 0, none⟩)] W fun e W' => (∃ v, e = .returned v) ∧ J (pathG f G i) W' := by
  refine callsIn_of_wp Try.func35 rfl trivial ?_ rfl
  simp only [Try.ntmps35, List.size_toArray, List.length_cons, List.length_nil, Nat.reduceAdd, Nat.reduceSub, Array.replicate_succ, Array.replicate_zero, List.push_toArray, List.append_toArray, List.nil_append, List.cons_append]
  have F := hT W (fun _ _ => rfl) i hi
  obtain ⟨⟨p1, p2, p3, p4, p5, p6⟩, hq⟩ : ∃ q : Nd, (G i).getD Nd.zero = q := ⟨_, rfl⟩
  rw [hq] at F
  simp only [Nd.val] at F
  have F := Lib.hid F
  have HQ := Lib.hid hq
  clear hq
  gi_wp2_with fail
  refine ⟨trivial, ?_⟩
  refine (callsIn_wide.2 F.out).mono ?_
  rintro e w1 ⟨rfl, b1⟩
  have bt := b1.alloc b1.size (.cells #[.int .i64 p1, .int .i64 p2, .int .i64 p3, .int .i64 p4, .int .i64 p5, .int .i64 p6] 61)
  have R0 : BkRel W S G (pathG f G i) J f (.pointer (some ⟨w1.heap.size, 0, none⟩)) (.bool (G i).isSome) (w1.alloc (.cells #[.int .i64 p1, .int .i64 p2, .int .i64 p3, .int .i64 p4, .int .i64 p5, .int .i64 p6] 61)) :=
    ⟨[], i, w1.heap.size, p1, p2, p3, p4, p5, p6, rfl, rfl, World.alloc_heap_new _ _, HQ.out, hok, rfl, hJ.below h0 bt, fun k hk => bt.block k (hS k hk), b1.size⟩
  clear F b1 bt
  gi_wp2_with fail
  gi_loopw [4, 5] (fun v4 v5 wr => ∃ gh, BkRel W S G (pathG f G i) J gh v4 v5 wr) (fun v4 v5 wr => least (fun gh => BkRel W S G (pathG f G i) J gh v4 v5 wr))
  case atStart => exact ⟨f, R0⟩
  case round =>
    clear R0 HQ
    obtain ⟨gh, hgh⟩ : ∃ gh, least (fun gh => BkRel W S G (pathG f G i) J gh u4 u5 wr) = gh := ⟨_, rfl⟩
    have hrel := least_is hrel
    rw [hgh] at hrel
    obtain ⟨pre, i', k, p1, p2, p3, p4, p5, p6, rfl, rfl, hk, hq, hok', hxs, hJp, hS', hkW⟩ := hrel
    have z0 := cells_of (vs := [_, _, _, _, _, _]) hk 0 _ rfl
    have z1 := cells_of (vs := [_, _, _, _, _, _]) hk 1 _ rfl
    have z2 := cells_of (vs := [_, _, _, _, _, _]) hk 2 _ rfl
    have z3 := cells_of (vs := [_, _, _, _, _, _]) hk 3 _ rfl
    have z4 := cells_of (vs := [_, _, _, _, _, _]) hk 4 _ rfl
    have z5 := cells_of (vs := [_, _, _, _, _, _]) hk 5 _ rfl
    cases hG : G i' with
    | none =>
      rw [pathG_none hG, List.append_nil] at hxs
      have FIN := Lib.hid (And.intro hJp hxs)
      simp only [Option.isSome_none]
      clear hJp hxs hG hq hok' hgh
      gi_wp2_with fail
      go_end0
      exact ⟨⟨_, rfl⟩, by rw [FIN.out.2]; exact FIN.out.1⟩
    | some q =>
      cases gh with
      | zero => rw [PathOk, hG] at hok'; cases hok'
      | succ g =>
        rw [pathG_some hG] at hxs
        obtain ⟨hwf, hok2⟩ := hok' q hG
        rw [hG] at hq hgh
        simp only [Option.getD_some, Option.isSome_some] at hq hgh
        subst hq
        simp only [Option.isSome_some] at *
        obtain ⟨fn, tmps, assign, body, hy, hRd⟩ := hY pre ⟨p1, p2, p3, p4, p5, p6⟩ _ hJp ⟨_, hxs⟩
        simp only [encN, Nd.val] at hy
        have X := Lib.hid (And.intro hxs (And.intro hS' (And.intro hk (And.intro hgh hok2))))
        clear hxs hS' hJp hk hgh hok'
        gi_wp2_with fail
        refine hRd.mono ?_
        rintro e W3 ⟨rfl, hJ3, hk3⟩
        have hk4 := hk3.n k _ ⟨_, _, rfl⟩ X.out.2.2.1
        have hS4 := fun k hk => (hk3.s k hk).trans (X.out.2.1 k hk)
        have z0 := cells_of (vs := [_, _, _, _, _, _]) hk4 0 _ rfl
        have z1 := cells_of (vs := [_, _, _, _, _, _]) hk4 1 _ rfl
        have z2 := cells_of (vs := [_, _, _, _, _, _]) hk4 2 _ rfl
        have z3 := cells_of (vs := [_, _, _, _, _, _]) hk4 3 _ rfl
        have z4 := cells_of (vs := [_, _, _, _, _, _]) hk4 4 _ rfl
        have z5 := cells_of (vs := [_, _, _, _, _, _]) hk4 5 _ rfl
        have bb := (Below.refl W3.heap.size W3).alloc (Nat.le_refl _) (.cells #[.int .i64 p1, .int .i64 p2, .int .i64 p3, .int .i64 p4, .int .i64 p5, .int .i64 p6] 61)
        have hlt : W.heap.size ≤ W3.heap.size := by have := (Array.getElem?_eq_some_iff.1 hk4).1; omega
        have hS5 := fun k hk => (bb.block k (by have := hS k hk; omega)).trans (hS4 k hk)
        have c1 := (World.cell?_of_block (a := ⟨bc, 0, none⟩) (hS5 bc h1)).trans hc1
        have hJ5 := hJ.below hJ3 bb
        have T5 := (hT.keep hS5) _ (fun _ _ => rfl) p1 hwf
        obtain ⟨⟨r1, r2, r3, r4, r5, r6⟩, hr⟩ : ∃ q : Nd, (G p1).getD Nd.zero = q := ⟨_, rfl⟩
        rw [hr] at T5
        simp only [Nd.val] at T5
        have T5 := Lib.hid T5
        have hnew := World.alloc_heap_new W3 (.cells #[.int .i64 p1, .int .i64 p2, .int .i64 p3, .int .i64 p4, .int .i64 p5, .int .i64 p6] 61)
        have Y := Lib.hid (And.intro hJ5 (And.intro hS5 hr))
        clear hr hk4 hS4 hS5 hJ5 hJ3 hk3 bb hRd hy
        gi_wp2_with fail
        refine ⟨trivial, ?_⟩
        refine (callsIn_wide.2 T5.out).mono ?_
        rintro e W4 ⟨rfl, b4⟩
        have hk5 := (b4.block _ (by rw [World.size_alloc]; omega)).trans hnew
        have fz : ∀ j, W4.frozen? ⟨W3.heap.size, j, none⟩ = false := fun j => by
          unfold World.frozen?
          rw [hk5]
          simp
        have f0 := fz 0
        have f1 := fz 1
        have f2 := fz 2
        have f3 := fz 3
        have f4 := fz 4
        have f5 := fz 5
        have z0 := cells_of (vs := [_, _, _, _, _, _]) hk5 0 _ rfl
        have z1 := cells_of (vs := [_, _, _, _, _, _]) hk5 1 _ rfl
        have z2 := cells_of (vs := [_, _, _, _, _, _]) hk5 2 _ rfl
        have z3 := cells_of (vs := [_, _, _, _, _, _]) hk5 3 _ rfl
        have z4 := cells_of (vs := [_, _, _, _, _, _]) hk5 4 _ rfl
        have z5 := cells_of (vs := [_, _, _, _, _, _]) hk5 5 _ rfl
        have B4 := Lib.hid b4
        have K5 := Lib.hid hk5
        clear b4 hk5 hnew fz
        gi_wp2_with fail
        have hn6 := six_set K5.out (.int .i64 r1) (.int .i64 r2) (.int .i64 r3) (.int .i64 r4) (.int .i64 r5) (.int .i64 r6)
        have hg6 := six_grown W4 W3.heap.size (.int .i64 r1) (.int .i64 r2) (.int .i64 r3) (.int .i64 r4) (.int .i64 r5) (.int .i64 r6)
        have R' : BkRel W S G (pathG f G i) J g (.pointer (some ⟨W3.heap.size, 0, none⟩)) (.bool (G p1).isSome) _ := ⟨pre ++ [⟨p1, p2, p3, p4, p5, p6⟩], p1, W3.heap.size, r1, r2, r3, r4, r5, r6, rfl, rfl, hn6, Y.out.2.2, X.out.2.2.2.2, by rw [X.out.1, List.append_assoc]; rfl,
          hJ _ _ _ _ (hJ.below Y.out.1 B4.out) hg6 (fun r e => by injection e with e; subst e; exact ⟨hlt, _, K5.out, _, _, rfl⟩), fun k hk => by
            have hkk := hS k hk
            exact (hg6.block k (by have := B4.out.size; rw [World.size_alloc] at this; omega) (fun e => by injection e with e; omega)).trans ((B4.out.block k (by rw [World.size_alloc]; omega)).trans (Y.out.2.1 k hk)), hlt⟩
        go_roundw
        case rel => exact ⟨g, R'⟩
        case measure =>
          have := least_le (R := fun gh => BkRel W S G (pathG f G i) J gh _ _ _) R'
          have e2 := X.out.2.2.2.1
          show least _ < least _
          exact Nat.lt_of_le_of_lt this (by rw [e2]; omega)
theorem back1_gives (n : Nat) (hn : 1 ≤ n) (bc bi : Nat) (S : Nat → Prop) (h1 : S bc) (h2 : S bi) (f : Nat) (G : Int → Option Nd) (i : Int) (hi : (Lit.int .i64 i).wf = true) (hok : PathOk f G i) (p : Option Addr) (w : World) (hS : ∀ k, S k → k < w.heap.size)
    (hc1 : w.cell? ⟨bc, 0, none⟩ = some (.pointer p)) (hc2 : w.cell? ⟨bi, 0, none⟩ = some (.int .i64 i)) (hT : Told S w p G) :
    Gives NodeVar Fence.wide n Try.prog 35 #[.pointer (some ⟨bc, 0, none⟩), .pointer (some ⟨bi, 0, none⟩)] encN (KpS S) (pathG f G i) w := fun lo J W hW hJ hY h0 => by
  have hk : ∀ k, S k → W.heap[k]? = w.heap[k]? := fun k hk => hW.block k (hS k hk)
  exact back1_in n hn lo bc bi S h1 h2 f G i hi hok p J W (fun k hk => Nat.lt_of_lt_of_le (hS k hk) hW.size) hJ ((World.cell?_of_block (a := ⟨bc, 0, none⟩) (hk bc h1)).trans hc1) ((World.cell?_of_block (a := ⟨bi, 0, none⟩) (hk bi h2)).trans hc2) (hT.keep hk) hY h0
end Go.Proofs.Ytakjpoapjokmbaa
