/-
  The places of a ring one by one: the iterator behind All, for whatever body that keeps what lay below n₀.
-/
import Derived.RangeFuncNested
import Derived.RangeFuncBound
import Derived.RangeFuncCalls
import Derived.RangeFuncLeaves
import Derived.RangeFuncBox
import Derived.Shelf.Abstract
import Derived.Shelf.RegionOpen
import Derived.WalkKit
import Derived.OwnWalkIn
import Derived.TacticsInMore
import Derived.LoopNIn
import Derived.LoopIn
import Derived.Sort.QuietIn
import Derived.Maps.OwnIn
import Derived.Test.YtjfbjkgppnhaoaaItems
import Derived.Outline
namespace Go.Proofs.Ytjfbjkgppnhaoaa
open Go.ChangeShapes Go.WideShapes Go.ChangeAt Go.RowKit Go.Shelf
set_option linter.unusedVariables false
attribute [local go_sem] Oper.semAt_some

/-- The blocks of S are as they were. -/
def KeepS (S : Nat → Prop) (W W' : World) : Prop := ∀ k, S k → W'.heap[k]? = W.heap[k]?
theorem keepS_t {S : Nat → Prop} {A B C : World} (h : KeepS S A B) (k : KeepS S B C) : KeepS S A C := fun i hi => (k i hi).trans (h i hi)
theorem keepS_b {S : Nat → Prop} {w : World} (hS : ∀ k, S k → k < w.heap.size) (W : World) (l : Nat) (o o' : Obj) (hl : w.heap.size ≤ l) (h : W.heap[l]? = some o) (_ : o.isCells = false) (_ : o.isWalk = false) : KeepS S W (W.putObj l o') := fun k hk => by
  have hg := grownBy_putObj' W l o'
  have h1 := hS k hk
  have h2 := (Array.getElem?_eq_some_iff.1 h).1
  exact hg.block k (by omega) (fun e => by injection e with e; omega)
theorem keepS_drewN {S : Nat → Prop} {w w' : World} (h : KeepS S w w') (d : Nat) : KeepS S w (w'.drewN d) := h
theorem keepS_refl (S : Nat → Prop) (w : World) : KeepS S w w := fun _ _ => rfl
theorem keepS_cell {S : Nat → Prop} {w w' : World} (h : KeepS S w w') {k i : Nat} {v : Value} (hk : S k) (hc : w.cell? ⟨k, i, none⟩ = some v) : w'.cell? ⟨k, i, none⟩ = some v := (World.cell?_of_block (w := w) (h k hk)).trans hc
theorem abides_drew {β : Type} {B : Nat} {J : β → World → Prop} (h : AbidesFrom B J) {s : β} {W : World} (d : Nat) (hs : J s W) : J s (W.drewN d) :=
  h s W _ none hs ⟨rfl, rfl, rfl, Nat.le_refl _, fun _ _ _ => rfl⟩ (fun _ e => by cases e)

def ERel (W : World) (S : Nat → Prop) (N L : Nat) (x : Nat → Int) (t : Nat → Bool) (J : List (Int × Int) → World → Prop) (v : Value) (wr : World) : Prop :=
  ∃ k : Nat, v = .int .i64 (k : Int) ∧ k ≤ N ∧ J (its N L x t k) wr ∧ KeepS S W wr

set_option maxRecDepth 100000 in
set_option maxHeartbeats 2000000 in
theorem each1_in (n : Nat) (hn : 1 ≤ n) (l bx r pb N L : Nat) (S : Nat → Prop) (hbx : S bx) (hr : S r) (hp : S pb) (hL : L ≤ 1000) (hN : 1 ≤ N ∧ N ≤ 9) (there : Int) (x : Nat → Int) (t : Nat → Bool) (J Jx : List (Int × Int) → World → Prop) (B : Nat) (hJ : AbidesFrom B J)
    (hY : ∀ pre e W, J pre W → pre.length < N → YieldAt Fence.wide (n - 1) Try.prog l #[.int .i64 e.1, .int .i64 e.2] W fun en W' =>
      (en = .returned (.bool true) ∧ J (pre ++ [e]) W' ∧ KeepS S W W') ∨ (en = .returned (.bool false) ∧ Jx (pre ++ [e]) W'))
    (W : World) (hB : W.cell? ⟨bx, 0, none⟩ = some (.pointer (some ⟨r, 0, none⟩))) (hR : Ringy W r pb N (L : Int) there x t) (h0 : J [] W) :
    CallsIn Fence.wide n Try.prog 93 #[.func (.yield l) #[] #[], .pointer (some ⟨bx, 0, none⟩)] W fun e W' => (∃ v, e = .returned v) ∧
      ((∃ ys, ys = its N L x t N ∧ J ys W') ∨ (∃ pre, Jx pre W')) := by
  refine callsIn_of_wp Try.func93 rfl trivial ?_ rfl
  simp only [Try.ntmps93, List.size_toArray, List.length_cons, List.length_nil, Nat.reduceAdd, Nat.reduceSub, Array.replicate_succ, Array.replicate_zero, List.push_toArray, List.append_toArray, List.nil_append, List.cons_append]
  have c0 := hR.c0
  have N9 : N ≤ 9 := hN.2
  gi_wp2
  gi_loopw [13] (fun v wr => ERel W S N L x t J v wr) (fun v _ => N - (intOf v).toNat)
  case atStart => exact ⟨0, rfl, Nat.zero_le _, h0, keepS_refl _ _⟩
  case round =>
    obtain ⟨k, rfl, hk, hJs, hnx⟩ := hrel
    by_cases hkN : k < N
    · have hR' := hR.keep (hnx r hr) (hnx pb hp)
      have e1 : ((L + k : Nat) : Int) = (L : Int) + (k : Int) := by omega
      have A := at_of (n := N) (L := L) (a := L + k) (by omega) (by omega) (by omega)
      rw [e1] at A
      have l1 := (its_len (n := N) (L := L) (x := x) (t := t) (k := k))
      have NQ := Lib.hid (fun d => ((hR'.drewN d).get A).mono (fun e w' ⟨he, m, hm⟩ => show e = Ending.returned (.tuple #[.int .i64 (x ((L + k) % N)), .bool (t ((L + k) % N))]) ∧ ∃ m, w' = wr.drewN m from ⟨he, _, by rw [hm, World.drewN_drewN]⟩))
      have cb := keepS_cell hnx hbx hB
      have cr1 := hR'.c1
      have hs : IntKind.i64.wrap ((L : Int) + (k : Int)) = (L : Int) + (k : Int) := IntWalk.i64_in _ (by omega)
      have hs0 : (0 : Int) ≤ (L : Int) + (k : Int) := by omega
      cases ht : t ((L + k) % N) with
      | false =>
        have hm := its_miss (n := N) (x := x) ht
        have X := Lib.hid (And.intro hJs (And.intro hnx hm))
        rw [ht] at NQ
        clear hR' A hm hJs hnx ht
        gi_wp2
        refine wpIn_region_quiet_lit rfl (by kernel_rfl) (by kernel_rfl) ?_
        repeat (first | gi_big_quiet_skip | (gi_big_quiet_want; gi_big_quiet_op; go_big_quiet_on) | (refine BigFrame.wpQuietIn_want (fun _ _ _ _ => trivial) rfl ?_; intro K hK; gi_big_quiet_op; gi_big_quiet_call ((gi_at_call 31; exact callsIn_wide.2 (NQ.out _)))))
        refine wpQuietIn_nil ?_
        intro _ hw'
        obtain ⟨nq, hw''⟩ := hw'
        subst hw''
        gi_wp2
        refine ⟨fun _ h => (by cases h), ?_⟩
        gi_wp2
        go_roundw
        case rel => exact ⟨k + 1, by go_num, by omega, by rw [X.out.2.2]; exact abides_drew hJ _ X.out.1, keepS_drewN X.out.2.1 _⟩
        case measure => simp [intOf]; omega
      | true =>
        have hm := its_hit (n := N) (x := x) ht
        rw [e1] at hm
        have X := Lib.hid (And.intro hJs (And.intro hnx hm))
        rw [ht] at NQ
        clear hR' A hm hJs hnx ht
        gi_wp2
        refine wpIn_region_quiet_lit rfl (by kernel_rfl) (by kernel_rfl) ?_
        repeat (first | gi_big_quiet_skip | (gi_big_quiet_want; gi_big_quiet_op; go_big_quiet_on) | (refine BigFrame.wpQuietIn_want (fun _ _ _ _ => trivial) rfl ?_; intro K hK; gi_big_quiet_op; gi_big_quiet_call ((gi_at_call 31; exact callsIn_wide.2 (NQ.out _)))))
        refine wpQuietIn_nil ?_
        intro _ hw'
        obtain ⟨nq, hw''⟩ := hw'
        subst hw''
        obtain ⟨fn, tmps, assign, body, hy, hRd⟩ := hY _ ((L : Int) + (k : Int), x ((L + k) % N)) _ (abides_drew hJ nq X.out.1) (by omega)
        dsimp only at hy
        gi_wp2
        refine hRd.mono ?_
        rintro e W3 (⟨rfl, hJ3, hk3⟩ | ⟨rfl, hJx3⟩)
        · gi_wp2
          go_roundw
          case rel => exact ⟨k + 1, by go_num, by omega, by rw [X.out.2.2]; exact hJ3, keepS_t (keepS_drewN X.out.2.1 _) hk3⟩
          case measure => simp [intOf]; omega
        · gi_wp2
          refine bodyPost_ret (results_none rfl _ _ _) rfl ?_
          exact ⟨⟨_, rfl⟩, .inr ⟨_, hJx3⟩⟩
    · obtain rfl : k = N := by omega
      gi_wp2
      go_end0
      exact ⟨⟨_, rfl⟩, .inl ⟨_, rfl, hJs⟩⟩

set_option maxHeartbeats 1000000 in
theorem each1_nil_in (n : Nat) (l bx : Nat) (J : List (Int × Int) → World → Prop) (W : World) (hB : W.cell? ⟨bx, 0, none⟩ = some (.pointer none)) (h0 : J [] W) :
    CallsIn Fence.wide n Try.prog 93 #[.func (.yield l) #[] #[], .pointer (some ⟨bx, 0, none⟩)] W fun e W' => (∃ v, e = .returned v) ∧ J [] W' := by
  refine callsIn_of_wp Try.func93 rfl trivial ?_ rfl
  simp only [Try.ntmps93, List.size_toArray, List.length_cons, List.length_nil, Nat.reduceAdd, Nat.reduceSub, Array.replicate_succ, Array.replicate_zero, List.push_toArray, List.append_toArray, List.nil_append, List.cons_append]
  gi_wp2
  refine bodyPost_ret (results_none rfl _ _ _) rfl ?_
  exact ⟨⟨_, rfl⟩, h0⟩

/-- A ring, or none, and what lies in it; its blocks are of S. -/
def RingOf (S : Nat → Prop) (w : World) (p : Option Addr) (l : List (Int × Int)) : Prop :=
  (p = none ∧ l = []) ∨ ∃ r pb N L there x t, p = some ⟨r, 0, none⟩ ∧ S r ∧ S pb ∧ L ≤ 1000 ∧ 1 ≤ N ∧ N ≤ 9 ∧ Ringy w r pb N ((L : Nat) : Int) there x t ∧ l = its N L x t N
theorem RingOf.keep {S : Nat → Prop} {w w' : World} {p : Option Addr} {l : List (Int × Int)} (h : RingOf S w p l) (hk : KeepS S w w') : RingOf S w' p l := by
  rcases h with h | ⟨r, pb, N, L, there, x, t, h1, h2, h3, h4, h5, h6, h7, h8⟩
  · exact .inl h
  · exact .inr ⟨r, pb, N, L, there, x, t, h1, h2, h3, h4, h5, h6, h7.keep (hk r h2) (hk pb h3), h8⟩
theorem RingOf.len {S : Nat → Prop} {w : World} {p : Option Addr} {l : List (Int × Int)} (h : RingOf S w p l) : l.length ≤ 9 := by
  rcases h with ⟨_, rfl⟩ | ⟨r, pb, N, L, there, x, t, h1, h2, h3, h4, h5, h6, h7, rfl⟩
  · exact Nat.zero_le _
  · exact Nat.le_trans its_len h6
def encs (e : Int × Int) : Array Value := #[.int .i64 e.1, .int .i64 e.2]

theorem each_stops (n : Nat) (hn : 1 ≤ n) (bx : Nat) (S : Nat → Prop) (hbx : S bx) (p : Option Addr) (l : List (Int × Int)) (w : World) (hS : ∀ k, S k → k < w.heap.size) (hB : w.cell? ⟨bx, 0, none⟩ = some (.pointer p)) (hR : RingOf S w p l) :
    SeqStopsK Fence.wide n Try.prog 93 #[.pointer (some ⟨bx, 0, none⟩)] encs (KeepS S) (fun ys => ys = l) (fun _ => True) 9 w := fun lo J Jx W hW hJ _ hY h0 => by
  have hk : KeepS S w W := fun k hk => hW.block k (hS k hk)
  have hB' := keepS_cell hk hbx hB
  rcases hR.keep hk with ⟨rfl, rfl⟩ | ⟨r, pb, N, L, there, x, t, rfl, h2, h3, h4, h5, h6, h7, rfl⟩
  · exact (each1_nil_in n lo bx J W hB' h0).mono fun e W' ⟨he, hj⟩ => ⟨he, .inl ⟨_, rfl, hj⟩⟩
  · refine (each1_in n hn lo bx r pb N L S hbx h2 h3 h4 ⟨h5, h6⟩ there x t J Jx _ hJ (fun pre e W1 hj hl => hY pre e W1 hj (by omega)) W hB' h7 h0).mono ?_
    rintro e W' ⟨he, ⟨ys, rfl, hj⟩ | ⟨pre, hj⟩⟩
    · exact ⟨he, .inl ⟨_, rfl, hj⟩⟩
    · exact ⟨he, .inr ⟨_, trivial, hj⟩⟩

set_option maxHeartbeats 1000000 in
theorem each_in (n : Nat) (p : Option Addr) (w : World) :
    CallsIn Fence.wide n Try.prog 88 #[.pointer p] w fun e w' => e = .returned (.func (.func 93) #[] #[.pointer (some ⟨w.heap.size, 0, none⟩)]) ∧ w' = w.alloc (.cells #[.pointer p] 59) := by
  refine callsIn_of_wp Try.func88 rfl trivial ?_ rfl
  simp only [Try.ntmps88, List.size_toArray, List.length_cons, List.length_nil, Nat.reduceAdd, Nat.reduceSub, Array.replicate_succ, Array.replicate_zero, List.push_toArray, List.append_toArray, List.nil_append, List.cons_append]
  gi_wp2
  go_ret
  exact ⟨rfl, rfl⟩
end Go.Proofs.Ytjfbjkgppnhaoaa
