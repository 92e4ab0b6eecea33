/-
  Len.
-/
import Derived.Test.YtbpcocobimdcnaaRn
namespace Go.Proofs.Ytbpcocobimdcnaa
open Go.ChangeShapes Go.WideShapes Go.ChangeAt Go.RowKit Go.Shelf
set_option linter.unusedVariables false
attribute [local go_sem] Oper.semAt_some

set_option maxRecDepth 100000 in
theorem living_mk (w : World) (p : Option Addr) (at_ : Int) : Calls Try.prog 27 #[.pointer p, .int .i64 at_] w fun e w' => e = .returned (.func (.func 38) #[] #[.pointer (some ⟨w.heap.size, 0, none⟩), .pointer (some ⟨w.heap.size + 1, 0, none⟩)]) ∧ w' = (w.alloc (.cells #[.pointer p] 24)).alloc (.cells #[.int .i64 at_] 3) := by
  go_enter Try.func27, Try.ntmps27
  go_wp2
  go_ret
  exact ⟨by simp, rfl⟩
def CntI (w : World) (pre : List EV) (W : World) : Prop := Boxed W w.heap.size 3 (.int .i64 (pre.length : Int)) ∧ Below w.heap.size w W
theorem cnt_own (w : World) : OwnFrom (w.heap.size + 3) (CntI w) := fun s A B row ⟨hb, hB⟩ hg hr =>
  ⟨hb.kept hg (fun e => by have := (hr _ e.symm).1; omega), hB.grown hg hB.size (fun r e => by have := (hr r e).1; omega)⟩
theorem cnt_bears (w : World) : BearsT 48 (w.heap.size + 3) (CntI w) := fun s A B row ⟨hb, hB⟩ hg hr =>
  ⟨hb.kept hg (fun e => by have := (hr _ e.symm).1; omega), hB.grown hg hB.size (fun r e => by have := (hr r e).1; omega)⟩
theorem living_gives (n : Nat) (hn : 1 ≤ n) {w W : World} {p : Option Addr} {l : List EV} {at_ : Int} (h : RollS w p l) (hB : Below w.heap.size w W) (hz : W.heap.size = w.heap.size + 3)
    (b1 : W.cell? ⟨w.heap.size + 1, 0, none⟩ = some (.pointer p)) (b2 : W.cell? ⟨w.heap.size + 2, 0, none⟩ = some (.int .i64 at_)) :
    GivesT 48 n Try.prog 38 #[.pointer (some ⟨w.heap.size + 1, 0, none⟩), .pointer (some ⟨w.heap.size + 2, 0, none⟩)] encE (KL w.heap.size (w.heap.size + 1) (w.heap.size + 2)) (l.filter (livesAt at_)) W := fun lo J V hV hJ hY h0 => by
  obtain ⟨v, hv, hr⟩ := rowV_of h.at_
  obtain ⟨a, c, rfl, _⟩ := own_slice hr.own
  have hwV : Below w.heap.size w V := hB.trans (hV.mono (by omega))
  have kp : ∀ k, k < w.heap.size → V.heap[k]? = w.heap[k]? := fun k hk => hwV.block k hk
  have := hV.size
  have lt : ∀ g, (Value.slice a l.length c).ownBlock = some g → g < w.heap.size := fun g hg => (hr.own.lt g hg).2
  exact living_in n hn lo w.heap.size _ _ (by omega) (by omega) (by omega) (hv.keep hv.lt kp) hv.lt ⟨own_keep hr.own fun k hk => kp k (lt k hk), hr.lt⟩ lt
    ((World.cell?_of_block (w := W) (hV.block _ (by show w.heap.size + 1 < _; omega))).trans b1) ((World.cell?_of_block (w := W) (hV.block _ (by show w.heap.size + 2 < _; omega))).trans b2)
    (fun e he => plain_slice (h.tabs e he)) J hJ (fun pre x W1 q1 q2 _ => hY pre x W1 q1 q2) h0
set_option maxRecDepth 100000 in
set_option maxHeartbeats 2000000 in
theorem len_in (n : Nat) (hn : 6 ≤ n) {w : World} {p : Option Addr} {l : List EV} (h : RollS w p l) (at_ : Int) :
    CallsIn Fence.wide n Try.prog 16 #[.pointer p, .int .i64 at_] w fun e W' => e = .returned (.int .i64 ((l.filter (livesAt at_)).length : Int)) ∧ Below w.heap.size w W' := by
  have h1 : 1 ≤ n := by omega
  have bO := Boxed.new w 3 (.int .i64 0)
  have hB0 : Below w.heap.size w (w.alloc (.cells #[.int .i64 0] 3)) := (Below.refl _ w).alloc (Nat.le_refl _) _
  have MK := Lib.hid (living_mk (w.alloc (.cells #[.int .i64 0] 3)) p at_)
  obtain ⟨W, hW⟩ : ∃ W, W = ((w.alloc (.cells #[.int .i64 0] 3)).alloc (.cells #[.pointer p] 24)).alloc (.cells #[.int .i64 at_] 3) := ⟨_, rfl⟩
  have hB : Below w.heap.size w W := by
    rw [hW]
    exact (hB0.alloc (by simp) _).alloc (by simp; omega) _
  have hz : W.heap.size = w.heap.size + 3 := by rw [hW]; simp
  have bW : Boxed W w.heap.size 3 (.int .i64 0) := by
    rw [hW]
    exact (bO.alloc _).alloc _
  have q1 : W.cell? ⟨w.heap.size + 1, 0, none⟩ = some (.pointer p) := by
    rw [hW]
    have := Boxed.alloc (Boxed.new (w.alloc (.cells #[.int .i64 0] 3)) 24 (.pointer p)) (.cells #[.int .i64 at_] 3)
    rw [World.size_alloc] at this
    exact this.cell
  have q2 : W.cell? ⟨w.heap.size + 2, 0, none⟩ = some (.int .i64 at_) := by
    rw [hW]
    have := Boxed.new ((w.alloc (.cells #[.int .i64 0] 3)).alloc (.cells #[.pointer p] 24)) 3 (.int .i64 at_)
    rw [World.size_alloc, World.size_alloc] at this
    exact this.cell
  have GV := Lib.hid (living_gives (n - 1) (by omega) h hB hz q1 q2)
  have hol : (l.filter (livesAt at_)).length ≤ 1000 := Nat.le_trans (List.length_filter_le _ _) h.at_.lt
  generalize l.filter (livesAt at_) = out at *
  have II := Lib.hid (show CntI w [] W from ⟨bW, hB⟩)
  clear h bO hB0 hB q1 q2 bW
  refine callsIn_of_wp_marks Try.func16 rfl trivial ?_ rfl
  simp only [Try.ntmps16, List.size_toArray, List.length_cons, List.length_nil, Nat.reduceAdd, Nat.reduceSub, Array.replicate_succ, Array.replicate_zero, List.push_toArray, List.append_toArray, List.nil_append, List.cons_append]
  gi_wp2_with fail
  refine ⟨trivial, ?_⟩
  refine (callsIn_wide.2 MK.out).mono ?_
  rintro e w1 ⟨rfl, e1⟩
  rw [← hW] at e1
  subst e1
  clear MK hW
  simp only [World.size_alloc]
  gi_wp2_with fail
  refine range_t h1 (gf := 38) (lb := #[.pointer (some ⟨w.heap.size + 1, 0, none⟩), .pointer (some ⟨w.heap.size + 2, 0, none⟩)]) rfl (enters_of Try.func38 (by kernel_rfl) rfl) GV.out (Below.refl _ _) (fun _ => rfl) kl_t (kl_b (by omega) (by omega) (by omega)) (CntI w) (by rw [hz]; exact cnt_own w) (by rw [hz]; exact cnt_bears w) II.out
    (fun x => { tmps := #[.pointer p, .int .i64 at_, undef, undef, .int .i64 0, .pointer (some ⟨w.heap.size, 0, none⟩), .pointer p, .int .i64 at_, .func (.func 38) #[] #[.pointer (some ⟨w.heap.size + 1, 0, none⟩), .pointer (some ⟨w.heap.size + 2, 0, none⟩)], .agg #[.int .i64 x.id, .int .i64 x.till, x.cs, .int .i64 x.win, .bool false], undef, undef, undef], defers := [] }) ?assign ?body ?done
  case assign =>
    intro lo x W K hK
    unfold encE
    gi_wp2
    simpa using hK
  case body =>
    rintro lo pre x V ⟨hv, hB⟩ hlt
    have c1 := hv.cell
    have f1 := hv.frozen
    have hw1 : IntKind.i64.wrap ((pre.length : Int) + 1) = (pre.length : Int) + 1 := IntWalk.i64_in _ (by omega)
    have hw2 : IntKind.i64.wrap ((pre.length : Int)) = (pre.length : Int) := IntWalk.i64_in _ (by omega)
    have hZ : V.heap.size = V.heap.size := rfl
    gi_wp2
    refine ⟨KeepsFrom.of_grownBy (grownBy_setCell' V w.heap.size _) (fun j e => by cases e; omega), ⟨(grownBy_setCell' V w.heap.size _).size, fun k hk => Below.heap_setCell _ _ _ k (by show k ≠ w.heap.size; omega)⟩, ?_, hB.setCell (Nat.le_refl _) _⟩
    rw [List.length_append]
    exact hv.set _
  case done =>
    rintro D V hD ⟨hv, hB⟩ hK
    have c1 := hv.cell
    gi_wp2
    refine ⟨by simp, .inl ⟨_, _, rfl, run_takeDeferred hK, ?_⟩⟩
    exact ⟨_, results_tmp rfl _ _ _, rfl, hB.trans (belowK_b (w := w) (Nat.le_refl _) V D _ _ (by omega) hK rfl rfl)⟩
theorem len_any {w : World} {p : Option Addr} {l : List EV} (h : RollS w p l) (at_ : Int) :
    Calls Try.prog 16 #[.pointer p, .int .i64 at_] w fun e W' => e = .returned (.int .i64 ((l.filter (livesAt at_)).length : Int)) ∧ Below w.heap.size w W' :=
  callsIn_wide.1 (len_in 6 (Nat.le_refl _) h at_)
end Go.Proofs.Ytbpcocobimdcnaa
