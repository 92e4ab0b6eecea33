/-
  A chain in memory: what Push does.
-/
import Derived.Test.YtakjpoapjokmbaaKeep
namespace Go.Proofs.Ytakjpoapjokmbaa
open Go.ChangeShapes Go.WideShapes Go.ChangeAt Go.RowKit
set_option linter.unusedVariables false

/-- All blocks but two are as they were. -/
structure Bt (c mb : Nat) (w w' : World) : Prop where
  os : w'.os = w.os
  tape : w'.tape = w.tape
  output : w'.output = w.output
  size : w.heap.size ≤ w'.heap.size
  block : ∀ k, k < w.heap.size → k ≠ c → k ≠ mb → w'.heap[k]? = w.heap[k]?
theorem Bt.of_below {c mb : Nat} {w w' : World} (h : Below w.heap.size w w') : Bt c mb w w' := ⟨h.os, h.tape, h.output, h.size, fun k hk _ _ => h.block k hk⟩
theorem Bt.of_but {c mb : Nat} {w w' : World} (h : But mb w w') : Bt c mb w w' := ⟨h.os, h.tape, h.output, h.size, fun k hk _ hn => h.block k hk hn⟩
theorem Bt.trans {c mb : Nat} {u v w : World} (h : Bt c mb u v) (k : Bt c mb v w) : Bt c mb u w :=
  ⟨k.os.trans h.os, k.tape.trans h.tape, k.output.trans h.output, Nat.le_trans h.size k.size, fun i hi h1 h2 => (k.block i (Nat.lt_of_lt_of_le hi h.size) h1 h2).trans (h.block i hi h1 h2)⟩
theorem Bt.setCell {c mb : Nat} {u w : World} (h : Bt c mb u w) (i : Nat) (x : Value) : Bt c mb u (w.setCell ⟨c, i, none⟩ x) :=
  h.trans ⟨rfl, rfl, rfl, by simp [World.setCell], fun k hk h1 h2 => Below.heap_setCell _ _ _ _ h1⟩
theorem Bt.below {c mb B : Nat} {w w' : World} (h : Bt c mb w w') (h1 : B ≤ c) (h2 : B ≤ mb) (h3 : B ≤ w.heap.size) : Below B w w' := ⟨h.os, h.tape, h.output, h.size, fun k hk => h.block k (by omega) (by omega) (by omega)⟩
theorem map_some (mb : Nat) (W : World) : (binOp BinOp.eql 56 (.map (some mb)) (.map none)).run Try.prog W = .ok (.bool false) W := by kernel_rfl
section
variable {w w' : World} {c mb n m : Nat} {nx : Int} {G : Int → Option Nd}
theorem Chn.next (h : Chn w c mb n m nx G) (y : Int) : Chn (w.setCell ⟨c, 0, none⟩ (.int .i64 y)) c mb n m y G :=
  ⟨World.cell?_setCell_same _ _ _ h.c0, (World.cell?_setCell_other _ _ _ _ (fun e => by injection e with _ e; cases e)).trans h.c1, by rw [World.frozen?_setCell]; exact h.f0, h.ms.block (Below.heap_setCell _ _ _ _ (Ne.symm h.ne)), h.ne⟩
set_option maxRecDepth 100000 in
theorem fits_none (cell : Int) (p : Option Addr) (w : World) : Calls Try.prog 30 #[.pointer p, .int .i64 (-1), .int .i64 cell] w fun e w' => e = .returned (.bool (cell == 0)) ∧ w = w' := by
  go_enter Try.func30, Try.ntmps30
  go_wp2_with fail
  go_ret
  exact ⟨rfl, rfl⟩
set_option maxRecDepth 100000 in
theorem fits_on (h : Chn w c mb n m nx G) {i : Int} (hi : (Lit.int .i64 i).wf = true) (h0 : 0 ≤ i) {q : Nd} (hG : G i = some q) {cell : Int} (h6 : cell < 6) (hq : cell = q.cell ∨ cell = q.cell + 1) (hc : 0 ≤ q.cell ∧ q.cell ≤ 5) :
    Calls Try.prog 30 #[.pointer (some ⟨c, 0, none⟩), .int .i64 i, .int .i64 cell] w fun e w' => e = .returned (.bool true) ∧ Below w.heap.size w w' := by
  have F := find_at h hi
  rw [hG] at F
  obtain ⟨p1, p2, p3, p4, p5, p6⟩ := q
  simp only [Nd.val, Option.getD_some, Option.isSome_some] at F
  simp only at hq hc
  have F := Lib.hid F
  have t1 : (i == -1) = false := by simp; omega
  have t2 : decide (cell < 6) = true := by simpa using h6
  have ew : wrap64 (p2 + 1) = p2 + 1 := by unfold wrap64; omega
  have ew2 : IntKind.i64.wrap (p2 + 1) = p2 + 1 := IntWalk.i64_in _ (by omega)
  clear h hG
  go_enter Try.func30, Try.ntmps30
  go_wp2_with fail
  refine F.out.mono ?_
  rintro e w1 ⟨rfl, b1⟩
  rcases hq with rfl | rfl
  · have t3 : (cell == cell) = true := by simp
    go_wp2_with fail
    go_ret
    exact ⟨rfl, b1.alloc b1.size _⟩
  · have t3 : (p2 + 1 == p2) = false := by simp; omega
    have t4 : (p2 + 1 == p2 + 1) = true := by simp
    go_wp2_with fail
    go_ret
    exact ⟨rfl, b1.alloc b1.size _⟩
set_option maxRecDepth 100000 in
set_option maxHeartbeats 1000000 in
/-- A push, given what fits and Keep answer. -/
theorem push_of {i cell num s g : Int} {n1 : Nat} {G1 : Int → Option Nd} (h : Chn w c mb n m nx G) (hn1 : n1 ≤ 1000) (hx : 0 ≤ nx ∧ nx ≤ 1000) (hG1 : G1 nx = none)
    (HF : ∀ W, Below w.heap.size w W → Calls Try.prog 30 #[.pointer (some ⟨c, 0, none⟩), .int .i64 i, .int .i64 cell] W fun e w' => e = .returned (.bool true) ∧ Below W.heap.size W w')
    (HK : ∀ W, Below w.heap.size w W → Calls Try.prog 22 #[.pointer (some ⟨c, 0, none⟩), .int .i64 i] W fun e w' => (∃ b, e = .returned (.bool b)) ∧ Chn w' c mb n1 m nx G1 ∧ But mb W w') :
    Calls Try.prog 18 #[.pointer (some ⟨c, 0, none⟩), .int .i64 i, .int .i64 cell, .int .i64 num, .agg #[.int .i64 s, .int .i64 g]] w fun e w' => e = .returned (.tuple #[.int .i64 nx, .bool true]) ∧ Chn w' c mb (n1 + 1) (m + 1) (nx + 1) (updG G1 nx (some ⟨i, cell, num, s, g, 1⟩)) ∧ Bt c mb w w' := by
  have b0 : Below w.heap.size w (w.alloc (.cells #[.int .i64 s, .int .i64 g] 39)) := (Below.refl _ w).alloc (Nat.le_refl _) _
  have q0 := World.cell?_alloc_new w #[.int .i64 s, .int .i64 g] 39 0
  have q1 := World.cell?_alloc_new w #[.int .i64 s, .int .i64 g] 39 1
  simp only [List.getElem?_toArray, List.getElem?_cons_zero, List.getElem?_cons_succ] at q0 q1
  have c1 := (h.alloc (.cells #[.int .i64 s, .int .i64 g] 39)).c1
  have lt := h.lt
  have B0 := Lib.hid b0
  have F := Lib.hid (HF _ b0)
  have K := Lib.hid HK
  have ew : wrap64 (nx + 1) = nx + 1 := by unfold wrap64; omega
  have z0 : w.heap.size < (w.alloc (.cells #[.int .i64 s, .int .i64 g] 39)).heap.size := by rw [World.size_alloc]; omega
  have em := map_some mb
  clear h HF HK b0
  go_enter Try.func18, Try.ntmps18
  go_wp2_with fail
  generalize hW0 : w.alloc (.cells #[.int .i64 s, .int .i64 g] 39) = W0 at *
  have hs : w.heap.size ≤ W0.heap.size := B0.out.size
  clear hW0
  generalize htb : w.heap.size = tb at q0 q1 z0 ⊢
  have TB := Lib.hid htb
  clear htb
  refine F.out.mono ?_
  rintro e W1 ⟨rfl, b1⟩
  have q0 := (b1.cell (p := ⟨tb, 0, none⟩) z0).trans q0
  have q1 := (b1.cell (p := ⟨tb, 1, none⟩) z0).trans q1
  have z1 := Nat.lt_of_lt_of_le z0 b1.size
  have B1 := Lib.hid (B0.out.trans (b1.mono hs))
  have K1 := Lib.hid (K.out W1 B1.out)
  clear F b1 c1 z0 hs
  go_wp2_with fail
  refine K1.out.mono ?_
  rintro e W2 ⟨⟨b, rfl⟩, hc, hbt⟩
  have tbm : tb ≠ mb := by have := lt.2; have := TB.out; omega
  have eb := hbt.block tb z1 tbm
  have q0 := (World.cell?_of_block (w := W1) (a := ⟨tb, 0, none⟩) eb).trans q0
  have q1 := (World.cell?_of_block (w := W1) (a := ⟨tb, 1, none⟩) eb).trans q1
  have c0 := hc.c0
  have c1 := hc.c1
  have HC := Lib.hid (And.intro hc (show Bt c mb w W2 from (Bt.of_below B1.out).trans (Bt.of_but hbt)))
  clear hc hbt eb K1 K z1
  go_wp2_with fail
  refine wp_tail_anyC 10 (by kernel_rfl) (by kernel_rfl) ?_
  intro W hW
  have ec : ∀ a, W.cell? a = W2.cell? a := fun a => by rw [hW]; rfl
  have hb2 : Below W2.heap.size W2 W := by rw [hW]; exact (Below.refl _ _).drew
  have h3 := HC.out.1.below hb2
  have q0 := (ec ⟨tb, 0, none⟩).trans q0
  have q1 := (ec ⟨tb, 1, none⟩).trans q1
  have c0 := (ec ⟨c, 0, none⟩).trans c0
  have c1 := (ec ⟨c, 1, none⟩).trans c1
  have hwf : (Lit.int .i64 nx).wf = true := by simp only [Lit.wf, Bool.and_eq_true, decide_eq_true_eq]; show (-9223372036854775808 : Int) ≤ nx ∧ nx ≤ 9223372036854775807; omega
  obtain ⟨W', hrun, hm, hg⟩ := h3.ms.store Try.underlying3 Try.underlying56 (by unfold maxLen; omega) hwf ⟨i, cell, num, s, g, 1⟩
  rw [hG1] at hm
  simp only [Nd.val] at hrun
  have C4 := h3.turn (But.of_grown hg) hm
  have c0' := C4.c0
  have f0' := C4.f0
  have FIN := Lib.hid (show Chn (W'.setCell ⟨c, 0, none⟩ (.int .i64 (nx + 1))) c mb (n1 + 1) (m + 1) (nx + 1) (updG G1 nx (some ⟨i, cell, num, s, g, 1⟩)) ∧ Bt c mb w (W'.setCell ⟨c, 0, none⟩ (.int .i64 (nx + 1))) from ⟨C4.next (nx + 1), ((HC.out.2.trans (Bt.of_below hb2)).trans (Bt.of_but (But.of_grown hg))).setCell 0 _⟩)
  clear ec hW hb2 h3 hm hg HC C4 B1 B0
  simp only [List.take_succ_cons, List.take_zero, List.drop_succ_cons, List.drop_zero]
  repeat still_step
  refine wpStill_nil ?_
  go_wp2_with fail
  go_ret2
  exact ⟨rfl, FIN.out⟩
end
end Go.Proofs.Ytakjpoapjokmbaa
