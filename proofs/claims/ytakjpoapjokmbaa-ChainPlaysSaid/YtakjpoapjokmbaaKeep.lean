/-
  A chain in memory: what Keep does.
-/
import Derived.Test.YtakjpoapjokmbaaChn
namespace Go.Proofs.Ytakjpoapjokmbaa
open Go.ChangeShapes Go.WideShapes Go.ChangeAt Go.RowKit
set_option linter.unusedVariables false

theorem wp_tail_anyC {P : Program} {id : Nat} {Q : Exit → Act → World → Prop} {a : Act} {w : World} {l : List Oper} (n : Nat) (hm : P.follows .mixedOrders = true) (hB : Region.lexTailB .any l.toArray n = true)
    (h : ∀ W, W = w.drew → wpStill P l.toArray W (fun a' => wpList P l.toArray Q (l.drop n) a' W) (l.take n) a) : (Code.region id l.toArray true).wp P Q a w :=
  wp_region_still_tail n hm hB (h _ rfl)
/-- All blocks but one are as they were. -/
structure But (b : Nat) (w w' : World) : Prop where
  os : w'.os = w.os
  tape : w'.tape = w.tape
  output : w'.output = w.output
  size : w.heap.size ≤ w'.heap.size
  block : ∀ k, k < w.heap.size → k ≠ b → w'.heap[k]? = w.heap[k]?
theorem But.of_below {b : Nat} {w w' : World} (h : Below w.heap.size w w') : But b w w' := ⟨h.os, h.tape, h.output, h.size, fun k hk _ => h.block k hk⟩
theorem But.trans {b : Nat} {u v w : World} (h : But b u v) (k : But b v w) : But b u w :=
  ⟨k.os.trans h.os, k.tape.trans h.tape, k.output.trans h.output, Nat.le_trans h.size k.size, fun i hi hn => (k.block i (Nat.lt_of_lt_of_le hi h.size) hn).trans (h.block i hi hn)⟩
theorem But.of_grown {b : Nat} {w w' : World} (h : w.grownBy w' (some b)) : But b w w' := ⟨h.os, h.tape, h.output, h.size, fun k hk hn => h.block k hk (fun e => hn (by injection e))⟩
theorem But.below {b B : Nat} {w w' : World} (h : But b w w') (h1 : B ≤ b) (h2 : B ≤ w.heap.size) : Below B w w' := ⟨h.os, h.tape, h.output, h.size, fun k hk => h.block k (by omega) (by omega)⟩
section
variable {w w' : World} {c mb n m : Nat} {nx : Int} {G : Int → Option Nd}
/-- The map has turned, nothing else. -/
theorem Chn.turn {n' m' : Nat} {G' : Int → Option Nd} (h : Chn w c mb n m nx G) (hb : But mb w w') (hm : Nds Try.prog 3 w' mb n' m' G') : Chn w' c mb n' m' nx G' := by
  have e := hb.block c h.lt.1 h.ne
  exact ⟨(World.cell?_of_block (w := w) (a := ⟨c, 0, none⟩) e).trans h.c0, (World.cell?_of_block (w := w) (a := ⟨c, 1, none⟩) e).trans h.c1, (World.frozen?_of_block (w := w) (a := ⟨c, 0, none⟩) e).trans h.f0, hm, h.ne⟩
set_option maxRecDepth 100000 in
theorem keep_no (h : Chn w c mb n m nx G) {i : Int} (hi : (Lit.int .i64 i).wf = true) (hG : G i = none) :
    Calls Try.prog 22 #[.pointer (some ⟨c, 0, none⟩), .int .i64 i] w fun e w' => e = .returned (.bool false) ∧ Below w.heap.size w w' := by
  have F := find_at h hi
  rw [hG] at F
  simp only [Nd.val, Nd.zero, Option.getD_none, Option.isSome_none] at F
  have F := Lib.hid F
  clear h hG
  go_enter Try.func22, Try.ntmps22
  go_wp2_with fail
  refine F.out.mono ?_
  rintro e w1 ⟨rfl, b1⟩
  go_wp2_with fail
  go_ret
  exact ⟨rfl, b1.alloc b1.size _⟩
set_option maxRecDepth 100000 in
theorem keep_yes (h : Chn w c mb n m nx G) {i : Int} (hi : (Lit.int .i64 i).wf = true) {q : Nd} (hG : G i = some q) (hc : 0 ≤ q.count ∧ q.count ≤ 1000) (hn : n ≤ 1000) :
    Calls Try.prog 22 #[.pointer (some ⟨c, 0, none⟩), .int .i64 i] w fun e w' => e = .returned (.bool true) ∧ Chn w' c mb (n + 1) m nx (updG G i (some { q with count := q.count + 1 })) ∧ But mb w w' := by
  have F := find_at h hi
  rw [hG] at F
  obtain ⟨p1, p2, p3, p4, p5, p6⟩ := q
  simp only [Nd.val, Option.getD_some, Option.isSome_some] at F
  simp only at hc
  have ew : wrap64 (p6 + 1) = p6 + 1 := by unfold wrap64; omega
  have F := Lib.hid F
  have H := Lib.hid (And.intro h hG)
  clear h hG
  go_enter Try.func22, Try.ntmps22
  go_wp2_with fail
  refine F.out.mono ?_
  rintro e w1 ⟨rfl, b1⟩
  have B1 := Lib.hid b1
  clear b1 F
  go_wp2_with fail
  have h2 := (H.out.1.below B1.out).alloc (.cells #[.int .i64 p1, .int .i64 p2, .int .i64 p3, .int .i64 p4, .int .i64 p5, .int .i64 (p6 + 1)] 61)
  have bt := B1.out.alloc B1.out.size (.cells #[.int .i64 p1, .int .i64 p2, .int .i64 p3, .int .i64 p4, .int .i64 p5, .int .i64 (p6 + 1)] 61)
  have q0 := World.cell?_alloc_new w1 #[.int .i64 p1, .int .i64 p2, .int .i64 p3, .int .i64 p4, .int .i64 p5, .int .i64 (p6 + 1)] 61 0
  have q1 := World.cell?_alloc_new w1 #[.int .i64 p1, .int .i64 p2, .int .i64 p3, .int .i64 p4, .int .i64 p5, .int .i64 (p6 + 1)] 61 1
  have q2 := World.cell?_alloc_new w1 #[.int .i64 p1, .int .i64 p2, .int .i64 p3, .int .i64 p4, .int .i64 p5, .int .i64 (p6 + 1)] 61 2
  have q3 := World.cell?_alloc_new w1 #[.int .i64 p1, .int .i64 p2, .int .i64 p3, .int .i64 p4, .int .i64 p5, .int .i64 (p6 + 1)] 61 3
  have q4 := World.cell?_alloc_new w1 #[.int .i64 p1, .int .i64 p2, .int .i64 p3, .int .i64 p4, .int .i64 p5, .int .i64 (p6 + 1)] 61 4
  have q5 := World.cell?_alloc_new w1 #[.int .i64 p1, .int .i64 p2, .int .i64 p3, .int .i64 p4, .int .i64 p5, .int .i64 (p6 + 1)] 61 5
  simp only [List.getElem?_toArray, List.getElem?_cons_zero, List.getElem?_cons_succ] at q0 q1 q2 q3 q4 q5
  generalize w1.alloc (.cells #[.int .i64 p1, .int .i64 p2, .int .i64 p3, .int .i64 p4, .int .i64 p5, .int .i64 (p6 + 1)] 61) = W2 at *
  generalize w1.heap.size = tb at *
  refine wp_tail_anyC 6 (by kernel_rfl) (by kernel_rfl) ?_
  intro W hW
  have hb2 : Below W2.heap.size W2 W := by rw [hW]; exact (Below.refl _ _).drew
  have ec : ∀ a, W.cell? a = W2.cell? a := fun a => by rw [hW]; rfl
  have h3 := h2.below hb2
  have bw := B1.out.size
  have q0 := (ec ⟨tb, 0, none⟩).trans q0
  have q1 := (ec ⟨tb, 1, none⟩).trans q1
  have q2 := (ec ⟨tb, 2, none⟩).trans q2
  have q3 := (ec ⟨tb, 3, none⟩).trans q3
  have q4 := (ec ⟨tb, 4, none⟩).trans q4
  have q5 := (ec ⟨tb, 5, none⟩).trans q5
  have c1 := h3.c1
  obtain ⟨W', hrun, hm, hg⟩ := h3.ms.store Try.underlying3 Try.underlying56 (by unfold maxLen; omega) hi ⟨p1, p2, p3, p4, p5, p6 + 1⟩
  rw [H.out.2] at hm
  simp only [Nd.val] at hrun
  have FIN := Lib.hid (show Chn W' c mb (n + 1) m nx (updG G i (some ⟨p1, p2, p3, p4, p5, p6 + 1⟩)) ∧ But mb w W' from ⟨h3.turn (But.of_grown hg) hm, ((But.of_below (bt.trans (hb2.mono bt.size))).trans (But.of_grown hg))⟩)
  clear ec hW hb2 h2 h3 bt hm hg B1 H bw
  simp only [List.take_succ_cons, List.take_zero, List.drop_succ_cons, List.drop_zero]
  repeat still_step
  refine wpStill_nil ?_
  go_wp2_with fail
  go_ret
  exact ⟨rfl, FIN.out⟩
end
end Go.Proofs.Ytakjpoapjokmbaa
