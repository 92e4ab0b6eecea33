/-
  What both chains refuse.
-/
import Derived.Test.YtakjpoapjokmbaaDoc5
import Derived.Test.YtakjpoapjokmbaaJnt2
namespace Go.Proofs.Ytakjpoapjokmbaa
open Go.ChangeShapes Go.WideShapes Go.ChangeAt Go.RowKit
set_option linter.unusedVariables false

section
variable {w w' : World} {c mb n m : Nat} {nx : Int} {G : Int → Option Nd}
set_option maxRecDepth 100000 in
theorem fits_gone (h : Chn w c mb n m nx G) {i : Int} (hi : (Lit.int .i64 i).wf = true) (hne : i ≠ -1) (hG : G i = none) (cell : Int) :
    Calls Try.prog 30 #[.pointer (some ⟨c, 0, none⟩), .int .i64 i, .int .i64 cell] w fun e w' => e = .returned (.bool false) ∧ Below w.heap.size w w' := by
  have F := find_at h hi
  rw [hG] at F
  simp only [Nd.val, Nd.zero, Option.getD_none, Option.isSome_none] at F
  have F := Lib.hid F
  have t1 : (i == -1) = false := by simpa using hne
  clear h hG
  go_enter Try.func30, Try.ntmps30
  go_wp2_with fail
  refine F.out.mono ?_
  rintro e w1 ⟨rfl, b1⟩
  go_wp2_with fail
  go_ret
  exact ⟨rfl, b1.alloc b1.size _⟩
set_option maxRecDepth 100000 in
theorem fits_far (h : Chn w c mb n m nx G) {i : Int} (hi : (Lit.int .i64 i).wf = true) (h0 : 0 ≤ i) {q : Nd} (hG : G i = some q) {cell : Int} (hq : ¬ (cell < 6 ∧ (cell = q.cell ∨ cell = q.cell + 1))) (hc : 0 ≤ q.cell ∧ q.cell ≤ 5) :
    Calls Try.prog 30 #[.pointer (some ⟨c, 0, none⟩), .int .i64 i, .int .i64 cell] w fun e w' => e = .returned (.bool false) ∧ Below w.heap.size w w' := by
  have F := find_at h hi
  rw [hG] at F
  obtain ⟨p1, p2, p3, p4, p5, p6⟩ := q
  simp only [Nd.val, Option.getD_some, Option.isSome_some] at F
  simp only at hq hc
  have F := Lib.hid F
  have t1 : (i == -1) = false := by simp; omega
  have ew : wrap64 (p2 + 1) = p2 + 1 := by unfold wrap64; omega
  have ew2 : IntKind.i64.wrap (p2 + 1) = p2 + 1 := IntWalk.i64_in _ (by omega)
  have HQ := Lib.hid hq
  clear h hG hq
  go_enter Try.func30, Try.ntmps30
  go_wp2_with fail
  refine F.out.mono ?_
  rintro e w1 ⟨rfl, b1⟩
  by_cases h6 : cell < 6
  · have t2 : decide (cell < 6) = true := by simpa using h6
    have t3 : (cell == p2) = false := by have := HQ.out; simp; omega
    have t4 : (cell == p2 + 1) = false := by have := HQ.out; simp; omega
    go_wp2_with fail
    go_ret
    exact ⟨rfl, b1.alloc b1.size _⟩
  · have t2 : decide (cell < 6) = false := by simpa using h6
    go_wp2_with fail
    go_ret
    exact ⟨rfl, b1.alloc b1.size _⟩
set_option maxRecDepth 100000 in
theorem push_no (h : Chn w c mb n m nx G) {i cell num s g : Int}
    (HF : ∀ W, Below w.heap.size w W → Calls Try.prog 30 #[.pointer (some ⟨c, 0, none⟩), .int .i64 i, .int .i64 cell] W fun e w' => e = .returned (.bool false) ∧ Below W.heap.size W w') :
    Calls Try.prog 18 #[.pointer (some ⟨c, 0, none⟩), .int .i64 i, .int .i64 cell, .int .i64 num, .agg #[.int .i64 s, .int .i64 g]] w fun e w' => e = .returned (.tuple #[.int .i64 (-1), .bool false]) ∧ Below w.heap.size w w' := by
  have b0 : Below w.heap.size w (w.alloc (.cells #[.int .i64 s, .int .i64 g] 39)) := (Below.refl _ w).alloc (Nat.le_refl _) _
  have c1 := (h.alloc (.cells #[.int .i64 s, .int .i64 g] 39)).c1
  have B0 := Lib.hid b0
  have F := Lib.hid (HF _ b0)
  have em := map_some mb
  clear h HF b0
  go_enter Try.func18, Try.ntmps18
  go_wp2_with fail
  refine F.out.mono ?_
  rintro e W1 ⟨rfl, b1⟩
  have B1 := Lib.hid (B0.out.trans (b1.mono B0.out.size))
  clear b1 F c1
  go_wp2_with fail
  go_ret2
  exact ⟨rfl, B1.out⟩
set_option maxRecDepth 100000 in
theorem drop_no (h : Chn w c mb n m nx G) {i : Int} (hi : (Lit.int .i64 i).wf = true) (hG : G i = none) :
    Calls Try.prog 17 #[.pointer (some ⟨c, 0, none⟩), .int .i64 i] w fun e w' => e = .returned (.tuple #[.slice none 0 0, .bool false]) ∧ Below w.heap.size w w' := by
  have F := find_at h hi
  rw [hG] at F
  simp only [Nd.val, Nd.zero, Option.getD_none, Option.isSome_none] at F
  have F := Lib.hid F
  clear h hG
  go_enter Try.func17, Try.ntmps17
  go_wp2_with fail
  refine F.out.mono ?_
  rintro e w1 ⟨rfl, b1⟩
  go_wp2_with fail
  go_ret2
  exact ⟨rfl, b1.alloc b1.size _⟩
end
section
variable {w : World} {base rc : Nat} {v : Value} {l : List No}
set_option maxRecDepth 100000 in
theorem ddrop_no (h : RefC w base rc v l) {i : Int} (hi : isL l i = false) : Calls Try.prog 24 #[.pointer (some ⟨rc, 0, none⟩), .int .i64 i] w fun e w' => e = .returned (.tuple #[.slice none 0 0, .bool false]) ∧ w = w' := by
  have I := is_at h i
  rw [hi] at I
  have I := Lib.hid I
  clear h hi
  go_enter Try.func24, Try.ntmps24
  go_wp2_with fail
  refine I.out.mono ?_
  rintro e w1 ⟨rfl, rfl⟩
  go_wp2_with fail
  go_ret2
  exact ⟨rfl, rfl⟩
set_option maxRecDepth 100000 in
theorem dpush_no (h : RefC w base rc v l) (hB : base ≤ w.heap.size) {i cell : Int} (hi : isL l i = false) (hne : i ≠ -1 ∨ cell ≠ 0) (num s g : Int) :
    Calls Try.prog 25 #[.pointer (some ⟨rc, 0, none⟩), .int .i64 i, .int .i64 cell, .int .i64 num, .agg #[.int .i64 s, .int .i64 g]] w fun e w' => e = .returned (.tuple #[.int .i64 (-1), .bool false]) ∧ Below w.heap.size w w' := by
  have b0 : Below w.heap.size w (w.alloc (.cells #[.int .i64 s, .int .i64 g] 39)) := (Below.refl _ w).alloc (Nat.le_refl _) _
  have I := is_at (h.below0 b0 hB) i
  rw [hi] at I
  have I := Lib.hid I
  have B0 := Lib.hid b0
  clear h hi b0
  by_cases h1 : i = -1
  · subst h1
    have t1 : (cell == 0) = false := by simp; omega
    have t2 : (cell != 0) = true := by simp; omega
    go_enter Try.func25, Try.ntmps25
    go_wp2_with fail
    refine I.out.mono ?_
    rintro e w1 ⟨rfl, rfl⟩
    go_wp2_with fail
    go_ret2
    exact ⟨rfl, B0.out⟩
  · have t1 : (i == -1) = false := by simpa using h1
    have t2 : (i != -1) = true := by simpa using h1
    go_enter Try.func25, Try.ntmps25
    go_wp2_with fail
    refine I.out.mono ?_
    rintro e w1 ⟨rfl, rfl⟩
    go_wp2_with fail
    go_ret2
    exact ⟨rfl, B0.out⟩
set_option maxRecDepth 100000 in
set_option maxHeartbeats 1000000 in
theorem dpush_far (h : RefC w base rc v l) (hB : base ≤ w.heap.size) {k : Nat} {q : No} (hq : l[k]? = some q) (hg : q.gone = false) {cell : Int} (hc : cell < q.cell ∨ q.cell + 1 < cell ∨ 5 < cell) (hq5 : 0 ≤ q.cell ∧ q.cell ≤ 5) (num s g : Int) :
    Calls Try.prog 25 #[.pointer (some ⟨rc, 0, none⟩), .int .i64 (k : Int), .int .i64 cell, .int .i64 num, .agg #[.int .i64 s, .int .i64 g]] w fun e w' => e = .returned (.tuple #[.int .i64 (-1), .bool false]) ∧ Below w.heap.size w w' := by
  obtain ⟨va, vc, rfl⟩ := h.shape
  have b0 : Below w.heap.size w (w.alloc (.cells #[.int .i64 s, .int .i64 g] 39)) := (Below.refl _ w).alloc (Nat.le_refl _) _
  have h1 := h.below0 b0 hB
  have I := is_at h1 (k : Int)
  rw [isL_at hq, hg] at I
  have I := Lib.hid I
  obtain ⟨gb, rfl, _, hcc⟩ := h1.at hq
  have cc : (w.alloc (.cells #[.int .i64 s, .int .i64 g] 39)).cell? ⟨gb, k * 7 + 1, none⟩ = some (.int .i64 q.cell) := hcc 1 (by decide)
  have hkl : k < l.length := (List.getElem?_eq_some_iff.1 hq).1
  have hkn : (k : Int) < (l.length : Int) := by omega
  have t1 : ((k : Int) == -1) = false := by simp
  have ew3 : wrap64 (q.cell + 1) = q.cell + 1 := by unfold wrap64; omega
  have ew4 : IntKind.i64.wrap (q.cell + 1) = q.cell + 1 := IntWalk.i64_in _ (by omega)
  have c0 := h1.c0
  have B0 := Lib.hid b0
  have HC := Lib.hid hc
  clear h h1 b0 hq hg hcc hc
  generalize q.cell = qc at *
  generalize l.length = n at *
  go_enter Try.func25, Try.ntmps25
  go_wp2_with fail
  generalize w.alloc (.cells #[.int .i64 s, .int .i64 g] 39) = W at *
  refine I.out.mono ?_
  rintro e w1 ⟨rfl, rfl⟩
  by_cases a1 : cell < qc
  · have t2 : decide (cell < qc) = true := by simpa using a1
    go_wp2_with fail
    go_ret2
    exact ⟨rfl, B0.out⟩
  · have t2 : decide (cell < qc) = false := by simpa using a1
    by_cases a2 : qc + 1 < cell
    · have t3 : decide (qc + 1 < cell) = true := by simpa using a2
      go_wp2_with fail
      go_ret2
      exact ⟨rfl, B0.out⟩
    · have t3 : decide (qc + 1 < cell) = false := by simpa using a2
      have t4 : decide (5 < cell) = true := by have := HC.out; simp; omega
      go_wp2_with fail
      go_ret2
      exact ⟨rfl, B0.out⟩
end
end Go.Proofs.Ytakjpoapjokmbaa
