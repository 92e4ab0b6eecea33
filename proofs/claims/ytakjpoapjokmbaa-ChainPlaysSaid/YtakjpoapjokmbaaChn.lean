/-
  A chain in memory: what find, Count, Live, New tell.
-/
import Derived.Test.YtakjpoapjokmbaaNMap
import Derived.Test.YtakjpoapjokmbaaRows
import Derived.WalkKit
import Derived.ProofKit
import Derived.OpenShut
import Derived.Handy
import Derived.WalkLawsBesides
import Derived.BigQuiet
import Derived.IntWalk
import Derived.Lib.Hide
import Derived.Laws.AppendOwn
import Derived.Laws.OwnMore
import Derived.Deep.LoopGhost
import Derived.Below
import Derived.StillTailTactics
import Derived.Carry
namespace Go.Proofs.Ytakjpoapjokmbaa
open Go.ChangeShapes Go.WideShapes Go.ChangeAt Go.RowKit
set_option linter.unusedVariables false

structure Chn (w : World) (c mb n m : Nat) (nx : Int) (G : Int → Option Nd) : Prop where
  c0 : w.cell? ⟨c, 0, none⟩ = some (.int .i64 nx)
  c1 : w.cell? ⟨c, 1, none⟩ = some (.map (some mb))
  f0 : w.frozen? ⟨c, 0, none⟩ = false
  ms : Nds Try.prog 3 w mb n m G
  ne : c ≠ mb
section
variable {w w' : World} {c mb n m : Nat} {nx : Int} {G : Int → Option Nd}
theorem Chn.lt (h : Chn w c mb n m nx G) : c < w.heap.size ∧ mb < w.heap.size := ⟨block_lt_of_cell h.c0, h.ms.lt⟩
theorem Chn.below (h : Chn w c mb n m nx G) (hb : Below w.heap.size w w') : Chn w' c mb n m nx G :=
  ⟨(hb.cell (p := ⟨c, 0, none⟩) h.lt.1).trans h.c0, (hb.cell (p := ⟨c, 1, none⟩) h.lt.1).trans h.c1, (hb.frozen (p := ⟨c, 0, none⟩) h.lt.1).trans h.f0, h.ms.block (hb.block mb h.lt.2), h.ne⟩
theorem Chn.alloc (h : Chn w c mb n m nx G) (o : Obj) : Chn (w.alloc o) c mb n m nx G := h.below ((Below.refl _ w).alloc (Nat.le_refl _) o)
theorem zeroE (w : World) : (zeroValue 61).run Try.prog w = .ok Nd.zero.val w := by kernel_rfl
theorem Chn.look (h : Chn w c mb n m nx G) {i : Int} (hi : (Lit.int .i64 i).wf = true) : (Instr.lookup 56 (.map (some mb)) (.int .i64 i) true).run Try.prog w = .ok (.tuple #[((G i).getD Nd.zero).val, .bool (G i).isSome]) w :=
  h.ms.look Try.underlying3 Try.underlying56 (zeroE w) hi
set_option maxRecDepth 100000 in
theorem find_at (h : Chn w c mb n m nx G) {i : Int} (hi : (Lit.int .i64 i).wf = true) :
    Calls Try.prog 29 #[.pointer (some ⟨c, 0, none⟩), .int .i64 i] w fun e w' => e = .returned (.tuple #[((G i).getD Nd.zero).val, .bool (G i).isSome]) ∧ Below w.heap.size w w' := by
  have h1 := h.alloc (.cells #[.int .i64 0, .int .i64 0, .int .i64 0, .int .i64 0, .int .i64 0, .int .i64 0] 61)
  have hrun := h1.look hi
  have c1 := h1.c1
  generalize (G i).getD Nd.zero = q at *
  generalize (G i).isSome = ok at *
  obtain ⟨p1, p2, p3, p4, p5, p6⟩ := q
  simp only [Nd.val] at hrun ⊢
  clear h h1
  go_enter Try.func29, Try.ntmps29
  go_wp2_with fail
  refine bodyPost_ret (v := .tuple #[.agg #[.int .i64 p1, .int .i64 p2, .int .i64 p3, .int .i64 p4, .int .i64 p5, .int .i64 p6], .bool ok]) (by simp [results, Try.results29, go_sem]) rfl ⟨rfl, ?_⟩
  exact ((Below.refl _ w).alloc (Nat.le_refl _) _).alloc (by rw [World.size_alloc]; omega) _
set_option maxRecDepth 100000 in
theorem count_at (h : Chn w c mb n m nx G) {i : Int} (hi : (Lit.int .i64 i).wf = true) :
    Calls Try.prog 16 #[.pointer (some ⟨c, 0, none⟩), .int .i64 i] w fun e w' => e = .returned (.int .i64 ((G i).getD Nd.zero).count) ∧ Below w.heap.size w w' := by
  have F := find_at h hi
  generalize (G i).getD Nd.zero = q at *
  generalize (G i).isSome = ok at *
  obtain ⟨p1, p2, p3, p4, p5, p6⟩ := q
  simp only [Nd.val] at F
  have F := Lib.hid F
  clear h
  go_enter Try.func16, Try.ntmps16
  go_wp2_with fail
  refine F.out.mono ?_
  rintro e w1 ⟨rfl, b1⟩
  go_wp2_with fail
  go_ret
  exact ⟨rfl, b1.alloc b1.size _⟩
set_option maxRecDepth 100000 in
theorem live_at (h : Chn w c mb n m nx G) : Calls Try.prog 13 #[.pointer (some ⟨c, 0, none⟩)] w fun e w' => e = .returned (.int .i64 (m : Int)) ∧ w = w' := by
  have c1 := h.c1
  have hl := h.ms.len Try.underlying56 3
  clear h
  go_enter Try.func13, Try.ntmps13
  go_wp2_with fail
  go_ret
  exact ⟨rfl, rfl⟩
set_option maxRecDepth 100000 in
theorem new_at (w : World) : Calls Try.prog 9 #[] w fun e w' => e = .returned (.pointer (some ⟨w.heap.size + 1, 0, none⟩)) ∧ Chn w' (w.heap.size + 1) w.heap.size 0 0 0 (fun _ => none) ∧ Below w.heap.size w w' := by
  have hmm := @run_makeMap Try.prog
  have b1 := (Below.refl w.heap.size w).alloc (Nat.le_refl _) (.map #[] 0)
  have N := (Nds.made (P := Try.prog) (k := 3) w)
  go_enter Try.func9, Try.ntmps9
  go_wp2_with fail
  go_ret
  refine ⟨rfl, ?_, b1.alloc (by rw [World.size_alloc]; omega) _⟩
  have e : w.heap.size + 1 = (w.alloc (.map #[] 0)).heap.size := (World.size_alloc _ _).symm
  refine ⟨?_, ?_, ?_, N.block (Below.heap_alloc _ _ _ N.lt), by omega⟩
  · rw [e]
    exact World.cell?_alloc_new _ #[.int .i64 0, .map (some w.heap.size)] 58 0
  · rw [e]
    exact World.cell?_alloc_new _ #[.int .i64 0, .map (some w.heap.size)] 58 1
  · rw [e, frozen?_alloc_cells]
    unfold World.frozen?
    rw [Array.getElem?_eq_none (Nat.le_refl _)]
end
end Go.Proofs.Ytakjpoapjokmbaa
