/-
  The ring of the document's own answer, in memory: the first Put of all.
-/
import Derived.Test.YtjfbjkgppnhaoaaPutRows
namespace Go.Proofs.Ytjfbjkgppnhaoaa
open Go.ChangeShapes Go.WideShapes Go.ChangeAt Go.RowKit
set_option linter.unusedVariables false

set_option maxRecDepth 100000 in
set_option maxHeartbeats 8000000 in
theorem ref_put_none {w : World} {base rr N L : Nat} {a : Int} (h : RefAt w base rr N L (.slice none 0 0) 0 []) 
    (ha : (L : Int) ≤ a) (hb : a ≤ 9223372036854775807) (hN : a - (L : Int) < (N : Int)) (hB : base ≤ w.heap.size) (x : Int) :
    Calls Try.prog 30 #[.pointer (some ⟨rr, 0, none⟩), .int .i64 a, .int .i64 x] w fun e w' => e = .returned (.bool true) ∧ (∃ v', RefAt w' base rr N L v' 1 [(a, x)]) ∧ Near rr rr w w' := by
  have F := Lib.hid (ref_find_q (p := 0) (K := -1) (a := a) h (fun j q hj _ => by omega) (Nat.le_refl _) (.inl ⟨rfl, rfl⟩) (by omega))
  have c0 := h.c0
  have c1 := h.c1
  have t1 : decide (a < (L : Int)) = false := by simpa using ha
  have e1 : IntKind.i64.wrap (a - (L : Int)) = a - (L : Int) := IntWalk.i64_in _ (by omega)
  have t2 : decide ((N : Int) ≤ a - (L : Int)) = false := by simpa using hN
  have H := Lib.hid h
  have HB := Lib.hid hB
  clear h hB
  go_enter Try.func30, Try.ntmps30
  go_wp2_with fail
  go_quiet ((go_at_call 65; exact F.out _))
  have HW := Lib.hid (H.out.drewN nq)
  have NW := Lib.hid (Near.drewN (r := rr) (pb := rr) (w := w) nq)
  have HB := Lib.hid (show base ≤ (w.drewN nq).heap.size from HB.out)
  clear H F c0 c1 t1 e1 t2
  generalize w.drewN nq = W at *
  have c2 := HW.out.c2
  have q0 : rr < W.heap.size := block_lt_of_cell c2
  have R0 : FRel W 0 0 0 (.int .i64 0) W := ⟨0, rfl, Nat.zero_le _, rfl, rfl⟩
  go_wp2_with fail
  go_loopg [7] 0 (fun gh v7 wr => FRel W 0 0 gh v7 wr)
  case atStart => exact R0
  case round =>
    clear R0
    obtain ⟨j, rfl, hj, hg, rfl⟩ := hrel
    obtain rfl : j = 0 := by omega
    have c2a : (wr.alloc (.cells #[] 77)).cell? ⟨rr, 2, none⟩ = some (.slice none 0 0) := (World.cell?_alloc_lt wr _ _ q0).trans c2
    obtain ⟨v7, W7, v8, W8, r6, r7, r8, b8, hr8⟩ := put_rows_nil (W := wr) a x
    have c2c := (b8.cell (p := ⟨rr, 2, none⟩) q0).trans c2
    have f2c := (b8.frozen (p := ⟨rr, 2, none⟩) q0).trans HW.out.f2
    obtain ⟨a8, k8, rfl, _⟩ := row_slice hr8
    have FIN := Lib.hid (HW.out.row_set b8 hr8 rfl HB.out)
    have R6 := Lib.hid r6
    have R7 := Lib.hid r7
    have R8 := Lib.hid r8
    clear r6 r7 r8 hr8 b8
    go_wp2_with (at_builtin; first | ((with_reducible show wpList _ _ _ [_, _] _ _); refine wpList_append_runR rfl _ _ _ rfl rfl rfl R6.out ?_) | ((with_reducible show wpList _ _ _ [_, _, _, _, _, _] _ _); refine wpList_append_runR rfl _ _ _ rfl rfl rfl R7.out ?_) | ((with_reducible show wpList _ _ _ [_, _, _, _] _ _); refine wpList_append_runR rfl _ _ _ rfl rfl rfl R8.out ?_))
    all_goals
      go_ret
      exact ⟨rfl, ⟨_, FIN.out.1⟩, NW.out.trans FIN.out.2⟩
end Go.Proofs.Ytjfbjkgppnhaoaa
