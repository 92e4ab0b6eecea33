/-
  A new log, of any config.
-/
import Derived.Test.YteokdibfdahabaaLz4
import Derived.Test.YteokdibfdahabaaLd
namespace Go.Proofs.Yteokdibfdahabaa
open Go.ChangeShapes Go.WideShapes Go.ChangeAt Go.RowKit
set_option linter.unusedVariables false
theorem lim_ok {sh ib sl qu ru ou st : Int} (h : lim sh ib sl qu ru ou st = true) : ∃ c : Cf, c.Ok ∧ (c.sh : Int) = sh ∧ (c.ib : Int) = ib ∧ c.sl = sl ∧ c.qu = qu ∧ c.ru = ru ∧ c.ou = ou ∧ c.st = st := by
  unfold lim at h
  simp only [Bool.and_eq_true, Bool.not_eq_true', decide_eq_false_iff_not, decide_eq_true_eq] at h
  obtain ⟨⟨⟨⟨⟨⟨⟨⟨⟨⟨⟨⟨⟨h1, h2⟩, h3⟩, h4⟩, h5⟩, h6⟩, h7⟩, h8⟩, h9⟩, h10⟩, h11⟩, h12⟩, h13⟩, h14⟩ := h
  exact ⟨⟨sh.toNat, ib.toNat, sl, qu, ru, ou, st⟩, ⟨by show 1 ≤ sh.toNat; omega, by show sh.toNat ≤ 15; omega, by show 1 ≤ ib.toNat; omega, by show ib.toNat ≤ 4096; omega, by show 1 ≤ sl; omega, by show sl ≤ 4096; omega, by show 1 ≤ qu; omega, by show qu ≤ 4096; omega, by show 1 ≤ ru; omega, by show ru ≤ 4096; omega, by show 1 ≤ ou; omega, by show ou ≤ 4096; omega, h13, h14⟩, by show (sh.toNat : Int) = sh; omega, by show (ib.toNat : Int) = ib; omega, rfl, rfl, rfl, rfl, rfl⟩
set_option maxRecDepth 100000 in
set_option maxHeartbeats 2000000 in
theorem new_no (w : World) (sh ib sl qu ru ou st : Int) (h : lim sh ib sl qu ru ou st = false) : Calls Try.prog 10 #[.agg #[.int .i64 sh, .int .i64 ib, .int .i64 sl, .int .i64 qu, .int .i64 ru, .int .i64 ou, .int .i64 st]] w fun e w' => e = .returned (.pointer none) ∧ Turn (fun _ => False) w w' := by
  obtain ⟨W, hW⟩ : ∃ W, W = w.alloc (.cells #[.int .i64 sh, .int .i64 ib, .int .i64 sl, .int .i64 qu, .int .i64 ru, .int .i64 ou, .int .i64 st] 28) := ⟨_, rfl⟩
  have T1 : Turn (fun _ => False) w W := by rw [hW]; exact (Turn.refl _ w).alloc _
  have C := World.cell?_alloc_new w #[.int .i64 sh, .int .i64 ib, .int .i64 sl, .int .i64 qu, .int .i64 ru, .int .i64 ou, .int .i64 st] 28
  rw [← hW] at C
  have x0 : W.cell? ⟨w.heap.size, 0, none⟩ = some (.int .i64 sh) := C 0
  have x1 : W.cell? ⟨w.heap.size, 1, none⟩ = some (.int .i64 ib) := C 1
  have x2 : W.cell? ⟨w.heap.size, 2, none⟩ = some (.int .i64 sl) := C 2
  have x3 : W.cell? ⟨w.heap.size, 3, none⟩ = some (.int .i64 qu) := C 3
  have x4 : W.cell? ⟨w.heap.size, 4, none⟩ = some (.int .i64 ru) := C 4
  have x5 : W.cell? ⟨w.heap.size, 5, none⟩ = some (.int .i64 ou) := C 5
  have x6 : W.cell? ⟨w.heap.size, 6, none⟩ = some (.int .i64 st) := C 6
  have RY := right_any W sh ib sl qu ru ou st
  rw [h] at RY
  have RY := Lib.hid RY
  have BB0 : Blk W w.heap.size 28 := by rw [hW]; exact Blk.new w [.int .i64 sh, .int .i64 ib, .int .i64 sl, .int .i64 qu, .int .i64 ru, .int .i64 ou, .int .i64 st] 28
  have TW := Lib.hid T1
  clear C T1 h
  go_enter Try.func10, Try.ntmps10
  go_upto_region 1 with fail
  rw [← hW]
  clear hW
  generalize w.heap.size = b1 at *
  go_wp2_with fail
  with_reducible refine RY.out.mono ?_
  rintro e W4 ⟨rfl, T4⟩
  go_wp2
  go_ret
  exact ⟨rfl, TW.out.trans T4⟩
theorem new_any (w : World) (sh ib sl qu ru ou st : Int) : Calls Try.prog 10 #[.agg #[.int .i64 sh, .int .i64 ib, .int .i64 sl, .int .i64 qu, .int .i64 ru, .int .i64 ou, .int .i64 st]] w fun e w' => ∃ x : Option Addr, e = .returned (.pointer x) ∧ x.isSome = lim sh ib sl qu ru ou st ∧ Turn (fun _ => False) w w' := by
  by_cases h : lim sh ib sl qu ru ou st = true
  · obtain ⟨c, hc, rfl, rfl, rfl, rfl, rfl, rfl, rfl⟩ := lim_ok h
    refine (new_yes w hc).mono ?_
    rintro e w' ⟨B, rfl, _, _, T⟩
    exact ⟨_, rfl, by rw [h]; rfl, T⟩
  · have h : lim sh ib sl qu ru ou st = false := by simpa using h
    refine (new_no w sh ib sl qu ru ou st h).mono ?_
    rintro e w' ⟨rfl, T⟩
    exact ⟨none, rfl, by rw [h]; rfl, T⟩
end Go.Proofs.Yteokdibfdahabaa
