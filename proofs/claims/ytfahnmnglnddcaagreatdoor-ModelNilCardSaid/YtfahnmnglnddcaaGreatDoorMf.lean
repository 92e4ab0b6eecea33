/-
  A model of no query; what it tells of a query's end.
-/
import Derived.Test.YtfahnmnglnddcaaGreatDoorMc
import Derived.Test.YtfahnmnglnddcaaGreatDoorLim
import Derived.WideMake
namespace Go.Proofs.YtfahnmnglnddcaaGreatDoor
open Go.ChangeShapes Go.WideShapes Go.ChangeAt Go.RowKit
set_option linter.unusedVariables false
theorem look_empty {W : World} {r : Nat} (hb : W.heap[r]? = some (.map #[] 0)) (k : Int) : (Instr.lookup 55 (.map (some r)) (.int .i64 k) true).run Tryz.prog W = .ok (.tuple #[.pointer none, .bool false]) W := by
  have hf : Instr.findNow (.int .i64) (.int .i64 k) ([] : List MapEntry) 0 = some none := rfl
  have hz := Tryz.zeroValue66 W
  have hc : (Instr.checkKey true 10000 3 (.int .i64 k)).run Tryz.prog W = .ok () W := MapKept.run_checkKey (k := .int .i64 k) Tryz.underlying3 (by simp [MapKept.IsKey]) true 9999
  simp [Instr.lookup, hc, run_underlying Tryz.underlying55, MapKept.run_getObj_map hb, MapKept.run_findKey Tryz.underlying3 hf, hz, Result.andThen]
/-- A model of no query. -/
structure Mod (W : World) (b m : Nat) : Prop where
  bl : Blk W b 57
  c7 : W.cell? ⟨b, 7, none⟩ = some (.bool false)
  c8 : W.cell? ⟨b, 8, none⟩ = some (.map (some m))
  mp : W.heap[m]? = some (.map #[] 0)
theorem Mod.turn {W W' : World} {b m : Nat} (h : Mod W b m) (T : Turn (fun _ => False) W W') : Mod W' b m :=
  ⟨h.bl.turn T id, T.cell id h.c7, T.cell id h.c8, (T.block m (Array.getElem?_eq_some_iff.1 h.mp).1 id).trans h.mp⟩
def cfg (sh ib sl qu ru ou st : Int) : List Value := [.int .i64 sh, .int .i64 ib, .int .i64 sl, .int .i64 qu, .int .i64 ru, .int .i64 ou, .int .i64 st]
set_option maxRecDepth 100000 in
set_option maxHeartbeats 2000000 in
theorem new_is (w : World) (sh ib sl qu ru ou st : Int) : Calls Tryz.prog 9 #[.agg (cfg sh ib sl qu ru ou st).toArray] w fun x w' => Turn (fun _ => False) w w' ∧ ((lim sh ib sl qu ru ou st = false ∧ x = .returned (.pointer none)) ∨ (lim sh ib sl qu ru ou st = true ∧ ∃ b m, x = .returned (.pointer (some ⟨b, 0, none⟩)) ∧ Mod w' b m)) := by
  unfold cfg
  have HL := Lib.hid (fun w => lim_any w sh ib sl qu ru ou st)
  go_enter Tryz.func9, Tryz.ntmps9
  go_wp2_with fail
  with_reducible refine (HL.out _).mono ?_
  rintro x w1 ⟨rfl, T1⟩
  cases hl : lim sh ib sl qu ru ou st with
  | false =>
    go_wp2_with fail
    go_ret
    exact ⟨((Turn.refl _ w).alloc _).trans T1, .inl ⟨hl, rfl⟩⟩
  | true =>
    have C := World.cell?_alloc_new w #[.int .i64 sh, .int .i64 ib, .int .i64 sl, .int .i64 qu, .int .i64 ru, .int .i64 ou, .int .i64 st] 23
    have x0 : w1.cell? ⟨w.heap.size, 0, none⟩ = some (.int .i64 sh) := T1.cell id (C 0)
    have x1 : w1.cell? ⟨w.heap.size, 1, none⟩ = some (.int .i64 ib) := T1.cell id (C 1)
    have x2 : w1.cell? ⟨w.heap.size, 2, none⟩ = some (.int .i64 sl) := T1.cell id (C 2)
    have x3 : w1.cell? ⟨w.heap.size, 3, none⟩ = some (.int .i64 qu) := T1.cell id (C 3)
    have x4 : w1.cell? ⟨w.heap.size, 4, none⟩ = some (.int .i64 ru) := T1.cell id (C 4)
    have x5 : w1.cell? ⟨w.heap.size, 5, none⟩ = some (.int .i64 ou) := T1.cell id (C 5)
    have x6 : w1.cell? ⟨w.heap.size, 6, none⟩ = some (.int .i64 st) := T1.cell id (C 6)
    have TT := Lib.hid (((Turn.refl (fun _ => False) w).alloc (.cells #[.int .i64 sh, .int .i64 ib, .int .i64 sl, .int .i64 qu, .int .i64 ru, .int .i64 ou, .int .i64 st] 23)).trans T1)
    clear C T1
    have hmm := fun w => run_makeMap_plain (P := Tryz.prog) (w := w) 55
    go_wp2_with fail
    go_ret
    have z1 : (w1.alloc (.map #[] 0)).heap.size = w1.heap.size + 1 := World.size_alloc ..
    have TA : Turn (fun _ => False) w1 (w1.alloc (.map #[] 0)) := (Turn.refl _ _).alloc _
    have TB : Turn (fun _ => False) (w1.alloc (.map #[] 0)) ((w1.alloc (.map #[] 0)).alloc (.cells #[.int .i64 sh, .int .i64 ib, .int .i64 sl, .int .i64 qu, .int .i64 ru, .int .i64 ou, .int .i64 st, .bool false, .map (some w1.heap.size)] 57)) := (Turn.refl _ _).alloc _
    have R := range_new (w1.alloc (.map #[] 0)) [.int .i64 sh, .int .i64 ib, .int .i64 sl, .int .i64 qu, .int .i64 ru, .int .i64 ou, .int .i64 st, .bool false, .map (some w1.heap.size)] 57
    have BB := Blk.new (w1.alloc (.map #[] 0)) [.int .i64 sh, .int .i64 ib, .int .i64 sl, .int .i64 qu, .int .i64 ru, .int .i64 ou, .int .i64 st, .bool false, .map (some w1.heap.size)] 57
    have hm : (w1.alloc (.map #[] 0)).heap[w1.heap.size]? = some (.map #[] 0) := by show (Array.push _ _)[_]? = _; simp
    rw [z1] at R BB
    exact ⟨(TT.out.trans TA).trans TB, .inr ⟨hl, w1.heap.size + 1, w1.heap.size, rfl, BB, R 7 _ rfl, R 8 _ rfl, (TB.block _ (Array.getElem?_eq_some_iff.1 hm).1 id).trans hm⟩⟩
end Go.Proofs.YtfahnmnglnddcaaGreatDoor
