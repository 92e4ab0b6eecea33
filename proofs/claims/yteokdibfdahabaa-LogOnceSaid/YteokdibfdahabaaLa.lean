/-
  The chapter's example of layer 19.
-/
import Derived.Test.YteokdibfdahabaaLn3
import Derived.Test.YteokdibfdahabaaLg6
import Derived.Test.YteokdibfdahabaaLg8
import Derived.Test.YteokdibfdahabaaLg10
namespace Go.Proofs.Yteokdibfdahabaa
open Go.ChangeShapes Go.WideShapes Go.ChangeAt Go.RowKit
set_option linter.unusedVariables false
set_option maxRecDepth 100000 in
theorem out_is (w : World) (x : Int) : Calls Try.prog 28 #[.int .i64 x] w fun e w' => ∃ b, e = .returned (.agg #[.slice none 0 0, .slice (some ⟨b, 0, none⟩) 1 1, .slice none 0 0, .slice none 0 0]) ∧ OutV w' (.slice (some ⟨b, 0, none⟩) 1 1) (some x) ∧ Turn (fun _ => False) w w' := by
  obtain ⟨W, hW⟩ : ∃ W, W = (w.alloc (.cells #[.slice none 0 0, .slice (some ⟨w.heap.size + 1, 0, none⟩) 1 1, .slice none 0 0, .slice none 0 0] 62)).alloc (.cells #[.int .i64 x] 3) := ⟨_, rfl⟩
  have T : Turn (fun _ => False) w W := by rw [hW]; exact ((Turn.refl _ w).alloc _).alloc _
  have C1 : W.rangeAt w.heap.size 0 [.slice none 0 0, .slice (some ⟨w.heap.size + 1, 0, none⟩) 1 1, .slice none 0 0, .slice none 0 0] := by rw [hW]; exact range_turn (range_new w _ 62) ((Turn.refl (fun _ => False) _).alloc _) (fun f => f)
  have B2 : Blk W (w.heap.size + 1) 3 := by
    rw [hW]
    have := Blk.new (w.alloc (.cells #[.slice none 0 0, .slice (some ⟨w.heap.size + 1, 0, none⟩) 1 1, .slice none 0 0, .slice none 0 0] 62)) [.int .i64 x] 3
    rwa [World.size_alloc] at this
  have C2 : W.cell? ⟨w.heap.size + 1, 0, none⟩ = some (.int .i64 x) := by
    rw [hW]
    have := range_new (w.alloc (.cells #[.slice none 0 0, .slice (some ⟨w.heap.size + 1, 0, none⟩) 1 1, .slice none 0 0, .slice none 0 0] 62)) [.int .i64 x] 3
    rw [World.size_alloc] at this
    exact this 0 _ rfl
  have x0 : W.cell? ⟨w.heap.size, 0, none⟩ = some (.slice none 0 0) := C1 0 _ rfl
  have x1 : W.cell? ⟨w.heap.size, 1, none⟩ = some (.slice (some ⟨w.heap.size + 1, 0, none⟩) 1 1) := C1 1 _ rfl
  have x2 : W.cell? ⟨w.heap.size, 2, none⟩ = some (.slice none 0 0) := C1 2 _ rfl
  have x3 : W.cell? ⟨w.heap.size, 3, none⟩ = some (.slice none 0 0) := C1 3 _ rfl
  have KX := Lib.hid (And.intro T (And.intro B2 C2))
  clear T C1 B2 C2
  go_enter Try.func28, Try.ntmps28
  go_wp2
  rw [← hW]
  clear hW
  refine bodyPost_ret (v := .agg #[.slice none 0 0, .slice (some ⟨w.heap.size + 1, 0, none⟩) 1 1, .slice none 0 0, .slice none 0 0]) (by simp [results, Try.results28, go_sem, x0, x1, x2, x3]) rfl ⟨_, rfl, ⟨_, _, rfl, KX.out.2.2, KX.out.2.1⟩, KX.out.1⟩
set_option maxRecDepth 100000 in
theorem of_is {w : World} {a : Option Addr} {n c : Nat} {o : Option Int} (h : OutV w (.slice a n c) o) : Calls Try.prog 30 #[.agg #[.slice none 0 0, .slice a n c, .slice none 0 0, .slice none 0 0]] w fun e w' => e = .returned (.int .i64 (o.getD (-1))) ∧ Turn (fun _ => False) w w' := by
  have T : Turn (fun _ => False) w (w.alloc (.cells #[.slice none 0 0, .slice a n c, .slice none 0 0, .slice none 0 0] 62)) := (Turn.refl _ w).alloc _
  have K := Lib.hid T
  cases o with
  | none =>
    have h : Value.slice a n c = .slice none 0 0 := h
    injection h with h1 h2 h3
    subst h1 h2 h3
    clear T
    go_enter Try.func30, Try.ntmps30
    go_wp2
    go_ret
    exact ⟨rfl, K.out⟩
  | some x =>
    obtain ⟨b, c', e, hc, hb⟩ := h
    injection e with e1 e2 e3
    subst e1 e2 e3
    have hc := T.cell (fun f => f) hc
    clear T hb
    go_enter Try.func30, Try.ntmps30
    go_wp2
    go_ret
    exact ⟨rfl, K.out⟩
end Go.Proofs.Yteokdibfdahabaa
