/-
  Go's stable sort of few matches.
-/
import Derived.Test.YtibmimdlgbhdnaaTupU
namespace Go.Proofs.Ytibmimdlgbhdnaa
open Go.ChangeShapes Go.WideShapes Go.ChangeAt Go.RowKit
set_option linter.unusedVariables false

def Sorted1 (B g cap : Nat) (w : World) (E0 : List (Value × Mat)) (w' : World) : Prop := ∃ E, E.Perm E0 ∧ SortSt B g cap w' E ∧ E.Pairwise leE ∧ Turn (fun k => k = g) w w'
set_option maxRecDepth 100000 in
set_option maxHeartbeats 2000000 in
theorem stable_is {B g cap : Nat} {w : World} {E0 : List (Value × Mat)} (hs : SortSt B g cap w E0) (hn : E0.length ≤ 12) :
    Calls Try.prog 87 #[.slice (some ⟨g, 0, none⟩) E0.length cap, .int .i64 (E0.length : Int), .func (.func 20) #[] #[]] w fun e w' => e = .returned (.tuple #[]) ∧ Sorted1 B g cap w E0 w' := by
  have C := Lib.hid (insert_is hs (by omega))
  have t1 : decide ((20 : Int) ≤ (E0.length : Int)) = false := by simp; omega
  have t2 : decide ((20 : Int) < (E0.length : Int)) = false := by simp; omega
  clear hs
  go_enter Try.func87, Try.ntmps87
  go_wp2_with fail
  go_loopg [7, 8] 0 (fun gh v7 v8 wr => v7 = Value.int .i64 0 ∧ v8 = Value.int .i64 20 ∧ wr = w)
  case atStart => exact ⟨rfl, rfl, rfl⟩
  case round =>
    obtain ⟨rfl, rfl, rfl⟩ := hrel
    go_wp2_with fail
    with_reducible refine C.out.mono ?_
    rintro e w1 ⟨rfl, h⟩
    have H := Lib.hid h
    clear h C
    go_wp2_with fail
    go_loopg [6] 0 (fun gh v6 wr => v6 = Value.int .i64 20 ∧ wr = w1)
    case atStart => exact ⟨rfl, rfl⟩
    case round =>
      obtain ⟨rfl, rfl⟩ := hrel
      go_wp2
      go_end0
      exact ⟨rfl, H.out⟩
set_option maxRecDepth 100000 in
theorem sort_is {B g cap : Nat} {w : World} {E0 : List (Value × Mat)} (hs : SortSt B g cap w E0) (hn : E0.length ≤ 12) :
    Calls Try.prog 64 #[.slice (some ⟨g, 0, none⟩) E0.length cap, .func (.func 20) #[] #[]] w fun e w' => e = .returned (.tuple #[]) ∧ Sorted1 B g cap w E0 w' := by
  have C := Lib.hid (stable_is hs hn)
  clear hs
  go_enter Try.func64, Try.ntmps64
  go_wp2_with fail
  with_reducible refine C.out.mono ?_
  rintro e w1 ⟨rfl, h⟩
  have H := Lib.hid h
  clear h C
  go_wp2
  go_end0
  exact ⟨rfl, H.out⟩
end Go.Proofs.Ytibmimdlgbhdnaa
