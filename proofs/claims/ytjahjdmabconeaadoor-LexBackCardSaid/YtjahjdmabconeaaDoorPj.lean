/-
  The chapter's examples.
-/
import Derived.Test.YtjahjdmabconeaaDoorPi
namespace Go.Proofs.YtjahjdmabconeaaDoor
open Go.ChangeShapes Go.WideShapes Go.ChangeAt Go.RowKit
set_option linter.unusedVariables false
theorem toks_a : toksB [97, 46, 120, 60, 61, 49, 50] = [(0, ⟨1, 1, 0⟩), (1, ⟨4, 1, 0⟩), (2, ⟨1, 1, 0⟩), (3, ⟨4, 2, 0⟩), (5, ⟨3, 2, 12⟩)] := by decide +kernel
theorem toks_b : toksB [97, 32, 63] = [(0, ⟨1, 1, 0⟩)] := by decide +kernel
theorem ext_a : (⟨#[97, 46, 120, 60, 61, 49, 50]⟩ : ByteArray).extract 3 5 = ⟨#[60, 61]⟩ := by decide +kernel
/-- A text whose tokens are all told. -/
theorem lex_all (w : World) (s : ByteArray) (hs : s.size ≤ 140737488355328) (hE : ErrAt w) {L : List (Nat × Tok)} (hL : toksB s.data.toList = L) (h2 : L.length ≤ 200) (h3 : skipB (endB L) s.data.toList = s.size) :
    Calls Tryd.prog 14 #[.string s] w fun e w' => Turn (fun _ => False) w w' ∧ ∃ v, e = .returned (.tuple #[v, .int .i64 (s.size : Int), .int .i64 0]) ∧ w'.ownsRow w.heap.size 30 4 v L.length (toksC s L) := by
  refine (lex_is w s hs hE).mono ?_
  rintro e w' ⟨T, ⟨x, r, pre, h, hl, _⟩ | ⟨_, h, _⟩ | ⟨_, _, v, e1, e2⟩⟩
  · rw [hL] at h
    rw [h, List.length_append, hl] at h2
    simp at h2
    omega
  · rw [hL, h3] at h
    omega
  · rw [hL] at e2
    exact ⟨T, v, e1, e2⟩
/-- A text that is refused. -/
theorem lex_not (w : World) (s : ByteArray) (hs : s.size ≤ 140737488355328) (hE : ErrAt w) {L : List (Nat × Tok)} (hL : toksB s.data.toList = L) (h2 : L.length ≤ 200) {k : Nat} (h3 : skipB (endB L) s.data.toList = k) (h4 : k < s.size) :
    Calls Tryd.prog 14 #[.string s] w fun e w' => Turn (fun _ => False) w w' ∧ e = .returned (.tuple #[.slice none 0 0, .int .i64 (k : Int), .int .i64 10]) := by
  refine (lex_is w s hs hE).mono ?_
  rintro e w' ⟨T, ⟨x, r, pre, h, hl, _⟩ | ⟨_, h, e1⟩ | ⟨_, h, _⟩⟩
  · rw [hL] at h
    rw [h, List.length_append, hl] at h2
    simp at h2
    omega
  · rw [hL, h3] at e1
    exact ⟨T, e1⟩
  · rw [hL, h3] at h
    omega
/-- A text of too many. -/
theorem lex_many (w : World) (s : ByteArray) (hs : s.size ≤ 140737488355328) (hE : ErrAt w) {L : List (Nat × Tok)} (hL : toksB s.data.toList = L) {x : Nat × Tok} (hx : L[200]? = some x) :
    Calls Tryd.prog 14 #[.string s] w fun e w' => Turn (fun _ => False) w w' ∧ e = .returned (.tuple #[.slice none 0 0, .int .i64 (x.1 : Int), .int .i64 12]) := by
  have h2 : 200 < L.length := (List.getElem?_eq_some_iff.1 hx).1
  refine (lex_is w s hs hE).mono ?_
  rintro e w' ⟨T, ⟨y, r, pre, h, hl, e1⟩ | ⟨h, _, _⟩ | ⟨h, _, _⟩⟩
  · rw [hL] at h
    rw [h, ← hl] at hx
    simp at hx
    subst hx
    exact ⟨T, e1⟩
  · rw [hL] at h
    omega
  · rw [hL] at h
    omega
set_option maxRecDepth 100000 in
set_option maxHeartbeats 2000000 in
theorem awake_is (w : World) (hE : ErrAt w) : Calls Tryd.prog 8 #[] w fun e w' => e = .returned (.bool true) ∧ Turn (fun _ => False) w w' := by
  have LA := Lib.hid (lex_all w ⟨#[97, 46, 120, 60, 61, 49, 50]⟩ (by decide) hE toks_a (by decide) (by decide +kernel))
  have LB := Lib.hid (fun (w : World) (hE : ErrAt w) => lex_not w ⟨#[97, 32, 63]⟩ (by decide) hE toks_b (by decide) (k := 2) (by decide +kernel) (by decide))
  have HE := Lib.hid hE
  clear hE
  go_enter Tryd.func8, Tryd.ntmps8
  go_wp2_with fail
  with_reducible refine LA.out.mono ?_
  rintro e w1 ⟨T1, v, rfl, ho⟩
  obtain ⟨a, cap, rfl, hg⟩ := own_slice ho
  obtain ⟨g, rfl⟩ := hg (by decide)
  have c14 : w1.cell? ⟨g, 14, none⟩ = some (.string ⟨#[60, 61]⟩) := (ho.cellAt 14 (by decide)).trans (by rw [← ext_a]; rfl)
  have c19 : w1.cell? ⟨g, 19, none⟩ = some (.int .i64 12) := (ho.cellAt 19 (by decide)).trans rfl
  have LB1 := Lib.hid (LB.out w1 (HE.out.turn T1 (fun f => f)))
  have TT := Lib.hid T1
  clear ho hg LA LB T1
  go_wp2_with fail
  with_reducible refine LB1.out.mono ?_
  rintro e w2 ⟨T2, rfl⟩
  have d14 := T2.cell (fun f => f) c14
  have d19 := T2.cell (fun f => f) c19
  have FIN := Lib.hid (TT.out.trans T2)
  clear T2 c14 c19
  go_wp2_with fail
  go_ret
  exact ⟨rfl, FIN.out⟩
end Go.Proofs.YtjahjdmabconeaaDoor
