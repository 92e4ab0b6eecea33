/-
  End, when it changes nothing.
-/
import Derived.Test.YtbpcocobimdcnaaRe
import Derived.Test.YtbpcocobimdcnaaRf
namespace Go.Proofs.Ytbpcocobimdcnaa
open Go.ChangeShapes Go.WideShapes Go.ChangeAt Go.RowKit
set_option linter.unusedVariables false

set_option maxRecDepth 100000 in
set_option maxHeartbeats 2000000 in
theorem end_no {w : World} {p : Option Addr} {l : List EV} {x at_ : Int} (h : RollS w p l) (hx : (∀ e ∈ l, e.id ≠ x) ∨ ∃ e, e ∈ l ∧ e.id = x ∧ (e.till ≠ -1 ∨ at_ ≤ x)) :
    Calls Try.prog 9 #[.pointer p, .int .i64 x, .int .i64 at_] w fun en w' => en = .returned (.tuple #[.pointer p, .bool false]) ∧ Turn (fun _ => False) w w' := by
  have R := Lib.hid (row_is h.at_)
  have PL := Lib.hid (place_is h.at_ h.srt x)
  have HH := Lib.hid (And.intro h hx)
  clear h hx
  go_enter Try.func9, Try.ntmps9
  go_wp2_with fail
  refine R.out.mono ?_
  rintro en w1 ⟨v, rfl, hr, rfl⟩
  obtain ⟨a, c, rfl, hg⟩ := own_slice hr.own
  have HR := Lib.hid hr
  clear hr R
  go_wp2_with fail
  refine PL.out.mono ?_
  rintro en w2 ⟨i, rfl, hp, T2⟩
  have TT := Lib.hid T2
  obtain ⟨b, hb⟩ : ∃ b, foundB l x i = b := ⟨_, rfl⟩
  rw [hb]
  cases b with
  | false =>
    clear hp hb T2 PL
    go_wp2
    go_ret2
    exact ⟨rfl, TT.out⟩
  | true =>
    obtain ⟨e, he, hid⟩ := foundB_true hb
    have hil := (List.getElem?_eq_some_iff.1 he).1
    obtain ⟨g, rfl⟩ := hg (by omega)
    have hr2 : ERow w2 (.slice (some ⟨g, 0, none⟩) l.length c) l := HR.out.turn T2
    have y1 := (hr2.own.cellAt (i * 5 + 1) (by omega)).trans (ecells_at l i e he).2.1
    have hi1 : (i : Int) < (l.length : Int) := by omega
    have hi0 : (0 : Int) ≤ (i : Int) := by omega
    have key : e.till ≠ -1 ∨ at_ ≤ x := by
      rcases HH.out.2 with hno | ⟨e2, hm, h2, h3⟩
      · exact absurd hid (hno e (List.mem_of_getElem? he))
      · obtain ⟨j, hj⟩ := List.getElem?_of_mem hm
        have : j = i := by
          rcases Nat.lt_trichotomy j i with q | q | q
          · have := HH.out.1.srt.lt hj he q
            omega
          · exact q
          · have := HH.out.1.srt.lt he hj q
            omega
        subst this
        rw [he] at hj
        cases hj
        exact h3
    obtain ⟨eid, till, cs, win, o⟩ := e
    dsimp only at y1 key
    clear hp hb T2 PL he hid hr2
    by_cases ht : till = -1
    · subst ht
      have hle : at_ ≤ x := key.resolve_left (by simp)
      have t1 : decide (at_ ≤ x) = true := by simpa using hle
      clear key
      go_wp2
      go_ret2
      exact ⟨rfl, TT.out⟩
    · have t1 : (till != -1) = true := by simpa using ht
      clear key
      go_wp2
      go_ret2
      exact ⟨rfl, TT.out⟩
end Go.Proofs.Ytbpcocobimdcnaa
