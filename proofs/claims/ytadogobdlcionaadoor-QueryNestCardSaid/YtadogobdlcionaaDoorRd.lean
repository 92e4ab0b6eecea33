/-
  What kinds of tokens are asked for.
-/
import Derived.Test.YtadogobdlcionaaDoorRc
namespace Go.Proofs.YtadogobdlcionaaDoor
open Go.ChangeShapes Go.WideShapes Go.ChangeAt Go.RowKit Go.Shelf
set_option linter.unusedVariables false
/-- Is a text a keyword? -/
def keyB (t : ByteArray) : Bool := (t.toList == [115, 101, 113]) || (t.toList == [119, 104, 101, 114, 101]) || (t.toList == [97, 110, 100]) || (t.toList == [119, 105, 116, 104, 105, 110]) || (t.toList == [98, 121]) || (t.toList == [107, 101, 121])
set_option maxRecDepth 100000 in
set_option maxHeartbeats 2000000 in
theorem keyword_is (w : World) (t : ByteArray) : Calls Tryd.prog 58 #[.string t] w fun y w' => y = .returned (.bool (keyB t)) ∧ w' = w := by
  unfold keyB
  cases h1 : (t.toList == [115, 101, 113]) with
  | true =>
    go_enter Tryd.func58, Tryd.ntmps58
    go_wp2_with fail
    go_ret
    exact ⟨rfl, rfl⟩
  | false =>
    cases h2 : (t.toList == [119, 104, 101, 114, 101]) with
    | true =>
      go_enter Tryd.func58, Tryd.ntmps58
      go_wp2_with fail
      go_ret
      exact ⟨rfl, rfl⟩
    | false =>
      cases h3 : (t.toList == [97, 110, 100]) with
      | true =>
        go_enter Tryd.func58, Tryd.ntmps58
        go_wp2_with fail
        go_ret
        exact ⟨rfl, rfl⟩
      | false =>
        cases h4 : (t.toList == [119, 105, 116, 104, 105, 110]) with
        | true =>
          go_enter Tryd.func58, Tryd.ntmps58
          go_wp2_with fail
          go_ret
          exact ⟨rfl, rfl⟩
        | false =>
          cases h5 : (t.toList == [98, 121]) with
          | true =>
            go_enter Tryd.func58, Tryd.ntmps58
            go_wp2_with fail
            go_ret
            exact ⟨rfl, rfl⟩
          | false =>
            cases h6 : (t.toList == [107, 101, 121])
            all_goals
              go_enter Tryd.func58, Tryd.ntmps58
              go_wp2_with fail
              go_ret
              exact ⟨rfl, rfl⟩
def nameB (s : ByteArray) (x : Nat × Tok) : Bool := decide (x.2.kind = 1) && !keyB (textOf s x)
theorem enters (f : Nat) {fn : Func} (hf : Tryd.prog.funcs[f]? = some fn) (hn : (fn.name == "runtime.NumGoroutine") = false) {c : Code} (hb : fn.body = some c) : ∀ args w, (callFunc f args).run Tryd.prog w = .ok (.enter f args) w := enters_of hf hn hb
theorem dec_int (a b : Nat) : ((a : Int) == (b : Int)) = decide (a = b) := by rw [Bool.eq_iff_iff]; simp; omega
set_option maxRecDepth 100000 in
theorem int_tells (s : ByteArray) : Tells 23 s (fun x => decide (x.2.kind = 3)) := by
  refine ⟨enters 23 Tryd.func23 (by kernel_rfl) rfl, fun w x => ?_⟩
  unfold tokC tokL
  dsimp only
  rw [← dec_int]
  go_enter Tryd.func23, Tryd.ntmps23
  go_wp2_with fail
  go_ret
  exact ⟨rfl, (Turn.refl _ _).alloc _⟩
set_option maxRecDepth 100000 in
theorem type_tells (s : ByteArray) : Tells 34 s (fun x => decide (x.2.kind = 2)) := by
  refine ⟨enters 34 Tryd.func34 (by kernel_rfl) rfl, fun w x => ?_⟩
  unfold tokC tokL
  dsimp only
  rw [← dec_int]
  go_enter Tryd.func34, Tryd.ntmps34
  go_wp2_with fail
  go_ret
  exact ⟨rfl, (Turn.refl _ _).alloc _⟩
set_option maxRecDepth 100000 in
theorem name_tells (s : ByteArray) : Tells 35 s (nameB s) := by
  refine ⟨enters 35 Tryd.func35 (by kernel_rfl) rfl, fun w x => ?_⟩
  have K := Lib.hid (fun w => keyword_is w (textOf s x))
  unfold tokC tokL nameB
  rw [← dec_int]
  rw [show s.extract x.1 (x.1 + x.2.len) = textOf s x from rfl]
  generalize keyB (textOf s x) = kb at *
  generalize textOf s x = tx at *
  cases h1 : ((x.2.kind : Int) == ((1 : Nat) : Int)) with
  | false =>
    have h1 : ((x.2.kind : Int) == 1) = false := h1
    go_enter Tryd.func35, Tryd.ntmps35
    go_wp2_with fail
    go_ret
    exact ⟨rfl, (Turn.refl _ _).alloc _⟩
  | true =>
    have h1 : ((x.2.kind : Int) == 1) = true := h1
    go_enter Tryd.func35, Tryd.ntmps35
    go_wp2_with fail
    with_reducible refine (K.out _).mono ?_
    rintro y w1 ⟨rfl, rfl⟩
    go_wp2_with fail
    go_ret
    exact ⟨rfl, (Turn.refl _ _).alloc _⟩
end Go.Proofs.YtadogobdlcionaaDoor
