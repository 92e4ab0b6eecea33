/-
  A roll in memory; where an id is in it: contracts for the walks of the statements of layer 15.
-/
import Derived.BigQuiet
import Derived.Test.YtbpcocobimdcnaaBase
namespace Go.Proofs.Ytbpcocobimdcnaa
open Go.ChangeShapes Go.WideShapes Go.ChangeAt Go.RowKit
set_option linter.unusedVariables false

theorem rl_append_run {P : Program} {w w' : World} {ops : Array Oper} {rest : List Oper} {o : Oper} {a : Act} {Q : Exit → Act → World → Prop} (hgd : o.guard = none) (s x : Operand) (t : TypeId)
    (ho : o.op = .call { callee := .builtin .append, args := #[s, x], argTypes := #[t, t] }) {v v1 v2 : Value} (hs : a.eval s = v1) (hx : a.eval x = v2)
    (hr : (Builtin.append_ #[t, t] o.type #[v1, v2]).run P w = .ok v w') (h : wpList P ops Q rest (a.put o.dst v) w') : wpList P ops Q (o :: rest) a w :=
  wpList_plain hgd fun _ hK => by
    unfold Oper.wp execOp
    simp only [ho, resolve, invoke, builtin, Sem.run_bind, Sem.run_pure, Result.andThen_ok, List.map_toArray, List.map_cons, List.map_nil, hs, hx, hr]
    exact hK _ _ h
theorem rs_append_run {P : Program} {w w' : World} {ops : Array Oper} {o : Oper} {a : Act} {K : Act → World → Prop} {Q : Exit → Act → World → Prop} {E : Prop} (hgd : o.guard = none) (s x : Operand) (t : TypeId)
    (ho : o.op = .call { callee := .builtin .append, args := #[s, x], argTypes := #[t, t] }) {v v1 v2 : Value} (hs : a.eval s = v1) (hx : a.eval x = v2)
    (hr : (Builtin.append_ #[t, t] o.type #[v1, v2]).run P w = .ok v w') (h : K (a.put o.dst v) w') : if Region.wanted o (yielded ops a.tmps) = true then Oper.wp P o a w K Q else E := by
  have hw : Region.wanted o (yielded ops a.tmps) = true := by simp [Region.wanted, hgd]
  rw [if_pos hw]
  unfold Oper.wp execOp
  simp only [ho, resolve, invoke, builtin, Sem.run_bind, Sem.run_pure, Result.andThen_ok, List.map_toArray, List.map_cons, List.map_nil, hs, hx, hr]
  exact h
/-- An entry: its id, its end, its table's cells, and window. -/
structure EV where
  id : Int
  till : Int
  cs : Value
  win : Int
  o : Option Int
def EV.cells (e : EV) : List Value := [.int .i64 e.id, .int .i64 e.till, e.cs, .int .i64 e.win, .bool false]
def EV.tab (e : EV) : Value := .agg #[e.cs, .int .i64 e.win, .bool false]
def EV.val (e : EV) : Value := .agg #[.int .i64 e.id, .int .i64 e.till, e.cs, .int .i64 e.win, .bool false]
def ecells : List EV → List Value
  | [] => []
  | e :: l => e.cells ++ ecells l
theorem ecells_len : ∀ l : List EV, (ecells l).length = l.length * 5
  | [] => rfl
  | e :: l => by simp [ecells, EV.cells, ecells_len l]; omega
theorem ecells_app : ∀ (l m : List EV), ecells (l ++ m) = ecells l ++ ecells m
  | [], m => rfl
  | e :: l, m => by simp [ecells, ecells_app l m]
theorem ecells_at : ∀ (l : List EV) (k : Nat) (e : EV), l[k]? = some e → (ecells l)[k * 5]? = some (.int .i64 e.id) ∧ (ecells l)[k * 5 + 1]? = some (.int .i64 e.till) ∧ (ecells l)[k * 5 + 2]? = some e.cs ∧ (ecells l)[k * 5 + 3]? = some (.int .i64 e.win) ∧ (ecells l)[k * 5 + 4]? = some (.bool false)
  | [], k, e, h => by simp at h
  | q :: l, 0, e, h => by
    simp at h
    subst h
    exact ⟨rfl, rfl, rfl, rfl, rfl⟩
  | q :: l, k + 1, e, h => by
    have ih := ecells_at l k e (by simpa using h)
    have e1 : ∀ j, (ecells (q :: l))[(k + 1) * 5 + j]? = (ecells l)[k * 5 + j]? := fun j => by
      show (q.cells ++ ecells l)[(k + 1) * 5 + j]? = _
      rw [List.getElem?_append_right (by simp [EV.cells]; omega)]
      congr 1
      simp [EV.cells]
      omega
    have e0 := e1 0
    rw [Nat.add_zero, Nat.add_zero] at e0
    rw [e0, e1, e1, e1, e1]
    exact ih
/-- A row of entries. -/
structure ERow (w : World) (v : Value) (l : List EV) : Prop where
  own : w.ownsRow 0 48 5 v l.length (ecells l)
  lt : l.length ≤ 1000
/-- A roll: none, or a block with its row. -/
def RollAt (w : World) (p : Option Addr) (l : List EV) : Prop :=
  (p = none ∧ l = []) ∨ ∃ r v, p = some ⟨r, 0, none⟩ ∧ w.cell? ⟨r, 0, none⟩ = some v ∧ ERow w v l
theorem ERow.turn {w w' : World} {v : Value} {l : List EV} (h : ERow w v l) (t : Turn (fun _ => False) w w') : ERow w' v l := ⟨own_turn h.own t (fun _ _ => id), h.lt⟩
theorem RollAt.turn {w w' : World} {p : Option Addr} {l : List EV} (h : RollAt w p l) (t : Turn (fun _ => False) w w') : RollAt w' p l := by
  rcases h with h | ⟨r, v, h1, h2, h3⟩
  · exact .inl h
  · exact .inr ⟨r, v, h1, t.cell id h2, h3.turn t⟩
theorem RollAt.lt {w : World} {p : Option Addr} {l : List EV} (h : RollAt w p l) : l.length ≤ 1000 := by
  rcases h with ⟨_, rfl⟩ | ⟨_, _, _, _, h⟩
  · simp
  · exact h.lt
set_option maxRecDepth 100000 in
theorem row_is {w : World} {p : Option Addr} {l : List EV} (h : RollAt w p l) :
    Calls Try.prog 18 #[.pointer p] w fun e w' => ∃ v, e = .returned v ∧ ERow w v l ∧ w' = w := by
  rcases h with ⟨rfl, rfl⟩ | ⟨r, v, rfl, hc, hr⟩
  · go_enter Try.func18, Try.ntmps18
    go_wp2
    go_ret
    exact ⟨_, rfl, ⟨World.ownsRow_nil _ _ _ _, by simp⟩, rfl⟩
  · obtain ⟨a, c, rfl, _⟩ := own_slice hr.own
    have HR := Lib.hid hr
    clear hr
    go_enter Try.func18, Try.ntmps18
    go_wp2
    go_ret
    exact ⟨_, rfl, HR.out, rfl⟩
def cmpI (a b : Int) : Int := if a < b then -1 else if b < a then 1 else 0
theorem cmp_int (a b : Int) (w : World) : Calls Try.prog 31 #[.int .i64 a, .int .i64 b] w fun e w' => e = .returned (.int .i64 (cmpI a b)) ∧ w = w' := by
  have nan : ∀ (x : Int) w, Calls Try.prog 40 #[.int .i64 x] w fun e w' => e = .returned (.bool false) ∧ w = w' := fun x w => by
    have hx : (x != x) = false := by simp
    go_enter Try.func40, Try.ntmps40
    go_wp2
    go_ret
    exact ⟨rfl, rfl⟩
  have N := Lib.hid nan
  clear nan
  by_cases h : a < b
  · have t1 : decide (a < b) = true := by simpa using h
    rw [show cmpI a b = -1 by unfold cmpI; rw [if_pos h]]
    go_enter Try.func31, Try.ntmps31
    go_wp2_with fail
    refine (N.out _ _).mono ?_
    rintro e w1 ⟨rfl, rfl⟩
    go_wp2_with fail
    refine (N.out _ _).mono ?_
    rintro e w1 ⟨rfl, rfl⟩
    go_wp2
    go_ret
    exact ⟨rfl, rfl⟩
  · have t1 : decide (a < b) = false := by simpa using h
    by_cases h2 : b < a
    · have t2 : decide (b < a) = true := by simpa using h2
      rw [show cmpI a b = 1 by unfold cmpI; rw [if_neg h, if_pos h2]]
      go_enter Try.func31, Try.ntmps31
      go_wp2_with fail
      refine (N.out _ _).mono ?_
      rintro e w1 ⟨rfl, rfl⟩
      go_wp2_with fail
      refine (N.out _ _).mono ?_
      rintro e w1 ⟨rfl, rfl⟩
      go_wp2
      go_ret
      exact ⟨rfl, rfl⟩
    · have t2 : decide (b < a) = false := by simpa using h2
      rw [show cmpI a b = 0 by unfold cmpI; rw [if_neg h, if_neg h2]]
      go_enter Try.func31, Try.ntmps31
      go_wp2_with fail
      refine (N.out _ _).mono ?_
      rintro e w1 ⟨rfl, rfl⟩
      go_wp2_with fail
      refine (N.out _ _).mono ?_
      rintro e w1 ⟨rfl, rfl⟩
      go_wp2
      go_ret
      exact ⟨rfl, rfl⟩
set_option maxRecDepth 100000 in
/-- An entry held against an id. -/
theorem cmp_ent (e : EV) (id : Int) (w : World) : Calls Try.prog 30 #[e.val, .int .i64 id] w fun en w' => en = .returned (.int .i64 (cmpI e.id id)) ∧ Below w.heap.size w w' := by
  have C := Lib.hid cmp_int
  unfold EV.val
  go_enter Try.func30, Try.ntmps30
  go_wp2_with fail
  refine (C.out _ _ _).mono ?_
  rintro en w1 ⟨rfl, rfl⟩
  go_wp2
  go_ret
  exact ⟨rfl, (Below.refl _ _).alloc (Nat.le_refl _) _⟩
end Go.Proofs.Ytbpcocobimdcnaa
