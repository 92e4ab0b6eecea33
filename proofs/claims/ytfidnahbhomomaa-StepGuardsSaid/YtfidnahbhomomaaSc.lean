/-
  A table is right.
-/
import Derived.Test.YtfidnahbhomomaaSb
import Derived.Test.YtfidnahbhomomaaRa
namespace Go.Proofs.Ytfidnahbhomomaa
open Go.ChangeShapes Go.WideShapes Go.ChangeAt Go.RowKit
set_option linter.unusedVariables false
set_option linter.unusedSimpArgs false
structure Rul where
  op : Int
  left : List Cd
  right : List Cd
structure Grd where
  typ : Int
  rules : List Rul
/-- A cell of a table: its type, whether it is Plus, its rules, its guards. -/
structure Cel where
  typ : Int
  plus : Bool
  rules : List Rul
  nots : List Grd
structure Tab where
  cells : List Cel
  win : Int
  key : Bool
def Cd.cells (c : Cd) (s : ByteArray) : List Value := [.int .i64 c.op, .int .i64 c.n, .string s, .int .i64 c.fld, .int .i64 c.place]
def CodesAt (w : World) (v : Value) (l : List Cd) : Prop :=
  ∃ (a : Option Addr) (b off cap : Nat), v = .slice a l.length cap ∧ (l = [] ∨ a = some ⟨b, off, none⟩) ∧ ∀ (k : Nat) (c : Cd), l[k]? = some c → ∃ s : ByteArray, w.rangeAt b (off + k * 5) (c.cells s)
def RulesAt (w : World) (v : Value) (l : List Rul) : Prop :=
  ∃ (a : Option Addr) (b off cap : Nat), v = .slice a l.length cap ∧ (l = [] ∨ a = some ⟨b, off, none⟩) ∧ ∀ (k : Nat) (r : Rul), l[k]? = some r → ∃ lv rv, w.rangeAt b (off + k * 3) [.int .i64 r.op, lv, rv] ∧ CodesAt w lv r.left ∧ CodesAt w rv r.right
def GuardsAt (w : World) (v : Value) (l : List Grd) : Prop :=
  ∃ (a : Option Addr) (b off cap : Nat), v = .slice a l.length cap ∧ (l = [] ∨ a = some ⟨b, off, none⟩) ∧ ∀ (k : Nat) (g : Grd), l[k]? = some g → ∃ rv, w.rangeAt b (off + k * 2) [.int .i64 g.typ, rv] ∧ RulesAt w rv g.rules
def CellsAt (w : World) (v : Value) (l : List Cel) : Prop :=
  ∃ (b off cap : Nat), v = .slice (some ⟨b, off, none⟩) l.length cap ∧ ∀ (k : Nat) (c : Cel), l[k]? = some c → ∃ rv nv, w.rangeAt b (off + k * 4) [.int .i64 c.typ, .bool c.plus, rv, nv] ∧ RulesAt w rv c.rules ∧ GuardsAt w nv c.nots
theorem CodesAt.turn {w w' : World} {v : Value} {l : List Cd} (h : CodesAt w v l) (T : Turn (fun _ => False) w w') : CodesAt w' v l := by
  obtain ⟨a, b, off, cap, e, ha, hx⟩ := h
  exact ⟨a, b, off, cap, e, ha, fun k c hc => by
    obtain ⟨s, h1⟩ := hx k c hc
    exact ⟨s, range_turn h1 T id⟩⟩
theorem RulesAt.turn {w w' : World} {v : Value} {l : List Rul} (h : RulesAt w v l) (T : Turn (fun _ => False) w w') : RulesAt w' v l := by
  obtain ⟨a, b, off, cap, e, ha, hx⟩ := h
  exact ⟨a, b, off, cap, e, ha, fun k c hc => by
    obtain ⟨lv, rv, h1, h2, h3⟩ := hx k c hc
    exact ⟨lv, rv, range_turn h1 T id, h2.turn T, h3.turn T⟩⟩
theorem GuardsAt.turn {w w' : World} {v : Value} {l : List Grd} (h : GuardsAt w v l) (T : Turn (fun _ => False) w w') : GuardsAt w' v l := by
  obtain ⟨a, b, off, cap, e, ha, hx⟩ := h
  exact ⟨a, b, off, cap, e, ha, fun k g hg => by
    obtain ⟨rv, h1, h2⟩ := hx k g hg
    exact ⟨rv, range_turn h1 T id, h2.turn T⟩⟩
theorem CellsAt.turn {w w' : World} {v : Value} {l : List Cel} (h : CellsAt w v l) (T : Turn (fun _ => False) w w') : CellsAt w' v l := by
  obtain ⟨b, off, cap, e, hx⟩ := h
  exact ⟨b, off, cap, e, fun k c hc => by
    obtain ⟨rv, nv, h1, h2, h3⟩ := hx k c hc
    exact ⟨rv, nv, range_turn h1 T id, h2.turn T, h3.turn T⟩⟩
theorem RulesAt.sl {w : World} {v : Value} {l : List Rul} (h : RulesAt w v l) : ∃ a cap, v = .slice a l.length cap := by
  obtain ⟨a, b, off, cap, e, _⟩ := h
  exact ⟨a, cap, e⟩
theorem CodesAt.sl {w : World} {v : Value} {l : List Cd} (h : CodesAt w v l) : ∃ a cap, v = .slice a l.length cap := by
  obtain ⟨a, b, off, cap, e, _⟩ := h
  exact ⟨a, cap, e⟩
theorem GuardsAt.sl {w : World} {v : Value} {l : List Grd} (h : GuardsAt w v l) : ∃ a cap, v = .slice a l.length cap := by
  obtain ⟨a, b, off, cap, e, _⟩ := h
  exact ⟨a, cap, e⟩
theorem CellsAt.sl {w : World} {v : Value} {l : List Cel} (h : CellsAt w v l) : ∃ b off cap, v = .slice (some ⟨b, off, none⟩) l.length cap := by
  obtain ⟨b, off, cap, e, _⟩ := h
  exact ⟨b, off, cap, e⟩
theorem CellsAt.at {w : World} {b off n cap : Nat} {l : List Cel} (h : CellsAt w (.slice (some ⟨b, off, none⟩) n cap) l) {k : Nat} {c : Cel} (hc : l[k]? = some c) : ∃ rv nv, w.rangeAt b (off + k * 4) [.int .i64 c.typ, .bool c.plus, rv, nv] ∧ RulesAt w rv c.rules ∧ GuardsAt w nv c.nots := by
  obtain ⟨b', off', cap', e, hx⟩ := h
  have e2 : b = b' ∧ off = off' := by injection e with z1 z2 z3; injection z1 with z1; injection z1 with z1 z4; exact ⟨z1, z4⟩
  obtain ⟨rfl, rfl⟩ := e2
  exact hx k c hc
/-- Rules whose codes name what there is. -/
def CodesOk (P : Int → Prop) (l : List Cd) : Prop := l.length ≤ 100 ∧ ∀ c ∈ l, (c.op = 8 ∨ c.op = 7) → P c.place
def RulesOk (P : Int → Prop) (l : List Rul) : Prop := l.length ≤ 100 ∧ ∀ r ∈ l, (1 ≤ r.op ∧ r.op ≤ 6) ∧ CodesOk P r.left ∧ CodesOk P r.right
def upP (k : Nat) (p : Int) : Prop := 0 ≤ p ∧ p ≤ (k : Int)
def orP (k n : Nat) (p : Int) : Prop := upP k p ∨ p = (n : Int)
/-- A table that is as it should be. -/
structure Tab.ok (T : Tab) : Prop where
  n1 : 1 ≤ T.cells.length
  n6 : T.cells.length ≤ 6
  w1 : 1 ≤ T.win
  w8 : T.win ≤ 8
  last : ∀ c, T.cells[T.cells.length - 1]? = some c → c.nots = []
  typ : ∀ c ∈ T.cells, 0 ≤ c.typ ∧ c.typ < 8
  nots : ∀ c ∈ T.cells, c.nots.length ≤ 100 ∧ ∀ g ∈ c.nots, 0 ≤ g.typ ∧ g.typ < 8
  rul : ∀ (k : Nat) (c : Cel), T.cells[k]? = some c → RulesOk (upP k) c.rules
  grd : ∀ (k : Nat) (c : Cel) (g : Grd), T.cells[k]? = some c → g ∈ c.nots → RulesOk (orP k T.cells.length) g.rules
theorem typed_is (x : Int) (h : 0 ≤ x ∧ x < 8) (w : World) : Calls Try.prog 51 #[.int .i64 x] w fun e w' => e = .returned (.bool true) ∧ w = w' := by
  have t1 : decide ((0 : Int) ≤ x) = true := decide_eq_true h.1
  have t2 : decide (x < 8) = true := decide_eq_true h.2
  go_enter Try.func51, Try.ntmps51
  go_wp2
  go_ret
  exact ⟨rfl, rfl⟩
def RgRel (w : World) (n gh : Nat) (v42 : Value) (wr : World) : Prop := ∃ k : Nat, v42 = .int .i64 (k : Int) ∧ k ≤ n ∧ gh = n - k ∧ Turn (fun _ => False) w wr
theorem wrapR {k n : Nat} (h : k < n) (hn : n ≤ 100) : wrap64 ((k : Int) + 1) = (k : Int) + 1 := by unfold wrap64; omega
theorem names_is (c : Cd) (s : ByteArray) (w : World) : Calls Try.prog 67 #[.agg (c.cells s).toArray] w fun e w' => e = .returned (.bool (c.op == 8 || c.op == 7)) ∧ Turn (fun _ => False) w w' := by
  obtain ⟨op, n, fld, place⟩ := c
  unfold Cd.cells
  dsimp only
  have x0 := range_new w [.int .i64 op, .int .i64 n, .string s, .int .i64 fld, .int .i64 place] 65 0 _ rfl
  rw [Nat.zero_add] at x0
  have TT := Lib.hid (show Turn (fun _ => False) w (w.alloc (.cells #[.int .i64 op, .int .i64 n, .string s, .int .i64 fld, .int .i64 place] 65)) from (Turn.refl _ w).alloc _)
  by_cases h8 : op = 8
  · subst h8
    go_enter Try.func67, Try.ntmps67
    go_wp2
    go_ret
    exact ⟨rfl, TT.out⟩
  · have e8 : (op == 8) = false := beq_eq_false_iff_ne.2 h8
    clear h8
    go_enter Try.func67, Try.ntmps67
    go_wp2
    go_ret
    refine ⟨?_, TT.out⟩
    rw [e8]
    rfl
/-- Up to a place. -/
theorem upto_is {w : World} {kb k : Nat} (hc : w.cell? ⟨kb, 0, none⟩ = some (.int .i64 (k : Int))) {p : Int} (hp : upP k p) : Calls Try.prog 50 #[.int .i64 p, .pointer (some ⟨kb, 0, none⟩)] w fun e w' => e = .returned (.bool true) ∧ w = w' := by
  have t1 : decide ((0 : Int) ≤ p) = true := decide_eq_true hp.1
  have t2 : decide (p ≤ (k : Int)) = true := decide_eq_true hp.2
  clear hp
  go_enter Try.func50, Try.ntmps50
  go_wp2
  go_ret
  exact ⟨rfl, rfl⟩
theorem upto_any {w : World} {kb k : Nat} (hc : w.cell? ⟨kb, 0, none⟩ = some (.int .i64 (k : Int))) (p : Int) : Calls Try.prog 50 #[.int .i64 p, .pointer (some ⟨kb, 0, none⟩)] w fun e w' => e = .returned (.bool (decide (0 ≤ p) && decide (p ≤ (k : Int)))) ∧ w = w' := by
  by_cases h1 : (0 : Int) ≤ p
  · have t1 : decide ((0 : Int) ≤ p) = true := decide_eq_true h1
    clear h1
    go_enter Try.func50, Try.ntmps50
    go_wp2
    go_ret
    refine ⟨?_, rfl⟩
    rw [t1]
    rfl
  · have t1 : decide ((0 : Int) ≤ p) = false := decide_eq_false h1
    clear h1
    go_enter Try.func50, Try.ntmps50
    go_wp2
    go_ret
    refine ⟨?_, rfl⟩
    rw [t1]
    rfl
theorem orto_is {w : World} {kb k fb nb n : Nat} (hc : w.cell? ⟨kb, 0, none⟩ = some (.int .i64 (k : Int))) (hf : w.cell? ⟨fb, 0, none⟩ = some (.func (.func 50) #[] #[.pointer (some ⟨kb, 0, none⟩)])) (hn : w.cell? ⟨nb, 0, none⟩ = some (.int .i64 (n : Int))) {p : Int} (hp : orP k n p) :
    Calls Try.prog 53 #[.int .i64 p, .pointer (some ⟨fb, 0, none⟩), .pointer (some ⟨nb, 0, none⟩)] w fun e w' => e = .returned (.bool true) ∧ w = w' := by
  have UP := Lib.hid (upto_any hc p)
  by_cases h1 : (decide ((0 : Int) ≤ p) && decide (p ≤ (k : Int))) = true
  · rw [h1] at UP
    clear hp h1 hc
    go_enter Try.func53, Try.ntmps53
    go_wp2_with fail
    with_reducible refine UP.out.mono ?_
    rintro en W1 ⟨rfl, rfl⟩
    go_wp2_with fail
    go_ret
    exact ⟨rfl, rfl⟩
  · have h2 := Bool.eq_false_iff.2 h1
    rw [h2] at UP
    have hpn : p = (n : Int) := hp.resolve_left (fun q => h1 (by rw [decide_eq_true q.1, decide_eq_true q.2]; rfl))
    subst hpn
    have tq : ((n : Int) == (n : Int)) = true := beq_self_eq_true _
    clear hp h1 hc h2
    go_enter Try.func53, Try.ntmps53
    go_wp2_with fail
    with_reducible refine UP.out.mono ?_
    rintro en W1 ⟨rfl, rfl⟩
    go_wp2_with fail
    go_ret
    exact ⟨rfl, rfl⟩
end Go.Proofs.Ytfidnahbhomomaa
