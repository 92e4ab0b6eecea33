/-
  Rows of matches, in order, that become one: which row is first.
-/
import Derived.Deep.RegionHeld3
import Derived.BigQuiet
import Derived.Test.YtepmealhnnoahaaQy
namespace Go.Proofs.Ytepmealhnnoahaa
open Go.ChangeShapes Go.WideShapes Go.ChangeAt Go.RowKit
set_option linter.unusedVariables false
/-- A match with its query, as it lies in memory. -/
structure Ht where
  id : Int
  sa : Option Addr
  sn : Nat
  sc : Nat
  ra : Option Addr
  rn : Nat
  rc : Nat
  f : Fnd
def Ht.cells (h : Ht) : List Value := [.int .i64 h.id, .slice h.sa h.sn h.sc, .slice h.ra h.rn h.rc]
def Ht.val (h : Ht) : Value := .agg #[.int .i64 h.id, .slice h.sa h.sn h.sc, .slice h.ra h.rn h.rc]
def ltH (a b : Ht) : Bool := decide (a.id < b.id)
def RowAt (w : World) (v : Value) (l : List Ht) : Prop :=
  ∃ (a : Option Addr) (b off cap : Nat), v = .slice a l.length cap ∧ l.length ≤ cap ∧ (l = [] ∨ (a = some ⟨b, off, none⟩ ∧ Blk w b 73)) ∧ ∀ (j : Nat) (x : Ht), l[j]? = some x → w.rangeAt b (off + j * 3) x.cells
def RowsAt (w : World) (v : Value) (L : List (List Ht)) : Prop :=
  ∃ (a : Option Addr) (b off cap : Nat), v = .slice a L.length cap ∧ (L = [] ∨ a = some ⟨b, off, none⟩) ∧ ∀ (k : Nat) (l : List Ht), L[k]? = some l → ∃ r, w.cell? ⟨b, off + k, none⟩ = some r ∧ RowAt w r l
theorem RowAt.turn {w w' : World} {v : Value} {l : List Ht} (h : RowAt w v l) (t : Turn (fun _ => False) w w') : RowAt w' v l := by
  obtain ⟨a, b, off, cap, e, hc, ha, hx⟩ := h
  exact ⟨a, b, off, cap, e, hc, ha.imp id (fun q => ⟨q.1, q.2.turn t id⟩), fun j x hj => range_turn (hx j x hj) t id⟩
theorem RowsAt.turn {w w' : World} {v : Value} {L : List (List Ht)} (h : RowsAt w v L) (t : Turn (fun _ => False) w w') : RowsAt w' v L := by
  obtain ⟨a, b, off, cap, e, ha, hx⟩ := h
  exact ⟨a, b, off, cap, e, ha, fun k l hl => by
    obtain ⟨r, hc, hr⟩ := hx k l hl
    exact ⟨r, t.cell id hc, hr.turn t⟩⟩
theorem less_h (x y : Ht) (w : World) : Calls Try.prog 38 #[x.val, y.val] w fun e w' => e = .returned (.bool (ltH x y)) ∧ Turn (fun _ => False) w w' := less_is w _ _ _ _ _ _ _ _ _ _ _ _ _ _
theorem size73 : (Try.prog.info? 73).map (·.size) = some 3 := by kernel_rfl
def okB (lt : Ht → Ht → Bool) (L : List (List Ht)) (at_ : Nat) (y : Ht) (j : Nat) : Bool := j == at_ || match L[j]? with
  | some (x :: _) => !lt x y
  | _ => true
def leastB (lt : Ht → Ht → Bool) (L : List (List Ht)) (at_ : Nat) (y : Ht) : Bool := (List.range L.length).all (okB lt L at_ y)
theorem all_succ (f : Nat → Bool) (k : Nat) : (List.range (k + 1)).all f = ((List.range k).all f && f k) := by
  rw [List.range_succ, List.all_append]
  simp
def LeastRel (L : List (List Ht)) (at_ : Nat) (y : Ht) (w : World) (gh : Nat) (v : Value) (wr : World) : Prop :=
  ∃ k : Nat, v = .int .i64 (k : Int) ∧ k ≤ L.length ∧ gh = L.length - k ∧ (List.range k).all (okB ltH L at_ y) = true ∧ Turn (fun _ => False) w wr
set_option maxRecDepth 100000 in
set_option maxHeartbeats 4000000 in
theorem least_is {w : World} {v : Value} {L : List (List Ht)} (h : RowsAt w v L) (hL : L.length ≤ 1000000) {at_ : Nat} {y : Ht} {ly : List Ht} (ha : L[at_]? = some (y :: ly)) :
    Calls Try.prog 49 #[v, .int .i64 (at_ : Int), .func (.func 38) #[] #[]] w fun e w' => e = .returned (.bool (leastB ltH L at_ y)) ∧ Turn (fun _ => False) w w' := by
  have hal := (List.getElem?_eq_some_iff.1 ha).1
  obtain ⟨av, b, off, cap, rfl, e0, hx⟩ := h
  obtain rfl := e0.resolve_left (fun e => by rw [e] at hal; simp at hal)
  obtain ⟨r, z, hr⟩ := hx at_ _ ha
  have HX := Lib.hid (And.intro hx ha)
  obtain ⟨p1, pb, po, p4, rfl, hcap, q0, q1⟩ := hr
  obtain ⟨rfl, -⟩ := q0.resolve_left (fun e => by cases e)
  have zy := q1 0 y rfl
  rw [Nat.zero_mul, Nat.add_zero] at zy
  have Z := Lib.hid (And.intro z zy)
  have R0 : LeastRel L at_ y w L.length (.int .i64 0) w := ⟨0, rfl, Nat.zero_le _, rfl, rfl, Turn.refl _ _⟩
  have hal1 : (at_ : Int) < (L.length : Int) := by omega
  have hal0 : (0 : Int) ≤ (at_ : Int) := by omega
  clear e0 hx ha q0 q1 z zy
  simp only [List.length_cons] at hcap ⊢
  go_enter Try.func49, Try.ntmps49
  go_wp2_with fail
  go_loopg [11] L.length (fun gh v wr => LeastRel L at_ y w gh v wr)
  case atStart => exact R0
  case round =>
    clear R0
    obtain ⟨k, rfl, hk, hg, hok, hw⟩ := hrel
    by_cases hkl : k < L.length
    · obtain ⟨l, hl⟩ : ∃ l, L[k]? = some l := ⟨_, List.getElem?_eq_getElem hkl⟩
      obtain ⟨r, y1, hr⟩ := HX.out.1 k l hl
      obtain ⟨c1, cb, co, c4, rfl, _, f0, f1⟩ := hr
      have x1 : wr.cell? ⟨b, off + k, none⟩ = some (.slice c1 l.length c4) := hw.cell id y1
      have x2 : wr.cell? ⟨b, off + at_, none⟩ = some (.slice (some ⟨pb, po, none⟩) (ly.length + 1) p4) := hw.cell id Z.out.1
      have x3 := range_turn Z.out.2 hw id
      have t1 : decide ((k : Int) < (L.length : Int)) = true := by simp; omega
      have hk1 : (k : Int) < (L.length : Int) := by omega
      have hk0 : (0 : Int) ≤ (k : Int) := by omega
      have hs := all_succ (okB ltH L at_ y) k
      rw [hok, Bool.true_and] at hs
      have W := Lib.hid (And.intro hw (And.intro hg hs))
      by_cases hka : k = at_
      · have tk : ((k : Int) != (at_ : Int)) = false := by simp; omega
        have hb : okB ltH L at_ y k = true := by unfold okB; simp [hka]
        have hb := Lib.hid hb
        clear hw hg hs hok hl y1 f0 f1 x3
        go_wp2_with fail
        go_quiet (fail)
        go_wp2_with fail
        go_roundg (L.length - (k + 1))
        case measure => have := W.out.2.1; omega
        case rel => exact ⟨k + 1, by go_num, by omega, rfl, by rw [W.out.2.2, hb.out], W.out.1.trans ((Turn.refl _ wr).drewN _)⟩
      · have tk : ((k : Int) != (at_ : Int)) = true := by simp; omega
        cases l with
        | nil =>
          have hb : okB ltH L at_ y k = true := by unfold okB; rw [hl]; simp
          have hb := Lib.hid hb
          have tl : decide ((0 : Int) < ((([] : List Ht).length : Nat) : Int)) = false := by simp
          simp only [List.length_nil] at x1 tl
          clear hw hg hs hok hl y1 f0 f1 x3
          go_wp2_with fail
          go_quiet (fail)
          go_wp2_with fail
          go_roundg (L.length - (k + 1))
          case measure => have := W.out.2.1; omega
          case rel => exact ⟨k + 1, by go_num, by omega, rfl, by rw [W.out.2.2, hb.out], W.out.1.trans ((Turn.refl _ wr).drewN _)⟩
        | cons x l =>
          obtain ⟨rfl, -⟩ := f0.resolve_left (fun e => by cases e)
          have x4 := range_turn (f1 0 x rfl) hw id
          rw [Nat.zero_mul, Nat.add_zero] at x4
          have tl : decide ((0 : Int) < (((l.length + 1 : Nat) : Nat) : Int)) = true := decide_eq_true (by omega)
          have tl2 : (0 : Int) < (((l.length + 1 : Nat) : Nat) : Int) := by omega
          have hb : okB ltH L at_ y k = !ltH x y := by unfold okB; rw [hl]; simp [hka]
          have Q := Lib.hid (less_h x y)
          simp only [List.length_cons] at x1
          clear hw hg hs hok hl y1 f1 f0
          go_upto_region 4 with fail
          have T1 : Turn (fun _ => False) wr wr.drew := (Turn.refl _ wr).drewN 1
          have KS := Lib.hid (show ∀ w1, Turn (fun _ => False) wr w1 → w1.cell? ⟨b, off + at_, none⟩ = some (.slice (some ⟨pb, po, none⟩) (ly.length + 1) p4) ∧ w1.rangeAt pb po y.cells ∧ w1.rangeAt cb co x.cells from fun w1 T => ⟨T.cell id x2, range_turn x3 T id, range_turn x4 T id⟩)
          clear x3 x4 x2
          refine wp_region_held_drew (S := (fun w' => w'.cell? ⟨b, off + at_, none⟩ = some (.slice (some ⟨pb, po, none⟩) (ly.length + 1) p4) ∧ w'.rangeAt pb po y.cells ∧ w'.rangeAt cb co x.cells)) (by kernel_rfl) ?hs0 (fun hS0 => ?_)
          case hs0 => ((try dsimp only); first | exact KS.out _ T1 | exact KS.out _ T2)
          refine wpAnyH_take (i := 0) (oi := { dst := some 16, op := Op.move (Operand.tmp 7), type := 3, pos := "tuple.go:64", after := #[], guard := none }) (v := ?_) rfl (by kernel_rfl) (by kernel_rfl) (by kernel_rfl) (fun _ _ _ h => h) (Or.inl ⟨by rfl, ?hy1⟩) hS0 ?_
          case hy1 => (intro w hSw; (try dsimp only at hSw); go_simp; try with_reducible rfl)
          try simp only [Act.put, List.setIfInBounds_toArray, List.set_cons_zero, List.set_cons_succ]
          refine wpAnyH_take (i := 1) (oi := { dst := some 17, op := Op.move (Operand.tmp 1), type := 3, pos := "tuple.go:64", after := #[], guard := none }) (v := ?_) rfl (by kernel_rfl) (by kernel_rfl) (by kernel_rfl) (fun _ _ _ h => h) (Or.inl ⟨by rfl, ?hy2⟩) hS0 ?_
          case hy2 => (intro w hSw; (try dsimp only at hSw); go_simp; try with_reducible rfl)
          try simp only [Act.put, List.setIfInBounds_toArray, List.set_cons_zero, List.set_cons_succ]
          refine wpAnyH_take (i := 2) (oi := { dst := some 18, op := Op.binOp BinOp.neq 3 (Operand.tmp 16) (Operand.tmp 17) 3, type := 4, pos := "tuple.go:64", after := #[{ on := 0, ground := Ground.data }, { on := 1, ground := Ground.data }], guard := none }) (v := ?_) rfl (by kernel_rfl) (by kernel_rfl) (by kernel_rfl) (fun _ _ _ h => h) (Or.inl ⟨by rfl, ?hy3⟩) hS0 ?_
          case hy3 => (intro w hSw; (try dsimp only at hSw); go_simp; try with_reducible rfl)
          try simp only [Act.put, List.setIfInBounds_toArray, List.set_cons_zero, List.set_cons_succ]
          refine wpAnyH_take (i := 3) (oi := { dst := some 19, op := Op.move (Operand.tmp 18), type := 4, pos := "tuple.go:64", after := #[{ on := 2, ground := Ground.data }], guard := none }) (v := ?_) rfl (by kernel_rfl) (by kernel_rfl) (by kernel_rfl) (fun _ _ _ h => h) (Or.inl ⟨by rfl, ?hy4⟩) hS0 ?_
          case hy4 => (intro w hSw; (try dsimp only at hSw); go_simp; try with_reducible rfl)
          try simp only [Act.put, List.setIfInBounds_toArray, List.set_cons_zero, List.set_cons_succ]
          refine wpAnyH_take (i := 4) (oi := { dst := some 20, op := Op.move (Operand.tmp 8), type := 66, pos := "tuple.go:64", after := #[{ on := 3, ground := Ground.guard }], guard := some (3, true) }) (v := ?_) rfl (by kernel_rfl) (by kernel_rfl) (by kernel_rfl) (fun _ _ _ h => h) (Or.inl ⟨by rfl, ?hy5⟩) hS0 ?_
          case hy5 => (intro w hSw; (try dsimp only at hSw); go_simp; try with_reducible rfl)
          try simp only [Act.put, List.setIfInBounds_toArray, List.set_cons_zero, List.set_cons_succ]
          refine wpAnyH_take (i := 5) (oi := { dst := some 21, op := Op.call { callee := Callee.builtin Builtin.len, args := #[Operand.tmp 20], argTypes := #[66] }, type := 3, pos := "tuple.go:64", after := #[{ on := 4, ground := Ground.data }, { on := 3, ground := Ground.guard }], guard := some (3, true) }) (v := ?_) rfl (by kernel_rfl) (by kernel_rfl) (by kernel_rfl) (fun _ _ _ h => h) (Or.inl ⟨by rfl, ?hy6⟩) hS0 ?_
          case hy6 => (intro w hSw; (try dsimp only at hSw); go_simp; try with_reducible rfl)
          try simp only [Act.put, List.setIfInBounds_toArray, List.set_cons_zero, List.set_cons_succ]
          refine wpAnyH_take (i := 6) (oi := { dst := some 22, op := Op.binOp BinOp.gtr 3 (Operand.tmp 21) (Operand.const (Value.int IntKind.i64 0)) 3, type := 4, pos := "tuple.go:64", after := #[{ on := 5, ground := Ground.data }, { on := 3, ground := Ground.guard }], guard := some (3, true) }) (v := ?_) rfl (by kernel_rfl) (by kernel_rfl) (by kernel_rfl) (fun _ _ _ h => h) (Or.inl ⟨by rfl, ?hy7⟩) hS0 ?_
          case hy7 => (intro w hSw; (try dsimp only at hSw); go_simp; try with_reducible rfl)
          try simp only [Act.put, List.setIfInBounds_toArray, List.set_cons_zero, List.set_cons_succ]
          refine wpAnyH_take (i := 7) (oi := { dst := some 23, op := Op.pick (Operand.tmp 19) (Operand.tmp 22) (Operand.const (Value.bool false)), type := 4, pos := "tuple.go:64", after := #[{ on := 3, ground := Ground.data }, { on := 6, ground := Ground.data }], guard := none }) (v := ?_) rfl (by kernel_rfl) (by kernel_rfl) (by kernel_rfl) (fun _ _ _ h => h) (Or.inl ⟨by rfl, ?hy8⟩) hS0 ?_
          case hy8 => (intro w hSw; (try dsimp only at hSw); go_simp; try with_reducible rfl)
          try simp only [Act.put, List.setIfInBounds_toArray, List.set_cons_zero, List.set_cons_succ]
          refine wpAnyH_take (i := 8) (oi := { dst := some 24, op := Op.move (Operand.tmp 23), type := 4, pos := "tuple.go:64", after := #[{ on := 7, ground := Ground.data }, { on := 3, ground := Ground.chain }], guard := none }) (v := ?_) rfl (by kernel_rfl) (by kernel_rfl) (by kernel_rfl) (fun _ _ _ h => h) (Or.inl ⟨by rfl, ?hy9⟩) hS0 ?_
          case hy9 => (intro w hSw; (try dsimp only at hSw); go_simp; try with_reducible rfl)
          try simp only [Act.put, List.setIfInBounds_toArray, List.set_cons_zero, List.set_cons_succ]
          refine wpAnyH_take (i := 9) (oi := { dst := some 25, op := Op.move (Operand.tmp 2), type := 101, pos := "tuple.go:64", after := #[{ on := 8, ground := Ground.guard }], guard := some (8, true) }) (v := ?_) rfl (by kernel_rfl) (by kernel_rfl) (by kernel_rfl) (fun _ _ _ h => h) (Or.inl ⟨by rfl, ?hy10⟩) hS0 ?_
          case hy10 => (intro w hSw; (try dsimp only at hSw); go_simp; try with_reducible rfl)
          try simp only [Act.put, List.setIfInBounds_toArray, List.set_cons_zero, List.set_cons_succ]
          refine wpAnyH_take (i := 10) (oi := { dst := some 26, op := Op.move (Operand.tmp 8), type := 66, pos := "tuple.go:64", after := #[{ on := 8, ground := Ground.guard }], guard := some (8, true) }) (v := ?_) rfl (by kernel_rfl) (by kernel_rfl) (by kernel_rfl) (fun _ _ _ h => h) (Or.inl ⟨by rfl, ?hy11⟩) hS0 ?_
          case hy11 => (intro w hSw; (try dsimp only at hSw); go_simp; try with_reducible rfl)
          try simp only [Act.put, List.setIfInBounds_toArray, List.set_cons_zero, List.set_cons_succ]
          refine wpAnyH_take (i := 11) (oi := { dst := some 27, op := Op.indexAddr 66 (Operand.tmp 26) (Operand.const (Value.int IntKind.i64 0)), type := 0, pos := "tuple.go:64", after := #[{ on := 10, ground := Ground.data }, { on := 8, ground := Ground.guard }], guard := some (8, true) }) (v := ?_) rfl (by kernel_rfl) (by kernel_rfl) (by kernel_rfl) (fun _ _ _ h => h) (Or.inl ⟨by rfl, ?hy12⟩) hS0 ?_
          case hy12 => (intro w hSw; (try dsimp only at hSw); go_simp; try with_reducible rfl)
          try simp only [Act.put, List.setIfInBounds_toArray, List.set_cons_zero, List.set_cons_succ]
          refine wpAnyH_take (i := 12) (oi := { dst := some 28, op := Op.load 73 (Operand.tmp 27), type := 73, pos := "tuple.go:64", after := #[{ on := 11, ground := Ground.data }, { on := 8, ground := Ground.guard }], guard := some (8, true) }) (v := x.val) rfl (by kernel_rfl) (by kernel_rfl) (by kernel_rfl) (fun _ _ _ h => h) (yieldsIf_load_mid rfl 73 _ rfl cb co rfl x.cells _ (fun _ hSw => hSw.2.2) Try.underlying73 rfl size73) hS0 ?_
          try simp only [Act.put, List.setIfInBounds_toArray, List.set_cons_zero, List.set_cons_succ]
          refine wpAnyH_take (i := 13) (oi := { dst := some 29, op := Op.move (Operand.tmp 0), type := 107, pos := "tuple.go:64", after := #[{ on := 8, ground := Ground.guard }], guard := some (8, true) }) (v := ?_) rfl (by kernel_rfl) (by kernel_rfl) (by kernel_rfl) (fun _ _ _ h => h) (Or.inl ⟨by rfl, ?hy14⟩) hS0 ?_
          case hy14 => (intro w hSw; (try dsimp only at hSw); go_simp; try with_reducible rfl)
          try simp only [Act.put, List.setIfInBounds_toArray, List.set_cons_zero, List.set_cons_succ]
          refine wpAnyH_take (i := 14) (oi := { dst := some 30, op := Op.move (Operand.tmp 1), type := 3, pos := "tuple.go:64", after := #[{ on := 8, ground := Ground.guard }], guard := some (8, true) }) (v := ?_) rfl (by kernel_rfl) (by kernel_rfl) (by kernel_rfl) (fun _ _ _ h => h) (Or.inl ⟨by rfl, ?hy15⟩) hS0 ?_
          case hy15 => (intro w hSw; (try dsimp only at hSw); go_simp; try with_reducible rfl)
          try simp only [Act.put, List.setIfInBounds_toArray, List.set_cons_zero, List.set_cons_succ]
          refine wpAnyH_take (i := 15) (oi := { dst := some 31, op := Op.indexAddr 107 (Operand.tmp 29) (Operand.tmp 30), type := 0, pos := "tuple.go:64", after := #[{ on := 13, ground := Ground.data }, { on := 14, ground := Ground.data }, { on := 8, ground := Ground.guard }], guard := some (8, true) }) (v := ?_) rfl (by kernel_rfl) (by kernel_rfl) (by kernel_rfl) (fun _ _ _ h => h) (Or.inl ⟨by rfl, ?hy16⟩) hS0 ?_
          case hy16 => (intro w hSw; (try dsimp only at hSw); go_simp; try with_reducible rfl)
          try simp only [Act.put, List.setIfInBounds_toArray, List.set_cons_zero, List.set_cons_succ]
          refine wpAnyH_take (i := 16) (oi := { dst := some 32, op := Op.load 66 (Operand.tmp 31), type := 66, pos := "tuple.go:64", after := #[{ on := 15, ground := Ground.data }, { on := 8, ground := Ground.guard }], guard := some (8, true) }) (v := ?_) rfl (by kernel_rfl) (by kernel_rfl) (by kernel_rfl) (fun _ _ _ h => h) (Or.inl ⟨by rfl, ?hy17⟩) hS0 ?_
          case hy17 => (intro w hSw; (try dsimp only at hSw); go_simp; try with_reducible rfl)
          try simp only [Act.put, List.setIfInBounds_toArray, List.set_cons_zero, List.set_cons_succ]
          refine wpAnyH_take (i := 17) (oi := { dst := some 33, op := Op.indexAddr 66 (Operand.tmp 32) (Operand.const (Value.int IntKind.i64 0)), type := 0, pos := "tuple.go:64", after := #[{ on := 16, ground := Ground.data }, { on := 8, ground := Ground.guard }], guard := some (8, true) }) (v := ?_) rfl (by kernel_rfl) (by kernel_rfl) (by kernel_rfl) (fun _ _ _ h => h) (Or.inl ⟨by rfl, ?hy18⟩) hS0 ?_
          case hy18 => (intro w hSw; (try dsimp only at hSw); go_simp; try with_reducible rfl)
          try simp only [Act.put, List.setIfInBounds_toArray, List.set_cons_zero, List.set_cons_succ]
          refine wpAnyH_take (i := 18) (oi := { dst := some 34, op := Op.load 73 (Operand.tmp 33), type := 73, pos := "tuple.go:64", after := #[{ on := 17, ground := Ground.data }, { on := 8, ground := Ground.guard }], guard := some (8, true) }) (v := y.val) rfl (by kernel_rfl) (by kernel_rfl) (by kernel_rfl) (fun _ _ _ h => h) (yieldsIf_load_mid rfl 73 _ rfl pb po rfl y.cells _ (fun _ hSw => hSw.2.1) Try.underlying73 rfl size73) hS0 ?_
          try simp only [Act.put, List.setIfInBounds_toArray, List.set_cons_zero, List.set_cons_succ]
          refine wpAnyH_ready (rs := [19]) (by kernel_rfl) (by simp) ?_
          refine AllReadyH.cons (o := { dst := some 35, op := Op.call { callee := Callee.value (Operand.tmp 25), args := #[Operand.tmp 28, Operand.tmp 34], argTypes := #[73, 73] }, type := 4, pos := "tuple.go:64", after := #[{ on := 9, ground := Ground.data }, { on := 12, ground := Ground.data }, { on := 18, ground := Ground.data }, { on := 8, ground := Ground.chain }, { on := 8, ground := Ground.guard }], guard := some (8, true) }) rfl (fun K hK => ?_) ?_
          · go_simp; with_reducible refine (Q.out _).mono ?_; rintro en W5 ⟨rfl, T15⟩; have T2 := T1.trans T15; go_simp
            refine hK.out _ _ ?hs20 (fun hS20 => ?_)
            case hs20 => ((try dsimp only); first | exact KS.out _ T1 | exact KS.out _ T2)
            clear hK K hS0
            refine wpAnyH_take (i := 20) (oi := { dst := some 36, op := Op.pick (Operand.tmp 24) (Operand.tmp 35) (Operand.const (Value.bool false)), type := 4, pos := "tuple.go:64", after := #[{ on := 8, ground := Ground.data }, { on := 19, ground := Ground.data }], guard := none }) (v := ?_) rfl (by kernel_rfl) (by kernel_rfl) (by kernel_rfl) (fun _ _ _ h => h) (Or.inl ⟨by rfl, ?hy21⟩) hS20 ?_
            case hy21 => (intro w hSw; (try dsimp only at hSw); go_simp; try with_reducible rfl)
            try simp only [Act.put, List.setIfInBounds_toArray, List.set_cons_zero, List.set_cons_succ]
            refine wpAnyH_done (by kernel_rfl) ?_ _
            cases hlt : ltH x y with
            | false =>
              rw [hlt] at hb
              have hb := Lib.hid (show okB ltH L at_ y k = true from hb)
              go_wp2_with fail
              go_roundg (L.length - (k + 1))
              case measure => have := W.out.2.1; omega
              case rel => exact ⟨k + 1, by go_num, by omega, rfl, by rw [W.out.2.2, hb.out], W.out.1.trans T2⟩
            | true =>
              rw [hlt] at hb
              have hb := Lib.hid (show okB ltH L at_ y k = false from hb)
              have FB := Lib.hid (show leastB ltH L at_ y = false from by
                unfold leastB
                rw [List.all_eq_false]
                exact ⟨k, by simp; omega, by rw [hb.out]; decide⟩)
              go_wp2
              go_ret
              exact ⟨by rw [FB.out]; rfl, W.out.1.trans T2⟩
            
          exact AllReadyH.nil
    · have t1 : decide ((k : Int) < (L.length : Int)) = false := by simp; omega
      have hkL : k = L.length := by omega
      have FB := Lib.hid (show leastB ltH L at_ y = true ∧ Turn (fun _ => False) w wr from ⟨by
        unfold leastB
        rw [← hkL]
        exact hok, hw⟩)
      clear hok hw hkL
      go_wp2
      go_ret
      exact ⟨by rw [FB.out.1]; rfl, FB.out.2⟩
end Go.Proofs.Ytepmealhnnoahaa
