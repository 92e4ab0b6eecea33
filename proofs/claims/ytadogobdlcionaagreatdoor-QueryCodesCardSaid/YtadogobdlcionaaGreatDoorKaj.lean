/-
  What Parse does behind its parser: a stop that is recovered.
-/
import Derived.Test.YtadogobdlcionaaGreatDoorKai
import Derived.Defers
import Derived.Recover
set_option linter.unusedSimpArgs false
namespace Go.Proofs.YtadogobdlcionaaGreatDoor
open Go.ChangeShapes Go.WideShapes Go.ChangeAt Go.RowKit Go.Shelf
set_option linter.unusedVariables false
section
variable {P : Program} {Q : Exit → Act → List Frame → World → Prop} {ops : Array Oper} {rest : List Nat} {a : Act} {cs : List Frame} {w w' : World} {i : Nat} {o : Oper}
theorem opsS_val (ho : ops[i]? = some o) (hg : o.guard = none) {v : Value} (hr : (execOp a.eval o).run P w = .ok (.value v) w') (h : wpOpsS P ops Q rest (a.put o.dst v) cs w') : wpOpsS P ops Q (i :: rest) a cs w := by
  have hw : Region.wanted o (yielded ops a.tmps) = true := by simp [Region.wanted, hg]
  simp only [wpOpsS, ho, hw, if_true, hr, Oper.upon]
  exact h
theorem opsS_skip (ho : ops[i]? = some o) (hg : o.guard = none) (hr : (execOp a.eval o).run P w = .ok .skip w') (h : wpOpsS P ops Q rest (a.put o.dst undef) cs w') : wpOpsS P ops Q (i :: rest) a cs w := by
  have hw : Region.wanted o (yielded ops a.tmps) = true := by simp [Region.wanted, hg]
  simp only [wpOpsS, ho, hw, if_true, hr, Oper.upon]
  exact h
theorem opsS_rec (ho : ops[i]? = some o) (hg : o.guard = none) (hr : (execOp a.eval o).run P w = .ok .recover w') {v : Value} {cs' : List Frame} (hc : recoverD cs = some (v, cs')) (h : wpOpsS P ops Q rest (a.put o.dst v) cs' w') : wpOpsS P ops Q (i :: rest) a cs w := by
  have hw : Region.wanted o (yielded ops a.tmps) = true := by simp [Region.wanted, hg]
  simp only [wpOpsS, ho, hw, if_true, hr, hc]
  exact h
theorem opsS_rec0 (ho : ops[i]? = some o) (hg : o.guard = none) (hr : (execOp a.eval o).run P w = .ok .recover w') (hc : recoverD cs = none) (h : wpOpsS P ops Q rest (a.put o.dst .nilIface) cs w') : wpOpsS P ops Q (i :: rest) a cs w := by
  have hw : Region.wanted o (yielded ops a.tmps) = true := by simp [Region.wanted, hg]
  simp only [wpOpsS, ho, hw, if_true, hr, hc]
  exact h
end
theorem assert_nil (w : World) : (Instr.typeAssert .nilIface 20 83 true).run Tryz.prog w = .ok (.tuple #[.agg #[.int .i64 0, .int .i64 0], .bool false]) w := by kernel_rfl
theorem assert_stop (w : World) (a r : Int) : (Instr.typeAssert (.iface 83 (.agg #[.int .i64 a, .int .i64 r])) 20 83 true).run Tryz.prog w = .ok (.tuple #[.agg #[.int .i64 a, .int .i64 r], .bool true]) w := by kernel_rfl
/-- The three results' boxes. -/
structure PB (W : World) (N : Nat) (x : List Value) (a r : Int) : Prop where
  q : W.rangeAt N 0 x
  bq : Blk W N 30
  a : W.cell? ⟨N + 1, 0, none⟩ = some (.int .i64 a)
  ba : Blk W (N + 1) 3
  r : W.cell? ⟨N + 2, 0, none⟩ = some (.int .i64 r)
  br : Blk W (N + 2) 48

set_option maxRecDepth 100000 in
set_option maxHeartbeats 2000000 in
theorem store_why (w : World) (x y : Int) (a : Act) (h1 : a.tmps[3]?.getD undef = .pointer (some ⟨w.heap.size, 0, none⟩)) (h2 : a.tmps[8]?.getD undef = .agg #[.int .i64 x, .int .i64 y]) :
    (execOp a.eval { dst := none, op := Op.store 83 (Operand.tmp 3) (Operand.tmp 8), type := 0, pos := "parse.go:43", after := #[{ on := 5, ground := Ground.data }, { on := 3, ground := Ground.data }, { on := 0, ground := Ground.chain }, { on := 0, ground := Ground.phase }, { on := 1, ground := Ground.phase }, { on := 2, ground := Ground.phase }, { on := 3, ground := Ground.phase }, { on := 4, ground := Ground.textOnly Departure.lateStores }, { on := 5, ground := Ground.phase }], guard := none }).run Tryz.prog (w.alloc (.cells #[.int .i64 0, .int .i64 0] 83)) = .ok .skip (w.alloc (.cells #[.int .i64 x, .int .i64 y] 83)) := by
  have c0 : (w.alloc (.cells #[.int .i64 0, .int .i64 0] 83)).cell? ⟨w.heap.size, 0, none⟩ = some (.int .i64 0) := cell_new rfl rfl
  have c1 : (w.alloc (.cells #[.int .i64 0, .int .i64 0] 83)).cell? ⟨w.heap.size, 1, none⟩ = some (.int .i64 0) := cell_new rfl rfl
  have ff : ∀ i, (w.alloc (.cells #[.int .i64 0, .int .i64 0] 83)).frozen? ⟨w.heap.size, i, none⟩ = false := fun i => (Blk.new w [.int .i64 0, .int .i64 0] 83).fz i
  simp [go_sem, h1, h2, c0, c1, ff]
set_option maxRecDepth 100000 in
set_option maxHeartbeats 2000000 in
theorem catch_idle (N : Nat) (w : World) :
    CallsD Tryz.prog 32 #[.pointer (some ⟨N, 0, none⟩), .pointer (some ⟨N + 1, 0, none⟩), .pointer (some ⟨N + 2, 0, none⟩)] .returning w fun e u' w' => e = .returned (.tuple #[]) ∧ u' = .returning ∧ Turn (fun _ => False) w w' := by
  obtain ⟨W, hW⟩ : ∃ W, W = w.alloc (.cells #[.int .i64 0, .int .i64 0] 83) := ⟨_, rfl⟩
  have T : Turn (fun _ => False) w W := by rw [hW]; exact (Turn.refl _ _).alloc _
  refine callsD_of_wpS (fn := Tryz.f32) Tryz.func32 rfl fun c₀ cs hu => ?_
  apply wpS_seq
  apply wpS_region
  change wpOpsS Tryz.prog _ _ [0, 1, 2, 3, 4, 5, 6, 7] { tmps := #[.pointer (some ⟨N, 0, none⟩), .pointer (some ⟨N + 1, 0, none⟩), .pointer (some ⟨N + 2, 0, none⟩), undef, undef, undef, undef, undef, undef, undef, undef, undef, undef, undef, undef, undef], defers := [] } _ _
  apply opsS_rec0 (o := { dst := some 6, op := Op.call { callee := Callee.builtin Builtin.recover, args := #[], argTypes := #[] }, type := 20, pos := "parse.go:43", after := #[], guard := none }) (w' := w)
  case ho => kernel_rfl
  case hg => rfl
  case hr => kernel_rfl
  case hc => simp [recoverD, hu]
  change wpOpsS Tryz.prog _ _ [1, 2, 3, 4, 5, 6, 7] { tmps := #[.pointer (some ⟨N, 0, none⟩), .pointer (some ⟨N + 1, 0, none⟩), .pointer (some ⟨N + 2, 0, none⟩), undef, undef, undef, .nilIface, undef, undef, undef, undef, undef, undef, undef, undef, undef], defers := [] } _ w
  apply opsS_val (o := { dst := some 7, op := Op.typeAssert (Operand.tmp 6) 20 83 true, type := 84, pos := "parse.go:43", after := #[{ on := 0, ground := Ground.data }], guard := none }) (w' := w) (v := .tuple #[.agg #[.int .i64 0, .int .i64 0], .bool false])
  case ho => kernel_rfl
  case hg => rfl
  case hr => kernel_rfl
  change wpOpsS Tryz.prog _ _ [2, 3, 4, 5, 6, 7] { tmps := #[.pointer (some ⟨N, 0, none⟩), .pointer (some ⟨N + 1, 0, none⟩), .pointer (some ⟨N + 2, 0, none⟩), undef, undef, undef, .nilIface, .tuple #[.agg #[.int .i64 0, .int .i64 0], .bool false], undef, undef, undef, undef, undef, undef, undef, undef], defers := [] } _ w
  apply opsS_val (o := { dst := some 5, op := Op.move (Operand.tmp 7), type := 84, pos := "parse.go:43", after := #[{ on := 1, ground := Ground.data }], guard := none }) (w' := w) (v := .tuple #[.agg #[.int .i64 0, .int .i64 0], .bool false])
  case ho => kernel_rfl
  case hg => rfl
  case hr => kernel_rfl
  change wpOpsS Tryz.prog _ _ [3, 4, 5, 6, 7] { tmps := #[.pointer (some ⟨N, 0, none⟩), .pointer (some ⟨N + 1, 0, none⟩), .pointer (some ⟨N + 2, 0, none⟩), undef, undef, .tuple #[.agg #[.int .i64 0, .int .i64 0], .bool false], .nilIface, .tuple #[.agg #[.int .i64 0, .int .i64 0], .bool false], undef, undef, undef, undef, undef, undef, undef, undef], defers := [] } _ w
  apply opsS_val (o := { dst := some 8, op := Op.extract (Operand.tmp 5) 0, type := 83, pos := "parse.go:43", after := #[{ on := 2, ground := Ground.data }], guard := none }) (w' := w) (v := .agg #[.int .i64 0, .int .i64 0])
  case ho => kernel_rfl
  case hg => rfl
  case hr => kernel_rfl
  change wpOpsS Tryz.prog _ _ [4, 5, 6, 7] { tmps := #[.pointer (some ⟨N, 0, none⟩), .pointer (some ⟨N + 1, 0, none⟩), .pointer (some ⟨N + 2, 0, none⟩), undef, undef, .tuple #[.agg #[.int .i64 0, .int .i64 0], .bool false], .nilIface, .tuple #[.agg #[.int .i64 0, .int .i64 0], .bool false], .agg #[.int .i64 0, .int .i64 0], undef, undef, undef, undef, undef, undef, undef], defers := [] } _ w
  apply opsS_val (o := { dst := some 9, op := Op.extract (Operand.tmp 5) 1, type := 4, pos := "parse.go:43", after := #[{ on := 2, ground := Ground.data }, { on := 6, ground := Ground.gcOnly Departure.lateStores }], guard := none }) (w' := w) (v := .bool false)
  case ho => kernel_rfl
  case hg => rfl
  case hr => kernel_rfl
  change wpOpsS Tryz.prog _ _ [5, 6, 7] { tmps := #[.pointer (some ⟨N, 0, none⟩), .pointer (some ⟨N + 1, 0, none⟩), .pointer (some ⟨N + 2, 0, none⟩), undef, undef, .tuple #[.agg #[.int .i64 0, .int .i64 0], .bool false], .nilIface, .tuple #[.agg #[.int .i64 0, .int .i64 0], .bool false], .agg #[.int .i64 0, .int .i64 0], .bool false, undef, undef, undef, undef, undef, undef], defers := [] } _ w
  apply opsS_val (o := { dst := some 3, op := Op.alloc 83, type := 0, pos := "parse.go:43", after := #[], guard := none }) (w' := (w.alloc (.cells #[.int .i64 0, .int .i64 0] 83))) (v := .pointer (some ⟨w.heap.size, 0, none⟩))
  case ho => kernel_rfl
  case hg => rfl
  case hr => kernel_rfl
  change wpOpsS Tryz.prog _ _ [6, 7] { tmps := #[.pointer (some ⟨N, 0, none⟩), .pointer (some ⟨N + 1, 0, none⟩), .pointer (some ⟨N + 2, 0, none⟩), .pointer (some ⟨w.heap.size, 0, none⟩), undef, .tuple #[.agg #[.int .i64 0, .int .i64 0], .bool false], .nilIface, .tuple #[.agg #[.int .i64 0, .int .i64 0], .bool false], .agg #[.int .i64 0, .int .i64 0], .bool false, undef, undef, undef, undef, undef, undef], defers := [] } _ (w.alloc (.cells #[.int .i64 0, .int .i64 0] 83))
  apply opsS_skip (o := { dst := none, op := Op.store 83 (Operand.tmp 3) (Operand.tmp 8), type := 0, pos := "parse.go:43", after := #[{ on := 5, ground := Ground.data }, { on := 3, ground := Ground.data }, { on := 0, ground := Ground.chain }, { on := 0, ground := Ground.phase }, { on := 1, ground := Ground.phase }, { on := 2, ground := Ground.phase }, { on := 3, ground := Ground.phase }, { on := 4, ground := Ground.textOnly Departure.lateStores }, { on := 5, ground := Ground.phase }], guard := none }) (w' := w.alloc (.cells #[.int .i64 0, .int .i64 0] 83))
  case ho => kernel_rfl
  case hg => rfl
  case hr => exact store_why _ _ _ _ rfl rfl
  change wpOpsS Tryz.prog _ _ [7] { tmps := #[.pointer (some ⟨N, 0, none⟩), .pointer (some ⟨N + 1, 0, none⟩), .pointer (some ⟨N + 2, 0, none⟩), .pointer (some ⟨w.heap.size, 0, none⟩), undef, .tuple #[.agg #[.int .i64 0, .int .i64 0], .bool false], .nilIface, .tuple #[.agg #[.int .i64 0, .int .i64 0], .bool false], .agg #[.int .i64 0, .int .i64 0], .bool false, undef, undef, undef, undef, undef, undef], defers := [] } _ (w.alloc (.cells #[.int .i64 0, .int .i64 0] 83))
  apply opsS_val (o := { dst := some 4, op := Op.assign (Operand.tmp 9), type := 4, pos := "parse.go:43", after := #[{ on := 4, ground := Ground.data }, { on := 6, ground := Ground.chain }, { on := 0, ground := Ground.phase }, { on := 1, ground := Ground.phase }, { on := 2, ground := Ground.phase }, { on := 3, ground := Ground.phase }, { on := 4, ground := Ground.phase }, { on := 5, ground := Ground.phase }, { on := 6, ground := Ground.phase }], guard := none }) (w' := w.alloc (.cells #[.int .i64 0, .int .i64 0] 83)) (v := .bool false)
  case ho => kernel_rfl
  case hg => rfl
  case hr => kernel_rfl
  change Code.wpS Tryz.prog _ _ { tmps := #[.pointer (some ⟨N, 0, none⟩), .pointer (some ⟨N + 1, 0, none⟩), .pointer (some ⟨N + 2, 0, none⟩), .pointer (some ⟨w.heap.size, 0, none⟩), .bool false, .tuple #[.agg #[.int .i64 0, .int .i64 0], .bool false], .nilIface, .tuple #[.agg #[.int .i64 0, .int .i64 0], .bool false], .agg #[.int .i64 0, .int .i64 0], .bool false, undef, undef, undef, undef, undef, undef], defers := [] } _ (w.alloc (.cells #[.int .i64 0, .int .i64 0] 83))
  rw [← hW]
  apply wpS_of_wp
  go_wp2_with fail
  refine ⟨rfl, .returning, ?_, .tuple #[], by kernel_rfl, rfl, rfl, T⟩
  cases c₀
  simp_all
set_option maxRecDepth 100000 in
set_option maxHeartbeats 2000000 in
theorem stop_end {w W : World} {N : Nat} {x y x4 x5 : Int} {x0 x1 x2 x3 : Value} (h : PB W N [x0, x1, x2, x3] x4 x5) (T : Turn (fun _ => False) w W) :
    PB ((((((W.setCell ⟨N, 0, none⟩ (.slice none 0 0)).setCell ⟨N, 1, none⟩ (.slice none 0 0)).setCell ⟨N, 2, none⟩ (.int .i64 0)).setCell ⟨N, 3, none⟩ (.bool false)).setCell ⟨N + 1, 0, none⟩ (.int .i64 x)).setCell ⟨N + 2, 0, none⟩ (.int .i64 y)).drew N (quL (.slice none 0 0) (.slice none 0 0) 0 false) x y ∧
    Turn (fun k => k = N ∨ k = N + 1 ∨ k = N + 2) w ((((((W.setCell ⟨N, 0, none⟩ (.slice none 0 0)).setCell ⟨N, 1, none⟩ (.slice none 0 0)).setCell ⟨N, 2, none⟩ (.int .i64 0)).setCell ⟨N, 3, none⟩ (.bool false)).setCell ⟨N + 1, 0, none⟩ (.int .i64 x)).setCell ⟨N + 2, 0, none⟩ (.int .i64 y)).drew := by
  have R1 := World.rangeAt_setCells_same W N 0 (quL (.slice none 0 0) (.slice none 0 0) 0 false) (range_there h.q rfl h.bq)
  obtain ⟨W1, hW1⟩ : ∃ X, X = W.setCells N 0 (quL (.slice none 0 0) (.slice none 0 0) 0 false) := ⟨_, rfl⟩
  have T1 : Turn (fun k => k = N) W W1 := by rw [hW1]; exact Turn.setCells _ 0 (Turn.refl _ _) (.inl rfl)
  rw [← hW1] at R1
  change PB (((W.setCells N 0 (quL (.slice none 0 0) (.slice none 0 0) 0 false)).setCell ⟨N + 1, 0, none⟩ (.int .i64 x)).setCell ⟨N + 2, 0, none⟩ (.int .i64 y)).drew N _ x y ∧ Turn _ w (((W.setCells N 0 (quL (.slice none 0 0) (.slice none 0 0) 0 false)).setCell ⟨N + 1, 0, none⟩ (.int .i64 x)).setCell ⟨N + 2, 0, none⟩ (.int .i64 y)).drew
  rw [← hW1]
  have T2 := Turn.put W1 (N + 1) 0 (.int .i64 x)
  have T3 := Turn.put (W1.setCell ⟨N + 1, 0, none⟩ (.int .i64 x)) (N + 2) 0 (.int .i64 y)
  have TD : Turn (fun _ => False) ((W1.setCell ⟨N + 1, 0, none⟩ (.int .i64 x)).setCell ⟨N + 2, 0, none⟩ (.int .i64 y)) ((W1.setCell ⟨N + 1, 0, none⟩ (.int .i64 x)).setCell ⟨N + 2, 0, none⟩ (.int .i64 y)).drew := (Turn.refl _ _).drewN 1
  refine ⟨⟨range_turn (range_turn (range_turn R1 T2 (by omega)) T3 (by omega)) TD id, (((by rw [hW1]; exact h.bq.setCells _ 0 : Blk W1 N 30).turn T2 (by omega)).turn T3 (by omega)).turn TD id, TD.cell id (T3.cell (by omega) (World.cell?_setCell_same _ _ _ (T1.cell (by omega) h.a))), (((h.ba.turn T1 (by omega)).set _ _).turn T3 (by omega)).turn TD id, TD.cell id (World.cell?_setCell_same _ _ _ (T2.cell (by omega) (T1.cell (by omega) h.r))), (((h.br.turn T1 (by omega)).turn T2 (by omega)).set _ _).turn TD id⟩, ?_⟩
  exact (((((T.more (S' := fun k => k = N ∨ k = N + 1 ∨ k = N + 2) (fun _ _ f => f.elim)).trans (T1.more (fun k _ q => .inl q))).trans (T2.more (fun k _ q => .inr (.inl q)))).trans (T3.more (fun k _ q => .inr (.inr q)))).trans (TD.more (fun _ _ f => f.elim)))
set_option maxRecDepth 100000 in
set_option maxHeartbeats 2000000 in
theorem catch_stop (N : Nat) (w : World) (x y : Int) (older : List PanicEntry) {xs : List Value} {a b : Int} (h : PB w N xs a b) (hx : xs.length = 4) :
    CallsD Tryz.prog 32 #[.pointer (some ⟨N, 0, none⟩), .pointer (some ⟨N + 1, 0, none⟩), .pointer (some ⟨N + 2, 0, none⟩)] (.panicking ({ v := .iface 83 (.agg #[.int .i64 x, .int .i64 y]), recovered := false } :: older)) w fun e u' w' => e = .returned (.tuple #[]) ∧ u' = .panicking ({ v := .iface 83 (.agg #[.int .i64 x, .int .i64 y]), recovered := true } :: older) ∧ PB w' N (quL (.slice none 0 0) (.slice none 0 0) 0 false) x y ∧ Turn (fun k => k = N ∨ k = N + 1 ∨ k = N + 2) w w' := by
  obtain ⟨W, hW⟩ : ∃ W, W = w.alloc (.cells #[.int .i64 x, .int .i64 y] 83) := ⟨_, rfl⟩
  have T : Turn (fun _ => False) w W := by rw [hW]; exact (Turn.refl _ _).alloc _
  have d0 : W.cell? ⟨w.heap.size, 0, none⟩ = some (.int .i64 x) := by rw [hW]; exact cell_new rfl rfl
  have d1 : W.cell? ⟨w.heap.size, 1, none⟩ = some (.int .i64 y) := by rw [hW]; exact cell_new rfl rfl
  have n0 : N ≠ w.heap.size := by have := h.bq.lt; omega
  have n1 : N + 1 ≠ w.heap.size := by have := h.ba.lt; omega
  have n2 : N + 2 ≠ w.heap.size := by have := h.br.lt; omega
  obtain ⟨x0, x1, x2, x3, rfl⟩ : ∃ a b c d, xs = [a, b, c, d] := by
    match xs, hx with
    | [a, b, c, d], _ => exact ⟨a, b, c, d, rfl⟩
  have PW : PB W N [x0, x1, x2, x3] a b := ⟨range_turn h.q T id, h.bq.turn T id, T.cell id h.a, h.ba.turn T id, T.cell id h.r, h.br.turn T id⟩
  have PH := Lib.hid PW
  have y0 := PW.q 0 _ rfl
  have y1 := PW.q 1 _ rfl
  have y2 := PW.q 2 _ rfl
  have y3 := PW.q 3 _ rfl
  have f0 := PW.bq.fz
  have ya := PW.a
  have fa := PW.ba.fz
  have yr := PW.r
  have fr := PW.br.fz
  have TH := Lib.hid T
  have HW := Lib.hid hW
  clear PW T hW h
  refine callsD_of_wpS (fn := Tryz.f32) Tryz.func32 rfl fun c₀ cs hu => ?_
  apply wpS_seq
  apply wpS_region
  change wpOpsS Tryz.prog _ _ [0, 1, 2, 3, 4, 5, 6, 7] { tmps := #[.pointer (some ⟨N, 0, none⟩), .pointer (some ⟨N + 1, 0, none⟩), .pointer (some ⟨N + 2, 0, none⟩), undef, undef, undef, undef, undef, undef, undef, undef, undef, undef, undef, undef, undef], defers := [] } _ _
  apply opsS_rec (o := { dst := some 6, op := Op.call { callee := Callee.builtin Builtin.recover, args := #[], argTypes := #[] }, type := 20, pos := "parse.go:43", after := #[], guard := none }) (w' := w) (v := .iface 83 (.agg #[.int .i64 x, .int .i64 y])) (cs' := { c₀ with mode := .panicking ({ v := .iface 83 (.agg #[.int .i64 x, .int .i64 y]), recovered := true } :: older) } :: cs)
  case ho => kernel_rfl
  case hg => rfl
  case hr => kernel_rfl
  case hc => simp [recoverD, hu]
  change wpOpsS Tryz.prog _ _ [1, 2, 3, 4, 5, 6, 7] { tmps := #[.pointer (some ⟨N, 0, none⟩), .pointer (some ⟨N + 1, 0, none⟩), .pointer (some ⟨N + 2, 0, none⟩), undef, undef, undef, .iface 83 (.agg #[.int .i64 x, .int .i64 y]), undef, undef, undef, undef, undef, undef, undef, undef, undef], defers := [] } _ w
  apply opsS_val (o := { dst := some 7, op := Op.typeAssert (Operand.tmp 6) 20 83 true, type := 84, pos := "parse.go:43", after := #[{ on := 0, ground := Ground.data }], guard := none }) (w' := w) (v := .tuple #[.agg #[.int .i64 x, .int .i64 y], .bool true])
  case ho => kernel_rfl
  case hg => rfl
  case hr => kernel_rfl
  change wpOpsS Tryz.prog _ _ [2, 3, 4, 5, 6, 7] { tmps := #[.pointer (some ⟨N, 0, none⟩), .pointer (some ⟨N + 1, 0, none⟩), .pointer (some ⟨N + 2, 0, none⟩), undef, undef, undef, .iface 83 (.agg #[.int .i64 x, .int .i64 y]), .tuple #[.agg #[.int .i64 x, .int .i64 y], .bool true], undef, undef, undef, undef, undef, undef, undef, undef], defers := [] } _ w
  apply opsS_val (o := { dst := some 5, op := Op.move (Operand.tmp 7), type := 84, pos := "parse.go:43", after := #[{ on := 1, ground := Ground.data }], guard := none }) (w' := w) (v := .tuple #[.agg #[.int .i64 x, .int .i64 y], .bool true])
  case ho => kernel_rfl
  case hg => rfl
  case hr => kernel_rfl
  change wpOpsS Tryz.prog _ _ [3, 4, 5, 6, 7] { tmps := #[.pointer (some ⟨N, 0, none⟩), .pointer (some ⟨N + 1, 0, none⟩), .pointer (some ⟨N + 2, 0, none⟩), undef, undef, .tuple #[.agg #[.int .i64 x, .int .i64 y], .bool true], .iface 83 (.agg #[.int .i64 x, .int .i64 y]), .tuple #[.agg #[.int .i64 x, .int .i64 y], .bool true], undef, undef, undef, undef, undef, undef, undef, undef], defers := [] } _ w
  apply opsS_val (o := { dst := some 8, op := Op.extract (Operand.tmp 5) 0, type := 83, pos := "parse.go:43", after := #[{ on := 2, ground := Ground.data }], guard := none }) (w' := w) (v := .agg #[.int .i64 x, .int .i64 y])
  case ho => kernel_rfl
  case hg => rfl
  case hr => kernel_rfl
  change wpOpsS Tryz.prog _ _ [4, 5, 6, 7] { tmps := #[.pointer (some ⟨N, 0, none⟩), .pointer (some ⟨N + 1, 0, none⟩), .pointer (some ⟨N + 2, 0, none⟩), undef, undef, .tuple #[.agg #[.int .i64 x, .int .i64 y], .bool true], .iface 83 (.agg #[.int .i64 x, .int .i64 y]), .tuple #[.agg #[.int .i64 x, .int .i64 y], .bool true], .agg #[.int .i64 x, .int .i64 y], undef, undef, undef, undef, undef, undef, undef], defers := [] } _ w
  apply opsS_val (o := { dst := some 9, op := Op.extract (Operand.tmp 5) 1, type := 4, pos := "parse.go:43", after := #[{ on := 2, ground := Ground.data }, { on := 6, ground := Ground.gcOnly Departure.lateStores }], guard := none }) (w' := w) (v := .bool true)
  case ho => kernel_rfl
  case hg => rfl
  case hr => kernel_rfl
  change wpOpsS Tryz.prog _ _ [5, 6, 7] { tmps := #[.pointer (some ⟨N, 0, none⟩), .pointer (some ⟨N + 1, 0, none⟩), .pointer (some ⟨N + 2, 0, none⟩), undef, undef, .tuple #[.agg #[.int .i64 x, .int .i64 y], .bool true], .iface 83 (.agg #[.int .i64 x, .int .i64 y]), .tuple #[.agg #[.int .i64 x, .int .i64 y], .bool true], .agg #[.int .i64 x, .int .i64 y], .bool true, undef, undef, undef, undef, undef, undef], defers := [] } _ w
  apply opsS_val (o := { dst := some 3, op := Op.alloc 83, type := 0, pos := "parse.go:43", after := #[], guard := none }) (w' := (w.alloc (.cells #[.int .i64 0, .int .i64 0] 83))) (v := .pointer (some ⟨w.heap.size, 0, none⟩))
  case ho => kernel_rfl
  case hg => rfl
  case hr => kernel_rfl
  change wpOpsS Tryz.prog _ _ [6, 7] { tmps := #[.pointer (some ⟨N, 0, none⟩), .pointer (some ⟨N + 1, 0, none⟩), .pointer (some ⟨N + 2, 0, none⟩), .pointer (some ⟨w.heap.size, 0, none⟩), undef, .tuple #[.agg #[.int .i64 x, .int .i64 y], .bool true], .iface 83 (.agg #[.int .i64 x, .int .i64 y]), .tuple #[.agg #[.int .i64 x, .int .i64 y], .bool true], .agg #[.int .i64 x, .int .i64 y], .bool true, undef, undef, undef, undef, undef, undef], defers := [] } _ (w.alloc (.cells #[.int .i64 0, .int .i64 0] 83))
  apply opsS_skip (o := { dst := none, op := Op.store 83 (Operand.tmp 3) (Operand.tmp 8), type := 0, pos := "parse.go:43", after := #[{ on := 5, ground := Ground.data }, { on := 3, ground := Ground.data }, { on := 0, ground := Ground.chain }, { on := 0, ground := Ground.phase }, { on := 1, ground := Ground.phase }, { on := 2, ground := Ground.phase }, { on := 3, ground := Ground.phase }, { on := 4, ground := Ground.textOnly Departure.lateStores }, { on := 5, ground := Ground.phase }], guard := none }) (w' := w.alloc (.cells #[.int .i64 x, .int .i64 y] 83))
  case ho => kernel_rfl
  case hg => rfl
  case hr => exact store_why _ _ _ _ rfl rfl
  change wpOpsS Tryz.prog _ _ [7] { tmps := #[.pointer (some ⟨N, 0, none⟩), .pointer (some ⟨N + 1, 0, none⟩), .pointer (some ⟨N + 2, 0, none⟩), .pointer (some ⟨w.heap.size, 0, none⟩), undef, .tuple #[.agg #[.int .i64 x, .int .i64 y], .bool true], .iface 83 (.agg #[.int .i64 x, .int .i64 y]), .tuple #[.agg #[.int .i64 x, .int .i64 y], .bool true], .agg #[.int .i64 x, .int .i64 y], .bool true, undef, undef, undef, undef, undef, undef], defers := [] } _ (w.alloc (.cells #[.int .i64 x, .int .i64 y] 83))
  apply opsS_val (o := { dst := some 4, op := Op.assign (Operand.tmp 9), type := 4, pos := "parse.go:43", after := #[{ on := 4, ground := Ground.data }, { on := 6, ground := Ground.chain }, { on := 0, ground := Ground.phase }, { on := 1, ground := Ground.phase }, { on := 2, ground := Ground.phase }, { on := 3, ground := Ground.phase }, { on := 4, ground := Ground.phase }, { on := 5, ground := Ground.phase }, { on := 6, ground := Ground.phase }], guard := none }) (w' := w.alloc (.cells #[.int .i64 x, .int .i64 y] 83)) (v := .bool true)
  case ho => kernel_rfl
  case hg => rfl
  case hr => kernel_rfl
  change Code.wpS Tryz.prog _ _ { tmps := #[.pointer (some ⟨N, 0, none⟩), .pointer (some ⟨N + 1, 0, none⟩), .pointer (some ⟨N + 2, 0, none⟩), .pointer (some ⟨w.heap.size, 0, none⟩), .bool true, .tuple #[.agg #[.int .i64 x, .int .i64 y], .bool true], .iface 83 (.agg #[.int .i64 x, .int .i64 y]), .tuple #[.agg #[.int .i64 x, .int .i64 y], .bool true], .agg #[.int .i64 x, .int .i64 y], .bool true, undef, undef, undef, undef, undef, undef], defers := [] } _ (w.alloc (.cells #[.int .i64 x, .int .i64 y] 83))
  rw [← HW.out]
  clear HW
  apply wpS_of_wp
  go_wp2_with fail
  have sd0 : W.drew.cell? ⟨w.heap.size, 0, none⟩ = some (.int .i64 x) := d0
  have sd1 : W.drew.cell? ⟨w.heap.size, 1, none⟩ = some (.int .i64 y) := d1
  refine lany_start 7 (fun zb w' => zb = false → (fun w' => w'.cell? ⟨w.heap.size, 0, none⟩ = some (.int .i64 x) ∧ w'.cell? ⟨w.heap.size, 1, none⟩ = some (.int .i64 y)) w') (by kernel_rfl) ?hs0 (fun hS0 => ?_)
  case hs0 => exact fun _ => ⟨sd0, sd1⟩
  refine LAny.take (i := 0) (oi := { dst := some 11, op := Op.build 30 #[], type := 30, pos := "parse.go:44", after := #[], guard := none }) (v := ?_) rfl (by kernel_rfl) (by kernel_rfl) (by kernel_rfl) (by kernel_rfl) (fun _ _ _ h => h) (Or.inl ⟨by rfl, ?hy1⟩) hS0 ?_
  case hy1 => (intro w hSw; have hSw := hSw rfl; (try dsimp only at hSw); go_simp; try with_reducible rfl)
  try simp only [Act.put, List.setIfInBounds_toArray, List.set_cons_zero, List.set_cons_succ]
  refine LAny.take (i := 1) (oi := { dst := some 12, op := Op.fieldAddr 83 (Operand.tmp 3) 0, type := 0, pos := "parse.go:44", after := #[{ on := 5, ground := Ground.gcOnly Departure.lateStores }], guard := none }) (v := ?_) rfl (by kernel_rfl) (by kernel_rfl) (by kernel_rfl) (by kernel_rfl) (fun _ _ _ h => h) (Or.inl ⟨by rfl, ?hy2⟩) hS0 ?_
  case hy2 => (intro w hSw; have hSw := hSw rfl; (try dsimp only at hSw); go_simp; try with_reducible rfl)
  try simp only [Act.put, List.setIfInBounds_toArray, List.set_cons_zero, List.set_cons_succ]
  refine LAny.take (i := 2) (oi := { dst := some 13, op := Op.load 3 (Operand.tmp 12), type := 3, pos := "parse.go:44", after := #[{ on := 1, ground := Ground.data }, { on := 5, ground := Ground.gcOnly Departure.lateStores }], guard := none }) (v := ?_) rfl (by kernel_rfl) (by kernel_rfl) (by kernel_rfl) (by kernel_rfl) (fun _ _ _ h => h) (Or.inl ⟨by rfl, ?hy3⟩) hS0 ?_
  case hy3 => (intro w hSw; have hSw := hSw rfl; (try dsimp only at hSw); go_simp; try with_reducible rfl)
  try simp only [Act.put, List.setIfInBounds_toArray, List.set_cons_zero, List.set_cons_succ]
  refine LAny.take (i := 3) (oi := { dst := some 14, op := Op.fieldAddr 83 (Operand.tmp 3) 1, type := 0, pos := "parse.go:44", after := #[{ on := 6, ground := Ground.gcOnly Departure.lateStores }], guard := none }) (v := ?_) rfl (by kernel_rfl) (by kernel_rfl) (by kernel_rfl) (by kernel_rfl) (fun _ _ _ h => h) (Or.inl ⟨by rfl, ?hy4⟩) hS0 ?_
  case hy4 => (intro w hSw; have hSw := hSw rfl; (try dsimp only at hSw); go_simp; try with_reducible rfl)
  try simp only [Act.put, List.setIfInBounds_toArray, List.set_cons_zero, List.set_cons_succ]
  refine LAny.take (i := 4) (oi := { dst := some 15, op := Op.load 48 (Operand.tmp 14), type := 48, pos := "parse.go:44", after := #[{ on := 3, ground := Ground.data }, { on := 6, ground := Ground.gcOnly Departure.lateStores }], guard := none }) (v := ?_) rfl (by kernel_rfl) (by kernel_rfl) (by kernel_rfl) (by kernel_rfl) (fun _ _ _ h => h) (Or.inl ⟨by rfl, ?hy5⟩) hS0 ?_
  case hy5 => (intro w hSw; have hSw := hSw rfl; (try dsimp only at hSw); go_simp; try with_reducible rfl)
  try simp only [Act.put, List.setIfInBounds_toArray, List.set_cons_zero, List.set_cons_succ]
  refine LAny.one (i := 5) (o := { dst := none, op := Op.store 30 (Operand.tmp 0) (Operand.tmp 11), type := 0, pos := "parse.go:44", after := #[{ on := 0, ground := Ground.data }, { on := 0, ground := Ground.phase }, { on := 1, ground := Ground.textOnly Departure.lateStores }, { on := 2, ground := Ground.textOnly Departure.lateStores }, { on := 3, ground := Ground.textOnly Departure.lateStores }, { on := 4, ground := Ground.textOnly Departure.lateStores }], guard := none }) (b := false) (by kernel_rfl) rfl (by kernel_rfl) (fun K hK => ?_)
  go_simp
  refine hK.out _ _ ?hs6 (fun hS6 => ?_)
  case hs6 => exact fun _ => ⟨(by go_simp), (by go_simp)⟩
  clear hK K hS0
  refine LAny.one (i := 6) (o := { dst := none, op := Op.store 3 (Operand.tmp 1) (Operand.tmp 13), type := 0, pos := "parse.go:44", after := #[{ on := 2, ground := Ground.data }, { on := 5, ground := Ground.chain }, { on := 0, ground := Ground.phase }, { on := 1, ground := Ground.phase }, { on := 2, ground := Ground.phase }, { on := 3, ground := Ground.textOnly Departure.lateStores }, { on := 4, ground := Ground.textOnly Departure.lateStores }, { on := 5, ground := Ground.phase }], guard := none }) (b := false) (by kernel_rfl) rfl (by kernel_rfl) (fun K hK => ?_)
  go_simp
  refine hK.out _ _ ?hs7 (fun hS7 => ?_)
  case hs7 => exact fun _ => ⟨(by go_simp), (by go_simp)⟩
  clear hK K hS6
  refine LAny.one (i := 7) (o := { dst := none, op := Op.store 48 (Operand.tmp 2) (Operand.tmp 15), type := 0, pos := "parse.go:44", after := #[{ on := 4, ground := Ground.data }, { on := 6, ground := Ground.chain }, { on := 0, ground := Ground.phase }, { on := 1, ground := Ground.phase }, { on := 2, ground := Ground.phase }, { on := 3, ground := Ground.phase }, { on := 4, ground := Ground.phase }, { on := 5, ground := Ground.phase }, { on := 6, ground := Ground.phase }], guard := none }) (b := true) (by kernel_rfl) rfl (by kernel_rfl) (fun K hK => ?_)
  go_simp
  refine hK.out _ _ ?hs8 (fun hS8 => ?_)
  case hs8 => exact fun h => by cases h
  clear hK K hS7
  refine LAny.done (by kernel_rfl) ?_ _
  skip
  go_wp2_with fail
  refine ⟨rfl, .panicking ({ v := .iface 83 (.agg #[.int .i64 x, .int .i64 y]), recovered := true } :: older), ?_, .tuple #[], by kernel_rfl, rfl, rfl, stop_end PH.out TH.out⟩
  first | rfl | (cases c₀; simp_all)
end Go.Proofs.YtadogobdlcionaaGreatDoor
