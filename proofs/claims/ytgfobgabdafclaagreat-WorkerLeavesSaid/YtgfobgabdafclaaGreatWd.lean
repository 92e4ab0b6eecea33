/-
  A worker looks for a command.
-/
import Derived.Test.YtgfobgabdafclaaGreatWc
namespace Go.Proofs.YtgfobgabdafclaaGreat
open Go.ChangeShapes Go.WideShapes Go.ChangeAt Go.RowKit
set_option linter.unusedVariables false
section
variable {w w' : World} {B : LB} {c : Cf} {s : LSt} {xb sb hb i f : Nat} {calm left : Bool} {st : Int} {p q : Int × Int}
set_option maxRecDepth 100000 in
set_option maxHeartbeats 2000000 in
theorem look_no (L : LogAt w B c s) (X : WkAt w xb B.l sb hb i 117 calm left st p) (hi : i < c.sh) (hl : s.left i = false) (hx : s.X (s.cur i) = none) (hcb : s.cur i ≤ 100000) :
    Calls Tryz.prog 117 #[.pointer (some ⟨xb, 0, none⟩)] w fun e w' => e = .returned (.bool false) ∧ Turn (fun _ => False) w w' := by
  have CU := Lib.hid (fun d => ((L.keep ((Turn.refl (fun _ => False) _).drewN d)).cursor_yes hi hl).mono (fun e w' ⟨he, hw⟩ => show e = Ending.returned (.int .i64 (s.cur i : Int)) ∧ ∃ d, w' = w.drewN d from ⟨he, d, hw.symm⟩))
  have LK := Lib.hid (fun (W : World) (T : Turn (fun _ => False) w W) => (L.keep T).look_is (at_ := (s.cur i : Int)) (by omega))
  rw [hx] at LK
  have x0 := X.x0
  have x1 := X.x1
  have HC := Lib.hid (cmdL_is (0, 0))
  have LK : Hid (∀ (W : World) (T : Turn (fun _ => False) w W), Calls Tryz.prog 154 #[.pointer (some ⟨B.l, 0, none⟩), .int .i64 (s.cur i : Int)] W fun e w' => e = .returned (.tuple #[.agg (cmdL (0, 0)).toArray, .bool false]) ∧ Turn (fun _ => False) W w') := LK
  have z60 : (Tryz.prog.info? 60).map (·.size) = some (cmdL (0, 0)).length := by rw [cmdL_len]; exact size51
  have hlq := cmdL_len (0, 0)
  generalize hcs : cmdL (0, 0) = cs at *
  generalize (s.cur i : Int) = cu at *
  clear L X hx hcb hcs
  go_enter Tryz.func117, Tryz.ntmps117
  go_wp2_with fail
  go_quiet ((go_at_call 32; exact CU.out _))
  have T1 : Turn (fun _ => False) w (w.drewN nq) := (Turn.refl _ w).drewN nq
  have x0 := T1.cell (fun f => f) x0
  have x1 := T1.cell (fun f => f) x1
  generalize w.drewN nq = w1 at *
  go_wp2_with fail
  with_reducible refine (LK.out _ T1).mono ?_
  rintro e w2 ⟨rfl, T2⟩
  dsimp only
  refine (‹∀ (a : Act) (w : World), wpList _ _ _ _ a w → _›) _ _ ?_
  refine rl_val rfl (v := .tuple #[.agg cs.toArray, .bool false]) rfl ?_
  try simp only [Act.put, List.setIfInBounds_toArray, List.set_cons_zero, List.set_cons_succ]
  refine rl_val rfl (v := .agg cs.toArray) rfl ?_
  try simp only [Act.put, List.setIfInBounds_toArray, List.set_cons_zero, List.set_cons_succ]
  refine rl_val rfl (v := .bool false) rfl ?_
  try simp only [Act.put, List.setIfInBounds_toArray, List.set_cons_zero, List.set_cons_succ]
  refine rl_val rfl (alloc51 _ _ rfl) ?_
  try simp only [Act.put, List.setIfInBounds_toArray, List.set_cons_zero, List.set_cons_succ]
  obtain ⟨W3, hW3⟩ : ∃ W, W = w2.alloc (.cells zc.toArray 60) := ⟨_, rfl⟩
  rw [← hW3]
  have T3 : Turn (fun _ => False) w2 W3 := by rw [hW3]; exact (Turn.refl _ w2).alloc _
  have B3 : Blk W3 w2.heap.size 60 := by rw [hW3]; exact Blk.new w2 zc 60
  have C3 : W3.there w2.heap.size 0 14 := range_there (by rw [hW3]; exact range_new w2 zc 60) rfl B3
  have hb4 : w.heap.size ≤ w2.heap.size := (T1.trans T2).size
  clear hW3
  generalize w2.heap.size = b4 at *
  refine wpList_store_mid rfl 60 _ _ rfl b4 0 cs.toArray rfl rfl (by rw [List.size_toArray, hlq]; exact C3) (by rw [List.size_toArray]; exact z60) HC.out.one ?_
  try simp only [Act.put, List.setIfInBounds_toArray, List.set_cons_zero, List.set_cons_succ]
  change wpList _ _ _ _ _ (W3.setCells b4 0 cs)
  have T4 : Turn (fun k => k = b4) W3 (W3.setCells b4 0 cs) := Turn.setCells cs 0 (Turn.refl _ W3) (.inl rfl)
  have R4 : (W3.setCells b4 0 cs).rangeAt b4 0 cs := World.rangeAt_setCells_same _ _ _ _ (by rw [hlq]; exact C3)
  have T14 : Turn (fun _ => False) w (W3.setCells b4 0 cs) := ((T1.trans (T2.trans T3)).comp T4 (fun j hj e => by omega))
  generalize W3.setCells b4 0 cs = W4 at *
  have FIN := Lib.hid T14
  go_wp2_with fail
  go_ret
  exact ⟨rfl, FIN.out⟩
set_option maxRecDepth 100000 in
set_option maxHeartbeats 2000000 in
theorem look_yes (L : LogAt w B c s) (X : WkAt w xb B.l sb hb i 117 calm left st p) (hi : i < c.sh) (hl : s.left i = false) (hx : s.X (s.cur i) = some q) (hcb : s.cur i ≤ 100000) :
    Calls Tryz.prog 117 #[.pointer (some ⟨xb, 0, none⟩)] w fun e w' => e = .returned (.bool true) ∧ WkAt w' xb B.l sb hb i 155 false left (s.cur i : Int) q ∧ Turn (fun k => k = xb) w w' := by
  have CU := Lib.hid (fun d => ((L.keep ((Turn.refl (fun _ => False) _).drewN d)).cursor_yes hi hl).mono (fun e w' ⟨he, hw⟩ => show e = Ending.returned (.int .i64 (s.cur i : Int)) ∧ ∃ d, w' = w.drewN d from ⟨he, d, hw.symm⟩))
  have LK := Lib.hid (fun (W : World) (T : Turn (fun _ => False) w W) => (L.keep T).look_is (at_ := (s.cur i : Int)) (by omega))
  rw [hx] at LK
  have x0 := X.x0
  have x1 := X.x1
  have HX := Lib.hid X
  have HC := Lib.hid (cmdL_is q)
  have LK : Hid (∀ (W : World) (T : Turn (fun _ => False) w W), Calls Tryz.prog 154 #[.pointer (some ⟨B.l, 0, none⟩), .int .i64 (s.cur i : Int)] W fun e w' => e = .returned (.tuple #[.agg (cmdL q).toArray, .bool true]) ∧ Turn (fun _ => False) W w') := LK
  have SC := Lib.hid (fun (W : World) (X' : WkAt W xb B.l sb hb i 117 calm left st p) => (X'.setSt (s.cur i : Int)).setCmd q)
  have z60 : (Tryz.prog.info? 60).map (·.size) = some (cmdL q).length := by rw [cmdL_len]; exact size51
  have hlq := cmdL_len q
  generalize hcs : cmdL q = cs at *
  have HCS := Lib.hid hcs
  generalize (s.cur i : Int) = cu at *
  clear L X hx hcb hcs
  go_enter Tryz.func117, Tryz.ntmps117
  go_wp2_with fail
  go_quiet ((go_at_call 32; exact CU.out _))
  have T1 : Turn (fun _ => False) w (w.drewN nq) := (Turn.refl _ w).drewN nq
  have x0 := T1.cell (fun f => f) x0
  have x1 := T1.cell (fun f => f) x1
  generalize w.drewN nq = w1 at *
  go_wp2_with fail
  with_reducible refine (LK.out _ T1).mono ?_
  rintro e w2 ⟨rfl, T2⟩
  dsimp only
  refine (‹∀ (a : Act) (w : World), wpList _ _ _ _ a w → _›) _ _ ?_
  refine rl_val rfl (v := .tuple #[.agg cs.toArray, .bool true]) rfl ?_
  try simp only [Act.put, List.setIfInBounds_toArray, List.set_cons_zero, List.set_cons_succ]
  refine rl_val rfl (v := .agg cs.toArray) rfl ?_
  try simp only [Act.put, List.setIfInBounds_toArray, List.set_cons_zero, List.set_cons_succ]
  refine rl_val rfl (v := .bool true) rfl ?_
  try simp only [Act.put, List.setIfInBounds_toArray, List.set_cons_zero, List.set_cons_succ]
  refine rl_val rfl (alloc51 _ _ rfl) ?_
  try simp only [Act.put, List.setIfInBounds_toArray, List.set_cons_zero, List.set_cons_succ]
  obtain ⟨W3, hW3⟩ : ∃ W, W = w2.alloc (.cells zc.toArray 60) := ⟨_, rfl⟩
  rw [← hW3]
  have T3 : Turn (fun _ => False) w2 W3 := by rw [hW3]; exact (Turn.refl _ w2).alloc _
  have B3 : Blk W3 w2.heap.size 60 := by rw [hW3]; exact Blk.new w2 zc 60
  have C3 : W3.there w2.heap.size 0 14 := range_there (by rw [hW3]; exact range_new w2 zc 60) rfl B3
  have hb4 : w.heap.size ≤ w2.heap.size := (T1.trans T2).size
  have hxb : xb < w2.heap.size := Nat.lt_of_lt_of_le HX.out.b.lt hb4
  clear hW3
  generalize w2.heap.size = b4 at *
  refine wpList_store_mid rfl 60 _ _ rfl b4 0 cs.toArray rfl rfl (by rw [List.size_toArray, hlq]; exact C3) (by rw [List.size_toArray]; exact z60) HC.out.one ?_
  try simp only [Act.put, List.setIfInBounds_toArray, List.set_cons_zero, List.set_cons_succ]
  change wpList _ _ _ _ _ (W3.setCells b4 0 cs)
  have T4 : Turn (fun k => k = b4) W3 (W3.setCells b4 0 cs) := Turn.setCells cs 0 (Turn.refl _ W3) (.inl rfl)
  have R4 : (W3.setCells b4 0 cs).rangeAt b4 0 cs := World.rangeAt_setCells_same _ _ _ _ (by rw [hlq]; exact C3)
  have T14 : Turn (fun _ => False) w (W3.setCells b4 0 cs) := ((T1.trans (T2.trans T3)).comp T4 (fun j hj e => by omega))
  generalize W3.setCells b4 0 cs = W4 at *
  clear T3 B3 C3 T4 T2 T1 CU LK
  have X4 := HX.out.turn T14 (fun f => f)
  have T44 : Turn (fun _ => False) W4 W4.drew := (Turn.refl _ W4).drewN 1
  have y7 := (X4.turn T44 (fun f => f)).x7
  have fzx := (X4.turn T44 (fun f => f)).b.fz
  have R44 := range_turn R4 T44 (fun f => f)
  have XD := X4.turn T44 (fun f => f)
  have TD := T14.trans T44
  obtain ⟨DX, hDX⟩ : ∃ D, D = W4.drew := ⟨_, rfl⟩
  rw [← hDX] at y7 fzx R44 XD TD T44
  have FF := Lib.hid (show ∀ U, Turn (fun k => k = xb) DX U → U.rangeAt b4 0 cs from fun U TU => range_turn R44 TU (by omega))
  have TP1 : Turn (fun k => k = xb) DX (DX.setCell ⟨xb, 7, none⟩ (.int .i64 cu)) := Turn.put _ _ _ _
  have TP2 : Turn (fun k => k = xb) (DX.setCell ⟨xb, 7, none⟩ (.int .i64 cu)) ((DX.setCell ⟨xb, 7, none⟩ (.int .i64 cu)).setCells xb 8 cs) := Turn.setCells cs 8 (Turn.refl _ _) (.inl rfl)
  have X2 : WkAt ((DX.setCell ⟨xb, 7, none⟩ (.int .i64 cu)).setCells xb 8 cs) xb B.l sb hb i 117 calm left cu q := SC.out DX XD
  have TH8 : (DX.setCell ⟨xb, 7, none⟩ (.int .i64 cu)).there xb 8 cs.toArray.size := by
    have := range_there (XD.setSt cu).x8 (cmdL_len p) (XD.setSt cu).b
    rw [List.size_toArray, hlq]
    exact this
  have z60' : (Tryz.prog.info? 60).map (·.size) = some cs.toArray.size := by rw [List.size_toArray]; exact z60
  have X3 := (X2.setF 155).setCalm false
  have FIN := Lib.hid (And.intro X3 ((((TD.more (fun _ _ f => f.elim)).trans TP1).trans TP2).trans ((Turn.put _ xb 4 (.func (.func 155) #[.pointer (some ⟨xb, 0, none⟩)] #[])).trans (Turn.put _ xb 5 (.bool false)))))
  have z4 := X2.x4
  have z5 := X2.x5
  have fz2 := X2.b.fz
  have sf := store_func (f := 155) (x := xb) z4 (fz2 4)
  clear X4 R4 R44 T44 TD XD X2 X3 x0 x1 T14 HX
  go_upto_region 5 with fail
  refine wp_region_held_drew (S := fun w' => w'.rangeAt b4 0 cs) (by kernel_rfl) ?hs0 (fun hS0 => ?_)
  case hs0 => exact (by rw [← hDX]; exact FF.out _ (Turn.refl _ _))
  rw [← hDX] at hS0 ⊢
  clear hDX
  refine wpAnyH_take (i := 0) (oi := { dst := some 26, op := Op.move (Operand.tmp 0), type := 72, pos := "worker.go:53", after := #[], guard := none }) (v := ?_) rfl (by kernel_rfl) (by kernel_rfl) (by kernel_rfl) (fun _ _ _ h => h) (Or.inl ⟨by rfl, ?hy1⟩) hS0 ?_
  case hy1 => (intro w hSw; (try dsimp only at hSw); go_simp; try with_reducible rfl)
  try simp only [Act.put, List.setIfInBounds_toArray, List.set_cons_zero, List.set_cons_succ]
  refine wpAnyH_take (i := 1) (oi := { dst := some 27, op := Op.move (Operand.tmp 0), type := 72, pos := "worker.go:53", after := #[{ on := 6, ground := Ground.gcOnly Departure.lateStores }], guard := none }) (v := ?_) rfl (by kernel_rfl) (by kernel_rfl) (by kernel_rfl) (fun _ _ _ h => h) (Or.inl ⟨by rfl, ?hy2⟩) hS0 ?_
  case hy2 => (intro w hSw; (try dsimp only at hSw); go_simp; try with_reducible rfl)
  try simp only [Act.put, List.setIfInBounds_toArray, List.set_cons_zero, List.set_cons_succ]
  refine wpAnyH_take (i := 2) (oi := { dst := some 28, op := Op.move (Operand.tmp 3), type := 3, pos := "worker.go:53", after := #[], guard := none }) (v := ?_) rfl (by kernel_rfl) (by kernel_rfl) (by kernel_rfl) (fun _ _ _ h => h) (Or.inl ⟨by rfl, ?hy3⟩) hS0 ?_
  case hy3 => (intro w hSw; (try dsimp only at hSw); go_simp; try with_reducible rfl)
  try simp only [Act.put, List.setIfInBounds_toArray, List.set_cons_zero, List.set_cons_succ]
  refine wpAnyH_take (i := 3) (oi := { dst := some 29, op := Op.load 60 (Operand.tmp 4), type := 60, pos := "worker.go:53", after := #[{ on := 6, ground := Ground.gcOnly Departure.lateStores }], guard := none }) (v := .agg cs.toArray) rfl (by kernel_rfl) (by kernel_rfl) (by kernel_rfl) (fun _ _ _ h => h) (yieldsIf_load_mid (by rfl) 60 _ rfl b4 0 rfl cs _ (fun _ h => h) Tryz.underlying60 rfl z60) hS0 ?_
  try simp only [Act.put, List.setIfInBounds_toArray, List.set_cons_zero, List.set_cons_succ]
  refine wpAnyH_take (i := 4) (oi := { dst := some 30, op := Op.nilCheck (Operand.tmp 26), type := 0, pos := "worker.go:53", after := #[{ on := 0, ground := Ground.data }, { on := 0, ground := Ground.phase }, { on := 1, ground := Ground.textOnly Departure.lateStores }, { on := 2, ground := Ground.phase }, { on := 3, ground := Ground.textOnly Departure.lateStores }], guard := none }) (v := ?_) rfl (by kernel_rfl) (by kernel_rfl) (by kernel_rfl) (fun _ _ _ h => h) (Or.inl ⟨by rfl, ?hy5⟩) hS0 ?_
  case hy5 => (intro w hSw; (try dsimp only at hSw); go_simp; try with_reducible rfl)
  try simp only [Act.put, List.setIfInBounds_toArray, List.set_cons_zero, List.set_cons_succ]
  refine wpAnyH_take (i := 5) (oi := { dst := some 31, op := Op.fieldAddr 141 (Operand.tmp 30) 7, type := 0, pos := "worker.go:53", after := #[{ on := 4, ground := Ground.data }, { on := 0, ground := Ground.phase }, { on := 1, ground := Ground.textOnly Departure.lateStores }, { on := 2, ground := Ground.phase }, { on := 3, ground := Ground.textOnly Departure.lateStores }], guard := none }) (v := ?_) rfl (by kernel_rfl) (by kernel_rfl) (by kernel_rfl) (fun _ _ _ h => h) (Or.inl ⟨by rfl, ?hy6⟩) hS0 ?_
  case hy6 => (intro w hSw; (try dsimp only at hSw); go_simp; try with_reducible rfl)
  try simp only [Act.put, List.setIfInBounds_toArray, List.set_cons_zero, List.set_cons_succ]
  refine wpAnyH_ready (rs := [6]) (by kernel_rfl) (by simp) ?_
  refine AllReadyH.cons (o := { dst := none, op := Op.store 3 (Operand.tmp 31) (Operand.tmp 28), type := 0, pos := "worker.go:53", after := #[{ on := 5, ground := Ground.data }, { on := 2, ground := Ground.data }, { on := 0, ground := Ground.phase }, { on := 1, ground := Ground.textOnly Departure.lateStores }, { on := 2, ground := Ground.phase }, { on := 3, ground := Ground.textOnly Departure.lateStores }], guard := none }) rfl (fun K hK => ?_) AllReadyH.nil
  go_simp
  refine hK.out _ _ ?hs7 (fun hS7 => ?_)
  case hs7 => exact FF.out _ TP1
  clear hK K hS0
  refine wpAnyH_take (i := 7) (oi := { dst := some 32, op := Op.nilCheck (Operand.tmp 27), type := 0, pos := "worker.go:53", after := #[{ on := 1, ground := Ground.data }, { on := 0, ground := Ground.phase }, { on := 1, ground := Ground.phase }, { on := 2, ground := Ground.phase }, { on := 3, ground := Ground.phase }, { on := 4, ground := Ground.phase }, { on := 5, ground := Ground.phase }, { on := 6, ground := Ground.phase }], guard := none }) (v := ?_) rfl (by kernel_rfl) (by kernel_rfl) (by kernel_rfl) (fun _ _ _ h => h) (Or.inl ⟨by rfl, ?hy8⟩) hS7 ?_
  case hy8 => (intro w hSw; (try dsimp only at hSw); go_simp; try with_reducible rfl)
  try simp only [Act.put, List.setIfInBounds_toArray, List.set_cons_zero, List.set_cons_succ]
  refine wpAnyH_take (i := 8) (oi := { dst := some 33, op := Op.fieldAddr 141 (Operand.tmp 32) 8, type := 0, pos := "worker.go:53", after := #[{ on := 7, ground := Ground.data }, { on := 0, ground := Ground.phase }, { on := 1, ground := Ground.phase }, { on := 2, ground := Ground.phase }, { on := 3, ground := Ground.phase }, { on := 4, ground := Ground.phase }, { on := 5, ground := Ground.phase }, { on := 6, ground := Ground.phase }], guard := none }) (v := ?_) rfl (by kernel_rfl) (by kernel_rfl) (by kernel_rfl) (fun _ _ _ h => h) (Or.inl ⟨by rfl, ?hy9⟩) hS7 ?_
  case hy9 => (intro w hSw; (try dsimp only at hSw); go_simp; try with_reducible rfl)
  try simp only [Act.put, List.setIfInBounds_toArray, List.set_cons_zero, List.set_cons_succ]
  refine wpAnyH_ready (rs := [9]) (by kernel_rfl) (by simp) ?_
  refine AllReadyH.cons (o := { dst := none, op := Op.store 60 (Operand.tmp 33) (Operand.tmp 29), type := 0, pos := "worker.go:53", after := #[{ on := 8, ground := Ground.data }, { on := 3, ground := Ground.data }, { on := 6, ground := Ground.chain }, { on := 0, ground := Ground.phase }, { on := 1, ground := Ground.phase }, { on := 2, ground := Ground.phase }, { on := 3, ground := Ground.phase }, { on := 4, ground := Ground.phase }, { on := 5, ground := Ground.phase }, { on := 6, ground := Ground.phase }], guard := none }) rfl (fun K hK => ?_) AllReadyH.nil
  refine wp_store_mid 60 _ _ rfl xb 8 cs.toArray rfl rfl TH8 z60' HC.out.one ?_
  refine hK.out _ _ ?hs10 (fun hS10 => ?_)
  case hs10 => exact FF.out _ (TP1.trans TP2)
  clear hK K hS7
  refine wpAnyH_done (by kernel_rfl) ?_ _
  go_wp2_with fail
  trace_state
  go_ret
  exact ⟨rfl, FIN.out⟩
end
end Go.Proofs.YtgfobgabdafclaaGreat
