/-
  A worker's other steps, for commands that ask nothing of its shard.
-/
import Derived.Test.YtgfobgabdafclaaGreatWe
import Derived.Test.YtgfobgabdafclaaGreatLg6
namespace Go.Proofs.YtgfobgabdafclaaGreat
open Go.ChangeShapes Go.WideShapes Go.ChangeAt Go.RowKit
set_option linter.unusedVariables false
section
variable {w w' : World} {B : LB} {c : Cf} {s : LSt} {el xb sb hb i f : Nat} {now st last : Int} {P : Nat → Int} {calm left : Bool} {p q : Int × Int}
/-- .. it has left. -/
theorem WS.gone (h : WS w B c s el now P xb sb hb i f calm left st p last) (v : Bool) : WS (w.setCell ⟨xb, 6, none⟩ (.bool v)) B c s el now P xb sb hb i f calm v st p last ∧ Turn (WOwn B c el xb sb hb) w (w.setCell ⟨xb, 6, none⟩ (.bool v)) :=
  ⟨h.onX (h.X.setLeft v) (Turn.put _ _ _ _), (Turn.put _ _ _ _).more (fun _ _ e => own_x e)⟩
theorem WS.calms (h : WS w B c s el now P xb sb hb i f calm left st p last) (v : Bool) : WS (w.setCell ⟨xb, 5, none⟩ (.bool v)) B c s el now P xb sb hb i f v left st p last ∧ Turn (WOwn B c el xb sb hb) w (w.setCell ⟨xb, 5, none⟩ (.bool v)) :=
  ⟨h.onX (h.X.setCalm v) (Turn.put _ _ _ _), (Turn.put _ _ _ _).more (fun _ _ e => own_x e)⟩
set_option maxRecDepth 100000 in
set_option maxHeartbeats 2000000 in
theorem WS.leave_is (Z : WS w B c s el now P xb sb hb i 297 calm left st p last) (hi : i < c.sh) (hl : s.left i = false) :
    Calls Tryz.prog 297 #[.pointer (some ⟨xb, 0, none⟩)] w (WPost w B c { s with left := upd s.left i true } el now P xb sb hb i 297 calm true st p last) := by
  have TD : Turn (fun _ => False) w w.drew := (Turn.refl _ w).drewN 1
  have ZD := Z.same TD
  have LV := Lib.hid (ZD.L.leave_yes hi hl)
  have FF := Lib.hid (show ∀ U, Turn (fun _ => False) w.drew U → U.cell? ⟨xb, 0, none⟩ = some (.pointer (some ⟨B.l, 0, none⟩)) ∧ U.cell? ⟨xb, 1, none⟩ = some (.int .i64 (i : Int)) from fun U TU => ⟨TU.cell (fun f => f) ZD.X.x0, TU.cell (fun f => f) ZD.X.x1⟩)
  have nf : ¬ B.foot c.sh xb := ZD.L.foot_ne ZD.X.b (by decide) (by decide) (by decide) (by decide) (by decide) (by decide)
  have FL := Lib.hid (show ∀ U, Turn (B.foot c.sh) w.drew U → U.cell? ⟨xb, 0, none⟩ = some (.pointer (some ⟨B.l, 0, none⟩)) ∧ U.cell? ⟨xb, 1, none⟩ = some (.int .i64 (i : Int)) from fun U TU => ⟨TU.cell nf ZD.X.x0, TU.cell nf ZD.X.x1⟩)
  clear Z
  go_enter Tryz.func297, Tryz.ntmps297
  go_upto_region 1 with fail
  refine wp_region_held_drew (S := fun w' => w'.cell? ⟨xb, 0, none⟩ = some (.pointer (some ⟨B.l, 0, none⟩)) ∧ w'.cell? ⟨xb, 1, none⟩ = some (.int .i64 (i : Int))) (by kernel_rfl) ?hs0 (fun hS0 => ?_)
  case hs0 => exact FF.out _ (Turn.refl _ _)
  refine wpAnyH_take (i := 0) (oi := { dst := some 3, op := Op.move (Operand.tmp 0), type := 72, pos := "worker.go:140", after := #[], guard := none }) (v := ?_) rfl (by kernel_rfl) (by kernel_rfl) (by kernel_rfl) (fun _ _ _ h => h) (Or.inl ⟨by rfl, ?hy1⟩) hS0 ?_
  case hy1 => (intro w hSw; (try dsimp only at hSw); go_simp; try with_reducible rfl)
  try simp only [Act.put, List.setIfInBounds_toArray, List.set_cons_zero, List.set_cons_succ]
  refine wpAnyH_take (i := 1) (oi := { dst := some 4, op := Op.nilCheck (Operand.tmp 3), type := 0, pos := "worker.go:140", after := #[{ on := 0, ground := Ground.data }], guard := none }) (v := ?_) rfl (by kernel_rfl) (by kernel_rfl) (by kernel_rfl) (fun _ _ _ h => h) (Or.inl ⟨by rfl, ?hy2⟩) hS0 ?_
  case hy2 => (intro w hSw; (try dsimp only at hSw); go_simp; try with_reducible rfl)
  try simp only [Act.put, List.setIfInBounds_toArray, List.set_cons_zero, List.set_cons_succ]
  refine wpAnyH_take (i := 2) (oi := { dst := some 5, op := Op.fieldAddr 141 (Operand.tmp 4) 0, type := 0, pos := "worker.go:140", after := #[{ on := 1, ground := Ground.data }], guard := none }) (v := ?_) rfl (by kernel_rfl) (by kernel_rfl) (by kernel_rfl) (fun _ _ _ h => h) (Or.inl ⟨by rfl, ?hy3⟩) hS0 ?_
  case hy3 => (intro w hSw; (try dsimp only at hSw); go_simp; try with_reducible rfl)
  try simp only [Act.put, List.setIfInBounds_toArray, List.set_cons_zero, List.set_cons_succ]
  refine wpAnyH_take (i := 3) (oi := { dst := some 6, op := Op.load 65 (Operand.tmp 5), type := 65, pos := "worker.go:140", after := #[{ on := 2, ground := Ground.data }], guard := none }) (v := ?_) rfl (by kernel_rfl) (by kernel_rfl) (by kernel_rfl) (fun _ _ _ h => h) (Or.inl ⟨by rfl, ?hy4⟩) hS0 ?_
  case hy4 => (intro w hSw; (try dsimp only at hSw); go_simp; try with_reducible rfl)
  try simp only [Act.put, List.setIfInBounds_toArray, List.set_cons_zero, List.set_cons_succ]
  refine wpAnyH_take (i := 4) (oi := { dst := some 7, op := Op.move (Operand.tmp 0), type := 72, pos := "worker.go:140", after := #[], guard := none }) (v := ?_) rfl (by kernel_rfl) (by kernel_rfl) (by kernel_rfl) (fun _ _ _ h => h) (Or.inl ⟨by rfl, ?hy5⟩) hS0 ?_
  case hy5 => (intro w hSw; (try dsimp only at hSw); go_simp; try with_reducible rfl)
  try simp only [Act.put, List.setIfInBounds_toArray, List.set_cons_zero, List.set_cons_succ]
  refine wpAnyH_take (i := 5) (oi := { dst := some 8, op := Op.nilCheck (Operand.tmp 7), type := 0, pos := "worker.go:140", after := #[{ on := 4, ground := Ground.data }], guard := none }) (v := ?_) rfl (by kernel_rfl) (by kernel_rfl) (by kernel_rfl) (fun _ _ _ h => h) (Or.inl ⟨by rfl, ?hy6⟩) hS0 ?_
  case hy6 => (intro w hSw; (try dsimp only at hSw); go_simp; try with_reducible rfl)
  try simp only [Act.put, List.setIfInBounds_toArray, List.set_cons_zero, List.set_cons_succ]
  refine wpAnyH_take (i := 6) (oi := { dst := some 9, op := Op.fieldAddr 141 (Operand.tmp 8) 1, type := 0, pos := "worker.go:140", after := #[{ on := 5, ground := Ground.data }], guard := none }) (v := ?_) rfl (by kernel_rfl) (by kernel_rfl) (by kernel_rfl) (fun _ _ _ h => h) (Or.inl ⟨by rfl, ?hy7⟩) hS0 ?_
  case hy7 => (intro w hSw; (try dsimp only at hSw); go_simp; try with_reducible rfl)
  try simp only [Act.put, List.setIfInBounds_toArray, List.set_cons_zero, List.set_cons_succ]
  refine wpAnyH_take (i := 7) (oi := { dst := some 10, op := Op.load 3 (Operand.tmp 9), type := 3, pos := "worker.go:140", after := #[{ on := 6, ground := Ground.data }], guard := none }) (v := ?_) rfl (by kernel_rfl) (by kernel_rfl) (by kernel_rfl) (fun _ _ _ h => h) (Or.inl ⟨by rfl, ?hy8⟩) hS0 ?_
  case hy8 => (intro w hSw; (try dsimp only at hSw); go_simp; try with_reducible rfl)
  try simp only [Act.put, List.setIfInBounds_toArray, List.set_cons_zero, List.set_cons_succ]
  refine wpAnyH_ready (rs := [8]) (by kernel_rfl) (by simp) ?_
  refine AllReadyH.cons (o := { dst := some 11, op := Op.call { callee := Callee.value (Operand.func 298), args := #[Operand.tmp 6, Operand.tmp 10], argTypes := #[65, 3] }, type := 4, pos := "worker.go:140", after := #[{ on := 3, ground := Ground.data }, { on := 7, ground := Ground.data }], guard := none }) rfl (fun K hK => ?_) AllReadyH.nil
  go_simp
  with_reducible refine LV.out.mono ?_
  rintro en Wp ⟨rfl, LL, TL⟩
  go_simp
  have ZZ := ZD.onL LL TL
  have TZ := (TD.more (S' := WOwn B c el xb sb hb) (fun _ _ f => f.elim)).trans (TL.more (fun _ _ e => own_f e))
  refine hK.out _ _ ?hs9 (fun hS9 => ?_)
  case hs9 => exact FL.out _ TL
  clear hK K hS0
  refine wpAnyH_done (by kernel_rfl) ?_ _
  skip
  generalize Wp = WZ at *
  have y6 := ZZ.X.x6
  have fz := ZZ.X.b.fz
  have FIN := Lib.hid (show WPost w B c { s with left := upd s.left i true } el now P xb sb hb i 297 calm true st p last (.returned (.bool true)) _ from ⟨rfl, (ZZ.gone true).1, TZ.trans (ZZ.gone true).2⟩)
  clear ZZ TZ
  go_wp2_with fail
  go_ret
  exact FIN.out
theorem WkAt.setOut (h : WkAt w xb B.l sb hb i f calm left st p) : WkAt (w.setCells xb 22 zout) xb B.l sb hb i f calm left st p := by
  have nn : ∀ {k : Nat} {v : Value}, k < 22 → w.cell? ⟨xb, k, none⟩ = some v → (w.setCells xb 22 zout).cell? ⟨xb, k, none⟩ = some v := fun hk hv => cells_off (o := 0) (.inl hk) hv
  exact ⟨h.b.setCells _ _, nn (by decide) h.x0, nn (by decide) h.x1, nn (by decide) h.x2, nn (by decide) h.x3, nn (by decide) h.x4, nn (by decide) h.x5, nn (by decide) h.x6, nn (by decide) h.x7,
    range_offs h.x8 (.inl (by rw [cmdL_len]; decide)), World.rangeAt_setCells_same _ _ _ _ (range_there h.x22 rfl h.b), cells_off (o := 0) (.inr (by decide)) h.x26⟩
theorem WkAt.setUps (h : WkAt w xb B.l sb hb i f calm left st p) : WkAt (w.setCell ⟨xb, 26, none⟩ (.slice none 0 0)) xb B.l sb hb i f calm left st p :=
  ⟨h.b.set _ _, (cell_off _ _ _ _ _ (by decide)).trans h.x0, (cell_off _ _ _ _ _ (by decide)).trans h.x1, (cell_off _ _ _ _ _ (by decide)).trans h.x2, (cell_off _ _ _ _ _ (by decide)).trans h.x3, (cell_off _ _ _ _ _ (by decide)).trans h.x4, (cell_off _ _ _ _ _ (by decide)).trans h.x5, (cell_off _ _ _ _ _ (by decide)).trans h.x6,
   (cell_off _ _ _ _ _ (by decide)).trans h.x7, range_off h.x8 (.inr (by rw [cmdL_len]; decide)), range_off h.x22 (.inr (by decide)), World.cell?_setCell_same _ _ _ h.x26⟩
set_option maxRecDepth 100000 in
set_option maxHeartbeats 2000000 in
theorem WS.post_is (Z : WS w B c s el now P xb sb hb i 272 calm left st p last) (hi : i < c.sh) (hl : s.left i = false) (hcb : s.cur i ≤ 100000) (hx : (s.X (s.cur i)).isSome = true) (hp : s.rl i ≤ s.cur i ∧ s.cur i < s.rl i + c.ib ∧ s.Y i (s.cur i) = none) :
    Calls Tryz.prog 272 #[.pointer (some ⟨xb, 0, none⟩)] w (WPost w B c { s with cur := upd s.cur i (s.cur i + 1), Y := upd s.Y i (updI (s.Y i) (s.cur i) (some none)) } el now P xb sb hb i 284 calm left st p last) := by
  have TD : Turn (fun _ => False) w w.drew := (Turn.refl _ w).drewN 1
  have ZD := Z.same TD
  have PO := Lib.hid (ZD.L.post_is hi hl hcb (a := none) (n := 0) (m := 0) (o := none) rfl (fun _ => hp))
  have HX := Lib.hid hx
  have PO : Hid (Calls Tryz.prog 283 #[.pointer (some ⟨B.l, 0, none⟩), .int .i64 (i : Int), .agg zout.toArray] w.drew fun e w' =>
      (s.X (s.cur i) = none ∧ e = .returned (.bool false) ∧ Turn (fun _ => False) w.drew w') ∨
      ((s.X (s.cur i)).isSome = true ∧ e = .returned (.bool true) ∧ LogAt w' B c { s with cur := upd s.cur i (s.cur i + 1), Y := upd s.Y i (updI (s.Y i) (s.cur i) (some none)) } ∧ Turn (B.foot c.sh) w.drew w')) := PO
  have FF := Lib.hid (show ∀ U, Turn (fun _ => False) w.drew U → U.cell? ⟨xb, 0, none⟩ = some (.pointer (some ⟨B.l, 0, none⟩)) ∧ U.cell? ⟨xb, 1, none⟩ = some (.int .i64 (i : Int)) ∧ U.rangeAt xb 22 zout from fun U TU => ⟨TU.cell (fun f => f) ZD.X.x0, TU.cell (fun f => f) ZD.X.x1, range_turn ZD.X.x22 TU (fun f => f)⟩)
  have nf : ¬ B.foot c.sh xb := ZD.L.foot_ne ZD.X.b (by decide) (by decide) (by decide) (by decide) (by decide) (by decide)
  have FL := Lib.hid (show ∀ U, Turn (B.foot c.sh) w.drew U → U.cell? ⟨xb, 0, none⟩ = some (.pointer (some ⟨B.l, 0, none⟩)) ∧ U.cell? ⟨xb, 1, none⟩ = some (.int .i64 (i : Int)) ∧ U.rangeAt xb 22 zout from fun U TU => ⟨TU.cell nf ZD.X.x0, TU.cell nf ZD.X.x1, range_turn ZD.X.x22 TU nf⟩)
  clear Z hx hp hcb
  go_enter Tryz.func272, Tryz.ntmps272
  go_upto_region 1 with fail
  refine wp_region_held_drew (S := fun w' => w'.cell? ⟨xb, 0, none⟩ = some (.pointer (some ⟨B.l, 0, none⟩)) ∧ w'.cell? ⟨xb, 1, none⟩ = some (.int .i64 (i : Int)) ∧ w'.rangeAt xb 22 zout) (by kernel_rfl) ?hs0 (fun hS0 => ?_)
  case hs0 => exact FF.out _ (Turn.refl _ _)
  refine wpAnyH_take (i := 0) (oi := { dst := some 3, op := Op.move (Operand.tmp 0), type := 72, pos := "worker.go:104", after := #[], guard := none }) (v := ?_) rfl (by kernel_rfl) (by kernel_rfl) (by kernel_rfl) (fun _ _ _ h => h) (Or.inl ⟨by rfl, ?hy1⟩) hS0 ?_
  case hy1 => (intro w hSw; (try dsimp only at hSw); go_simp; try with_reducible rfl)
  try simp only [Act.put, List.setIfInBounds_toArray, List.set_cons_zero, List.set_cons_succ]
  refine wpAnyH_take (i := 1) (oi := { dst := some 4, op := Op.nilCheck (Operand.tmp 3), type := 0, pos := "worker.go:104", after := #[{ on := 0, ground := Ground.data }], guard := none }) (v := ?_) rfl (by kernel_rfl) (by kernel_rfl) (by kernel_rfl) (fun _ _ _ h => h) (Or.inl ⟨by rfl, ?hy2⟩) hS0 ?_
  case hy2 => (intro w hSw; (try dsimp only at hSw); go_simp; try with_reducible rfl)
  try simp only [Act.put, List.setIfInBounds_toArray, List.set_cons_zero, List.set_cons_succ]
  refine wpAnyH_take (i := 2) (oi := { dst := some 5, op := Op.fieldAddr 141 (Operand.tmp 4) 0, type := 0, pos := "worker.go:104", after := #[{ on := 1, ground := Ground.data }], guard := none }) (v := ?_) rfl (by kernel_rfl) (by kernel_rfl) (by kernel_rfl) (fun _ _ _ h => h) (Or.inl ⟨by rfl, ?hy3⟩) hS0 ?_
  case hy3 => (intro w hSw; (try dsimp only at hSw); go_simp; try with_reducible rfl)
  try simp only [Act.put, List.setIfInBounds_toArray, List.set_cons_zero, List.set_cons_succ]
  refine wpAnyH_take (i := 3) (oi := { dst := some 6, op := Op.load 65 (Operand.tmp 5), type := 65, pos := "worker.go:104", after := #[{ on := 2, ground := Ground.data }], guard := none }) (v := ?_) rfl (by kernel_rfl) (by kernel_rfl) (by kernel_rfl) (fun _ _ _ h => h) (Or.inl ⟨by rfl, ?hy4⟩) hS0 ?_
  case hy4 => (intro w hSw; (try dsimp only at hSw); go_simp; try with_reducible rfl)
  try simp only [Act.put, List.setIfInBounds_toArray, List.set_cons_zero, List.set_cons_succ]
  refine wpAnyH_take (i := 4) (oi := { dst := some 7, op := Op.move (Operand.tmp 0), type := 72, pos := "worker.go:104", after := #[], guard := none }) (v := ?_) rfl (by kernel_rfl) (by kernel_rfl) (by kernel_rfl) (fun _ _ _ h => h) (Or.inl ⟨by rfl, ?hy5⟩) hS0 ?_
  case hy5 => (intro w hSw; (try dsimp only at hSw); go_simp; try with_reducible rfl)
  try simp only [Act.put, List.setIfInBounds_toArray, List.set_cons_zero, List.set_cons_succ]
  refine wpAnyH_take (i := 5) (oi := { dst := some 8, op := Op.nilCheck (Operand.tmp 7), type := 0, pos := "worker.go:104", after := #[{ on := 4, ground := Ground.data }], guard := none }) (v := ?_) rfl (by kernel_rfl) (by kernel_rfl) (by kernel_rfl) (fun _ _ _ h => h) (Or.inl ⟨by rfl, ?hy6⟩) hS0 ?_
  case hy6 => (intro w hSw; (try dsimp only at hSw); go_simp; try with_reducible rfl)
  try simp only [Act.put, List.setIfInBounds_toArray, List.set_cons_zero, List.set_cons_succ]
  refine wpAnyH_take (i := 6) (oi := { dst := some 9, op := Op.fieldAddr 141 (Operand.tmp 8) 1, type := 0, pos := "worker.go:104", after := #[{ on := 5, ground := Ground.data }], guard := none }) (v := ?_) rfl (by kernel_rfl) (by kernel_rfl) (by kernel_rfl) (fun _ _ _ h => h) (Or.inl ⟨by rfl, ?hy7⟩) hS0 ?_
  case hy7 => (intro w hSw; (try dsimp only at hSw); go_simp; try with_reducible rfl)
  try simp only [Act.put, List.setIfInBounds_toArray, List.set_cons_zero, List.set_cons_succ]
  refine wpAnyH_take (i := 7) (oi := { dst := some 10, op := Op.load 3 (Operand.tmp 9), type := 3, pos := "worker.go:104", after := #[{ on := 6, ground := Ground.data }], guard := none }) (v := ?_) rfl (by kernel_rfl) (by kernel_rfl) (by kernel_rfl) (fun _ _ _ h => h) (Or.inl ⟨by rfl, ?hy8⟩) hS0 ?_
  case hy8 => (intro w hSw; (try dsimp only at hSw); go_simp; try with_reducible rfl)
  try simp only [Act.put, List.setIfInBounds_toArray, List.set_cons_zero, List.set_cons_succ]
  refine wpAnyH_take (i := 8) (oi := { dst := some 11, op := Op.move (Operand.tmp 0), type := 72, pos := "worker.go:104", after := #[], guard := none }) (v := ?_) rfl (by kernel_rfl) (by kernel_rfl) (by kernel_rfl) (fun _ _ _ h => h) (Or.inl ⟨by rfl, ?hy9⟩) hS0 ?_
  case hy9 => (intro w hSw; (try dsimp only at hSw); go_simp; try with_reducible rfl)
  try simp only [Act.put, List.setIfInBounds_toArray, List.set_cons_zero, List.set_cons_succ]
  refine wpAnyH_take (i := 9) (oi := { dst := some 12, op := Op.nilCheck (Operand.tmp 11), type := 0, pos := "worker.go:104", after := #[{ on := 8, ground := Ground.data }], guard := none }) (v := ?_) rfl (by kernel_rfl) (by kernel_rfl) (by kernel_rfl) (fun _ _ _ h => h) (Or.inl ⟨by rfl, ?hy10⟩) hS0 ?_
  case hy10 => (intro w hSw; (try dsimp only at hSw); go_simp; try with_reducible rfl)
  try simp only [Act.put, List.setIfInBounds_toArray, List.set_cons_zero, List.set_cons_succ]
  refine wpAnyH_take (i := 10) (oi := { dst := some 13, op := Op.fieldAddr 141 (Operand.tmp 12) 9, type := 0, pos := "worker.go:104", after := #[{ on := 9, ground := Ground.data }], guard := none }) (v := ?_) rfl (by kernel_rfl) (by kernel_rfl) (by kernel_rfl) (fun _ _ _ h => h) (Or.inl ⟨by rfl, ?hy11⟩) hS0 ?_
  case hy11 => (intro w hSw; (try dsimp only at hSw); go_simp; try with_reducible rfl)
  try simp only [Act.put, List.setIfInBounds_toArray, List.set_cons_zero, List.set_cons_succ]
  refine wpAnyH_take (i := 11) (oi := { dst := some 14, op := Op.load 57 (Operand.tmp 13), type := 57, pos := "worker.go:104", after := #[{ on := 10, ground := Ground.data }], guard := none }) (v := .agg zout.toArray) rfl (by kernel_rfl) (by kernel_rfl) (by kernel_rfl) (fun _ _ _ h => h) (yieldsIf_load_mid (by rfl) 57 _ rfl xb 22 rfl zout _ (fun _ h => h.2.2) Tryz.underlying57 rfl size57) hS0 ?_
  try simp only [Act.put, List.setIfInBounds_toArray, List.set_cons_zero, List.set_cons_succ]
  refine wpAnyH_ready (rs := [12]) (by kernel_rfl) (by simp) ?_
  refine AllReadyH.cons (o := { dst := some 15, op := Op.call { callee := Callee.value (Operand.func 283), args := #[Operand.tmp 6, Operand.tmp 10, Operand.tmp 14], argTypes := #[65, 3, 57] }, type := 4, pos := "worker.go:104", after := #[{ on := 3, ground := Ground.data }, { on := 7, ground := Ground.data }, { on := 11, ground := Ground.data }], guard := none }) rfl (fun K hK => ?_) AllReadyH.nil
  go_simp
  with_reducible refine PO.out.mono ?_
  rintro en Wp (⟨hn, _⟩ | ⟨_, rfl, LL, TL⟩)
  · rw [hn] at HX; exact absurd HX.out (by decide)
  go_simp
  have ZZ := ZD.onL LL TL
  have TZ := (TD.more (S' := WOwn B c el xb sb hb) (fun _ _ f => f.elim)).trans (TL.more (fun _ _ e => own_f e))
  refine hK.out _ _ ?hs13 (fun hS13 => ?_)
  case hs13 => exact FL.out _ TL
  clear hK K hS0
  refine wpAnyH_done (by kernel_rfl) ?_ _
  skip
  generalize Wp = WZ at *
  have TA : WZ.there xb 22 zout.toArray.size := range_there ZZ.X.x22 rfl ZZ.X.b
  have Z1 := ZZ.onX ZZ.X.setOut (Turn.setCells zout 22 (Turn.refl _ WZ) (.inl rfl))
  have T1 := TZ.trans ((Turn.setCells zout 22 (Turn.refl (fun k => k = xb) WZ) (.inl rfl)).more (fun _ _ e => own_x (B := B) (c := c) (el := el) (sb := sb) (hb := hb) e))
  have y26 := Z1.X.x26
  have fz1 := Z1.X.b.fz
  have Z2 := Z1.onX Z1.X.setUps (Turn.put _ _ _ _)
  have T2 := T1.trans ((Turn.put _ xb 26 (.slice none 0 0)).more (fun _ _ e => own_x (B := B) (c := c) (el := el) (sb := sb) (hb := hb) e))
  have y4 := Z2.X.x4
  have fz2 := Z2.X.b.fz
  have sf := store_func (f := 284) (x := xb) y4 (fz2 4)
  have FIN := Lib.hid (show WPost w B c { s with cur := upd s.cur i (s.cur i + 1), Y := upd s.Y i (updI (s.Y i) (s.cur i) (some none)) } el now P xb sb hb i 284 calm left st p last (.returned (.bool true)) _ from ⟨rfl, (Z2.next 284).1, T2.trans (Z2.next 284).2⟩)
  clear ZZ TZ Z1 T1 Z2 T2
  go_wp2_with (first
    | ((with_reducible show wpList _ _ _ ({ dst := none, op := Op.store 57 _ _, type := _, pos := _, after := _, guard := _ } :: _) _ _); refine wpList_store_mid rfl 57 _ _ rfl xb 22 zout.toArray rfl rfl TA size57 (by simp [zout, Value.oneCell']) ?_))
  go_ret
  exact FIN.out
end
end Go.Proofs.YtgfobgabdafclaaGreat
