/-
  A worker's other steps, for commands that ask nothing of its shard.
-/
import Derived.Test.YtgfobgabdafclaaGreatWg
namespace Go.Proofs.YtgfobgabdafclaaGreat
open Go.ChangeShapes Go.WideShapes Go.ChangeAt Go.RowKit
set_option linter.unusedVariables false
section
variable {w w' : World} {B : LB} {c : Cf} {s : LSt} {el xb sb hb i f : Nat} {now st last : Int} {P : Nat → Int} {calm left : Bool} {p q : Int × Int}
set_option maxRecDepth 100000 in
set_option maxHeartbeats 4000000 in
theorem WS.apply_is (Z : WS w B c s el now P xb sb hb i 186 calm left st p last) (hst : last < st) (h1 : p.1 ≠ 1) (h2 : p.1 ≠ 2) (h3 : p.1 ≠ 3) :
    Calls Tryz.prog 186 #[.pointer (some ⟨xb, 0, none⟩)] w (WPost w B c s el now P xb sb hb i 251 calm left st p st) := by
  have TD : Turn (fun _ => False) w w.drew := (Turn.refl _ w).drewN 1
  have ZD := Z.same TD
  have z60 : (Tryz.prog.info? 60).map (·.size) = some (cmdL p).length := by rw [cmdL_len]; exact size51
  have SI := Lib.hid (show ∀ U, Turn (fun _ => False) w.drew U → Calls Tryz.prog 115 #[.pointer (some ⟨B.l, 0, none⟩)] U (fun e w' => e = .returned (.pointer (some B.sp)) ∧ U = w') from fun U TU => (ZD.L.keep TU).store_is)
  have AP := Lib.hid (apply_pass (kd := p.1) ZD.S hst (cmdL_len p) rfl h1 h2 h3 (.func (.func 220) #[.pointer (some B.sp)] #[]))
  have FF := Lib.hid (show ∀ U, Turn (fun _ => False) w.drew U → U.cell? ⟨xb, 0, none⟩ = some (.pointer (some ⟨B.l, 0, none⟩)) ∧ U.cell? ⟨xb, 2, none⟩ = some (.pointer (some ⟨sb, 0, none⟩)) ∧ U.cell? ⟨xb, 7, none⟩ = some (.int .i64 st) ∧ U.rangeAt xb 8 (cmdL p) from fun U TU => ⟨TU.cell (fun f => f) ZD.X.x0, TU.cell (fun f => f) ZD.X.x2, TU.cell (fun f => f) ZD.X.x7, range_turn ZD.X.x8 TU (fun f => f)⟩)
  have ns : ¬ xb = sb := ZD.X.b.ne ZD.S.b (by decide)
  have FS := Lib.hid (show ∀ U, Turn (fun k => k = sb) w.drew U → U.cell? ⟨xb, 0, none⟩ = some (.pointer (some ⟨B.l, 0, none⟩)) ∧ U.cell? ⟨xb, 2, none⟩ = some (.pointer (some ⟨sb, 0, none⟩)) ∧ U.cell? ⟨xb, 7, none⟩ = some (.int .i64 st) ∧ U.rangeAt xb 8 (cmdL p) from fun U TU => ⟨TU.cell ns ZD.X.x0, TU.cell ns ZD.X.x2, TU.cell ns ZD.X.x7, range_turn ZD.X.x8 TU ns⟩)
  clear Z h1 h2 h3 hst
  go_enter Tryz.func186, Tryz.ntmps186
  go_upto_region 1 with fail
  refine wp_region_held_drew (S := fun w' => w'.cell? ⟨xb, 0, none⟩ = some (.pointer (some ⟨B.l, 0, none⟩)) ∧ w'.cell? ⟨xb, 2, none⟩ = some (.pointer (some ⟨sb, 0, none⟩)) ∧ w'.cell? ⟨xb, 7, none⟩ = some (.int .i64 st) ∧ w'.rangeAt xb 8 (cmdL p)) (by kernel_rfl) ?hs0 (fun hS0 => ?_)
  case hs0 => exact FF.out _ (Turn.refl _ _)
  refine wpAnyH_take (i := 0) (oi := { dst := some 3, op := Op.move (Operand.tmp 0), type := 72, pos := "worker.go:65", after := #[], guard := none }) (v := ?_) rfl (by kernel_rfl) (by kernel_rfl) (by kernel_rfl) (fun _ _ _ h => h) (Or.inl ⟨by rfl, ?hy1⟩) hS0 ?_
  case hy1 => (intro w hSw; (try dsimp only at hSw); go_simp; try with_reducible rfl)
  try simp only [Act.put, List.setIfInBounds_toArray, List.set_cons_zero, List.set_cons_succ]
  refine wpAnyH_take (i := 1) (oi := { dst := some 4, op := Op.move (Operand.tmp 0), type := 72, pos := "worker.go:65", after := #[], guard := none }) (v := ?_) rfl (by kernel_rfl) (by kernel_rfl) (by kernel_rfl) (fun _ _ _ h => h) (Or.inl ⟨by rfl, ?hy2⟩) hS0 ?_
  case hy2 => (intro w hSw; (try dsimp only at hSw); go_simp; try with_reducible rfl)
  try simp only [Act.put, List.setIfInBounds_toArray, List.set_cons_zero, List.set_cons_succ]
  refine wpAnyH_take (i := 2) (oi := { dst := some 5, op := Op.nilCheck (Operand.tmp 4), type := 0, pos := "worker.go:65", after := #[{ on := 1, ground := Ground.data }], guard := none }) (v := ?_) rfl (by kernel_rfl) (by kernel_rfl) (by kernel_rfl) (fun _ _ _ h => h) (Or.inl ⟨by rfl, ?hy3⟩) hS0 ?_
  case hy3 => (intro w hSw; (try dsimp only at hSw); go_simp; try with_reducible rfl)
  try simp only [Act.put, List.setIfInBounds_toArray, List.set_cons_zero, List.set_cons_succ]
  refine wpAnyH_take (i := 3) (oi := { dst := some 6, op := Op.fieldAddr 141 (Operand.tmp 5) 2, type := 0, pos := "worker.go:65", after := #[{ on := 2, ground := Ground.data }], guard := none }) (v := ?_) rfl (by kernel_rfl) (by kernel_rfl) (by kernel_rfl) (fun _ _ _ h => h) (Or.inl ⟨by rfl, ?hy4⟩) hS0 ?_
  case hy4 => (intro w hSw; (try dsimp only at hSw); go_simp; try with_reducible rfl)
  try simp only [Act.put, List.setIfInBounds_toArray, List.set_cons_zero, List.set_cons_succ]
  refine wpAnyH_take (i := 4) (oi := { dst := some 7, op := Op.load 48 (Operand.tmp 6), type := 48, pos := "worker.go:65", after := #[{ on := 3, ground := Ground.data }], guard := none }) (v := ?_) rfl (by kernel_rfl) (by kernel_rfl) (by kernel_rfl) (fun _ _ _ h => h) (Or.inl ⟨by rfl, ?hy5⟩) hS0 ?_
  case hy5 => (intro w hSw; (try dsimp only at hSw); go_simp; try with_reducible rfl)
  try simp only [Act.put, List.setIfInBounds_toArray, List.set_cons_zero, List.set_cons_succ]
  refine wpAnyH_take (i := 5) (oi := { dst := some 8, op := Op.move (Operand.tmp 0), type := 72, pos := "worker.go:65", after := #[], guard := none }) (v := ?_) rfl (by kernel_rfl) (by kernel_rfl) (by kernel_rfl) (fun _ _ _ h => h) (Or.inl ⟨by rfl, ?hy6⟩) hS0 ?_
  case hy6 => (intro w hSw; (try dsimp only at hSw); go_simp; try with_reducible rfl)
  try simp only [Act.put, List.setIfInBounds_toArray, List.set_cons_zero, List.set_cons_succ]
  refine wpAnyH_take (i := 6) (oi := { dst := some 9, op := Op.nilCheck (Operand.tmp 8), type := 0, pos := "worker.go:65", after := #[{ on := 5, ground := Ground.data }], guard := none }) (v := ?_) rfl (by kernel_rfl) (by kernel_rfl) (by kernel_rfl) (fun _ _ _ h => h) (Or.inl ⟨by rfl, ?hy7⟩) hS0 ?_
  case hy7 => (intro w hSw; (try dsimp only at hSw); go_simp; try with_reducible rfl)
  try simp only [Act.put, List.setIfInBounds_toArray, List.set_cons_zero, List.set_cons_succ]
  refine wpAnyH_take (i := 7) (oi := { dst := some 10, op := Op.fieldAddr 141 (Operand.tmp 9) 7, type := 0, pos := "worker.go:65", after := #[{ on := 6, ground := Ground.data }], guard := none }) (v := ?_) rfl (by kernel_rfl) (by kernel_rfl) (by kernel_rfl) (fun _ _ _ h => h) (Or.inl ⟨by rfl, ?hy8⟩) hS0 ?_
  case hy8 => (intro w hSw; (try dsimp only at hSw); go_simp; try with_reducible rfl)
  try simp only [Act.put, List.setIfInBounds_toArray, List.set_cons_zero, List.set_cons_succ]
  refine wpAnyH_take (i := 8) (oi := { dst := some 11, op := Op.load 3 (Operand.tmp 10), type := 3, pos := "worker.go:65", after := #[{ on := 7, ground := Ground.data }], guard := none }) (v := ?_) rfl (by kernel_rfl) (by kernel_rfl) (by kernel_rfl) (fun _ _ _ h => h) (Or.inl ⟨by rfl, ?hy9⟩) hS0 ?_
  case hy9 => (intro w hSw; (try dsimp only at hSw); go_simp; try with_reducible rfl)
  try simp only [Act.put, List.setIfInBounds_toArray, List.set_cons_zero, List.set_cons_succ]
  refine wpAnyH_take (i := 9) (oi := { dst := some 12, op := Op.move (Operand.tmp 0), type := 72, pos := "worker.go:65", after := #[], guard := none }) (v := ?_) rfl (by kernel_rfl) (by kernel_rfl) (by kernel_rfl) (fun _ _ _ h => h) (Or.inl ⟨by rfl, ?hy10⟩) hS0 ?_
  case hy10 => (intro w hSw; (try dsimp only at hSw); go_simp; try with_reducible rfl)
  try simp only [Act.put, List.setIfInBounds_toArray, List.set_cons_zero, List.set_cons_succ]
  refine wpAnyH_take (i := 10) (oi := { dst := some 13, op := Op.nilCheck (Operand.tmp 12), type := 0, pos := "worker.go:65", after := #[{ on := 9, ground := Ground.data }], guard := none }) (v := ?_) rfl (by kernel_rfl) (by kernel_rfl) (by kernel_rfl) (fun _ _ _ h => h) (Or.inl ⟨by rfl, ?hy11⟩) hS0 ?_
  case hy11 => (intro w hSw; (try dsimp only at hSw); go_simp; try with_reducible rfl)
  try simp only [Act.put, List.setIfInBounds_toArray, List.set_cons_zero, List.set_cons_succ]
  refine wpAnyH_take (i := 11) (oi := { dst := some 14, op := Op.fieldAddr 141 (Operand.tmp 13) 8, type := 0, pos := "worker.go:65", after := #[{ on := 10, ground := Ground.data }], guard := none }) (v := ?_) rfl (by kernel_rfl) (by kernel_rfl) (by kernel_rfl) (fun _ _ _ h => h) (Or.inl ⟨by rfl, ?hy12⟩) hS0 ?_
  case hy12 => (intro w hSw; (try dsimp only at hSw); go_simp; try with_reducible rfl)
  try simp only [Act.put, List.setIfInBounds_toArray, List.set_cons_zero, List.set_cons_succ]
  refine wpAnyH_take (i := 12) (oi := { dst := some 15, op := Op.load 60 (Operand.tmp 14), type := 60, pos := "worker.go:65", after := #[{ on := 11, ground := Ground.data }], guard := none }) (v := .agg (cmdL p).toArray) rfl (by kernel_rfl) (by kernel_rfl) (by kernel_rfl) (fun _ _ _ h => h) (yieldsIf_load_mid (by rfl) 60 _ rfl xb 8 rfl (cmdL p) _ (fun _ h => h.2.2.2) Tryz.underlying60 rfl z60) hS0 ?_
  try simp only [Act.put, List.setIfInBounds_toArray, List.set_cons_zero, List.set_cons_succ]
  refine wpAnyH_take (i := 13) (oi := { dst := some 16, op := Op.move (Operand.tmp 0), type := 72, pos := "worker.go:65", after := #[], guard := none }) (v := ?_) rfl (by kernel_rfl) (by kernel_rfl) (by kernel_rfl) (fun _ _ _ h => h) (Or.inl ⟨by rfl, ?hy14⟩) hS0 ?_
  case hy14 => (intro w hSw; (try dsimp only at hSw); go_simp; try with_reducible rfl)
  try simp only [Act.put, List.setIfInBounds_toArray, List.set_cons_zero, List.set_cons_succ]
  refine wpAnyH_take (i := 14) (oi := { dst := some 17, op := Op.nilCheck (Operand.tmp 16), type := 0, pos := "worker.go:65", after := #[{ on := 13, ground := Ground.data }], guard := none }) (v := ?_) rfl (by kernel_rfl) (by kernel_rfl) (by kernel_rfl) (fun _ _ _ h => h) (Or.inl ⟨by rfl, ?hy15⟩) hS0 ?_
  case hy15 => (intro w hSw; (try dsimp only at hSw); go_simp; try with_reducible rfl)
  try simp only [Act.put, List.setIfInBounds_toArray, List.set_cons_zero, List.set_cons_succ]
  refine wpAnyH_take (i := 15) (oi := { dst := some 18, op := Op.fieldAddr 141 (Operand.tmp 17) 0, type := 0, pos := "worker.go:65", after := #[{ on := 14, ground := Ground.data }], guard := none }) (v := ?_) rfl (by kernel_rfl) (by kernel_rfl) (by kernel_rfl) (fun _ _ _ h => h) (Or.inl ⟨by rfl, ?hy16⟩) hS0 ?_
  case hy16 => (intro w hSw; (try dsimp only at hSw); go_simp; try with_reducible rfl)
  try simp only [Act.put, List.setIfInBounds_toArray, List.set_cons_zero, List.set_cons_succ]
  refine wpAnyH_take (i := 16) (oi := { dst := some 19, op := Op.load 65 (Operand.tmp 18), type := 65, pos := "worker.go:65", after := #[{ on := 15, ground := Ground.data }], guard := none }) (v := ?_) rfl (by kernel_rfl) (by kernel_rfl) (by kernel_rfl) (fun _ _ _ h => h) (Or.inl ⟨by rfl, ?hy17⟩) hS0 ?_
  case hy17 => (intro w hSw; (try dsimp only at hSw); go_simp; try with_reducible rfl)
  try simp only [Act.put, List.setIfInBounds_toArray, List.set_cons_zero, List.set_cons_succ]
  refine wpAnyH_ready (rs := [17]) (by kernel_rfl) (by simp) ?_
  refine AllReadyH.cons (o := { dst := some 20, op := Op.call { callee := Callee.value (Operand.func 115), args := #[Operand.tmp 19], argTypes := #[65] }, type := 124, pos := "worker.go:65", after := #[{ on := 16, ground := Ground.data }], guard := none }) rfl (fun K hK => ?_) AllReadyH.nil
  go_simp
  with_reducible refine (SI.out _ (Turn.refl _ _)).mono ?_
  rintro en Wk ⟨rfl, rfl⟩
  go_simp
  refine hK.out _ _ ?hs18 (fun hS18 => ?_)
  case hs18 => exact FF.out _ (Turn.refl _ _)
  clear hK K hS0
  refine wpAnyH_take (i := 18) (oi := { dst := some 21, op := Op.makeFunc (Fn.func 220) #[Operand.tmp 20] #[], type := 40, pos := "worker.go:65", after := #[{ on := 17, ground := Ground.data }], guard := none }) (v := ?_) rfl (by kernel_rfl) (by kernel_rfl) (by kernel_rfl) (fun _ _ _ h => h) (Or.inl ⟨by rfl, ?hy19⟩) hS18 ?_
  case hy19 => (intro w hSw; (try dsimp only at hSw); go_simp; try with_reducible rfl)
  try simp only [Act.put, List.setIfInBounds_toArray, List.set_cons_zero, List.set_cons_succ]
  refine wpAnyH_ready (rs := [19]) (by kernel_rfl) (by simp) ?_
  refine AllReadyH.cons (o := { dst := some 22, op := Op.call { callee := Callee.value (Operand.func 16), args := #[Operand.tmp 7, Operand.tmp 11, Operand.tmp 15, Operand.tmp 21], argTypes := #[48, 3, 60, 40] }, type := 57, pos := "worker.go:65", after := #[{ on := 4, ground := Ground.data }, { on := 8, ground := Ground.data }, { on := 12, ground := Ground.data }, { on := 18, ground := Ground.data }, { on := 17, ground := Ground.chain }], guard := none }) rfl (fun K hK => ?_) AllReadyH.nil
  go_simp
  with_reducible refine AP.out.mono ?_
  rintro en Wp ⟨rfl, SS, TS⟩
  go_simp
  have Z1 := ZD.onS SS TS
  have T1 := (TD.more (S' := WOwn B c el xb sb hb) (fun _ _ f => f.elim)).trans (TS.more (fun _ _ e => own_s e))
  refine hK.out _ _ ?hs20 (fun hS20 => ?_)
  case hs20 => exact FS.out _ TS
  clear hK K hS18
  have TA : Wp.there xb 22 zout.toArray.size := range_there Z1.X.x22 rfl Z1.X.b
  have TO : Turn (fun k => k = xb) Wp (Wp.setCells xb 22 zout) := Turn.setCells zout 22 (Turn.refl _ Wp) (.inl rfl)
  have Z2 := Z1.onX Z1.X.setOut TO
  have T2 := T1.trans (TO.more (fun _ _ e => own_x (B := B) (c := c) (el := el) (sb := sb) (hb := hb) e))
  refine wpAnyH_take (i := 20) (oi := { dst := some 23, op := Op.nilCheck (Operand.tmp 3), type := 0, pos := "worker.go:65", after := #[{ on := 0, ground := Ground.data }, { on := 0, ground := Ground.phase }, { on := 1, ground := Ground.phase }, { on := 2, ground := Ground.phase }, { on := 3, ground := Ground.phase }, { on := 4, ground := Ground.phase }, { on := 5, ground := Ground.phase }, { on := 6, ground := Ground.phase }, { on := 7, ground := Ground.phase }, { on := 8, ground := Ground.phase }, { on := 9, ground := Ground.phase }, { on := 10, ground := Ground.phase }, { on := 11, ground := Ground.phase }, { on := 12, ground := Ground.phase }, { on := 13, ground := Ground.phase }, { on := 14, ground := Ground.phase }, { on := 15, ground := Ground.phase }, { on := 16, ground := Ground.phase }, { on := 17, ground := Ground.phase }, { on := 18, ground := Ground.phase }, { on := 19, ground := Ground.phase }], guard := none }) (v := ?_) rfl (by kernel_rfl) (by kernel_rfl) (by kernel_rfl) (fun _ _ _ h => h) (Or.inl ⟨by rfl, ?hy21⟩) hS20 ?_
  case hy21 => (intro w hSw; (try dsimp only at hSw); go_simp; try with_reducible rfl)
  try simp only [Act.put, List.setIfInBounds_toArray, List.set_cons_zero, List.set_cons_succ]
  refine wpAnyH_take (i := 21) (oi := { dst := some 24, op := Op.fieldAddr 141 (Operand.tmp 23) 9, type := 0, pos := "worker.go:65", after := #[{ on := 20, ground := Ground.data }, { on := 0, ground := Ground.phase }, { on := 1, ground := Ground.phase }, { on := 2, ground := Ground.phase }, { on := 3, ground := Ground.phase }, { on := 4, ground := Ground.phase }, { on := 5, ground := Ground.phase }, { on := 6, ground := Ground.phase }, { on := 7, ground := Ground.phase }, { on := 8, ground := Ground.phase }, { on := 9, ground := Ground.phase }, { on := 10, ground := Ground.phase }, { on := 11, ground := Ground.phase }, { on := 12, ground := Ground.phase }, { on := 13, ground := Ground.phase }, { on := 14, ground := Ground.phase }, { on := 15, ground := Ground.phase }, { on := 16, ground := Ground.phase }, { on := 17, ground := Ground.phase }, { on := 18, ground := Ground.phase }, { on := 19, ground := Ground.phase }], guard := none }) (v := ?_) rfl (by kernel_rfl) (by kernel_rfl) (by kernel_rfl) (fun _ _ _ h => h) (Or.inl ⟨by rfl, ?hy22⟩) hS20 ?_
  case hy22 => (intro w hSw; (try dsimp only at hSw); go_simp; try with_reducible rfl)
  try simp only [Act.put, List.setIfInBounds_toArray, List.set_cons_zero, List.set_cons_succ]
  refine wpAnyH_ready (rs := [22]) (by kernel_rfl) (by simp) ?_
  refine AllReadyH.cons (o := { dst := none, op := Op.store 57 (Operand.tmp 24) (Operand.tmp 22), type := 0, pos := "worker.go:65", after := #[{ on := 21, ground := Ground.data }, { on := 19, ground := Ground.data }, { on := 19, ground := Ground.chain }, { on := 0, ground := Ground.phase }, { on := 1, ground := Ground.phase }, { on := 2, ground := Ground.phase }, { on := 3, ground := Ground.phase }, { on := 4, ground := Ground.phase }, { on := 5, ground := Ground.phase }, { on := 6, ground := Ground.phase }, { on := 7, ground := Ground.phase }, { on := 8, ground := Ground.phase }, { on := 9, ground := Ground.phase }, { on := 10, ground := Ground.phase }, { on := 11, ground := Ground.phase }, { on := 12, ground := Ground.phase }, { on := 13, ground := Ground.phase }, { on := 14, ground := Ground.phase }, { on := 15, ground := Ground.phase }, { on := 16, ground := Ground.phase }, { on := 17, ground := Ground.phase }, { on := 18, ground := Ground.phase }, { on := 19, ground := Ground.phase }], guard := none }) rfl (fun K hK => ?_) AllReadyH.nil
  refine wp_store_mid 57 _ _ rfl xb 22 zout.toArray rfl rfl TA size57 (by simp [zout, Value.oneCell']) ?_
  refine hK.out _ _ ?hs23 (fun hS23 => ?_)
  case hs23 => exact ⟨Z2.X.x0, Z2.X.x2, Z2.X.x7, Z2.X.x8⟩
  clear hK K hS20
  refine wpAnyH_done (by kernel_rfl) ?_ _
  skip
  change _ at Z2
  generalize Wp.setCells xb 22 zout = WZ at *
  have y26 := Z2.X.x26
  have y24 : WZ.cell? ⟨xb, 24, none⟩ = some (.slice none 0 0) := Z2.X.x22 2 _ rfl
  have fz := Z2.X.b.fz
  have Z3 := Z2.onX Z2.X.setUps (Turn.put _ _ _ _)
  have T3 := T2.trans ((Turn.put _ xb 26 (.slice none 0 0)).more (fun _ _ e => own_x (B := B) (c := c) (el := el) (sb := sb) (hb := hb) e))
  clear Z1 T1 Z2 T2 TS SS TO TA
  go_upto_region 3 with fail
  clear y26 y24 fz
  generalize WZ.setCell ⟨xb, 26, none⟩ (.slice none 0 0) = WY at *
  have TD3 : Turn (fun _ => False) WY WY.drew := (Turn.refl _ WY).drewN 1
  have ZD3 := Z3.same TD3
  have TZ3 := Lib.hid T3
  have TK := Lib.hid ZD3.H.take_is
  have FF3 := Lib.hid (show ∀ U, Turn (fun _ => False) WY.drew U → U.cell? ⟨xb, 3, none⟩ = some (.pointer (some ⟨hb, 0, none⟩)) ∧ U.cell? ⟨xb, 25, none⟩ = some (.slice none 0 0) from fun U TU => ⟨TU.cell (fun f => f) ZD3.X.x3, TU.cell (fun f => f) (ZD3.X.x22 3 _ rfl)⟩)
  clear Z3 T3
  refine wp_region_held_drew (S := fun w' => w'.cell? ⟨xb, 3, none⟩ = some (.pointer (some ⟨hb, 0, none⟩)) ∧ w'.cell? ⟨xb, 25, none⟩ = some (.slice none 0 0)) (by kernel_rfl) ?hs0 (fun hS0 => ?_)
  case hs0 => exact FF3.out _ (Turn.refl _ _)
  refine wpAnyH_take (i := 0) (oi := { dst := some 33, op := Op.move (Operand.tmp 0), type := 72, pos := "worker.go:67", after := #[], guard := none }) (v := ?_) rfl (by kernel_rfl) (by kernel_rfl) (by kernel_rfl) (fun _ _ _ h => h) (Or.inl ⟨by rfl, ?hy1⟩) hS0 ?_
  case hy1 => (intro w hSw; (try dsimp only at hSw); go_simp; try with_reducible rfl)
  try simp only [Act.put, List.setIfInBounds_toArray, List.set_cons_zero, List.set_cons_succ]
  refine wpAnyH_take (i := 1) (oi := { dst := some 34, op := Op.nilCheck (Operand.tmp 33), type := 0, pos := "worker.go:67", after := #[{ on := 0, ground := Ground.data }], guard := none }) (v := ?_) rfl (by kernel_rfl) (by kernel_rfl) (by kernel_rfl) (fun _ _ _ h => h) (Or.inl ⟨by rfl, ?hy2⟩) hS0 ?_
  case hy2 => (intro w hSw; (try dsimp only at hSw); go_simp; try with_reducible rfl)
  try simp only [Act.put, List.setIfInBounds_toArray, List.set_cons_zero, List.set_cons_succ]
  refine wpAnyH_take (i := 2) (oi := { dst := some 35, op := Op.fieldAddr 141 (Operand.tmp 34) 3, type := 0, pos := "worker.go:67", after := #[{ on := 1, ground := Ground.data }], guard := none }) (v := ?_) rfl (by kernel_rfl) (by kernel_rfl) (by kernel_rfl) (fun _ _ _ h => h) (Or.inl ⟨by rfl, ?hy3⟩) hS0 ?_
  case hy3 => (intro w hSw; (try dsimp only at hSw); go_simp; try with_reducible rfl)
  try simp only [Act.put, List.setIfInBounds_toArray, List.set_cons_zero, List.set_cons_succ]
  refine wpAnyH_take (i := 3) (oi := { dst := some 36, op := Op.load 138 (Operand.tmp 35), type := 138, pos := "worker.go:67", after := #[{ on := 2, ground := Ground.data }], guard := none }) (v := ?_) rfl (by kernel_rfl) (by kernel_rfl) (by kernel_rfl) (fun _ _ _ h => h) (Or.inl ⟨by rfl, ?hy4⟩) hS0 ?_
  case hy4 => (intro w hSw; (try dsimp only at hSw); go_simp; try with_reducible rfl)
  try simp only [Act.put, List.setIfInBounds_toArray, List.set_cons_zero, List.set_cons_succ]
  refine wpAnyH_take (i := 4) (oi := { dst := some 37, op := Op.move (Operand.tmp 0), type := 72, pos := "worker.go:67", after := #[], guard := none }) (v := ?_) rfl (by kernel_rfl) (by kernel_rfl) (by kernel_rfl) (fun _ _ _ h => h) (Or.inl ⟨by rfl, ?hy5⟩) hS0 ?_
  case hy5 => (intro w hSw; (try dsimp only at hSw); go_simp; try with_reducible rfl)
  try simp only [Act.put, List.setIfInBounds_toArray, List.set_cons_zero, List.set_cons_succ]
  refine wpAnyH_take (i := 5) (oi := { dst := some 38, op := Op.nilCheck (Operand.tmp 37), type := 0, pos := "worker.go:67", after := #[{ on := 4, ground := Ground.data }], guard := none }) (v := ?_) rfl (by kernel_rfl) (by kernel_rfl) (by kernel_rfl) (fun _ _ _ h => h) (Or.inl ⟨by rfl, ?hy6⟩) hS0 ?_
  case hy6 => (intro w hSw; (try dsimp only at hSw); go_simp; try with_reducible rfl)
  try simp only [Act.put, List.setIfInBounds_toArray, List.set_cons_zero, List.set_cons_succ]
  refine wpAnyH_take (i := 6) (oi := { dst := some 39, op := Op.fieldAddr 141 (Operand.tmp 38) 9, type := 0, pos := "worker.go:67", after := #[{ on := 5, ground := Ground.data }], guard := none }) (v := ?_) rfl (by kernel_rfl) (by kernel_rfl) (by kernel_rfl) (fun _ _ _ h => h) (Or.inl ⟨by rfl, ?hy7⟩) hS0 ?_
  case hy7 => (intro w hSw; (try dsimp only at hSw); go_simp; try with_reducible rfl)
  try simp only [Act.put, List.setIfInBounds_toArray, List.set_cons_zero, List.set_cons_succ]
  refine wpAnyH_take (i := 7) (oi := { dst := some 40, op := Op.fieldAddr 57 (Operand.tmp 39) 3, type := 0, pos := "worker.go:67", after := #[{ on := 6, ground := Ground.data }], guard := none }) (v := ?_) rfl (by kernel_rfl) (by kernel_rfl) (by kernel_rfl) (fun _ _ _ h => h) (Or.inl ⟨by rfl, ?hy8⟩) hS0 ?_
  case hy8 => (intro w hSw; (try dsimp only at hSw); go_simp; try with_reducible rfl)
  try simp only [Act.put, List.setIfInBounds_toArray, List.set_cons_zero, List.set_cons_succ]
  refine wpAnyH_take (i := 8) (oi := { dst := some 41, op := Op.load 34 (Operand.tmp 40), type := 34, pos := "worker.go:67", after := #[{ on := 7, ground := Ground.data }], guard := none }) (v := ?_) rfl (by kernel_rfl) (by kernel_rfl) (by kernel_rfl) (fun _ _ _ h => h) (Or.inl ⟨by rfl, ?hy9⟩) hS0 ?_
  case hy9 => (intro w hSw; (try dsimp only at hSw); go_simp; try with_reducible rfl)
  try simp only [Act.put, List.setIfInBounds_toArray, List.set_cons_zero, List.set_cons_succ]
  refine wpAnyH_ready (rs := [9]) (by kernel_rfl) (by simp) ?_
  refine AllReadyH.cons (o := { dst := some 42, op := Op.call { callee := Callee.value (Operand.func 191), args := #[Operand.tmp 36, Operand.tmp 41], argTypes := #[138, 34] }, type := 0, pos := "worker.go:67", after := #[{ on := 3, ground := Ground.data }, { on := 8, ground := Ground.data }], guard := none }) rfl (fun K hK => ?_) AllReadyH.nil
  go_simp
  with_reducible refine TK.out.mono ?_
  rintro en Wq ⟨rfl, HH, TH⟩
  go_simp
  have Z4 := ZD3.onH HH TH
  have T4 := (TZ3.out.trans (TD3.more (S' := WOwn B c el xb sb hb) (fun _ _ f => f.elim))).trans (TH.more (fun _ _ e => own_h e))
  refine hK.out _ _ ?hs10 (fun hS10 => ?_)
  case hs10 => exact ⟨Z4.X.x3, Z4.X.x22 3 _ rfl⟩
  clear hK K hS0
  refine wpAnyH_done (by kernel_rfl) ?_ _
  skip
  have PH := Lib.hid Z4.pick_hold
  have T4 := Lib.hid T4
  clear Z4 HH TH ZD3 TD3 TK FF3
  go_wp2_with fail
  with_reducible refine PH.out.mono ?_
  rintro e W5 ⟨rfl, Z5, T5⟩
  have FIN := Lib.hid (show WPost w B c s el now P xb sb hb i 251 calm left st p st (.returned (.bool true)) W5 from ⟨rfl, Z5, T4.out.trans T5⟩)
  clear Z5 T5 PH
  go_wp2_with fail
  go_ret
  exact FIN.out
end
end Go.Proofs.YtgfobgabdafclaaGreat
