/-
  An event put as the first one of a place.
-/
import Derived.Test.YtfidnahbhomomaaSf
namespace Go.Proofs.Ytfidnahbhomomaa
open Go.ChangeShapes Go.WideShapes Go.ChangeAt Go.RowKit
set_option linter.unusedVariables false
set_option linter.unusedSimpArgs false
set_option maxRecDepth 100000 in
set_option maxHeartbeats 8000000 in
theorem with_none {w : World} {ev : Value} {L : List (List Ev)} {at_ : Nat} {e : Ev} (h : ESetsAt w ev L) (hL : 1 ≤ L.length ∧ L.length ≤ 100) (ha : at_ ≤ 100) (hl : L.length ≤ at_) :
    Calls Try.prog 55 #[ev, .int .i64 (at_ : Int), .agg e.cells.toArray] w fun en w' => ∃ v, en = .returned v ∧ ESetsAt w' v (withE L at_ e) ∧ Turn (fun _ => False) w w' := by
  obtain ⟨W0, hW0⟩ : ∃ W0, W0 = w.alloc (.cells e.cells.toArray 62) := ⟨_, rfl⟩
  have T0 : Turn (fun _ => False) w W0 := by rw [hW0]; exact (Turn.refl _ w).alloc _
  have R0 : W0.rangeAt w.heap.size 0 e.cells := by rw [hW0]; exact range_new w e.cells 62
  have MK := make36 (n := max (at_ + 1) L.length) (by omega) W0
  obtain ⟨rs, hrl, hcp, C0⟩ := cop_new (h.turn T0) hL.1 (n := max (at_ + 1) L.length) (by omega) 3
  obtain ⟨ea, ecap, rfl⟩ : ∃ a c, ev = .slice a L.length c := by
    obtain ⟨a, _, _, c, e, _⟩ := h
    exact ⟨a, c, e⟩
  obtain ⟨W1, hW1⟩ : ∃ W1, W1 = (W0.alloc (.cells (madeCells #[.slice none 0 0] (max (at_ + 1) L.length)) 36)).setCells W0.heap.size 0 rs := ⟨_, rfl⟩
  rw [← hW1] at hcp C0
  have RE := range_turn R0 C0.turn id
  obtain ⟨g, hg⟩ : ∃ g, g = W0.heap.size := ⟨_, rfl⟩
  rw [← hg] at hcp C0 MK
  obtain ⟨i3, j1, j2, j3, j4⟩ := info_parts info62
  obtain ⟨V, hV⟩ : ∃ V, V = W1.drew := ⟨_, rfl⟩
  have TV : Turn (fun _ => False) W1 V := by rw [hV]; exact (Turn.refl _ W1).drewN 1
  have C := C0.turns TV
  have hold : L.getD at_ [] = [] := by rw [List.getD_eq_getElem?_getD, List.getElem?_eq_none hl]; rfl
  have hcell := C.hi at_ hl (by omega)
  obtain ⟨cap, W4, hrun, hown, T4⟩ := app_full (W := V.alloc (.cells e.cells.toArray 62)) 36 62 Try.underlying36 j1 j2 j3 j4 rfl (s := .slice none 0 0) (n := 0) (m := 1) (c := 1) (a := ⟨V.heap.size, 0, none⟩) (olds := []) (news := e.cells) (.inl ⟨rfl, rfl, rfl⟩) rfl rfl (fun j u hu => by
    rw [Go.WideShapes.add_plain]
    have := range_new V e.cells 62 j u hu
    exact this) (by omega) (by omega) (by omega)
  have hsa : (V.alloc (.cells e.cells.toArray 62)).heap.size = V.heap.size + 1 := World.size_alloc _ _
  rw [hsa] at hrun hown
  clear hsa
  have zV := range_turn RE TV id
  have TA : Turn (fun _ => False) V (V.alloc (.cells e.cells.toArray 62)) := (Turn.refl _ V).alloc _
  have T4V := TA.trans T4
  have FIN0 := C.put T4V (v := .slice (some ⟨V.heap.size + 1, 0, none⟩) (0 + 1) cap) (by
    rw [hold]
    refine EvsAt.own (base := V.heap.size + 1) ?_
    rw [ecells_app, List.length_append]
    have e1 : ecells [e] = e.cells := by simp [ecells]
    rw [e1]
    exact hown)
  have FIN := Lib.hid (show ESetsAt _ _ _ ∧ Turn (fun _ => False) w _ from ⟨FIN0.1, T0.trans FIN0.2⟩)
  have yV : V.cell? ⟨g, at_, none⟩ = some (.slice none 0 0) := hcell
  have yV1 := past (o := .cells e.cells.toArray 62) yV
  have y3 := T4V.cell id yV
  have fz3 : W4.frozen? ⟨g, at_, none⟩ = false := (C.bg.turn T4V id).fz _
  have zV1 := range_turn zV TA id
  have zV3 := range_turn zV T4V id
  have bX : w.heap.size < g := by rw [hg, hW0, World.size_alloc]; omega
  have zV4 := range_turn zV3 (Turn.put W4 g at_ (.slice (some ⟨V.heap.size + 1, 0, none⟩) (0 + 1) cap)) (show ¬ w.heap.size = g by omega)
  have zD := zV
  rw [hV] at zD
  have xD := yV
  rw [hV] at xD
  have x0 : W1.cell? ⟨g, at_, none⟩ = some (.slice none 0 0) := by rw [hV] at yV; exact yV
  have ew := wrapA ha
  have a0 : (0 : Int) ≤ (at_ : Int) := Int.natCast_nonneg at_
  have a1 : (at_ : Int) < ((max (at_ + 1) L.length : Nat) : Int) := Int.ofNat_lt.2 (Nat.lt_of_lt_of_le (Nat.lt_succ_self _) (Nat.le_max_left _ _))
  have emx := max_is at_ L.length
  have RUN1 := Lib.hid hrun
  have HCP := Lib.hid hcp
  have HW0 := Lib.hid hW0
  obtain ⟨et, ek, eaa, ebb, ec, ed⟩ := e
  unfold Ev.cells at *
  dsimp only at *
  clear h hL ha T0 R0 hrl C0 hW1 RE hg TV C TA T4V FIN0 hown T4 hcell hrun hcp hW0 bX hold hl
  generalize hmn : max (at_ + 1) L.length = mn at *
  clear hmn
  go_enter Try.func55, Try.ntmps55
  go_upto_region 1 with fail
  rw [← HW0.out]
  clear HW0
  generalize w.heap.size = eb at *
  go_upto_region 2 with fail
  clear MK emx ew
  go_upto_region 3 with (((with_reducible show wpList _ _ _ ({ dst := some 16, op := _, type := _, pos := _, after := _, guard := _ } :: _) _ _); refine rl_copy_run (by rfl) _ _ _ _ (by rfl) (by rfl) (by rfl) HCP.out ?_))
  clear HCP x0
  refine lany_start 21 (fun b w' => b = false → (fun w' => w'.rangeAt eb 0 [.int .i64 et, .int .i64 ek, .int .i64 eaa, .int .i64 ebb, .int .i64 ec, .int .i64 ed] ∧ w'.cell? ⟨g, at_, none⟩ = some (.slice none 0 0)) w') (by kernel_rfl) ?hs0 (fun hS0 => ?_)
  case hs0 => exact fun _ => ⟨zD, xD⟩
  rw [← hV] at hS0 ⊢
  clear hV
  refine LAny.take (i := 0) (oi := { dst := some 17, op := Op.move (Operand.tmp 7), type := 72, pos := "step.go:65", after := #[], guard := none }) (v := ?_) rfl (by kernel_rfl) (by kernel_rfl) (by kernel_rfl) (by kernel_rfl) (fun _ _ _ h => h) (Or.inl ⟨by rfl, ?hy1⟩) hS0 ?_
  case hy1 => (intro w hSw; have hSw := hSw rfl; (try dsimp only at hSw); go_simp; try with_reducible rfl)
  try simp only [Act.put, List.setIfInBounds_toArray, List.set_cons_zero, List.set_cons_succ]
  refine LAny.take (i := 1) (oi := { dst := some 18, op := Op.move (Operand.tmp 1), type := 3, pos := "step.go:65", after := #[], guard := none }) (v := ?_) rfl (by kernel_rfl) (by kernel_rfl) (by kernel_rfl) (by kernel_rfl) (fun _ _ _ h => h) (Or.inl ⟨by rfl, ?hy2⟩) hS0 ?_
  case hy2 => (intro w hSw; have hSw := hSw rfl; (try dsimp only at hSw); go_simp; try with_reducible rfl)
  try simp only [Act.put, List.setIfInBounds_toArray, List.set_cons_zero, List.set_cons_succ]
  refine LAny.take (i := 2) (oi := { dst := some 19, op := Op.move (Operand.tmp 7), type := 72, pos := "step.go:65", after := #[], guard := none }) (v := ?_) rfl (by kernel_rfl) (by kernel_rfl) (by kernel_rfl) (by kernel_rfl) (fun _ _ _ h => h) (Or.inl ⟨by rfl, ?hy3⟩) hS0 ?_
  case hy3 => (intro w hSw; have hSw := hSw rfl; (try dsimp only at hSw); go_simp; try with_reducible rfl)
  try simp only [Act.put, List.setIfInBounds_toArray, List.set_cons_zero, List.set_cons_succ]
  refine LAny.take (i := 3) (oi := { dst := some 20, op := Op.move (Operand.tmp 1), type := 3, pos := "step.go:65", after := #[], guard := none }) (v := ?_) rfl (by kernel_rfl) (by kernel_rfl) (by kernel_rfl) (by kernel_rfl) (fun _ _ _ h => h) (Or.inl ⟨by rfl, ?hy4⟩) hS0 ?_
  case hy4 => (intro w hSw; have hSw := hSw rfl; (try dsimp only at hSw); go_simp; try with_reducible rfl)
  try simp only [Act.put, List.setIfInBounds_toArray, List.set_cons_zero, List.set_cons_succ]
  refine LAny.take (i := 4) (oi := { dst := some 21, op := Op.indexAddr 72 (Operand.tmp 19) (Operand.tmp 20), type := 0, pos := "step.go:65", after := #[{ on := 2, ground := Ground.data }, { on := 3, ground := Ground.data }], guard := none }) (v := ?_) rfl (by kernel_rfl) (by kernel_rfl) (by kernel_rfl) (by kernel_rfl) (fun _ _ _ h => h) (Or.inl ⟨by rfl, ?hy5⟩) hS0 ?_
  case hy5 => (intro w hSw; have hSw := hSw rfl; (try dsimp only at hSw); go_simp; try with_reducible rfl)
  try simp only [Act.put, List.setIfInBounds_toArray, List.set_cons_zero, List.set_cons_succ]
  refine LAny.take (i := 5) (oi := { dst := some 22, op := Op.load 36 (Operand.tmp 21), type := 36, pos := "step.go:65", after := #[{ on := 4, ground := Ground.data }], guard := none }) (v := ?_) rfl (by kernel_rfl) (by kernel_rfl) (by kernel_rfl) (by kernel_rfl) (fun _ _ _ h => h) (Or.inl ⟨by rfl, ?hy6⟩) hS0 ?_
  case hy6 => (intro w hSw; have hSw := hSw rfl; (try dsimp only at hSw); go_simp; try with_reducible rfl)
  try simp only [Act.put, List.setIfInBounds_toArray, List.set_cons_zero, List.set_cons_succ]
  refine LAny.take (i := 6) (oi := { dst := some 23, op := Op.move (Operand.tmp 7), type := 72, pos := "step.go:65", after := #[], guard := none }) (v := ?_) rfl (by kernel_rfl) (by kernel_rfl) (by kernel_rfl) (by kernel_rfl) (fun _ _ _ h => h) (Or.inl ⟨by rfl, ?hy7⟩) hS0 ?_
  case hy7 => (intro w hSw; have hSw := hSw rfl; (try dsimp only at hSw); go_simp; try with_reducible rfl)
  try simp only [Act.put, List.setIfInBounds_toArray, List.set_cons_zero, List.set_cons_succ]
  refine LAny.take (i := 7) (oi := { dst := some 24, op := Op.move (Operand.tmp 1), type := 3, pos := "step.go:65", after := #[], guard := none }) (v := ?_) rfl (by kernel_rfl) (by kernel_rfl) (by kernel_rfl) (by kernel_rfl) (fun _ _ _ h => h) (Or.inl ⟨by rfl, ?hy8⟩) hS0 ?_
  case hy8 => (intro w hSw; have hSw := hSw rfl; (try dsimp only at hSw); go_simp; try with_reducible rfl)
  try simp only [Act.put, List.setIfInBounds_toArray, List.set_cons_zero, List.set_cons_succ]
  refine LAny.take (i := 8) (oi := { dst := some 25, op := Op.indexAddr 72 (Operand.tmp 23) (Operand.tmp 24), type := 0, pos := "step.go:65", after := #[{ on := 6, ground := Ground.data }, { on := 7, ground := Ground.data }], guard := none }) (v := ?_) rfl (by kernel_rfl) (by kernel_rfl) (by kernel_rfl) (by kernel_rfl) (fun _ _ _ h => h) (Or.inl ⟨by rfl, ?hy9⟩) hS0 ?_
  case hy9 => (intro w hSw; have hSw := hSw rfl; (try dsimp only at hSw); go_simp; try with_reducible rfl)
  try simp only [Act.put, List.setIfInBounds_toArray, List.set_cons_zero, List.set_cons_succ]
  refine LAny.take (i := 9) (oi := { dst := some 26, op := Op.load 36 (Operand.tmp 25), type := 36, pos := "step.go:65", after := #[{ on := 8, ground := Ground.data }], guard := none }) (v := ?_) rfl (by kernel_rfl) (by kernel_rfl) (by kernel_rfl) (by kernel_rfl) (fun _ _ _ h => h) (Or.inl ⟨by rfl, ?hy10⟩) hS0 ?_
  case hy10 => (intro w hSw; have hSw := hSw rfl; (try dsimp only at hSw); go_simp; try with_reducible rfl)
  try simp only [Act.put, List.setIfInBounds_toArray, List.set_cons_zero, List.set_cons_succ]
  refine LAny.take (i := 10) (oi := { dst := some 27, op := Op.call { callee := Callee.builtin Builtin.len, args := #[Operand.tmp 26], argTypes := #[36] }, type := 3, pos := "step.go:65", after := #[{ on := 9, ground := Ground.data }], guard := none }) (v := ?_) rfl (by kernel_rfl) (by kernel_rfl) (by kernel_rfl) (by kernel_rfl) (fun _ _ _ h => h) (Or.inl ⟨by rfl, ?hy11⟩) hS0 ?_
  case hy11 => (intro w hSw; have hSw := hSw rfl; (try dsimp only at hSw); go_simp; try with_reducible rfl)
  try simp only [Act.put, List.setIfInBounds_toArray, List.set_cons_zero, List.set_cons_succ]
  refine LAny.take (i := 11) (oi := { dst := some 28, op := Op.move (Operand.tmp 7), type := 72, pos := "step.go:65", after := #[], guard := none }) (v := ?_) rfl (by kernel_rfl) (by kernel_rfl) (by kernel_rfl) (by kernel_rfl) (fun _ _ _ h => h) (Or.inl ⟨by rfl, ?hy12⟩) hS0 ?_
  case hy12 => (intro w hSw; have hSw := hSw rfl; (try dsimp only at hSw); go_simp; try with_reducible rfl)
  try simp only [Act.put, List.setIfInBounds_toArray, List.set_cons_zero, List.set_cons_succ]
  refine LAny.take (i := 12) (oi := { dst := some 29, op := Op.move (Operand.tmp 1), type := 3, pos := "step.go:65", after := #[], guard := none }) (v := ?_) rfl (by kernel_rfl) (by kernel_rfl) (by kernel_rfl) (by kernel_rfl) (fun _ _ _ h => h) (Or.inl ⟨by rfl, ?hy13⟩) hS0 ?_
  case hy13 => (intro w hSw; have hSw := hSw rfl; (try dsimp only at hSw); go_simp; try with_reducible rfl)
  try simp only [Act.put, List.setIfInBounds_toArray, List.set_cons_zero, List.set_cons_succ]
  refine LAny.take (i := 13) (oi := { dst := some 30, op := Op.indexAddr 72 (Operand.tmp 28) (Operand.tmp 29), type := 0, pos := "step.go:65", after := #[{ on := 11, ground := Ground.data }, { on := 12, ground := Ground.data }], guard := none }) (v := ?_) rfl (by kernel_rfl) (by kernel_rfl) (by kernel_rfl) (by kernel_rfl) (fun _ _ _ h => h) (Or.inl ⟨by rfl, ?hy14⟩) hS0 ?_
  case hy14 => (intro w hSw; have hSw := hSw rfl; (try dsimp only at hSw); go_simp; try with_reducible rfl)
  try simp only [Act.put, List.setIfInBounds_toArray, List.set_cons_zero, List.set_cons_succ]
  refine LAny.take (i := 14) (oi := { dst := some 31, op := Op.load 36 (Operand.tmp 30), type := 36, pos := "step.go:65", after := #[{ on := 13, ground := Ground.data }], guard := none }) (v := ?_) rfl (by kernel_rfl) (by kernel_rfl) (by kernel_rfl) (by kernel_rfl) (fun _ _ _ h => h) (Or.inl ⟨by rfl, ?hy15⟩) hS0 ?_
  case hy15 => (intro w hSw; have hSw := hSw rfl; (try dsimp only at hSw); go_simp; try with_reducible rfl)
  try simp only [Act.put, List.setIfInBounds_toArray, List.set_cons_zero, List.set_cons_succ]
  refine LAny.take (i := 15) (oi := { dst := some 32, op := Op.call { callee := Callee.builtin Builtin.len, args := #[Operand.tmp 31], argTypes := #[36] }, type := 3, pos := "step.go:65", after := #[{ on := 14, ground := Ground.data }], guard := none }) (v := ?_) rfl (by kernel_rfl) (by kernel_rfl) (by kernel_rfl) (by kernel_rfl) (fun _ _ _ h => h) (Or.inl ⟨by rfl, ?hy16⟩) hS0 ?_
  case hy16 => (intro w hSw; have hSw := hSw rfl; (try dsimp only at hSw); go_simp; try with_reducible rfl)
  try simp only [Act.put, List.setIfInBounds_toArray, List.set_cons_zero, List.set_cons_succ]
  refine LAny.take (i := 16) (oi := { dst := some 33, op := Op.slice 36 (Operand.tmp 22) none (some (Operand.tmp 27)) (some (Operand.tmp 32)), type := 36, pos := "step.go:65", after := #[{ on := 5, ground := Ground.data }, { on := 10, ground := Ground.data }, { on := 15, ground := Ground.data }], guard := none }) (v := ?_) rfl (by kernel_rfl) (by kernel_rfl) (by kernel_rfl) (by kernel_rfl) (fun _ _ _ h => h) (Or.inl ⟨by rfl, ?hy17⟩) hS0 ?_
  case hy17 => (intro w hSw; have hSw := hSw rfl; (try dsimp only at hSw); go_simp; try with_reducible rfl)
  try simp only [Act.put, List.setIfInBounds_toArray, List.set_cons_zero, List.set_cons_succ]
  refine LAny.take (i := 17) (oi := { dst := some 34, op := Op.load 62 (Operand.tmp 5), type := 62, pos := "step.go:65", after := #[], guard := none }) (v := .agg #[.int .i64 et, .int .i64 ek, .int .i64 eaa, .int .i64 ebb, .int .i64 ec, .int .i64 ed]) rfl (by kernel_rfl) (by kernel_rfl) (by kernel_rfl) (by kernel_rfl) (fun _ _ _ h => h) (yieldsIf_load_mid rfl 62 _ rfl eb 0 rfl [.int .i64 et, .int .i64 ek, .int .i64 eaa, .int .i64 ebb, .int .i64 ec, .int .i64 ed] _ (fun _ hSw => (hSw rfl).1) Try.underlying62 rfl size62) hS0 ?_
  try simp only [Act.put, List.setIfInBounds_toArray, List.set_cons_zero, List.set_cons_succ]
  refine LAny.one (i := 18) (o := { dst := some 35, op := Op.buildSlice 36 1 #[(0, Operand.tmp 34)], type := 36, pos := "step.go:65", after := #[{ on := 17, ground := Ground.data }], guard := none }) (b := false) (by kernel_rfl) rfl (by kernel_rfl) (fun K hK => ?_)
  go_simp
  refine hK.out _ _ ?hs19 (fun hS19 => ?_)
  case hs19 => exact fun _ => ⟨zV1, yV1⟩
  clear hK K hS0
  refine LAny.one (i := 19) (o := { dst := some 36, op := Op.call { callee := Callee.builtin Builtin.append, args := #[Operand.tmp 33, Operand.tmp 35], argTypes := #[36, 36] }, type := 36, pos := "step.go:65", after := #[{ on := 16, ground := Ground.data }, { on := 18, ground := Ground.data }], guard := none }) (b := false) (by kernel_rfl) rfl (by kernel_rfl) (fun K hK => ?_)
  refine rs_append_run (by rfl) _ _ _ (by rfl) (by rfl) (by rfl) RUN1.out ?_
  refine hK.out _ _ ?hs20 (fun hS20 => ?_)
  case hs20 => exact fun _ => ⟨zV3, y3⟩
  clear hK K hS19
  refine LAny.take (i := 20) (oi := { dst := some 37, op := Op.indexAddr 72 (Operand.tmp 17) (Operand.tmp 18), type := 0, pos := "step.go:65", after := #[{ on := 0, ground := Ground.data }, { on := 1, ground := Ground.data }, { on := 0, ground := Ground.phase }, { on := 1, ground := Ground.phase }, { on := 2, ground := Ground.phase }, { on := 3, ground := Ground.phase }, { on := 4, ground := Ground.phase }, { on := 5, ground := Ground.phase }, { on := 6, ground := Ground.phase }, { on := 7, ground := Ground.phase }, { on := 8, ground := Ground.phase }, { on := 9, ground := Ground.phase }, { on := 10, ground := Ground.phase }, { on := 11, ground := Ground.phase }, { on := 12, ground := Ground.phase }, { on := 13, ground := Ground.phase }, { on := 14, ground := Ground.phase }, { on := 15, ground := Ground.phase }, { on := 16, ground := Ground.phase }, { on := 17, ground := Ground.phase }, { on := 18, ground := Ground.phase }, { on := 19, ground := Ground.phase }], guard := none }) (v := ?_) rfl (by kernel_rfl) (by kernel_rfl) (by kernel_rfl) (by kernel_rfl) (fun _ _ _ h => h) (Or.inl ⟨by rfl, ?hy21⟩) hS20 ?_
  case hy21 => (intro w hSw; have hSw := hSw rfl; (try dsimp only at hSw); go_simp; try with_reducible rfl)
  try simp only [Act.put, List.setIfInBounds_toArray, List.set_cons_zero, List.set_cons_succ]
  refine LAny.one (i := 21) (o := { dst := none, op := Op.store 36 (Operand.tmp 37) (Operand.tmp 36), type := 0, pos := "step.go:65", after := #[{ on := 20, ground := Ground.data }, { on := 19, ground := Ground.data }, { on := 19, ground := Ground.chain }, { on := 0, ground := Ground.phase }, { on := 1, ground := Ground.phase }, { on := 2, ground := Ground.phase }, { on := 3, ground := Ground.phase }, { on := 4, ground := Ground.phase }, { on := 5, ground := Ground.phase }, { on := 6, ground := Ground.phase }, { on := 7, ground := Ground.phase }, { on := 8, ground := Ground.phase }, { on := 9, ground := Ground.phase }, { on := 10, ground := Ground.phase }, { on := 11, ground := Ground.phase }, { on := 12, ground := Ground.phase }, { on := 13, ground := Ground.phase }, { on := 14, ground := Ground.phase }, { on := 15, ground := Ground.phase }, { on := 16, ground := Ground.phase }, { on := 17, ground := Ground.phase }, { on := 18, ground := Ground.phase }, { on := 19, ground := Ground.phase }], guard := none }) (b := true) (by kernel_rfl) rfl (by kernel_rfl) (fun K hK => ?_)
  go_simp
  refine hK.out _ _ ?hs22 (fun hS22 => ?_)
  case hs22 => exact fun h => by cases h
  clear hK K hS20
  refine LAny.done (by kernel_rfl) ?_ _
  clear zD xD zV zV1 zV3 zV4 yV yV1 y3 fz3 RUN1
  go_wp2_with fail
  go_ret
  exact ⟨_, rfl, FIN.out⟩
end Go.Proofs.Ytfidnahbhomomaa
