/-
  A worker in memory; its shard passes on what asks nothing of it.
-/
import Derived.Test.YtgfobgabdafclaaGreatWa
namespace Go.Proofs.YtgfobgabdafclaaGreat
open Go.ChangeShapes Go.WideShapes Go.ChangeAt Go.RowKit
set_option linter.unusedVariables false
def zout : List Value := [.slice none 0 0, .slice none 0 0, .slice none 0 0, .slice none 0 0]
theorem size57 : (Tryz.prog.info? 57).map (·.size) = some 4 := by kernel_rfl
theorem map_some (mb : Nat) (W : World) : (binOp BinOp.neq 106 (.map (some mb)) (.map none)).run Tryz.prog W = .ok (.bool true) W := by kernel_rfl
set_option maxRecDepth 100000 in
theorem made_is (w : World) {sb : Nat} {last : Int} (h : ShAt w sb last) : Calls Tryz.prog 53 #[.pointer (some ⟨sb, 0, none⟩)] w fun e w' => e = .returned (.bool true) ∧ w = w' := by
  obtain ⟨m, hm⟩ := h.map
  have hms := map_some m
  clear h
  go_enter Tryz.func53, Tryz.ntmps53
  go_wp2
  go_ret
  exact ⟨rfl, rfl⟩
set_option maxRecDepth 100000 in
theorem kind_pass (w : World) {k : Int} (h1 : k ≠ 1) (h2 : k ≠ 2) (h3 : k ≠ 3) : Calls Tryz.prog 54 #[.int .i64 k] w fun e w' => e = .returned (.func (.func 111) #[] #[]) ∧ w = w' := by
  have t1 : (k == 1) = false := by simpa using h1
  have t2 : (k == 2) = false := by simpa using h2
  have t3 : (k == 3) = false := by simpa using h3
  clear h1 h2 h3
  go_enter Tryz.func54, Tryz.ntmps54
  go_wp2
  go_ret
  exact ⟨rfl, rfl⟩
set_option maxRecDepth 100000 in
theorem pass_is (w : World) (v x y : Value) (cs : List Value) (hl : cs.length = 14) : Calls Tryz.prog 111 #[v, x, .agg cs.toArray, y] w fun e w' => e = .returned (.agg zout.toArray) ∧ Turn (fun _ => False) w w' := by
  go_enter Tryz.func111, Tryz.ntmps111
  go_wp2
  exact bodyPost_ret (v := .agg zout.toArray) (res_cell (a := 8) rfl rfl (run_loadVar_mid _ (w.heap.size + 1) 0 57 zout _ (by have := range_new (w.alloc (.cells cs.toArray 60)) zout 57; rwa [World.size_alloc] at this) Tryz.underlying57 rfl size57)) rfl ⟨rfl, ((Turn.refl _ w).alloc _).alloc _⟩
set_option maxRecDepth 100000 in
set_option maxHeartbeats 1000000 in
theorem apply_pass {w : World} {sb : Nat} {last st kd : Int} (h : ShAt w sb last) (hl : last < st) {cs : List Value} (hc : cs.length = 14) (h0 : cs[0]? = some (.int .i64 kd)) (h1 : kd ≠ 1) (h2 : kd ≠ 2) (h3 : kd ≠ 3) (g : Value) :
    Calls Tryz.prog 16 #[.pointer (some ⟨sb, 0, none⟩), .int .i64 st, .agg cs.toArray, g] w fun e w' => e = .returned (.agg zout.toArray) ∧ ShAt w' sb st ∧ Turn (fun k => k = sb) w w' := by
  obtain ⟨W, hW⟩ : ∃ W, W = (w.alloc (.cells cs.toArray 60)).alloc (.cells #[.slice none 0 0, .slice none 0 0, .slice none 0 0, .slice none 0 0] 57) := ⟨_, rfl⟩
  have T : Turn (fun _ => False) w W := by rw [hW]; exact ((Turn.refl _ w).alloc _).alloc _
  have B1 : Blk W w.heap.size 60 := by rw [hW]; exact (Blk.newA rfl).alloc _
  have R1 : W.rangeAt w.heap.size 0 cs := by rw [hW]; exact range_turn (range_new w cs 60) ((Turn.refl (fun _ => False) _).alloc _) (fun f => f)
  have B2 : Blk W (w.heap.size + 1) 57 := by rw [hW]; exact Blk.newA (by simp)
  have R2 : W.rangeAt (w.heap.size + 1) 0 zout := by
    rw [hW]
    have := range_new (w.alloc (.cells cs.toArray 60)) zout 57
    rwa [World.size_alloc] at this
  have hs := h.turn T (fun f => f)
  have hlt : sb < w.heap.size := h.b.lt
  have M := Lib.hid (made_is W hs)
  have hlast := hs.last
  have t1 : decide (st ≤ last) = false := decide_eq_false (by omega)
  have fzs := hs.b.fz
  have SH := Lib.hid hs
  have nb1 : sb ≠ w.heap.size := by omega
  have nb2 : sb ≠ w.heap.size + 1 := by omega
  have KK := Lib.hid (And.intro T (And.intro B1 (And.intro R1 (And.intro B2 (And.intro R2 (And.intro nb1 nb2))))))
  have KI := Lib.hid (fun w => kind_pass w h1 h2 h3)
  have PA := Lib.hid (fun (w : World) (v x y : Value) => pass_is w v x y cs hc)
  have z60 : (Tryz.prog.info? 60).map (·.size) = some cs.length := by rw [hc]; exact size51
  clear T B1 R1 B2 R2 hs h hl h1 h2 h3 nb1 nb2 hc
  go_enter Tryz.func16, Tryz.ntmps16
  go_upto_region 1 with fail
  rw [← hW]
  clear hW
  generalize hbb : w.heap.size = bb at *
  go_wp2_with fail
  with_reducible refine M.out.mono ?_
  rintro e W1 ⟨rfl, rfl⟩
  go_upto_region 4 with fail
  have TV : Turn (fun k => k = sb) W (W.setCell ⟨sb, 8, none⟩ (.int .i64 st)) := Turn.put _ _ _ _
  have SV : ShAt (W.setCell ⟨sb, 8, none⟩ (.int .i64 st)) sb st := by
    obtain ⟨m, hm⟩ := SH.out.map
    exact ⟨SH.out.b.set _ _, World.cell?_setCell_same _ _ _ SH.out.last, m, (cell_off _ _ _ _ _ (by decide)).trans hm⟩
  generalize W.setCell ⟨sb, 8, none⟩ (.int .i64 st) = V at *
  obtain ⟨K1, K2, K3, K4, K5, K6, K7⟩ := KK.out
  have FF := Lib.hid (show ∀ U, Turn (fun k => k = bb + 1) V U → U.cell? ⟨bb, 0, none⟩ = some (.int .i64 kd) ∧ U.rangeAt bb 0 cs from fun U TU => by
    have R := range_turn (range_turn K3 TV (Ne.symm K6)) TU (by omega)
    exact ⟨by have := R 0 _ h0; rwa [Nat.zero_add] at this, R⟩)
  have TH := Lib.hid (show ∀ U, Turn (fun _ => False) V U → U.there (bb + 1) 0 zout.toArray.size from fun U TU => range_there (range_turn (range_turn K5 TV (Ne.symm K7)) TU (fun f => f)) rfl ((K4.turn TV (Ne.symm K7)).turn TU (fun f => f)))
  have HB := Lib.hid (And.intro hlt hbb)
  have FIN := Lib.hid (show ∀ U, Turn (fun _ => False) V U → ShAt (U.setCells (bb + 1) 0 zout) sb st ∧ Turn (fun k => k = sb) w (U.setCells (bb + 1) 0 zout) from fun U TU => by
    have TS : Turn (fun k => k = bb + 1) U (U.setCells (bb + 1) 0 zout) := Turn.setCells zout 0 (Turn.refl _ U) (.inl rfl)
    refine ⟨(SV.turn TU (fun f => f)).turn TS K7, ?_⟩
    exact ((K1.more (fun _ _ f => f.elim)).trans (TV.trans (TU.more (fun _ _ f => f.elim)))).comp TS (fun j hj e => by omega))
  have T4 : Turn (fun _ => False) V V.drew := (Turn.refl _ V).drewN 1
  have s0 := T4.more (S' := fun k => k = bb + 1) (fun _ _ f => f.elim)
  clear K1 K2 K3 K4 K5 K6 K7 KK TV SV SH hlast t1 fzs M
  refine wp_region_held_drew (S := fun w' => w'.cell? ⟨bb, 0, none⟩ = some (.int .i64 kd) ∧ w'.rangeAt bb 0 cs) (by kernel_rfl) ?hs0 (fun hS0 => ?_)
  case hs0 => exact FF.out _ s0
  generalize V.drew = DD at *
  refine wpAnyH_take (i := 0) (oi := { dst := some 25, op := Op.fieldAddr 60 (Operand.tmp 6) 0, type := 0, pos := "shard.go:48", after := #[], guard := none }) (v := ?_) rfl (by kernel_rfl) (by kernel_rfl) (by kernel_rfl) (fun _ _ _ h => h) (Or.inl ⟨by rfl, ?hy1⟩) hS0 ?_
  case hy1 => (intro w hSw; (try dsimp only at hSw); go_simp; try with_reducible rfl)
  try simp only [Act.put, List.setIfInBounds_toArray, List.set_cons_zero, List.set_cons_succ]
  refine wpAnyH_take (i := 1) (oi := { dst := some 26, op := Op.load 3 (Operand.tmp 25), type := 3, pos := "shard.go:48", after := #[{ on := 0, ground := Ground.data }], guard := none }) (v := ?_) rfl (by kernel_rfl) (by kernel_rfl) (by kernel_rfl) (fun _ _ _ h => h) (Or.inl ⟨by rfl, ?hy2⟩) hS0 ?_
  case hy2 => (intro w hSw; (try dsimp only at hSw); go_simp; try with_reducible rfl)
  try simp only [Act.put, List.setIfInBounds_toArray, List.set_cons_zero, List.set_cons_succ]
  refine wpAnyH_take (i := 3) (oi := { dst := some 28, op := Op.move (Operand.tmp 0), type := 48, pos := "shard.go:48", after := #[], guard := none }) (v := ?_) rfl (by kernel_rfl) (by kernel_rfl) (by kernel_rfl) (fun _ _ _ h => h) (Or.inl ⟨by rfl, ?hy3⟩) hS0 ?_
  case hy3 => (intro w hSw; (try dsimp only at hSw); go_simp; try with_reducible rfl)
  try simp only [Act.put, List.setIfInBounds_toArray, List.set_cons_zero, List.set_cons_succ]
  refine wpAnyH_take (i := 4) (oi := { dst := some 29, op := Op.move (Operand.tmp 1), type := 3, pos := "shard.go:48", after := #[], guard := none }) (v := ?_) rfl (by kernel_rfl) (by kernel_rfl) (by kernel_rfl) (fun _ _ _ h => h) (Or.inl ⟨by rfl, ?hy4⟩) hS0 ?_
  case hy4 => (intro w hSw; (try dsimp only at hSw); go_simp; try with_reducible rfl)
  try simp only [Act.put, List.setIfInBounds_toArray, List.set_cons_zero, List.set_cons_succ]
  refine wpAnyH_take (i := 5) (oi := { dst := some 30, op := Op.load 60 (Operand.tmp 6), type := 60, pos := "shard.go:48", after := #[], guard := none }) (v := .agg cs.toArray) rfl (by kernel_rfl) (by kernel_rfl) (by kernel_rfl) (fun _ _ _ h => h) (yieldsIf_load_mid (by rfl) 60 _ rfl bb 0 rfl cs _ (fun _ h => h.2) Tryz.underlying60 rfl z60) hS0 ?_
  try simp only [Act.put, List.setIfInBounds_toArray, List.set_cons_zero, List.set_cons_succ]
  refine wpAnyH_take (i := 6) (oi := { dst := some 31, op := Op.move (Operand.tmp 3), type := 40, pos := "shard.go:48", after := #[], guard := none }) (v := ?_) rfl (by kernel_rfl) (by kernel_rfl) (by kernel_rfl) (fun _ _ _ h => h) (Or.inl ⟨by rfl, ?hy6⟩) hS0 ?_
  case hy6 => (intro w hSw; (try dsimp only at hSw); go_simp; try with_reducible rfl)
  try simp only [Act.put, List.setIfInBounds_toArray, List.set_cons_zero, List.set_cons_succ]
  refine wpAnyH_ready (rs := [2]) (by kernel_rfl) (by simp) ?_
  refine AllReadyH.cons (o := { dst := some 27, op := Op.call { callee := Callee.value (Operand.func 54), args := #[Operand.tmp 26], argTypes := #[3] }, type := 109, pos := "shard.go:48", after := #[{ on := 1, ground := Ground.data }], guard := none }) rfl (fun K hK => ?_) AllReadyH.nil
  go_simp
  with_reducible refine (KI.out _).mono ?_
  rintro en Wk ⟨rfl, rfl⟩
  go_simp
  refine hK.out _ _ ?hs7 (fun hS7 => ?_)
  case hs7 => exact FF.out _ s0
  clear hK K hS0
  refine wpAnyH_ready (rs := [7]) (by kernel_rfl) (by simp) ?_
  refine AllReadyH.cons (o := { dst := some 32, op := Op.call { callee := Callee.value (Operand.tmp 27), args := #[Operand.tmp 28, Operand.tmp 29, Operand.tmp 30, Operand.tmp 31], argTypes := #[48, 3, 60, 260] }, type := 57, pos := "shard.go:48", after := #[{ on := 2, ground := Ground.data }, { on := 3, ground := Ground.data }, { on := 4, ground := Ground.data }, { on := 5, ground := Ground.data }, { on := 6, ground := Ground.data }, { on := 2, ground := Ground.chain }], guard := none }) rfl (fun K hK => ?_) AllReadyH.nil
  go_simp
  with_reducible refine (PA.out _ _ _ _).mono ?_
  rintro en Wp ⟨rfl, TP⟩
  go_simp
  have s1 := s0.trans (TP.more (S' := fun k => k = bb + 1) (fun _ _ f => f.elim))
  refine hK.out _ _ ?hs8 (fun hS8 => ?_)
  case hs8 => exact FF.out _ s1
  clear hK K hS7
  have TH5 : Wp.there (bb + 1) 0 zout.toArray.size := TH.out _ (T4.trans TP)
  have TS : Turn (fun k => k = bb + 1) Wp (Wp.setCells (bb + 1) 0 zout) := Turn.setCells zout 0 (Turn.refl _ Wp) (.inl rfl)
  have KE := FIN.out _ (T4.trans TP)
  have RS : (Wp.setCells (bb + 1) 0 zout).rangeAt (bb + 1) 0 zout := World.rangeAt_setCells_same _ _ _ _ TH5
  refine wpAnyH_ready (rs := [8]) (by kernel_rfl) (by simp) ?_
  refine AllReadyH.cons (o := { dst := none, op := Op.store 57 (Operand.tmp 8) (Operand.tmp 32), type := 0, pos := "shard.go:48", after := #[{ on := 7, ground := Ground.data }, { on := 7, ground := Ground.chain }, { on := 0, ground := Ground.phase }, { on := 1, ground := Ground.phase }, { on := 2, ground := Ground.phase }, { on := 3, ground := Ground.phase }, { on := 4, ground := Ground.phase }, { on := 5, ground := Ground.phase }, { on := 6, ground := Ground.phase }, { on := 7, ground := Ground.phase }], guard := none }) rfl (fun K hK => ?_) AllReadyH.nil
  refine wp_store_mid 57 _ _ rfl (bb + 1) 0 zout.toArray rfl rfl TH5 size57 (by simp [zout, Value.oneCell']) ?_
  refine hK.out _ _ ?hs9 (fun hS9 => ?_)
  case hs9 => exact FF.out _ (s1.trans TS)
  clear hK K hS8
  refine wpAnyH_done (by kernel_rfl) ?_ _
  go_wp2_with fail
  exact bodyPost_ret (v := .agg zout.toArray) (res_cell (a := 8) rfl rfl (run_loadVar_mid _ (bb + 1) 0 57 zout _ RS Tryz.underlying57 rfl size57)) rfl ⟨rfl, KE.1, KE.2⟩
end Go.Proofs.YtgfobgabdafclaaGreat
