/-
  A config by numbers, a new worker.
-/
import Derived.Test.YtgfobgabdafclaaGreatWi
namespace Go.Proofs.YtgfobgabdafclaaGreat
open Go.ChangeShapes Go.WideShapes Go.ChangeAt Go.RowKit
set_option linter.unusedVariables false
def restN (x : Int) (n : Nat) : Nat := ((x.tmod n + n) % (n : Int)).toNat
theorem restN_lt (x : Int) {n : Nat} (h : 1 ≤ n) : restN x n < n := by
  have e3 : 0 ≤ (x.tmod n + n) % (n : Int) := Int.emod_nonneg _ (by omega)
  have e4 : (x.tmod n + n) % (n : Int) < (n : Int) := Int.emod_lt_of_pos _ (by omega)
  unfold restN
  omega
set_option maxRecDepth 100000 in
theorem rest_is (w : World) (x : Int) {n : Nat} (h1 : 1 ≤ n) (h2 : n ≤ 100000) : Calls Tryz.prog 27 #[.int .i64 x, .int .i64 (n : Int)] w fun e w' => e = .returned (.int .i64 (restN x n : Int)) ∧ w = w' := by
  have t1 : -(n : Int) < x.tmod n := Int.lt_tmod_of_pos x (by omega)
  have t2 : x.tmod n < n := Int.tmod_lt_of_pos x (by omega)
  have e3 : 0 ≤ (x.tmod n + n) % (n : Int) := Int.emod_nonneg _ (by omega)
  have er : (restN x n : Int) = (x.tmod n + n) % (n : Int) := by unfold restN; omega
  obtain ⟨y, hy⟩ : ∃ y, x.tmod n = y := ⟨_, rfl⟩
  rw [hy] at t1 t2 er
  have e1 : wrap64 (y + n) = y + n := by unfold wrap64; omega
  have e2 : (y + n).tmod n = (restN x n : Int) := by rw [er]; exact Int.tmod_eq_emod_of_nonneg (by omega)
  have nz : ((n : Int) == 0) = false := by simp; omega
  have nn : ¬ (n : Int) = 0 := by omega
  generalize restN x n = R at *
  clear h1 h2 t1 t2 e3 er
  go_enter Tryz.func27, Tryz.ntmps27
  go_wp2
  go_ret
  exact ⟨rfl, rfl⟩
def cfgL (b : Int) : List Value := [.int .i64 b, .int .i64 20, .int .i64 20, .int .i64 2, .int .i64 1, .int .i64 9, .int .i64 99]
theorem size47 : (Tryz.prog.info? 47).map (·.size) = some 7 := by kernel_rfl
theorem r3 (w : World) {a : Int} (ha : a = 0 ∨ a = 2) : Calls Tryz.prog 27 #[.int .i64 a, .int .i64 3] w fun e w' => e = .returned (.int .i64 a) ∧ w = w' := by
  have H := rest_is w a (n := 3) (by decide) (by decide)
  rcases ha with rfl | rfl
  · exact H
  · exact H
theorem r12 (w : World) : Calls Tryz.prog 27 #[.int .i64 0, .int .i64 12] w fun e w' => e = .returned (.int .i64 0) ∧ w = w' := rest_is w 0 (n := 12) (by decide) (by decide)
set_option maxRecDepth 100000 in
set_option maxHeartbeats 1000000 in
theorem config_of (w : World) {a b : Int} (ha : a = 0 ∨ a = 2) (hb : 1 + a = b) : Calls Tryz.prog 25 #[.agg #[.slice none 0 0, .int .i64 a, .int .i64 0, .int .i64 0, .slice none 0 0, .slice none 0 0]] w fun e w' => e = .returned (.agg #[.int .i64 b, .int .i64 20, .int .i64 20, .int .i64 2, .int .i64 1, .int .i64 9, .int .i64 99]) ∧ Turn (fun _ => False) w w' := by
  obtain ⟨W, hW⟩ : ∃ W, W = (w.alloc (.cells #[.slice none 0 0, .int .i64 a, .int .i64 0, .int .i64 0, .slice none 0 0, .slice none 0 0] 70)).alloc (.cells #[.int .i64 0, .int .i64 0, .int .i64 0, .int .i64 0, .int .i64 0, .int .i64 0, .int .i64 0] 47) := ⟨_, rfl⟩
  have T : Turn (fun _ => False) w W := by rw [hW]; exact ((Turn.refl _ w).alloc _).alloc _
  have c1 : W.cell? ⟨w.heap.size, 1, none⟩ = some (.int .i64 a) := by rw [hW]; exact past (cell_new rfl rfl)
  have c3 : W.cell? ⟨w.heap.size, 3, none⟩ = some (.int .i64 0) := by rw [hW]; exact past (cell_new rfl rfl)
  have B2 : Blk W (w.heap.size + 1) 47 := by rw [hW]; exact Blk.newA (by simp)
  have R2 : W.rangeAt (w.heap.size + 1) 0 zcfg := by
    rw [hW]
    have := range_new (w.alloc (.cells #[.slice none 0 0, .int .i64 a, .int .i64 0, .int .i64 0, .slice none 0 0, .slice none 0 0] 70)) zcfg 47
    rwa [World.size_alloc] at this
  have R3 := Lib.hid (fun w => r3 w ha)
  have R12 := Lib.hid r12
  have j1 : wrap64 (1 + a) = b := by unfold wrap64; omega
  have j2 : IntKind.i64.wrap (1 + a) = b := by rw [IntKind.wrap_i64]; omega
  have TD : Turn (fun _ => False) W W.drew := (Turn.refl _ W).drewN 1
  have TFIN := Lib.hid (T.trans TD)
  obtain ⟨DD, hD⟩ : ∃ D, D = W.drew := ⟨_, rfl⟩
  rw [← hD] at TFIN
  have d1 := TD.cell (fun f => f) c1
  have d3 := TD.cell (fun f => f) c3
  have TH := range_there (range_turn R2 TD (fun f => f)) (show zcfg.length = 7 from rfl) (B2.turn TD (fun f => f))
  rw [← hD] at d1 d3 TH
  clear c1 c3 B2 R2 T TD ha hb
  go_enter Tryz.func25, Tryz.ntmps25
  go_upto_region 1 with fail
  rw [← hW]
  clear hW
  generalize hbb : w.heap.size = bb at *
  have HB := Lib.hid hbb
  have FF := Lib.hid (show ∀ U, Turn (fun k => k = bb + 1) DD U → U.cell? ⟨bb, 1, none⟩ = some (.int .i64 a) ∧ U.cell? ⟨bb, 3, none⟩ = some (.int .i64 0) from fun U TU => ⟨TU.cell (by omega) d1, TU.cell (by omega) d3⟩)
  clear hbb
  refine wp_region_held_drew (S := fun w' => w'.cell? ⟨bb, 1, none⟩ = some (.int .i64 a) ∧ w'.cell? ⟨bb, 3, none⟩ = some (.int .i64 0)) (by kernel_rfl) ?hs0 (fun hS0 => ?_)
  case hs0 => exact (by rw [← hD]; exact FF.out _ (Turn.refl _ _))
  rw [← hD] at hS0 ⊢
  clear hD
  refine wpAnyH_take (i := 0) (oi := { dst := some 3, op := Op.fieldAddr 70 (Operand.tmp 1) 1, type := 0, pos := "law.go:30", after := #[], guard := none }) (v := ?_) rfl (by kernel_rfl) (by kernel_rfl) (by kernel_rfl) (fun _ _ _ h => h) (Or.inl ⟨by rfl, ?hy1⟩) hS0 ?_
  case hy1 => (intro w hSw; (try dsimp only at hSw); go_simp; try with_reducible rfl)
  try simp only [Act.put, List.setIfInBounds_toArray, List.set_cons_zero, List.set_cons_succ]
  refine wpAnyH_take (i := 1) (oi := { dst := some 4, op := Op.load 3 (Operand.tmp 3), type := 3, pos := "law.go:30", after := #[{ on := 0, ground := Ground.data }], guard := none }) (v := ?_) rfl (by kernel_rfl) (by kernel_rfl) (by kernel_rfl) (fun _ _ _ h => h) (Or.inl ⟨by rfl, ?hy2⟩) hS0 ?_
  case hy2 => (intro w hSw; (try dsimp only at hSw); go_simp; try with_reducible rfl)
  try simp only [Act.put, List.setIfInBounds_toArray, List.set_cons_zero, List.set_cons_succ]
  refine wpAnyH_take (i := 4) (oi := { dst := some 7, op := Op.fieldAddr 70 (Operand.tmp 1) 3, type := 0, pos := "law.go:30", after := #[], guard := none }) (v := ?_) rfl (by kernel_rfl) (by kernel_rfl) (by kernel_rfl) (fun _ _ _ h => h) (Or.inl ⟨by rfl, ?hy3⟩) hS0 ?_
  case hy3 => (intro w hSw; (try dsimp only at hSw); go_simp; try with_reducible rfl)
  try simp only [Act.put, List.setIfInBounds_toArray, List.set_cons_zero, List.set_cons_succ]
  refine wpAnyH_take (i := 5) (oi := { dst := some 8, op := Op.load 3 (Operand.tmp 7), type := 3, pos := "law.go:30", after := #[{ on := 4, ground := Ground.data }], guard := none }) (v := ?_) rfl (by kernel_rfl) (by kernel_rfl) (by kernel_rfl) (fun _ _ _ h => h) (Or.inl ⟨by rfl, ?hy4⟩) hS0 ?_
  case hy4 => (intro w hSw; (try dsimp only at hSw); go_simp; try with_reducible rfl)
  try simp only [Act.put, List.setIfInBounds_toArray, List.set_cons_zero, List.set_cons_succ]
  refine wpAnyH_ready (rs := [2]) (by kernel_rfl) (by simp) ?_
  refine AllReadyH.cons (o := { dst := some 5, op := Op.call { callee := Callee.value (Operand.func 27), args := #[Operand.tmp 4, Operand.const (Value.int IntKind.i64 3)], argTypes := #[3, 3] }, type := 3, pos := "law.go:30", after := #[{ on := 1, ground := Ground.data }], guard := none }) rfl (fun K hK => ?_) AllReadyH.nil
  go_simp
  with_reducible refine (R3.out DD).mono ?_
  rintro en Wk ⟨rfl, rfl⟩
  go_simp
  refine hK.out _ _ ?hs5 (fun hS5 => ?_)
  case hs5 => exact FF.out _ (Turn.refl _ _)
  clear hK K hS0
  refine wpAnyH_take (i := 3) (oi := { dst := some 6, op := Op.binOp BinOp.add 3 (Operand.const (Value.int IntKind.i64 1)) (Operand.tmp 5) 3, type := 3, pos := "law.go:30", after := #[{ on := 2, ground := Ground.data }], guard := none }) (v := ?_) rfl (by kernel_rfl) (by kernel_rfl) (by kernel_rfl) (fun _ _ _ h => h) (Or.inl ⟨by rfl, ?hy6⟩) hS5 ?_
  case hy6 => (intro w hSw; (try dsimp only at hSw); go_simp; try with_reducible rfl)
  try simp only [Act.put, List.setIfInBounds_toArray, List.set_cons_zero, List.set_cons_succ]
  refine wpAnyH_ready (rs := [6]) (by kernel_rfl) (by simp) ?_
  refine AllReadyH.cons (o := { dst := some 9, op := Op.call { callee := Callee.value (Operand.func 27), args := #[Operand.tmp 8, Operand.const (Value.int IntKind.i64 12)], argTypes := #[3, 3] }, type := 3, pos := "law.go:30", after := #[{ on := 5, ground := Ground.data }, { on := 2, ground := Ground.chain }], guard := none }) rfl (fun K hK => ?_) AllReadyH.nil
  go_simp
  with_reducible refine (R12.out DD).mono ?_
  rintro en Wk ⟨rfl, rfl⟩
  go_simp
  refine hK.out _ _ ?hs7 (fun hS7 => ?_)
  case hs7 => exact FF.out _ (Turn.refl _ _)
  clear hK K hS5
  refine wpAnyH_take (i := 7) (oi := { dst := some 10, op := Op.binOp BinOp.add 3 (Operand.const (Value.int IntKind.i64 1)) (Operand.tmp 9) 3, type := 3, pos := "law.go:30", after := #[{ on := 6, ground := Ground.data }], guard := none }) (v := ?_) rfl (by kernel_rfl) (by kernel_rfl) (by kernel_rfl) (fun _ _ _ h => h) (Or.inl ⟨by rfl, ?hy8⟩) hS7 ?_
  case hy8 => (intro w hSw; (try dsimp only at hSw); go_simp; try with_reducible rfl)
  try simp only [Act.put, List.setIfInBounds_toArray, List.set_cons_zero, List.set_cons_succ]
  refine wpAnyH_take (i := 8) (oi := { dst := some 11, op := Op.build 47 #[(0, Operand.tmp 6), (1, Operand.const (Value.int IntKind.i64 20)), (2, Operand.const (Value.int IntKind.i64 20)), (3, Operand.const (Value.int IntKind.i64 2)), (4, Operand.tmp 10), (5, Operand.const (Value.int IntKind.i64 9)), (6, Operand.const (Value.int IntKind.i64 99))], type := 47, pos := "law.go:30", after := #[{ on := 3, ground := Ground.data }, { on := 7, ground := Ground.data }], guard := none }) (v := ?_) rfl (by kernel_rfl) (by kernel_rfl) (by kernel_rfl) (fun _ _ _ h => h) (Or.inl ⟨by rfl, ?hy9⟩) hS7 ?_
  case hy9 => (intro w hSw; (try dsimp only at hSw); go_simp; try with_reducible rfl)
  try simp only [Act.put, List.setIfInBounds_toArray, List.set_cons_zero, List.set_cons_succ]
  have TS : Turn (fun k => k = bb + 1) DD (DD.setCells (bb + 1) 0 (cfgL b)) := Turn.setCells _ 0 (Turn.refl _ DD) (.inl rfl)
  have RS : (DD.setCells (bb + 1) 0 (cfgL b)).rangeAt (bb + 1) 0 (cfgL b) := World.rangeAt_setCells_same _ _ _ _ TH
  refine wpAnyH_ready (rs := [9]) (by kernel_rfl) (by simp) ?_
  refine AllReadyH.cons (o := { dst := none, op := Op.store 47 (Operand.tmp 2) (Operand.tmp 11), type := 0, pos := "law.go:30", after := #[{ on := 8, ground := Ground.data }, { on := 6, ground := Ground.chain }, { on := 0, ground := Ground.phase }, { on := 1, ground := Ground.phase }, { on := 2, ground := Ground.phase }, { on := 3, ground := Ground.phase }, { on := 4, ground := Ground.phase }, { on := 5, ground := Ground.phase }, { on := 6, ground := Ground.phase }, { on := 7, ground := Ground.phase }, { on := 8, ground := Ground.phase }], guard := none }) rfl (fun K hK => ?_) AllReadyH.nil
  refine wp_store_mid 47 _ _ rfl (bb + 1) 0 (cfgL b).toArray rfl rfl TH size47 (by simp [cfgL, Value.oneCell']) ?_
  refine hK.out _ _ ?hs10 (fun hS10 => ?_)
  case hs10 => exact FF.out _ TS
  clear hK K hS7
  refine wpAnyH_done (by kernel_rfl) ?_ _
  change Exit.then _ _ _ _ (DD.setCells (bb + 1) 0 (cfgL b))
  have TC := Lib.hid (TFIN.out.comp TS (S := fun _ => False) (fun j hj e => by have := HB.out; omega))
  have RC := run_loadVar_mid (P := Tryz.prog) _ (bb + 1) 0 47 _ _ RS Tryz.underlying47 rfl size47
  generalize DD.setCells (bb + 1) 0 (cfgL b) = DE at *
  clear RS TS TFIN TH d1 d3 FF hS10 j1 j2
  go_wp2_with fail
  exact bodyPost_ret (v := .agg (cfgL b).toArray) (res_cell (a := 2) rfl rfl RC) rfl ⟨rfl, TC.out⟩
section
variable {w w' : World} {B : LB} {c : Cf} {s : LSt} {el : Nat} {now : Int} {P : Nat → Int}
theorem worker_nolog (w : World) (n : Int) : Calls Tryz.prog 26 #[.pointer none, .int .i64 n] w fun e w' => e = .returned (.pointer none) ∧ w = w' := by
  go_enter Tryz.func26, Tryz.ntmps26
  go_wp2
  go_ret
  exact ⟨rfl, rfl⟩
set_option maxRecDepth 100000 in
theorem LogAt.worker_none (L : LogAt w B c s) (h : c.Ok) {n : Int} (h0 : n < 0 ∨ (c.sh : Int) ≤ n) : Calls Tryz.prog 26 #[.pointer (some ⟨B.l, 0, none⟩), .int .i64 n] w fun e w' => e = .returned (.pointer none) ∧ Turn (fun _ => False) w w' := by
  have CF := Lib.hid L.config_is
  have SN := Lib.hid (fun w => shard_none w h h0)
  clear L h h0
  go_enter Tryz.func26, Tryz.ntmps26
  go_wp2_with fail
  with_reducible refine CF.out.mono ?_
  rintro e w1 ⟨rfl, T1⟩
  have T1 := Lib.hid T1
  go_wp2_with fail
  with_reducible refine (SN.out _).mono ?_
  rintro e w2 ⟨rfl, T2⟩
  have T2 := Lib.hid (T1.out.trans T2)
  go_wp2_with fail
  go_ret
  exact ⟨rfl, T2.out⟩
/-- The cells of a worker that has just been laid. -/
def wkL (lb sb hb i : Nat) : List Value := [.pointer (some ⟨lb, 0, none⟩), .int .i64 (i : Int), .pointer (some ⟨sb, 0, none⟩), .pointer (some ⟨hb, 0, none⟩), .nilFunc, .bool false, .bool false, .int .i64 0] ++ (cmdL (0, 0) ++ (zout ++ [.slice none 0 0]))
theorem wk_new (w : World) (lb sb hb i : Nat) : WkAt ((((w.alloc (.cells (wkL lb sb hb i).toArray 141)).setCell ⟨w.heap.size, 4, none⟩ (.func (.func 117) #[.pointer (some ⟨w.heap.size, 0, none⟩)] #[]))).setCell ⟨w.heap.size, 5, none⟩ (.bool true)) w.heap.size lb sb hb i 117 true false 0 (0, 0) := by
  have R := range_new w (wkL lb sb hb i) 141
  have cc : ∀ {k : Nat} {v : Value}, (wkL lb sb hb i)[k]? = some v → (w.alloc (.cells (wkL lb sb hb i).toArray 141)).cell? ⟨w.heap.size, k, none⟩ = some v := fun hk => by have := R _ _ hk; rwa [Nat.zero_add] at this
  have gg : ∀ {k : Nat} {v : Value}, k ≠ 4 → k ≠ 5 → (wkL lb sb hb i)[k]? = some v → ((((w.alloc (.cells (wkL lb sb hb i).toArray 141)).setCell ⟨w.heap.size, 4, none⟩ (.func (.func 117) #[.pointer (some ⟨w.heap.size, 0, none⟩)] #[]))).setCell ⟨w.heap.size, 5, none⟩ (.bool true)).cell? ⟨w.heap.size, k, none⟩ = some v := fun h4 h5 hk => (cell_off _ _ _ _ _ (Ne.symm h5)).trans ((cell_off _ _ _ _ _ (Ne.symm h4)).trans (cc hk))
  refine ⟨((Blk.newA rfl).set _ _).set _ _, gg (by decide) (by decide) rfl, gg (by decide) (by decide) rfl, gg (by decide) (by decide) rfl, gg (by decide) (by decide) rfl, (cell_off _ _ _ _ _ (by decide)).trans (World.cell?_setCell_same _ _ _ (cc (k := 4) rfl)), World.cell?_setCell_same _ _ _ ((cell_off _ _ _ _ _ (by decide)).trans (cc (k := 5) rfl)), gg (by decide) (by decide) rfl, gg (by decide) (by decide) rfl, fun j v hj => ?_, fun j v hj => ?_, gg (by decide) (by decide) rfl⟩
  · have hl := (List.getElem?_eq_some_iff.1 hj).1
    refine gg (by omega) (by omega) ?_
    show ([_, _, _, _, _, _, _, _] ++ (cmdL (0, 0) ++ (zout ++ [_])))[8 + j]? = some v
    rw [List.getElem?_append_right (by simp), List.getElem?_append_left (by simpa using hl)]
    simpa using hj
  · have hl := (List.getElem?_eq_some_iff.1 hj).1
    refine gg (by omega) (by omega) ?_
    show ([_, _, _, _, _, _, _, _] ++ (cmdL (0, 0) ++ (zout ++ [_])))[22 + j]? = some v
    rw [List.getElem?_append_right (by simp; omega), List.getElem?_append_right (by rw [cmdL_len]; simp; omega), List.getElem?_append_left (by rw [cmdL_len]; simp; omega)]
    rw [cmdL_len]
    have e : 22 + j - [Value.pointer (some ⟨lb, 0, none⟩), .int .i64 (i : Int), .pointer (some ⟨sb, 0, none⟩), .pointer (some ⟨hb, 0, none⟩), .nilFunc, .bool false, .bool false, .int .i64 0].length - 14 = j := by simp; omega
    rw [e]
    exact hj
set_option maxRecDepth 100000 in
theorem rest_raw {w : World} {xb : Nat} {v4 v5 : Value} (h4 : w.cell? ⟨xb, 4, none⟩ = some v4) (h5 : w.cell? ⟨xb, 5, none⟩ = some v5) (fz : ∀ i, w.frozen? ⟨xb, i, none⟩ = false) (fz2 : ∀ i, (w.setCell ⟨xb, 4, none⟩ (.func (.func 117) #[.pointer (some ⟨xb, 0, none⟩)] #[])).frozen? ⟨xb, i, none⟩ = false) :
    Calls Tryz.prog 65 #[.pointer (some ⟨xb, 0, none⟩)] w fun e w' => e = .returned (.tuple #[]) ∧ w' = (w.setCell ⟨xb, 4, none⟩ (.func (.func 117) #[.pointer (some ⟨xb, 0, none⟩)] #[])).setCell ⟨xb, 5, none⟩ (.bool true) := by
  have sf := store_func (f := 117) (x := xb) h4 (fz 4)
  have y5 := (cell_off w xb 4 5 (.func (.func 117) #[.pointer (some ⟨xb, 0, none⟩)] #[]) (by decide)).trans h5
  go_enter Tryz.func65, Tryz.ntmps65
  go_wp2_with fail
  exact bodyPost_end (by simp [results, Tryz.results65]) rfl ⟨rfl, rfl⟩
def NewW (w : World) (B : LB) (c : Cf) (s : LSt) (el : Nat) (now : Int) (P : Nat → Int) (i : Nat) (e : Ending) (w' : World) : Prop :=
  ∃ xb sb hb, e = .returned (.pointer (some ⟨xb, 0, none⟩)) ∧ WS w' B c s el now P xb sb hb i 117 true false 0 (0, 0) (-1) ∧ (w.heap.size ≤ xb ∧ w.heap.size ≤ sb ∧ w.heap.size ≤ hb) ∧ Turn (fun _ => False) w w'
set_option maxRecDepth 100000 in
set_option maxHeartbeats 1000000 in
theorem LogAt.worker_new (L : LogAt w B c s) (E : EpA w B.ep el (c.sh + 1) now P) (h : c.Ok) {i : Nat} (hi : i < c.sh) : Calls Tryz.prog 26 #[.pointer (some ⟨B.l, 0, none⟩), .int .i64 (i : Int)] w (NewW w B c s el now P i) := by
  have CF := Lib.hid L.config_is
  have SN := Lib.hid (fun w => shard_new w h (n := (i : Int)) (by omega) (by omega))
  have HL := Lib.hid (And.intro L E)
  clear L E h hi
  go_enter Tryz.func26, Tryz.ntmps26
  go_wp2_with fail
  with_reducible refine CF.out.mono ?_
  rintro e w1 ⟨rfl, T1⟩
  have T1 := Lib.hid T1
  go_wp2_with fail
  with_reducible refine (SN.out _).mono ?_
  rintro e w2 ⟨sb, rfl, SH, hs, T2⟩
  have T02 := T1.out.trans T2
  have HN := Lib.hid ((HL.out.1.keep T02).hands_new i)
  have K2 := Lib.hid (And.intro T02 (And.intro SH (And.intro hs T1.out.size)))
  clear T02 SH T2 hs T1
  go_wp2_with fail
  with_reducible refine HN.out.mono ?_
  rintro e w3 ⟨hb, rfl, HH, hh, T3⟩
  have K3 := Lib.hid (And.intro HH (And.intro hh T3))
  clear HH hh T3
  go_upto_region 7 with fail
  obtain ⟨W, hW⟩ : ∃ W, W = w3.alloc (.cells (wkL B.l sb hb i).toArray 141) := ⟨_, rfl⟩
  change Code.wp _ _ _ _ (w3.alloc (.cells (wkL B.l sb hb i).toArray 141))
  rw [← hW]
  have RC := range_new w3 (wkL B.l sb hb i) 141
  rw [← hW] at RC
  have c4 : W.cell? ⟨w3.heap.size, 4, none⟩ = some .nilFunc := RC 4 _ rfl
  have c5 : W.cell? ⟨w3.heap.size, 5, none⟩ = some (.bool false) := RC 5 _ rfl
  have BW : Blk W w3.heap.size 141 := by rw [hW]; exact Blk.newA rfl
  have RR := Lib.hid (rest_raw c4 c5 BW.fz (BW.set _ _).fz)
  have T34 : Turn (fun _ => False) w3 W := by rw [hW]; exact (Turn.refl _ w3).alloc _
  have X := wk_new w3 B.l sb hb i
  rw [← hW] at X
  clear hW RC c4 c5
  obtain ⟨K21, K22, K23, K24⟩ := K2.out
  obtain ⟨K31, K32, K33⟩ := K3.out
  have T03 := (K21.trans K33).trans T34
  have hx : w.heap.size ≤ w3.heap.size := (K21.trans K33).size
  have e1 := K21.size
  have TA : Turn (fun k => k = w3.heap.size) W ((W.setCell ⟨w3.heap.size, 4, none⟩ (.func (.func 117) #[.pointer (some ⟨w3.heap.size, 0, none⟩)] #[])).setCell ⟨w3.heap.size, 5, none⟩ (.bool true)) := (Turn.put _ _ _ _).trans (Turn.put _ _ _ _)
  have LW := HL.out.1.keep T03
  have EW := HL.out.2.same T03
  have SW := K22.turn (K33.trans T34) (fun f => f)
  have HW := K31.turn T34 (fun f => f)
  have FIN : Hid (NewW w B c s el now P i (.returned (.pointer (some ⟨w3.heap.size, 0, none⟩))) ((W.setCell ⟨w3.heap.size, 4, none⟩ (.func (.func 117) #[.pointer (some ⟨w3.heap.size, 0, none⟩)] #[])).setCell ⟨w3.heap.size, 5, none⟩ (.bool true))) := Lib.hid
    ⟨_, sb, hb, rfl, ⟨LW.off BW (by decide) (by decide) (by decide) (by decide) (by decide) (by decide) (by decide) TA, EW.turn TA (EW.b1.ne BW (by decide)) (EW.b2.ne BW (by decide)), SW.turn TA (SW.b.ne BW (by decide)), HW.turn TA (HW.b.ne BW (by decide)), X⟩,
      ⟨hx, by omega, by omega⟩, T03.comp TA (fun j hj e => by omega)⟩
  clear K21 K22 K23 K24 K31 K32 K33 K2 K3 T03 hx e1 TA LW EW SW HW X BW T34
  generalize w3.heap.size = xb at *
  go_wp2_with fail
  with_reducible refine RR.out.mono ?_
  rintro e w5 ⟨rfl, rfl⟩
  go_wp2_with fail
  go_ret
  exact FIN.out
end
end Go.Proofs.YtgfobgabdafclaaGreat
