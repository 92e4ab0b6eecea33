/-
  Rests, and configs by numbers.
-/
import Derived.Test.YtepmealhnnoahaaSd
namespace Go.Proofs.Ytepmealhnnoahaa
set_option linter.unusedSimpArgs false
open Go.ChangeShapes Go.WideShapes Go.ChangeAt Go.RowKit
set_option linter.unusedVariables false
/-- A number's rest, from nought on. -/
def restN (x : Int) (n : Nat) : Nat := ((x.tmod n + n) % (n : Int)).toNat
theorem restN_lt (x : Int) {n : Nat} (h1 : 1 ≤ n) : restN x n < n := by
  have e3 : 0 ≤ (x.tmod n + n) % (n : Int) := Int.emod_nonneg _ (by omega)
  have e4 : (x.tmod n + n) % (n : Int) < n := Int.emod_lt_of_pos _ (by omega)
  unfold restN
  omega
set_option maxRecDepth 100000 in
theorem rest_is (w : World) (x : Int) {n : Nat} (h1 : 1 ≤ n) (h2 : n ≤ 100000) : Calls Try.prog 27 #[.int .i64 x, .int .i64 (n : Int)] w fun e w' => e = .returned (.int .i64 (restN x n : Int)) ∧ w = w' := by
  have t1 : -(n : Int) < x.tmod n := Int.lt_tmod_of_pos x (by omega)
  have t2 : x.tmod n < n := Int.tmod_lt_of_pos x (by omega)
  have e3 : 0 ≤ (x.tmod n + n) % (n : Int) := Int.emod_nonneg _ (by omega)
  have er : (restN x n : Int) = (x.tmod n + n) % (n : Int) := by unfold restN; omega
  obtain ⟨y, hy⟩ : ∃ y, x.tmod n = y := ⟨_, rfl⟩
  rw [hy] at t1 t2 er
  have e1 : wrap64 (y + n) = y + n := by unfold wrap64; omega
  have e2 : (y + n).tmod n = (restN x n : Int) := by rw [er]; exact Int.tmod_eq_emod_of_nonneg (by omega)
  have nz : ((n : Int) == 0) = false := by simp; omega
  have nn : ¬ (n : Int) = 0 := by omega
  generalize restN x n = R at *
  clear h1 h2 t1 t2 e3 er
  go_enter Try.func27, Try.ntmps27
  go_wp2
  go_ret
  exact ⟨rfl, rfl⟩
theorem size28 : (Try.prog.info? 28).map (·.size) = some 7 := by kernel_rfl
theorem one7 (a b c d e f g : Int) : [Value.int .i64 a, .int .i64 b, .int .i64 c, .int .i64 d, .int .i64 e, .int .i64 f, .int .i64 g].toArray.all (·.oneCell') = true := by simp [Value.oneCell']
def quOf (x : Int) : Int := 1 + (restN x 4 : Int)
def ouOf (y : Int) : Int := 1 + (restN y 6 : Int)
theorem quOf_le (x : Int) : 1 ≤ quOf x ∧ quOf x ≤ 4 := by have := restN_lt x (n := 4) (by decide); unfold quOf; omega
theorem ouOf_le (x : Int) : 1 ≤ ouOf x ∧ ouOf x ≤ 6 := by have := restN_lt x (n := 6) (by decide); unfold ouOf; omega
set_option maxRecDepth 100000 in
set_option maxHeartbeats 4000000 in
theorem config_of (w : World) (x y : Int) : Calls Try.prog 11 #[.agg #[.int .i64 x, .int .i64 y]] w fun e w' => e = .returned (.agg #[.int .i64 0, .int .i64 0, .int .i64 0, .int .i64 (quOf x), .int .i64 0, .int .i64 (ouOf y), .int .i64 0]) ∧ Turn (fun _ => False) w w' := by
  obtain ⟨W, hW⟩ : ∃ W, W = (w.alloc (.cells #[.int .i64 x, .int .i64 y] 22)).alloc (.cells #[.int .i64 0, .int .i64 0, .int .i64 0, .int .i64 0, .int .i64 0, .int .i64 0, .int .i64 0] 28) := ⟨_, rfl⟩
  obtain ⟨V, hV⟩ : ∃ V, V = w.alloc (.cells #[.int .i64 x, .int .i64 y] 22) := ⟨_, rfl⟩
  rw [← hV] at hW
  have TV : Turn (fun _ => False) w V := by rw [hV]; exact (Turn.refl _ w).alloc _
  have TW : Turn (fun _ => False) V W := by rw [hW]; exact (Turn.refl _ V).alloc _
  have CV : V.rangeAt w.heap.size 0 [.int .i64 x, .int .i64 y] := by rw [hV]; exact range_new w [.int .i64 x, .int .i64 y] 22
  have CW := range_turn CV TW (fun f => f)
  have SV : V.heap.size = w.heap.size + 1 := by rw [hV, World.size_alloc]
  have B2 : Blk W (w.heap.size + 1) 28 := by rw [hW, ← SV]; exact Blk.new V [.int .i64 0, .int .i64 0, .int .i64 0, .int .i64 0, .int .i64 0, .int .i64 0, .int .i64 0] 28
  have R2 : W.rangeAt (w.heap.size + 1) 0 [.int .i64 0, .int .i64 0, .int .i64 0, .int .i64 0, .int .i64 0, .int .i64 0, .int .i64 0] := by rw [hW, ← SV]; exact range_new V _ 28
  unfold quOf ouOf
  obtain ⟨q3, hq3⟩ : ∃ q : Int, (restN x 4 : Int) = q := ⟨_, rfl⟩
  obtain ⟨q5, hq5⟩ : ∃ q : Int, (restN y 6 : Int) = q := ⟨_, rfl⟩
  have A3 := Lib.hid (show ∀ w, Calls Try.prog 27 #[.int .i64 x, .int .i64 4] w fun e w' => e = .returned (.int .i64 q3) ∧ w = w' from fun w => by rw [← hq3]; exact rest_is w x (n := 4) (by decide) (by decide))
  have A5 := Lib.hid (show ∀ w, Calls Try.prog 27 #[.int .i64 y, .int .i64 6] w fun e w' => e = .returned (.int .i64 q5) ∧ w = w' from fun w => by rw [← hq5]; exact rest_is w y (n := 6) (by decide) (by decide))
  have l3 := restN_lt x (n := 4) (by decide)
  have l5 := restN_lt y (n := 6) (by decide)
  have e3 : IntKind.i64.wrap (1 + q3) = 1 + q3 := by rw [IntKind.wrap_i64]; omega
  have e5 : IntKind.i64.wrap (1 + q5) = 1 + q5 := by rw [IntKind.wrap_i64]; omega
  have f3 : wrap64 (1 + q3) = 1 + q3 := by unfold wrap64; omega
  have f5 : wrap64 (1 + q5) = 1 + q5 := by unfold wrap64; omega
  rw [hq3, hq5]
  have TH := Lib.hid (show W.drew.there (w.heap.size + 1) 0 7 from (World.there_drew _ _ _ _).2 (range_there R2 rfl B2))
  have TS7 : Turn (fun q => q = w.heap.size + 1) W (W.drew.setCells (w.heap.size + 1) 0 [Value.int .i64 0, .int .i64 0, .int .i64 0, .int .i64 (1 + q3), .int .i64 0, .int .i64 (1 + q5), .int .i64 0]) := Turn.setCells _ 0 ((Turn.refl _ W).drewN 1) (.inl rfl)
  have FIN := Lib.hid (show Turn (fun _ => False) w (W.drew.setCells (w.heap.size + 1) 0 [Value.int .i64 0, .int .i64 0, .int .i64 0, .int .i64 (1 + q3), .int .i64 0, .int .i64 (1 + q5), .int .i64 0]) from (TV.trans TW).comp TS7 (fun j hj e => by omega))
  have nb : w.heap.size ≠ w.heap.size + 1 := by omega
  have RB2 := Lib.hid (show (W.drew.setCells (w.heap.size + 1) 0 [Value.int .i64 0, .int .i64 0, .int .i64 0, .int .i64 (1 + q3), .int .i64 0, .int .i64 (1 + q5), .int .i64 0]).rangeAt (w.heap.size + 1) 0 [Value.int .i64 0, .int .i64 0, .int .i64 0, .int .i64 (1 + q3), .int .i64 0, .int .i64 (1 + q5), .int .i64 0] from World.rangeAt_setCells_same _ _ 0 _ TH.out)
  have y0 : W.drew.cell? ⟨w.heap.size, 0, none⟩ = some (.int .i64 x) ∧ W.drew.cell? ⟨w.heap.size, 1, none⟩ = some (.int .i64 y) := ⟨CW 0 _ rfl, CW 1 _ rfl⟩
  have C7 := range_turn CW TS7 nb
  have y1 : (W.drew.setCells (w.heap.size + 1) 0 [Value.int .i64 0, .int .i64 0, .int .i64 0, .int .i64 (1 + q3), .int .i64 0, .int .i64 (1 + q5), .int .i64 0]).cell? ⟨w.heap.size, 0, none⟩ = some (.int .i64 x) ∧ (W.drew.setCells (w.heap.size + 1) 0 [Value.int .i64 0, .int .i64 0, .int .i64 0, .int .i64 (1 + q3), .int .i64 0, .int .i64 (1 + q5), .int .i64 0]).cell? ⟨w.heap.size, 1, none⟩ = some (.int .i64 y) := ⟨C7 0 _ rfl, C7 1 _ rfl⟩
  clear TV TW CV CW SV B2 R2 hq3 hq5 l3 l5 TS7 nb C7
  go_enter Try.func11, Try.ntmps11
  go_upto_region 1 with fail
  rw [← hV, ← hW]
  clear hW hV
  generalize hb2 : w.heap.size + 1 = b2 at *
  generalize w.heap.size = b1 at *
  clear hb2
  refine wp_region_held_drew (S := (fun w' => w'.cell? ⟨b1, 0, none⟩ = some (.int .i64 x) ∧ w'.cell? ⟨b1, 1, none⟩ = some (.int .i64 y))) (by kernel_rfl) ?hs0 (fun hS0 => ?_)
  case hs0 => ((try dsimp only); first | with_reducible exact y0 | with_reducible exact y1 | exact y0 | exact y1)
  refine wpAnyH_take (i := 0) (oi := { dst := some 3, op := Op.indexAddr 22 (Operand.tmp 1) (Operand.const (Value.int IntKind.i64 0)), type := 0, pos := "law.go:77", after := #[], guard := none }) (v := ?_) rfl (by kernel_rfl) (by kernel_rfl) (by kernel_rfl) (fun _ _ _ h => h) (Or.inl ⟨by rfl, ?hy1⟩) hS0 ?_
  case hy1 => (intro w hSw; (try dsimp only at hSw); go_simp; try with_reducible rfl)
  try simp only [Act.put, List.setIfInBounds_toArray, List.set_cons_zero, List.set_cons_succ]
  refine wpAnyH_take (i := 1) (oi := { dst := some 4, op := Op.load 3 (Operand.tmp 3), type := 3, pos := "law.go:77", after := #[{ on := 0, ground := Ground.data }], guard := none }) (v := ?_) rfl (by kernel_rfl) (by kernel_rfl) (by kernel_rfl) (fun _ _ _ h => h) (Or.inl ⟨by rfl, ?hy2⟩) hS0 ?_
  case hy2 => (intro w hSw; (try dsimp only at hSw); go_simp; try with_reducible rfl)
  try simp only [Act.put, List.setIfInBounds_toArray, List.set_cons_zero, List.set_cons_succ]
  refine wpAnyH_take (i := 4) (oi := { dst := some 7, op := Op.indexAddr 22 (Operand.tmp 1) (Operand.const (Value.int IntKind.i64 1)), type := 0, pos := "law.go:77", after := #[], guard := none }) (v := ?_) rfl (by kernel_rfl) (by kernel_rfl) (by kernel_rfl) (fun _ _ _ h => h) (Or.inl ⟨by rfl, ?hy3⟩) hS0 ?_
  case hy3 => (intro w hSw; (try dsimp only at hSw); go_simp; try with_reducible rfl)
  try simp only [Act.put, List.setIfInBounds_toArray, List.set_cons_zero, List.set_cons_succ]
  refine wpAnyH_take (i := 5) (oi := { dst := some 8, op := Op.load 3 (Operand.tmp 7), type := 3, pos := "law.go:77", after := #[{ on := 4, ground := Ground.data }], guard := none }) (v := ?_) rfl (by kernel_rfl) (by kernel_rfl) (by kernel_rfl) (fun _ _ _ h => h) (Or.inl ⟨by rfl, ?hy4⟩) hS0 ?_
  case hy4 => (intro w hSw; (try dsimp only at hSw); go_simp; try with_reducible rfl)
  try simp only [Act.put, List.setIfInBounds_toArray, List.set_cons_zero, List.set_cons_succ]
  refine wpAnyH_ready (rs := [2]) (by kernel_rfl) (by simp) ?_
  refine AllReadyH.cons (o := { dst := some 5, op := Op.call { callee := Callee.value (Operand.func 27), args := #[Operand.tmp 4, Operand.const (Value.int IntKind.i64 4)], argTypes := #[3, 3] }, type := 3, pos := "law.go:77", after := #[{ on := 1, ground := Ground.data }], guard := none }) rfl (fun K hK => ?_) ?_
  · go_simp; with_reducible refine (A3.out _).mono ?_; rintro en Wr ⟨rfl, rfl⟩; go_simp
    refine hK.out _ _ ?hs5 (fun hS5 => ?_)
    case hs5 => ((try dsimp only); first | with_reducible exact y0 | with_reducible exact y1 | exact y0 | exact y1)
    clear hK K hS0
    refine wpAnyH_take (i := 3) (oi := { dst := some 6, op := Op.binOp BinOp.add 3 (Operand.const (Value.int IntKind.i64 1)) (Operand.tmp 5) 3, type := 3, pos := "law.go:77", after := #[{ on := 2, ground := Ground.data }], guard := none }) (v := ?_) rfl (by kernel_rfl) (by kernel_rfl) (by kernel_rfl) (fun _ _ _ h => h) (Or.inl ⟨by rfl, ?hy6⟩) hS5 ?_
    case hy6 => (intro w hSw; (try dsimp only at hSw); go_simp; try with_reducible rfl)
    try simp only [Act.put, List.setIfInBounds_toArray, List.set_cons_zero, List.set_cons_succ]
    refine wpAnyH_ready (rs := [6]) (by kernel_rfl) (by simp) ?_
    refine AllReadyH.cons (o := { dst := some 9, op := Op.call { callee := Callee.value (Operand.func 27), args := #[Operand.tmp 8, Operand.const (Value.int IntKind.i64 6)], argTypes := #[3, 3] }, type := 3, pos := "law.go:77", after := #[{ on := 5, ground := Ground.data }, { on := 2, ground := Ground.chain }], guard := none }) rfl (fun K hK => ?_) ?_
    · go_simp; with_reducible refine (A5.out _).mono ?_; rintro en Wr ⟨rfl, rfl⟩; go_simp
      refine hK.out _ _ ?hs7 (fun hS7 => ?_)
      case hs7 => ((try dsimp only); first | with_reducible exact y0 | with_reducible exact y1 | exact y0 | exact y1)
      clear hK K hS5
      refine wpAnyH_take (i := 7) (oi := { dst := some 10, op := Op.binOp BinOp.add 3 (Operand.const (Value.int IntKind.i64 1)) (Operand.tmp 9) 3, type := 3, pos := "law.go:77", after := #[{ on := 6, ground := Ground.data }], guard := none }) (v := ?_) rfl (by kernel_rfl) (by kernel_rfl) (by kernel_rfl) (fun _ _ _ h => h) (Or.inl ⟨by rfl, ?hy8⟩) hS7 ?_
      case hy8 => (intro w hSw; (try dsimp only at hSw); go_simp; try with_reducible rfl)
      try simp only [Act.put, List.setIfInBounds_toArray, List.set_cons_zero, List.set_cons_succ]
      refine wpAnyH_take (i := 8) (oi := { dst := some 11, op := Op.build 28 #[(3, Operand.tmp 6), (5, Operand.tmp 10)], type := 28, pos := "law.go:77", after := #[{ on := 3, ground := Ground.data }, { on := 7, ground := Ground.data }], guard := none }) (v := ?_) rfl (by kernel_rfl) (by kernel_rfl) (by kernel_rfl) (fun _ _ _ h => h) (Or.inl ⟨by rfl, ?hy9⟩) hS7 ?_
      case hy9 => (intro w hSw; (try dsimp only at hSw); go_simp; try with_reducible rfl)
      try simp only [Act.put, List.setIfInBounds_toArray, List.set_cons_zero, List.set_cons_succ]
      refine wpAnyH_ready (rs := [9]) (by kernel_rfl) (by simp) ?_
      refine AllReadyH.cons (o := { dst := none, op := Op.store 28 (Operand.tmp 2) (Operand.tmp 11), type := 0, pos := "law.go:77", after := #[{ on := 8, ground := Ground.data }, { on := 6, ground := Ground.chain }, { on := 0, ground := Ground.phase }, { on := 1, ground := Ground.phase }, { on := 2, ground := Ground.phase }, { on := 3, ground := Ground.phase }, { on := 4, ground := Ground.phase }, { on := 5, ground := Ground.phase }, { on := 6, ground := Ground.phase }, { on := 7, ground := Ground.phase }, { on := 8, ground := Ground.phase }], guard := none }) rfl (fun K hK => ?_) ?_
      · rw [if_pos (by rfl)]; refine wp_store_mid 28 _ _ rfl b2 0 [Value.int .i64 0, .int .i64 0, .int .i64 0, .int .i64 (1 + q3), .int .i64 0, .int .i64 (1 + q5), .int .i64 0].toArray rfl rfl TH.out size28 (one7 _ _ _ _ _ _ _) ?_
        refine hK.out _ _ ?hs10 (fun hS10 => ?_)
        case hs10 => ((try dsimp only); first | with_reducible exact y0 | with_reducible exact y1 | exact y0 | exact y1)
        clear hK K hS7
        refine wpAnyH_done (by kernel_rfl) ?_ _
        generalize W.drew.setCells b2 0 [Value.int .i64 0, .int .i64 0, .int .i64 0, .int .i64 (1 + q3), .int .i64 0, .int .i64 (1 + q5), .int .i64 0] = W2 at *
        clear y1 y0
        go_wp2_with fail
        exact bodyPost_ret (v := .agg [Value.int .i64 0, .int .i64 0, .int .i64 0, .int .i64 (1 + q3), .int .i64 0, .int .i64 (1 + q5), .int .i64 0].toArray) (res_cell (a := 2) rfl rfl (run_loadVar_mid _ b2 0 28 [Value.int .i64 0, .int .i64 0, .int .i64 0, .int .i64 (1 + q3), .int .i64 0, .int .i64 (1 + q5), .int .i64 0] _ RB2.out Try.underlying28 rfl size28)) rfl ⟨rfl, FIN.out⟩
      exact AllReadyH.nil
    exact AllReadyH.nil
  exact AllReadyH.nil

end Go.Proofs.Ytepmealhnnoahaa
