/-
  Configs by numbers, and acts that came in.
-/
import Derived.Test.YteokdibfdahabaaLk
import Derived.Test.YteokdibfdahabaaDo
import Derived.Deep.Slices
import Derived.Deep.Fields
import Derived.ChangeSame
namespace Go.Proofs.Yteokdibfdahabaa
open Go.ChangeShapes Go.WideShapes Go.ChangeAt Go.RowKit
set_option linter.unusedVariables false
theorem size28 : (Try.prog.info? 28).map (·.size) = some 7 := by kernel_rfl
theorem size85 : (Try.prog.info? 85).map (·.size) = some 7 := by kernel_rfl
theorem one7 (a b c d e f g : Int) : [Value.int .i64 a, .int .i64 b, .int .i64 c, .int .i64 d, .int .i64 e, .int .i64 f, .int .i64 g].toArray.all (·.oneCell') = true := by simp [Value.oneCell']
def cfgOf (x y z : Int) : Cf := ⟨1 + restN x 3, 1 + restN y 5, 4, 2, 9, 9, 1 + (restN z 24 : Int)⟩
theorem cfgOf_ok (x y z : Int) : (cfgOf x y z).Ok ∧ (cfgOf x y z).sh ≤ 3 ∧ (cfgOf x y z).ib ≤ 5 ∧ (cfgOf x y z).st ≤ 24 := by
  have l3 := restN_lt x (n := 3) (by decide)
  have l5 := restN_lt y (n := 5) (by decide)
  have l24 := restN_lt z (n := 24) (by decide)
  refine ⟨⟨?_, ?_, ?_, ?_, ?_, ?_, ?_, ?_, ?_, ?_, ?_, ?_, ?_, ?_⟩, ?_, ?_, ?_⟩ <;> simp only [cfgOf] <;> omega
def cfL (c : Cf) : List Value := [.int .i64 (c.sh : Int), .int .i64 (c.ib : Int), .int .i64 c.sl, .int .i64 c.qu, .int .i64 c.ru, .int .i64 c.ou, .int .i64 c.st]
set_option maxRecDepth 100000 in
set_option maxHeartbeats 4000000 in
theorem config_of (w : World) (x y z : Int) : Calls Try.prog 11 #[.agg #[.int .i64 x, .int .i64 y, .int .i64 z]] w fun e w' => e = .returned (.agg (cfL (cfgOf x y z)).toArray) ∧ Turn (fun _ => False) w w' := by
  obtain ⟨W, hW⟩ : ∃ W, W = (w.alloc (.cells #[.int .i64 x, .int .i64 y, .int .i64 z] 22)).alloc (.cells #[.int .i64 0, .int .i64 0, .int .i64 0, .int .i64 0, .int .i64 0, .int .i64 0, .int .i64 0] 28) := ⟨_, rfl⟩
  obtain ⟨V, hV⟩ : ∃ V, V = w.alloc (.cells #[.int .i64 x, .int .i64 y, .int .i64 z] 22) := ⟨_, rfl⟩
  rw [← hV] at hW
  have TV : Turn (fun _ => False) w V := by rw [hV]; exact (Turn.refl _ w).alloc _
  have TW : Turn (fun _ => False) V W := by rw [hW]; exact (Turn.refl _ V).alloc _
  have CV : V.rangeAt w.heap.size 0 [.int .i64 x, .int .i64 y, .int .i64 z] := by rw [hV]; exact range_new w [.int .i64 x, .int .i64 y, .int .i64 z] 22
  have CW := range_turn CV TW (fun f => f)
  have SV : V.heap.size = w.heap.size + 1 := by rw [hV, World.size_alloc]
  have B2 : Blk W (w.heap.size + 1) 28 := by rw [hW, ← SV]; exact Blk.new V [.int .i64 0, .int .i64 0, .int .i64 0, .int .i64 0, .int .i64 0, .int .i64 0, .int .i64 0] 28
  have R2 : W.rangeAt (w.heap.size + 1) 0 [.int .i64 0, .int .i64 0, .int .i64 0, .int .i64 0, .int .i64 0, .int .i64 0, .int .i64 0] := by rw [hW, ← SV]; exact range_new V _ 28
  obtain ⟨q3, hq3⟩ : ∃ q : Int, (restN x 3 : Int) = q := ⟨_, rfl⟩
  obtain ⟨q5, hq5⟩ : ∃ q : Int, (restN y 5 : Int) = q := ⟨_, rfl⟩
  obtain ⟨q24, hq24⟩ : ∃ q : Int, (restN z 24 : Int) = q := ⟨_, rfl⟩
  have A3 := Lib.hid (show ∀ w, Calls Try.prog 20 #[.int .i64 x, .int .i64 3] w fun e w' => e = .returned (.int .i64 q3) ∧ w = w' from fun w => by rw [← hq3]; exact rest_is w x (n := 3) (by decide) (by decide))
  have A5 := Lib.hid (show ∀ w, Calls Try.prog 20 #[.int .i64 y, .int .i64 5] w fun e w' => e = .returned (.int .i64 q5) ∧ w = w' from fun w => by rw [← hq5]; exact rest_is w y (n := 5) (by decide) (by decide))
  have A24 := Lib.hid (show ∀ w, Calls Try.prog 20 #[.int .i64 z, .int .i64 24] w fun e w' => e = .returned (.int .i64 q24) ∧ w = w' from fun w => by rw [← hq24]; exact rest_is w z (n := 24) (by decide) (by decide))
  have l3 := restN_lt x (n := 3) (by decide)
  have l5 := restN_lt y (n := 5) (by decide)
  have l24 := restN_lt z (n := 24) (by decide)
  have e3 : IntKind.i64.wrap (1 + q3) = 1 + q3 := by rw [IntKind.wrap_i64]; omega
  have e5 : IntKind.i64.wrap (1 + q5) = 1 + q5 := by rw [IntKind.wrap_i64]; omega
  have e24 : IntKind.i64.wrap (1 + q24) = 1 + q24 := by rw [IntKind.wrap_i64]; omega
  have f3 : wrap64 (1 + q3) = 1 + q3 := by unfold wrap64; omega
  have f5 : wrap64 (1 + q5) = 1 + q5 := by unfold wrap64; omega
  have f24 : wrap64 (1 + q24) = 1 + q24 := by unfold wrap64; omega
  have eL : [Value.int .i64 (1 + q3), .int .i64 (1 + q5), .int .i64 4, .int .i64 2, .int .i64 9, .int .i64 9, .int .i64 (1 + q24)] = cfL (cfgOf x y z) := by
    rw [← hq3, ← hq5, ← hq24]
    simp [cfL, cfgOf]
  have TH := Lib.hid (show W.drew.there (w.heap.size + 1) 0 7 from (World.there_drew _ _ _ _).2 (range_there R2 rfl B2))
  have TS7 : Turn (fun q => q = w.heap.size + 1) W (W.drew.setCells (w.heap.size + 1) 0 [Value.int .i64 (1 + q3), .int .i64 (1 + q5), .int .i64 4, .int .i64 2, .int .i64 9, .int .i64 9, .int .i64 (1 + q24)]) := Turn.setCells _ 0 ((Turn.refl _ W).drewN 1) (.inl rfl)
  have FIN := Lib.hid (show Turn (fun _ => False) w (W.drew.setCells (w.heap.size + 1) 0 [Value.int .i64 (1 + q3), .int .i64 (1 + q5), .int .i64 4, .int .i64 2, .int .i64 9, .int .i64 9, .int .i64 (1 + q24)]) from (TV.trans TW).comp TS7 (fun j hj e => by omega))
  have nb : w.heap.size ≠ w.heap.size + 1 := by omega
  have RB2 : (W.drew.setCells (w.heap.size + 1) 0 [Value.int .i64 (1 + q3), .int .i64 (1 + q5), .int .i64 4, .int .i64 2, .int .i64 9, .int .i64 9, .int .i64 (1 + q24)]).rangeAt (w.heap.size + 1) 0 (cfL (cfgOf x y z)) := by
    rw [← eL]
    exact World.rangeAt_setCells_same _ _ 0 _ TH.out
  have RB2 := Lib.hid RB2
  have HC := Lib.hid (show (cfL (cfgOf x y z)).length = 7 from rfl)
  have y0 : W.drew.cell? ⟨w.heap.size, 0, none⟩ = some (.int .i64 x) ∧ W.drew.cell? ⟨w.heap.size, 1, none⟩ = some (.int .i64 y) ∧ W.drew.cell? ⟨w.heap.size, 2, none⟩ = some (.int .i64 z) := ⟨CW 0 _ rfl, CW 1 _ rfl, CW 2 _ rfl⟩
  have C7 := range_turn CW TS7 nb
  have y1 : (W.drew.setCells (w.heap.size + 1) 0 [Value.int .i64 (1 + q3), .int .i64 (1 + q5), .int .i64 4, .int .i64 2, .int .i64 9, .int .i64 9, .int .i64 (1 + q24)]).cell? ⟨w.heap.size, 0, none⟩ = some (.int .i64 x) ∧ (W.drew.setCells (w.heap.size + 1) 0 [Value.int .i64 (1 + q3), .int .i64 (1 + q5), .int .i64 4, .int .i64 2, .int .i64 9, .int .i64 9, .int .i64 (1 + q24)]).cell? ⟨w.heap.size, 1, none⟩ = some (.int .i64 y) ∧ (W.drew.setCells (w.heap.size + 1) 0 [Value.int .i64 (1 + q3), .int .i64 (1 + q5), .int .i64 4, .int .i64 2, .int .i64 9, .int .i64 9, .int .i64 (1 + q24)]).cell? ⟨w.heap.size, 2, none⟩ = some (.int .i64 z) := ⟨C7 0 _ rfl, C7 1 _ rfl, C7 2 _ rfl⟩
  clear TV TW CV CW SV B2 R2 hq3 hq5 hq24 l3 l5 l24 TS7 nb C7 eL
  generalize cfL (cfgOf x y z) = cs at *
  go_enter Try.func11, Try.ntmps11
  go_upto_region 1 with fail
  rw [← hV, ← hW]
  clear hW hV
  generalize hb2 : w.heap.size + 1 = b2 at *
  generalize w.heap.size = b1 at *
  clear hb2
  refine wp_region_held_drew (S := (fun w' => w'.cell? ⟨b1, 0, none⟩ = some (.int .i64 x) ∧ w'.cell? ⟨b1, 1, none⟩ = some (.int .i64 y) ∧ w'.cell? ⟨b1, 2, none⟩ = some (.int .i64 z))) (by kernel_rfl) ?hs0 (fun hS0 => ?_)
  case hs0 => ((try dsimp only); first | with_reducible exact y0 | with_reducible exact y1 | exact y0 | exact y1)
  refine wpAnyH_take (i := 0) (oi := { dst := some 3, op := Op.indexAddr 22 (Operand.tmp 1) (Operand.const (Value.int IntKind.i64 0)), type := 0, pos := "law.go:23", after := #[], guard := none }) (v := ?_) rfl (by kernel_rfl) (by kernel_rfl) (by kernel_rfl) (fun _ _ _ h => h) (Or.inl ⟨by rfl, ?hy1⟩) hS0 ?_
  case hy1 => (intro w hSw; (try dsimp only at hSw); go_simp; try with_reducible rfl)
  try simp only [Act.put, List.setIfInBounds_toArray, List.set_cons_zero, List.set_cons_succ]
  refine wpAnyH_take (i := 1) (oi := { dst := some 4, op := Op.load 3 (Operand.tmp 3), type := 3, pos := "law.go:23", after := #[{ on := 0, ground := Ground.data }], guard := none }) (v := ?_) rfl (by kernel_rfl) (by kernel_rfl) (by kernel_rfl) (fun _ _ _ h => h) (Or.inl ⟨by rfl, ?hy2⟩) hS0 ?_
  case hy2 => (intro w hSw; (try dsimp only at hSw); go_simp; try with_reducible rfl)
  try simp only [Act.put, List.setIfInBounds_toArray, List.set_cons_zero, List.set_cons_succ]
  refine wpAnyH_take (i := 4) (oi := { dst := some 7, op := Op.indexAddr 22 (Operand.tmp 1) (Operand.const (Value.int IntKind.i64 1)), type := 0, pos := "law.go:23", after := #[], guard := none }) (v := ?_) rfl (by kernel_rfl) (by kernel_rfl) (by kernel_rfl) (fun _ _ _ h => h) (Or.inl ⟨by rfl, ?hy3⟩) hS0 ?_
  case hy3 => (intro w hSw; (try dsimp only at hSw); go_simp; try with_reducible rfl)
  try simp only [Act.put, List.setIfInBounds_toArray, List.set_cons_zero, List.set_cons_succ]
  refine wpAnyH_take (i := 5) (oi := { dst := some 8, op := Op.load 3 (Operand.tmp 7), type := 3, pos := "law.go:23", after := #[{ on := 4, ground := Ground.data }], guard := none }) (v := ?_) rfl (by kernel_rfl) (by kernel_rfl) (by kernel_rfl) (fun _ _ _ h => h) (Or.inl ⟨by rfl, ?hy4⟩) hS0 ?_
  case hy4 => (intro w hSw; (try dsimp only at hSw); go_simp; try with_reducible rfl)
  try simp only [Act.put, List.setIfInBounds_toArray, List.set_cons_zero, List.set_cons_succ]
  refine wpAnyH_take (i := 8) (oi := { dst := some 11, op := Op.indexAddr 22 (Operand.tmp 1) (Operand.const (Value.int IntKind.i64 2)), type := 0, pos := "law.go:23", after := #[], guard := none }) (v := ?_) rfl (by kernel_rfl) (by kernel_rfl) (by kernel_rfl) (fun _ _ _ h => h) (Or.inl ⟨by rfl, ?hy5⟩) hS0 ?_
  case hy5 => (intro w hSw; (try dsimp only at hSw); go_simp; try with_reducible rfl)
  try simp only [Act.put, List.setIfInBounds_toArray, List.set_cons_zero, List.set_cons_succ]
  refine wpAnyH_take (i := 9) (oi := { dst := some 12, op := Op.load 3 (Operand.tmp 11), type := 3, pos := "law.go:23", after := #[{ on := 8, ground := Ground.data }], guard := none }) (v := ?_) rfl (by kernel_rfl) (by kernel_rfl) (by kernel_rfl) (fun _ _ _ h => h) (Or.inl ⟨by rfl, ?hy6⟩) hS0 ?_
  case hy6 => (intro w hSw; (try dsimp only at hSw); go_simp; try with_reducible rfl)
  try simp only [Act.put, List.setIfInBounds_toArray, List.set_cons_zero, List.set_cons_succ]
  refine wpAnyH_ready (rs := [2]) (by kernel_rfl) (by simp) ?_
  refine AllReadyH.cons (o := { dst := some 5, op := Op.call { callee := Callee.value (Operand.func 20), args := #[Operand.tmp 4, Operand.const (Value.int IntKind.i64 3)], argTypes := #[3, 3] }, type := 3, pos := "law.go:23", after := #[{ on := 1, ground := Ground.data }], guard := none }) rfl (fun K hK => ?_) ?_
  · go_simp; with_reducible refine (A3.out _).mono ?_; rintro en Wr ⟨rfl, rfl⟩; go_simp
    refine hK.out _ _ ?hs7 (fun hS7 => ?_)
    case hs7 => ((try dsimp only); first | with_reducible exact y0 | with_reducible exact y1 | exact y0 | exact y1)
    clear hK K hS0
    refine wpAnyH_take (i := 3) (oi := { dst := some 6, op := Op.binOp BinOp.add 3 (Operand.const (Value.int IntKind.i64 1)) (Operand.tmp 5) 3, type := 3, pos := "law.go:23", after := #[{ on := 2, ground := Ground.data }], guard := none }) (v := ?_) rfl (by kernel_rfl) (by kernel_rfl) (by kernel_rfl) (fun _ _ _ h => h) (Or.inl ⟨by rfl, ?hy8⟩) hS7 ?_
    case hy8 => (intro w hSw; (try dsimp only at hSw); go_simp; try with_reducible rfl)
    try simp only [Act.put, List.setIfInBounds_toArray, List.set_cons_zero, List.set_cons_succ]
    refine wpAnyH_ready (rs := [6]) (by kernel_rfl) (by simp) ?_
    refine AllReadyH.cons (o := { dst := some 9, op := Op.call { callee := Callee.value (Operand.func 20), args := #[Operand.tmp 8, Operand.const (Value.int IntKind.i64 5)], argTypes := #[3, 3] }, type := 3, pos := "law.go:23", after := #[{ on := 5, ground := Ground.data }, { on := 2, ground := Ground.chain }], guard := none }) rfl (fun K hK => ?_) ?_
    · go_simp; with_reducible refine (A5.out _).mono ?_; rintro en Wr ⟨rfl, rfl⟩; go_simp
      refine hK.out _ _ ?hs9 (fun hS9 => ?_)
      case hs9 => ((try dsimp only); first | with_reducible exact y0 | with_reducible exact y1 | exact y0 | exact y1)
      clear hK K hS7
      refine wpAnyH_take (i := 7) (oi := { dst := some 10, op := Op.binOp BinOp.add 3 (Operand.const (Value.int IntKind.i64 1)) (Operand.tmp 9) 3, type := 3, pos := "law.go:23", after := #[{ on := 6, ground := Ground.data }], guard := none }) (v := ?_) rfl (by kernel_rfl) (by kernel_rfl) (by kernel_rfl) (fun _ _ _ h => h) (Or.inl ⟨by rfl, ?hy10⟩) hS9 ?_
      case hy10 => (intro w hSw; (try dsimp only at hSw); go_simp; try with_reducible rfl)
      try simp only [Act.put, List.setIfInBounds_toArray, List.set_cons_zero, List.set_cons_succ]
      refine wpAnyH_ready (rs := [10]) (by kernel_rfl) (by simp) ?_
      refine AllReadyH.cons (o := { dst := some 13, op := Op.call { callee := Callee.value (Operand.func 20), args := #[Operand.tmp 12, Operand.const (Value.int IntKind.i64 24)], argTypes := #[3, 3] }, type := 3, pos := "law.go:23", after := #[{ on := 9, ground := Ground.data }, { on := 6, ground := Ground.chain }], guard := none }) rfl (fun K hK => ?_) ?_
      · go_simp; with_reducible refine (A24.out _).mono ?_; rintro en Wr ⟨rfl, rfl⟩; go_simp
        refine hK.out _ _ ?hs11 (fun hS11 => ?_)
        case hs11 => ((try dsimp only); first | with_reducible exact y0 | with_reducible exact y1 | exact y0 | exact y1)
        clear hK K hS9
        refine wpAnyH_take (i := 11) (oi := { dst := some 14, op := Op.binOp BinOp.add 3 (Operand.const (Value.int IntKind.i64 1)) (Operand.tmp 13) 3, type := 3, pos := "law.go:23", after := #[{ on := 10, ground := Ground.data }], guard := none }) (v := ?_) rfl (by kernel_rfl) (by kernel_rfl) (by kernel_rfl) (fun _ _ _ h => h) (Or.inl ⟨by rfl, ?hy12⟩) hS11 ?_
        case hy12 => (intro w hSw; (try dsimp only at hSw); go_simp; try with_reducible rfl)
        try simp only [Act.put, List.setIfInBounds_toArray, List.set_cons_zero, List.set_cons_succ]
        refine wpAnyH_take (i := 12) (oi := { dst := some 15, op := Op.build 28 #[(0, Operand.tmp 6), (1, Operand.tmp 10), (2, Operand.const (Value.int IntKind.i64 4)), (3, Operand.const (Value.int IntKind.i64 2)), (4, Operand.const (Value.int IntKind.i64 9)), (5, Operand.const (Value.int IntKind.i64 9)), (6, Operand.tmp 14)], type := 28, pos := "law.go:23", after := #[{ on := 3, ground := Ground.data }, { on := 7, ground := Ground.data }, { on := 11, ground := Ground.data }], guard := none }) (v := ?_) rfl (by kernel_rfl) (by kernel_rfl) (by kernel_rfl) (fun _ _ _ h => h) (Or.inl ⟨by rfl, ?hy13⟩) hS11 ?_
        case hy13 => (intro w hSw; (try dsimp only at hSw); go_simp; try with_reducible rfl)
        try simp only [Act.put, List.setIfInBounds_toArray, List.set_cons_zero, List.set_cons_succ]
        refine wpAnyH_ready (rs := [13]) (by kernel_rfl) (by simp) ?_
        refine AllReadyH.cons (o := { dst := none, op := Op.store 28 (Operand.tmp 2) (Operand.tmp 15), type := 0, pos := "law.go:23", after := #[{ on := 12, ground := Ground.data }, { on := 10, ground := Ground.chain }, { on := 0, ground := Ground.phase }, { on := 1, ground := Ground.phase }, { on := 2, ground := Ground.phase }, { on := 3, ground := Ground.phase }, { on := 4, ground := Ground.phase }, { on := 5, ground := Ground.phase }, { on := 6, ground := Ground.phase }, { on := 7, ground := Ground.phase }, { on := 8, ground := Ground.phase }, { on := 9, ground := Ground.phase }, { on := 10, ground := Ground.phase }, { on := 11, ground := Ground.phase }, { on := 12, ground := Ground.phase }], guard := none }) rfl (fun K hK => ?_) ?_
        · rw [if_pos (by rfl)]; refine wp_store_mid 28 _ _ rfl b2 0 [Value.int .i64 (1 + q3), .int .i64 (1 + q5), .int .i64 4, .int .i64 2, .int .i64 9, .int .i64 9, .int .i64 (1 + q24)].toArray rfl rfl TH.out size28 (one7 _ _ _ _ _ _ _) ?_
          refine hK.out _ _ ?hs14 (fun hS14 => ?_)
          case hs14 => ((try dsimp only); first | with_reducible exact y0 | with_reducible exact y1 | exact y0 | exact y1)
          clear hK K hS11
          refine wpAnyH_done (by kernel_rfl) ?_ _
          generalize W.drew.setCells b2 0 [Value.int .i64 (1 + q3), .int .i64 (1 + q5), .int .i64 4, .int .i64 2, .int .i64 9, .int .i64 9, .int .i64 (1 + q24)] = W2 at *
          clear y1 y0
          go_wp2_with fail
          exact bodyPost_ret (v := .agg cs.toArray) (res_cell (a := 2) rfl rfl (run_loadVar_mid _ b2 0 28 cs _ RB2.out Try.underlying28 rfl (by rw [HC.out]; exact size28))) rfl ⟨rfl, FIN.out⟩
        exact AllReadyH.nil
      exact AllReadyH.nil
    exact AllReadyH.nil
  exact AllReadyH.nil
section
variable {w : World} {B : LB} {R : RB} {c : Cf} {s : LSt}
set_option maxRecDepth 100000 in
set_option maxHeartbeats 4000000 in
theorem LogAt.config_is (h : LogAt w B c s) : Calls Try.prog 15 #[.pointer (some ⟨B.l, 0, none⟩)] w fun e w' => e = .returned (.agg (cfL c).toArray) ∧ Turn (fun _ => False) w w' := by
  obtain ⟨W, hW⟩ : ∃ W, W = w.alloc (.cells #[.int .i64 0, .int .i64 0, .int .i64 0, .int .i64 0, .int .i64 0, .int .i64 0, .int .i64 0] 28) := ⟨_, rfl⟩
  have T : Turn (fun _ => False) w W := by rw [hW]; exact (Turn.refl _ w).alloc _
  have Bk : Blk W w.heap.size 28 := by rw [hW]; exact Blk.new w [.int .i64 0, .int .i64 0, .int .i64 0, .int .i64 0, .int .i64 0, .int .i64 0, .int .i64 0] 28
  have C : W.rangeAt w.heap.size 0 [.int .i64 0, .int .i64 0, .int .i64 0, .int .i64 0, .int .i64 0, .int .i64 0, .int .i64 0] := by rw [hW]; exact range_new w _ 28
  have hh := h.keep T
  have RC : W.rangeAt B.l 0 (cfL c) := fun j u hu => by
    rw [Nat.zero_add]
    have hj : j < 7 := (List.getElem?_eq_some_iff.1 hu).1
    have hj' : j = 0 ∨ j = 1 ∨ j = 2 ∨ j = 3 ∨ j = 4 ∨ j = 5 ∨ j = 6 := by omega
    rcases hj' with rfl | rfl | rfl | rfl | rfl | rfl | rfl <;> (injection hu with hu; subst hu)
    · exact hh.k0
    · exact hh.k1
    · exact hh.k2
    · exact hh.k3
    · exact hh.k4
    · exact hh.k5
    · exact hh.k6
  have HC : (cfL c).length = 7 ∧ (cfL c).toArray.all (·.oneCell') = true := ⟨rfl, one7 _ _ _ _ _ _ _⟩
  have TH := Lib.hid (show W.there w.heap.size 0 7 from range_there C rfl Bk)
  have hbl := Bk.lt
  have KE := Lib.hid (T.comp (Turn.setCells (cfL c) 0 (show Turn (fun b => b = w.heap.size) W W from Turn.refl _ W) (.inl rfl)) (S := fun _ => False) (fun j hj e => by omega))
  have HC := Lib.hid HC
  have RC := Lib.hid RC
  clear T Bk C hh hbl h
  generalize cfL c = cs at *
  go_enter Try.func15, Try.ntmps15
  go_upto_region 3 with fail
  rw [← hW]
  clear hW
  generalize w.heap.size = b at *
  refine wp_region_lit ?_
  refine rl_rd rfl (v := ?_) ?hz1 ?_
  case hz1 => (go_simp; try with_reducible rfl)
  try simp only [Act.put, List.setIfInBounds_toArray, List.set_cons_zero, List.set_cons_succ]
  refine rl_rd rfl (v := ?_) ?hz2 ?_
  case hz2 => (go_simp; try with_reducible rfl)
  try simp only [Act.put, List.setIfInBounds_toArray, List.set_cons_zero, List.set_cons_succ]
  refine rl_rd rfl (v := ?_) ?hz3 ?_
  case hz3 => (go_simp; try with_reducible rfl)
  try simp only [Act.put, List.setIfInBounds_toArray, List.set_cons_zero, List.set_cons_succ]
  refine wpList_load_mid rfl 85 _ rfl B.l 0 rfl cs _ RC.out Try.underlying85 rfl (by rw [HC.out.1]; exact size85) ?_
  try simp only [Act.put, List.setIfInBounds_toArray, List.set_cons_zero, List.set_cons_succ]
  refine wpList_store_mid rfl 28 _ _ rfl b 0 cs.toArray rfl rfl (by rw [List.size_toArray, HC.out.1]; exact TH.out) (by rw [List.size_toArray, HC.out.1]; exact size28) HC.out.2 ?_
  try simp only [Act.put, List.setIfInBounds_toArray, List.set_cons_zero, List.set_cons_succ]
  go_wp2_with fail
  exact bodyPost_ret (v := .agg cs.toArray) (res_cell (a := 2) rfl rfl (run_loadVar_mid _ b 0 28 cs _ (World.rangeAt_setCells_same _ b 0 cs (by rw [HC.out.1]; exact TH.out)) Try.underlying28 rfl (by rw [HC.out.1]; exact size28))) rfl ⟨rfl, KE.out⟩
end
end Go.Proofs.Yteokdibfdahabaa
