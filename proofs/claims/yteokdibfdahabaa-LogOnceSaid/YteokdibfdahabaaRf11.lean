/-
  The document's own log, in memory: a new one.
-/
import Derived.Test.YteokdibfdahabaaRf10
import Derived.Test.YteokdibfdahabaaLn3
namespace Go.Proofs.Yteokdibfdahabaa
open Go.ChangeShapes Go.WideShapes Go.ChangeAt Go.RowKit
set_option linter.unusedVariables false
def z128 : Array Value := #[.int .i64 0, .bool false]
theorem made128 (n k j : Nat) (hk : k < n) (hj : j < 2) : (madeCells z128 (n * 2))[k * 2 + j]? = some (z128[j]!) := by
  have h : k * 2 + j < n * 2 := by omega
  have e : (k * 2 + j) % 2 = j := by omega
  have hz : z128.size = 2 := rfl
  simp [madeCells, h, hz, e]
theorem make128 {n : Nat} (h2 : n ≤ 4096) (w : World) : (Instr.makeSlice 98 (.int .i64 (n : Int)) (.int .i64 (n : Int))).run Try.prog w = .ok (.slice (some ⟨w.heap.size, 0, none⟩) n n) (w.alloc (.cells (madeCells z128 (n * 2)) 128)) := by
  have hinfo : (Try.prog.info? 128).map (fun i => (i.zero, i.size, i.bytes)) = some (some (.agg z128), 2, 16) := by kernel_rfl
  obtain ⟨i, hi, he⟩ := Option.map_eq_some_iff.mp hinfo
  simp only [Prod.mk.injEq] at he
  obtain ⟨hz, hs, hb⟩ := he
  have := run_make (P := Try.prog) w 98 128 i (.agg z128) Try.underlying98 hi hz .i64 .i64 (n : Int) (n : Int) (by omega) (by omega) (by rw [hb]; omega) (by omega)
  rw [hs] at this
  simpa [Value.cells] using this
set_option maxRecDepth 100000 in
set_option maxHeartbeats 4000000 in
theorem ref_new (w : World) {c : Cf} (h1 : 1 ≤ c.sh) (h2 : c.sh ≤ 15) :
    Calls Try.prog 12 #[.agg #[.int .i64 (c.sh : Int), .int .i64 (c.ib : Int), .int .i64 c.sl, .int .i64 c.qu, .int .i64 c.ru, .int .i64 c.ou, .int .i64 c.st]] w fun e w' => ∃ R : RB, e = .returned (.pointer (some ⟨R.r, 0, none⟩)) ∧ R.base = w.heap.size ∧ RefAt w' R c LSt.zero ∧ Turn (fun _ => False) w w' := by
  have MK := make128 (n := c.sh) (by omega)
  obtain ⟨W, hW⟩ : ∃ W, W = w.alloc (.cells #[.int .i64 (c.sh : Int), .int .i64 (c.ib : Int), .int .i64 c.sl, .int .i64 c.qu, .int .i64 c.ru, .int .i64 c.ou, .int .i64 c.st] 28) := ⟨_, rfl⟩
  have T : Turn (fun _ => False) w W := by rw [hW]; exact (Turn.refl _ w).alloc _
  have C : W.rangeAt w.heap.size 0 [.int .i64 (c.sh : Int), .int .i64 (c.ib : Int), .int .i64 c.sl, .int .i64 c.qu, .int .i64 c.ru, .int .i64 c.ou, .int .i64 c.st] := by rw [hW]; exact range_new w [.int .i64 (c.sh : Int), .int .i64 (c.ib : Int), .int .i64 c.sl, .int .i64 c.qu, .int .i64 c.ru, .int .i64 c.ou, .int .i64 c.st] 28
  have SW : W.heap.size = w.heap.size + 1 := by rw [hW, World.size_alloc]
  obtain ⟨WM, hWM⟩ : ∃ WM, WM = W.drew.alloc (.cells (madeCells z128 (c.sh * 2)) 128) := ⟨_, rfl⟩
  have TM : Turn (fun _ => False) W WM := by rw [hWM]; exact ((Turn.refl _ W).drewN 1).alloc _
  have SM : WM.heap.size = w.heap.size + 2 := by rw [hWM, World.size_alloc]; show W.heap.size + 1 = _; omega
  have BM : Blk WM (w.heap.size + 1) 128 := by
    rw [hWM]
    have := Blk.new W.drew (madeCells z128 (c.sh * 2)).toList 128
    rw [Array.toArray_toList, show W.drew.heap.size = w.heap.size + 1 from SW] at this
    exact this
  have RM : ∀ k, k < c.sh → WM.cell? ⟨w.heap.size + 1, k * 2, none⟩ = some (.int .i64 0) ∧ WM.cell? ⟨w.heap.size + 1, k * 2 + 1, none⟩ = some (.bool false) := fun k hk => by
    have h0 := range_new W.drew (madeCells z128 (c.sh * 2)).toList 128
    rw [Array.toArray_toList, ← hWM, show W.drew.heap.size = w.heap.size + 1 from SW] at h0
    have a0 := h0 (k * 2) (z128[0]!) (by rw [Array.getElem?_toList]; exact made128 c.sh k 0 hk (by decide))
    have a1 := h0 (k * 2 + 1) (z128[1]!) (by rw [Array.getElem?_toList]; exact made128 c.sh k 1 hk (by decide))
    rw [Nat.zero_add] at a0 a1
    exact ⟨a0, a1⟩
  obtain ⟨WB, hWB⟩ : ∃ WB, WB = WM.alloc (.cells #[.int .i64 (c.sh : Int), .int .i64 (c.ib : Int), .int .i64 c.sl, .int .i64 c.qu, .int .i64 c.ru, .int .i64 c.ou, .int .i64 c.st, .slice none 0 0, .bool false, .int .i64 0, .slice (some ⟨w.heap.size + 1, 0, none⟩) c.sh c.sh] 101) := ⟨_, rfl⟩
  have TB : Turn (fun _ => False) WM WB := by rw [hWB]; exact (Turn.refl _ _).alloc _
  have RBn : WB.rangeAt (w.heap.size + 2) 0 [.int .i64 (c.sh : Int), .int .i64 (c.ib : Int), .int .i64 c.sl, .int .i64 c.qu, .int .i64 c.ru, .int .i64 c.ou, .int .i64 c.st, .slice none 0 0, .bool false, .int .i64 0, .slice (some ⟨w.heap.size + 1, 0, none⟩) c.sh c.sh] := by
    rw [hWB, ← SM]
    exact range_new WM _ 101
  have BB : Blk WB (w.heap.size + 2) 101 := by
    rw [hWB, ← SM]
    exact Blk.new WM [.int .i64 (c.sh : Int), .int .i64 (c.ib : Int), .int .i64 c.sl, .int .i64 c.qu, .int .i64 c.ru, .int .i64 c.ou, .int .i64 c.st, .slice none 0 0, .bool false, .int .i64 0, .slice (some ⟨w.heap.size + 1, 0, none⟩) c.sh c.sh] 101
  have y0 : W.drew.cell? ⟨w.heap.size, 0, none⟩ = some (.int .i64 (c.sh : Int)) ∧ W.drew.cell? ⟨w.heap.size, 1, none⟩ = some (.int .i64 (c.ib : Int)) ∧ W.drew.cell? ⟨w.heap.size, 2, none⟩ = some (.int .i64 c.sl) ∧ W.drew.cell? ⟨w.heap.size, 3, none⟩ = some (.int .i64 c.qu) ∧ W.drew.cell? ⟨w.heap.size, 4, none⟩ = some (.int .i64 c.ru) ∧ W.drew.cell? ⟨w.heap.size, 5, none⟩ = some (.int .i64 c.ou) ∧ W.drew.cell? ⟨w.heap.size, 6, none⟩ = some (.int .i64 c.st) := ⟨C 0 _ rfl, C 1 _ rfl, C 2 _ rfl, C 3 _ rfl, C 4 _ rfl, C 5 _ rfl, C 6 _ rfl⟩
  have CM := range_turn C TM (fun f => f)
  have CB := range_turn CM TB (fun f => f)
  have y1 : WM.cell? ⟨w.heap.size, 0, none⟩ = some (.int .i64 (c.sh : Int)) ∧ WM.cell? ⟨w.heap.size, 1, none⟩ = some (.int .i64 (c.ib : Int)) ∧ WM.cell? ⟨w.heap.size, 2, none⟩ = some (.int .i64 c.sl) ∧ WM.cell? ⟨w.heap.size, 3, none⟩ = some (.int .i64 c.qu) ∧ WM.cell? ⟨w.heap.size, 4, none⟩ = some (.int .i64 c.ru) ∧ WM.cell? ⟨w.heap.size, 5, none⟩ = some (.int .i64 c.ou) ∧ WM.cell? ⟨w.heap.size, 6, none⟩ = some (.int .i64 c.st) := ⟨CM 0 _ rfl, CM 1 _ rfl, CM 2 _ rfl, CM 3 _ rfl, CM 4 _ rfl, CM 5 _ rfl, CM 6 _ rfl⟩
  have y2 : WB.cell? ⟨w.heap.size, 0, none⟩ = some (.int .i64 (c.sh : Int)) ∧ WB.cell? ⟨w.heap.size, 1, none⟩ = some (.int .i64 (c.ib : Int)) ∧ WB.cell? ⟨w.heap.size, 2, none⟩ = some (.int .i64 c.sl) ∧ WB.cell? ⟨w.heap.size, 3, none⟩ = some (.int .i64 c.qu) ∧ WB.cell? ⟨w.heap.size, 4, none⟩ = some (.int .i64 c.ru) ∧ WB.cell? ⟨w.heap.size, 5, none⟩ = some (.int .i64 c.ou) ∧ WB.cell? ⟨w.heap.size, 6, none⟩ = some (.int .i64 c.st) := ⟨CB 0 _ rfl, CB 1 _ rfl, CB 2 _ rfl, CB 3 _ rfl, CB 4 _ rfl, CB 5 _ rfl, CB 6 _ rfl⟩
  have BW := BM.turn TB (fun f => f)
  have FIN := Lib.hid (show ∃ R : RB, Ending.returned (Value.pointer (some ⟨w.heap.size + 2, 0, none⟩)) = Ending.returned (Value.pointer (some ⟨R.r, 0, none⟩)) ∧ R.base = w.heap.size ∧ RefAt WB R c LSt.zero ∧ Turn (fun _ => False) w WB from
    ⟨⟨w.heap.size + 2, w.heap.size + 1, .slice none 0 0, fun _ => DC.fresh 0, w.heap.size⟩, rfl, rfl, ⟨BB, RBn 0 _ rfl, RBn 1 _ rfl, RBn 6 _ rfl, RBn 7 _ rfl, RBn 8 _ rfl, RBn 9 _ rfl, ⟨c.sh, RBn 10 _ rfl⟩, BW,
      fun i hi => TB.cell (fun f => f) (RM i hi).1, fun i hi => TB.cell (fun f => f) (RM i hi).2, World.ownsRow_nil _ _ _ _, fun i hi => absurd hi (Nat.not_lt_zero _), fun i j hi => absurd hi (Nat.not_lt_zero _), by show w.heap.size ≤ w.heap.size + 2; omega, by show w.heap.size ≤ w.heap.size + 1; omega,
      fun i hi => absurd hi (Nat.not_lt_zero _), fun i hi => absurd hi (Nat.not_lt_zero _), fun i hi => absurd hi (Nat.not_lt_zero _), fun i hi => absurd hi (Nat.not_lt_zero _), fun i hi => absurd hi (Nat.not_lt_zero _)⟩, T.trans (TM.trans TB)⟩)
  clear T C TM BM RM TB RBn BB CM CB BW
  go_enter Try.func12, Try.ntmps12
  go_upto_region 1 with fail
  rw [← hW]
  clear hW
  rw [hWB, hWM] at FIN y2
  rw [hWM] at y1
  have SZ : (W.alloc (.cells (madeCells z128 (c.sh * 2)) 128)).heap.size = w.heap.size + 2 := by rw [World.size_alloc]; omega
  clear hWB hWM SM WM WB
  generalize hb1 : w.heap.size = b1 at *
  have HB1 := Lib.hid hb1
  clear hb1
  refine wp_region_held_drew (S := (fun w' => w'.cell? ⟨b1, 0, none⟩ = some (.int .i64 (c.sh : Int)) ∧ w'.cell? ⟨b1, 1, none⟩ = some (.int .i64 (c.ib : Int)) ∧ w'.cell? ⟨b1, 2, none⟩ = some (.int .i64 c.sl) ∧ w'.cell? ⟨b1, 3, none⟩ = some (.int .i64 c.qu) ∧ w'.cell? ⟨b1, 4, none⟩ = some (.int .i64 c.ru) ∧ w'.cell? ⟨b1, 5, none⟩ = some (.int .i64 c.ou) ∧ w'.cell? ⟨b1, 6, none⟩ = some (.int .i64 c.st))) (by kernel_rfl) ?hs0 (fun hS0 => ?_)
  case hs0 => ((try dsimp only); first | with_reducible exact y0 | with_reducible exact y1 | with_reducible exact y2 | exact y0 | exact y1 | exact y2)
  refine wpAnyH_take (i := 0) (oi := { dst := some 3, op := Op.load 28 (Operand.tmp 1), type := 28, pos := "ref.go:41", after := #[], guard := none }) (v := ?_) rfl (by kernel_rfl) (by kernel_rfl) (by kernel_rfl) (fun _ _ _ h => h) (Or.inl ⟨by rfl, ?hy1⟩) hS0 ?_
  case hy1 => (intro w hSw; (try dsimp only at hSw); go_simp; try with_reducible rfl)
  try simp only [Act.put, List.setIfInBounds_toArray, List.set_cons_zero, List.set_cons_succ]
  refine wpAnyH_take (i := 1) (oi := { dst := some 4, op := Op.fieldAddr 28 (Operand.tmp 1) 0, type := 0, pos := "ref.go:41", after := #[], guard := none }) (v := ?_) rfl (by kernel_rfl) (by kernel_rfl) (by kernel_rfl) (fun _ _ _ h => h) (Or.inl ⟨by rfl, ?hy2⟩) hS0 ?_
  case hy2 => (intro w hSw; (try dsimp only at hSw); go_simp; try with_reducible rfl)
  try simp only [Act.put, List.setIfInBounds_toArray, List.set_cons_zero, List.set_cons_succ]
  refine wpAnyH_take (i := 2) (oi := { dst := some 5, op := Op.load 3 (Operand.tmp 4), type := 3, pos := "ref.go:41", after := #[{ on := 1, ground := Ground.data }], guard := none }) (v := ?_) rfl (by kernel_rfl) (by kernel_rfl) (by kernel_rfl) (fun _ _ _ h => h) (Or.inl ⟨by rfl, ?hy3⟩) hS0 ?_
  case hy3 => (intro w hSw; (try dsimp only at hSw); go_simp; try with_reducible rfl)
  try simp only [Act.put, List.setIfInBounds_toArray, List.set_cons_zero, List.set_cons_succ]
  refine wpAnyH_ready (rs := [3]) (by kernel_rfl) (by simp) ?_
  refine AllReadyH.cons (o := { dst := some 6, op := Op.makeSlice 98 (Operand.tmp 5) (Operand.tmp 5), type := 98, pos := "ref.go:41", after := #[{ on := 2, ground := Ground.data }, { on := 2, ground := Ground.data }], guard := none }) rfl (fun K hK => ?_) ?_
  · go_simp
    refine hK.out _ _ ?hs4 (fun hS4 => ?_)
    case hs4 => ((try dsimp only); first | with_reducible exact y0 | with_reducible exact y1 | with_reducible exact y2 | exact y0 | exact y1 | exact y2)
    clear hK K hS0
    refine wpAnyH_take (i := 4) (oi := { dst := some 7, op := Op.build 101 #[(0, Operand.tmp 3), (4, Operand.tmp 6)], type := 101, pos := "ref.go:41", after := #[{ on := 0, ground := Ground.data }, { on := 3, ground := Ground.data }], guard := none }) (v := ?_) rfl (by kernel_rfl) (by kernel_rfl) (by kernel_rfl) (fun _ _ _ h => h) (Or.inl ⟨by rfl, ?hy5⟩) hS4 ?_
    case hy5 => (intro w hSw; (try dsimp only at hSw); go_simp; try with_reducible rfl)
    try simp only [Act.put, List.setIfInBounds_toArray, List.set_cons_zero, List.set_cons_succ]
    refine wpAnyH_ready (rs := [5]) (by kernel_rfl) (by simp) ?_
    refine AllReadyH.cons (o := { dst := some 8, op := Op.box 101 (Operand.tmp 7), type := 30, pos := "ref.go:41", after := #[{ on := 4, ground := Ground.data }], guard := none }) rfl (fun K hK => ?_) ?_
    · go_simp
      refine hK.out _ _ ?hs6 (fun hS6 => ?_)
      case hs6 => ((try dsimp only); first | with_reducible exact y0 | with_reducible exact y1 | with_reducible exact y2 | exact y0 | exact y1 | exact y2)
      clear hK K hS4
      refine wpAnyH_take (i := 6) (oi := { dst := some 2, op := Op.assign (Operand.tmp 8), type := 30, pos := "ref.go:41", after := #[{ on := 5, ground := Ground.data }, { on := 0, ground := Ground.phase }, { on := 1, ground := Ground.phase }, { on := 2, ground := Ground.phase }, { on := 3, ground := Ground.phase }, { on := 4, ground := Ground.phase }, { on := 5, ground := Ground.phase }], guard := none }) (v := ?_) rfl (by kernel_rfl) (by kernel_rfl) (by kernel_rfl) (fun _ _ _ h => h) (Or.inl ⟨by rfl, ?hy7⟩) hS6 ?_
      case hy7 => (intro w hSw; (try dsimp only at hSw); go_simp; try with_reducible rfl)
      try simp only [Act.put, List.setIfInBounds_toArray, List.set_cons_zero, List.set_cons_succ]
      refine wpAnyH_done (by kernel_rfl) ?_ _
      go_wp2_with fail
      go_ret
      rw [HB1.out]
      exact FIN.out
    exact AllReadyH.nil
  exact AllReadyH.nil
end Go.Proofs.Yteokdibfdahabaa
