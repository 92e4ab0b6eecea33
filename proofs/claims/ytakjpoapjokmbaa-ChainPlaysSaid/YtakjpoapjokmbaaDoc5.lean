/-
  The chain of the document's own answer, in memory: its Push behind a node.
-/
import Derived.Test.YtakjpoapjokmbaaDoc4
namespace Go.Proofs.Ytakjpoapjokmbaa
open Go.ChangeShapes Go.WideShapes Go.ChangeAt Go.RowKit
set_option linter.unusedVariables false

set_option maxRecDepth 100000 in
set_option maxHeartbeats 4000000 in
theorem dpush_on {w : World} {base rc : Nat} {v : Value} {l : List No} (h : RefC w base rc v l) (hB : base ≤ w.heap.size) {k : Nat} {q : No} (hq : l[k]? = some q) (hgo : q.gone = false) {cell : Int} (hc1 : q.cell ≤ cell) (hc2 : cell ≤ q.cell + 1) (hc5 : cell ≤ 5) (hq0 : 0 ≤ q.cell) (num s g : Int) (hl : l.length ≤ 900) :
    Calls Try.prog 25 #[.pointer (some ⟨rc, 0, none⟩), .int .i64 (k : Int), .int .i64 cell, .int .i64 num, .agg #[.int .i64 s, .int .i64 g]] w fun e w' => e = .returned (.tuple #[.int .i64 (l.length : Int), .bool true]) ∧ (∃ v', RefC w' base rc v' (l ++ [⟨(k : Int), cell, num, s, g, 1, false⟩])) ∧ Db base rc w w' := by
  obtain ⟨va, vc, rfl⟩ := h.shape
  have b0 : Below w.heap.size w (w.alloc (.cells #[.int .i64 s, .int .i64 g] 39)) := (Below.refl _ w).alloc (Nat.le_refl _) _
  have q0 := World.cell?_alloc_new w #[.int .i64 s, .int .i64 g] 39 0
  have q1 := World.cell?_alloc_new w #[.int .i64 s, .int .i64 g] 39 1
  simp only [List.getElem?_toArray, List.getElem?_cons_zero, List.getElem?_cons_succ] at q0 q1
  have I := is_at (h.below0 b0 hB) (k : Int)
  rw [isL_at hq, hgo] at I
  have I := Lib.hid I
  have h1 := h.below0 b0 hB
  obtain ⟨gb, rfl, _, hcc⟩ := h1.at hq
  have cc : (w.alloc (.cells #[.int .i64 s, .int .i64 g] 39)).cell? ⟨gb, k * 7 + 1, none⟩ = some (.int .i64 q.cell) := hcc 1 (by decide)
  have hkl : k < l.length := (List.getElem?_eq_some_iff.1 hq).1
  have hkn : (k : Int) < (l.length : Int) := by omega
  have t1 : ((k : Int) == -1) = false := by simp
  have t2 : decide (cell < q.cell) = false := by simp; omega
  have t3 : decide (q.cell + 1 < cell) = false := by simp; omega
  have t4 : decide (5 < cell) = false := by simp; omega
  have ew3 : wrap64 (q.cell + 1) = q.cell + 1 := by unfold wrap64; omega
  have ew4 : IntKind.i64.wrap (q.cell + 1) = q.cell + 1 := IntWalk.i64_in _ (by omega)
  have H0 := Lib.hid h1
  have RLT := Lib.hid (fun k hk => (rrow_lt h.row (k := k) hk).2)
  have B0 := Lib.hid (Db.of_below (rc := rc) b0 hB)
  have c0 := h1.c0
  have z0 : w.heap.size < (w.alloc (.cells #[.int .i64 s, .int .i64 g] 39)).heap.size := by rw [World.size_alloc]; omega
  clear h h1 b0 hq hgo hcc hc1 hc2 hc5 hq0
  generalize q.cell = qc at *
  go_enter Try.func25, Try.ntmps25
  go_wp2_with fail
  generalize htb : w.heap.size = tb at q0 q1 z0 RLT ⊢
  generalize w.alloc (.cells #[.int .i64 s, .int .i64 g] 39) = W at *
  refine I.out.mono ?_
  rintro e w1 ⟨rfl, rfl⟩
  go_wp2_with fail
  have hlen : (l ++ [(⟨(k : Int), cell, num, s, g, 1, false⟩ : No)]).length = l.length + 1 := by simp
  have hBW : base ≤ W.heap.size := by omega
  have hrcb := H0.out.lt
  have c0b := (World.cell?_alloc_lt W (.cells #[.int .i64 (k : Int), .int .i64 cell, .int .i64 num, .int .i64 s, .int .i64 g, .int .i64 1, .bool false] 41) ⟨rc, 0, none⟩ (show rc < W.heap.size by omega)).trans c0
  have bA : Below W.heap.size W (W.drew.alloc (.cells #[.int .i64 (k : Int), .int .i64 cell, .int .i64 num, .int .i64 s, .int .i64 g, .int .i64 1, .bool false] 41)) := ((Below.refl _ W).drew).alloc (Nat.le_refl _) _
  have bB : Below W.heap.size W (W.alloc (.cells #[.int .i64 (k : Int), .int .i64 cell, .int .i64 num, .int .i64 s, .int .i64 g, .int .i64 1, .bool false] 41)).drew := ((Below.refl _ W).alloc (Nat.le_refl _) _).drew
  obtain ⟨vA, wA, hrA, f4A, c4A, hRA, hDA, hfarA⟩ := node_app H0.out hBW ⟨(k : Int), cell, num, s, g, 1, false⟩ hl tb (fun k hk e => by have := RLT.out k hk; omega) z0 bA (fun j u hu => (World.cell?_alloc_new (W.drew) #[.int .i64 (k : Int), .int .i64 cell, .int .i64 num, .int .i64 s, .int .i64 g, .int .i64 1, .bool false] 41 j).trans (by simpa [ncell] using hu))
  obtain ⟨vaA, vcA, rfl⟩ := hRA.shape
  have RAA := Lib.hid hrA
  have farA := Lib.hid hfarA
  have FINA := Lib.hid (show (∃ v', RefC (wA.setCell ⟨rc, 0, none⟩ (.slice vaA (l.length + 1) vcA)) base rc v' (l ++ [⟨(k : Int), cell, num, s, g, 1, false⟩])) ∧ Db base rc w (wA.setCell ⟨rc, 0, none⟩ (.slice vaA (l.length + 1) vcA)) from by rw [← hlen]; exact ⟨⟨_, hRA⟩, B0.out.trans hDA⟩)
  obtain ⟨vB, wB, hrB, f4B, c4B, hRB, hDB, hfarB⟩ := node_app H0.out hBW ⟨(k : Int), cell, num, s, g, 1, false⟩ hl tb (fun k hk e => by have := RLT.out k hk; omega) z0 bB (fun j u hu => (World.cell?_alloc_new W #[.int .i64 (k : Int), .int .i64 cell, .int .i64 num, .int .i64 s, .int .i64 g, .int .i64 1, .bool false] 41 j).trans (by simpa [ncell] using hu))
  obtain ⟨vaB, vcB, rfl⟩ := hRB.shape
  have RAB := Lib.hid hrB
  have farB := Lib.hid hfarB
  have FINB := Lib.hid (show (∃ v', RefC (wB.setCell ⟨rc, 0, none⟩ (.slice vaB (l.length + 1) vcB)) base rc v' (l ++ [⟨(k : Int), cell, num, s, g, 1, false⟩])) ∧ Db base rc w (wB.setCell ⟨rc, 0, none⟩ (.slice vaB (l.length + 1) vcB)) from by rw [← hlen]; exact ⟨⟨_, hRB⟩, B0.out.trans hDB⟩)
  have ztb := z0
  have ew : wrap64 (((l.length + 1 : Nat) : Int) - 1) = (l.length : Int) := by unfold wrap64; omega
  have hne : rc ≠ tb := by omega
  clear hrA hrB hRA hRB hDA hDB hfarA hfarB H0 I B0 bA bB
  refine wp_region_held_drew (S := (fun w' => w'.cell? ⟨tb, 0, none⟩ = some (.int .i64 s) ∧ w'.cell? ⟨tb, 1, none⟩ = some (.int .i64 g))) (by kernel_rfl) ?hs0 (fun hS0 => ?_)
  case hs0 => ((try dsimp only); first | with_reducible exact ⟨q0, q1⟩ | exact ⟨q0, q1⟩ | exact ⟨(World.cell?_alloc_lt W (.cells #[.int .i64 (k : Int), .int .i64 cell, .int .i64 num, .int .i64 s, .int .i64 g, .int .i64 1, .bool false] 41) ⟨tb, 0, none⟩ ztb).trans q0, (World.cell?_alloc_lt W (.cells #[.int .i64 (k : Int), .int .i64 cell, .int .i64 num, .int .i64 s, .int .i64 g, .int .i64 1, .bool false] 41) ⟨tb, 1, none⟩ ztb).trans q1⟩ | exact ⟨(World.cell?_alloc_lt W.drew (.cells #[.int .i64 (k : Int), .int .i64 cell, .int .i64 num, .int .i64 s, .int .i64 g, .int .i64 1, .bool false] 41) ⟨tb, 0, none⟩ ztb).trans q0, (World.cell?_alloc_lt W.drew (.cells #[.int .i64 (k : Int), .int .i64 cell, .int .i64 num, .int .i64 s, .int .i64 g, .int .i64 1, .bool false] 41) ⟨tb, 1, none⟩ ztb).trans q1⟩ | exact ⟨(World.cell?_setCell_other _ _ _ _ (fun e => by injection e with e; omega)).trans q0, (World.cell?_setCell_other _ _ _ _ (fun e => by injection e with e; omega)).trans q1⟩)
  refine wpAnyH_take (i := 0) (oi := { dst := some 60, op := Op.move (Operand.tmp 0), type := 26, pos := "ref.go:29", after := #[], guard := none }) (v := ?_) rfl (by kernel_rfl) (by kernel_rfl) (by kernel_rfl) (fun _ _ _ h => h) (Or.inl ⟨by rfl, ?hy1⟩) hS0 ?_
  case hy1 => (intro w hSw; (try dsimp only at hSw); go_simp; try with_reducible rfl)
  try simp only [Act.put, List.setIfInBounds_toArray, List.set_cons_zero, List.set_cons_succ]
  refine wpAnyH_take (i := 1) (oi := { dst := some 61, op := Op.move (Operand.tmp 0), type := 26, pos := "ref.go:29", after := #[], guard := none }) (v := ?_) rfl (by kernel_rfl) (by kernel_rfl) (by kernel_rfl) (fun _ _ _ h => h) (Or.inl ⟨by rfl, ?hy2⟩) hS0 ?_
  case hy2 => (intro w hSw; (try dsimp only at hSw); go_simp; try with_reducible rfl)
  try simp only [Act.put, List.setIfInBounds_toArray, List.set_cons_zero, List.set_cons_succ]
  refine wpAnyH_take (i := 2) (oi := { dst := some 62, op := Op.nilCheck (Operand.tmp 61), type := 0, pos := "ref.go:29", after := #[{ on := 1, ground := Ground.data }], guard := none }) (v := ?_) rfl (by kernel_rfl) (by kernel_rfl) (by kernel_rfl) (fun _ _ _ h => h) (Or.inl ⟨by rfl, ?hy3⟩) hS0 ?_
  case hy3 => (intro w hSw; (try dsimp only at hSw); go_simp; try with_reducible rfl)
  try simp only [Act.put, List.setIfInBounds_toArray, List.set_cons_zero, List.set_cons_succ]
  refine wpAnyH_take (i := 3) (oi := { dst := some 63, op := Op.fieldAddr 29 (Operand.tmp 62) 0, type := 0, pos := "ref.go:29", after := #[{ on := 2, ground := Ground.data }], guard := none }) (v := ?_) rfl (by kernel_rfl) (by kernel_rfl) (by kernel_rfl) (fun _ _ _ h => h) (Or.inl ⟨by rfl, ?hy4⟩) hS0 ?_
  case hy4 => (intro w hSw; (try dsimp only at hSw); go_simp; try with_reducible rfl)
  try simp only [Act.put, List.setIfInBounds_toArray, List.set_cons_zero, List.set_cons_succ]
  refine wpAnyH_take (i := 5) (oi := { dst := some 65, op := Op.move (Operand.tmp 1), type := 3, pos := "ref.go:29", after := #[], guard := none }) (v := ?_) rfl (by kernel_rfl) (by kernel_rfl) (by kernel_rfl) (fun _ _ _ h => h) (Or.inl ⟨by rfl, ?hy5⟩) hS0 ?_
  case hy5 => (intro w hSw; (try dsimp only at hSw); go_simp; try with_reducible rfl)
  try simp only [Act.put, List.setIfInBounds_toArray, List.set_cons_zero, List.set_cons_succ]
  refine wpAnyH_take (i := 6) (oi := { dst := some 66, op := Op.move (Operand.tmp 2), type := 3, pos := "ref.go:29", after := #[], guard := none }) (v := ?_) rfl (by kernel_rfl) (by kernel_rfl) (by kernel_rfl) (fun _ _ _ h => h) (Or.inl ⟨by rfl, ?hy6⟩) hS0 ?_
  case hy6 => (intro w hSw; (try dsimp only at hSw); go_simp; try with_reducible rfl)
  try simp only [Act.put, List.setIfInBounds_toArray, List.set_cons_zero, List.set_cons_succ]
  refine wpAnyH_take (i := 7) (oi := { dst := some 67, op := Op.move (Operand.tmp 3), type := 3, pos := "ref.go:29", after := #[], guard := none }) (v := ?_) rfl (by kernel_rfl) (by kernel_rfl) (by kernel_rfl) (fun _ _ _ h => h) (Or.inl ⟨by rfl, ?hy7⟩) hS0 ?_
  case hy7 => (intro w hSw; (try dsimp only at hSw); go_simp; try with_reducible rfl)
  try simp only [Act.put, List.setIfInBounds_toArray, List.set_cons_zero, List.set_cons_succ]
  refine wpAnyH_take (i := 8) (oi := { dst := some 68, op := Op.load 39 (Operand.tmp 9), type := 39, pos := "ref.go:29", after := #[], guard := none }) (v := ?_) rfl (by kernel_rfl) (by kernel_rfl) (by kernel_rfl) (fun _ _ _ h => h) (Or.inl ⟨by rfl, ?hy8⟩) hS0 ?_
  case hy8 => (intro w hSw; (try dsimp only at hSw); go_simp; try with_reducible rfl)
  try simp only [Act.put, List.setIfInBounds_toArray, List.set_cons_zero, List.set_cons_succ]
  refine wpAnyH_take (i := 9) (oi := { dst := some 69, op := Op.build 41 #[(0, Operand.tmp 65), (1, Operand.tmp 66), (2, Operand.tmp 67), (3, Operand.tmp 68), (4, Operand.const (Value.int IntKind.i64 1))], type := 41, pos := "ref.go:29", after := #[{ on := 5, ground := Ground.data }, { on := 6, ground := Ground.data }, { on := 7, ground := Ground.data }, { on := 8, ground := Ground.data }], guard := none }) (v := ?_) rfl (by kernel_rfl) (by kernel_rfl) (by kernel_rfl) (fun _ _ _ h => h) (Or.inl ⟨by rfl, ?hy9⟩) hS0 ?_
  case hy9 => (intro w hSw; (try dsimp only at hSw); go_simp; try with_reducible rfl)
  try simp only [Act.put, List.setIfInBounds_toArray, List.set_cons_zero, List.set_cons_succ]
  refine wpAnyH_ready (rs := [4, 10]) (by kernel_rfl) (by simp) ?_
  refine AllReadyH.cons (o := { dst := some 64, op := Op.load 27 (Operand.tmp 63), type := 27, pos := "ref.go:29", after := #[{ on := 3, ground := Ground.data }], guard := none }) rfl (fun K hK => ?_) ?_
  · go_simp
    refine hK.out _ _ ?hs10 (fun hS10 => ?_)
    case hs10 => ((try dsimp only); first | with_reducible exact ⟨q0, q1⟩ | exact ⟨q0, q1⟩ | exact ⟨(World.cell?_alloc_lt W (.cells #[.int .i64 (k : Int), .int .i64 cell, .int .i64 num, .int .i64 s, .int .i64 g, .int .i64 1, .bool false] 41) ⟨tb, 0, none⟩ ztb).trans q0, (World.cell?_alloc_lt W (.cells #[.int .i64 (k : Int), .int .i64 cell, .int .i64 num, .int .i64 s, .int .i64 g, .int .i64 1, .bool false] 41) ⟨tb, 1, none⟩ ztb).trans q1⟩ | exact ⟨(World.cell?_alloc_lt W.drew (.cells #[.int .i64 (k : Int), .int .i64 cell, .int .i64 num, .int .i64 s, .int .i64 g, .int .i64 1, .bool false] 41) ⟨tb, 0, none⟩ ztb).trans q0, (World.cell?_alloc_lt W.drew (.cells #[.int .i64 (k : Int), .int .i64 cell, .int .i64 num, .int .i64 s, .int .i64 g, .int .i64 1, .bool false] 41) ⟨tb, 1, none⟩ ztb).trans q1⟩ | exact ⟨(World.cell?_setCell_other _ _ _ _ (fun e => by injection e with e; omega)).trans q0, (World.cell?_setCell_other _ _ _ _ (fun e => by injection e with e; omega)).trans q1⟩)
    clear hK K hS0
    refine wpAnyH_ready (rs := [10]) (by kernel_rfl) (by simp) ?_
    refine AllReadyH.cons (o := { dst := some 70, op := Op.buildSlice 27 1 #[(0, Operand.tmp 69)], type := 27, pos := "ref.go:29", after := #[{ on := 9, ground := Ground.data }], guard := none }) rfl (fun K hK => ?_) ?_
    · go_simp
      refine hK.out _ _ ?hs11 (fun hS11 => ?_)
      case hs11 => ((try dsimp only); first | with_reducible exact ⟨q0, q1⟩ | exact ⟨q0, q1⟩ | exact ⟨(World.cell?_alloc_lt W (.cells #[.int .i64 (k : Int), .int .i64 cell, .int .i64 num, .int .i64 s, .int .i64 g, .int .i64 1, .bool false] 41) ⟨tb, 0, none⟩ ztb).trans q0, (World.cell?_alloc_lt W (.cells #[.int .i64 (k : Int), .int .i64 cell, .int .i64 num, .int .i64 s, .int .i64 g, .int .i64 1, .bool false] 41) ⟨tb, 1, none⟩ ztb).trans q1⟩ | exact ⟨(World.cell?_alloc_lt W.drew (.cells #[.int .i64 (k : Int), .int .i64 cell, .int .i64 num, .int .i64 s, .int .i64 g, .int .i64 1, .bool false] 41) ⟨tb, 0, none⟩ ztb).trans q0, (World.cell?_alloc_lt W.drew (.cells #[.int .i64 (k : Int), .int .i64 cell, .int .i64 num, .int .i64 s, .int .i64 g, .int .i64 1, .bool false] 41) ⟨tb, 1, none⟩ ztb).trans q1⟩ | exact ⟨(World.cell?_setCell_other _ _ _ _ (fun e => by injection e with e; omega)).trans q0, (World.cell?_setCell_other _ _ _ _ (fun e => by injection e with e; omega)).trans q1⟩)
      clear hK K hS10
      refine wpAnyH_ready (rs := [11]) (by kernel_rfl) (by simp) ?_
      refine AllReadyH.cons (o := { dst := some 71, op := Op.call { callee := Callee.builtin Builtin.append, args := #[Operand.tmp 64, Operand.tmp 70], argTypes := #[27, 27] }, type := 27, pos := "ref.go:29", after := #[{ on := 4, ground := Ground.data }, { on := 10, ground := Ground.data }], guard := none }) rfl (fun K hK => ?_) ?_
      · refine step_append_runC (by rfl) _ _ _ (by rfl) (by rfl) (by rfl) RAA.out ?_; have q0 := (farA.out 0).trans q0; have q1 := (farA.out 1).trans q1
        refine hK.out _ _ ?hs12 (fun hS12 => ?_)
        case hs12 => ((try dsimp only); first | with_reducible exact ⟨q0, q1⟩ | exact ⟨q0, q1⟩ | exact ⟨(World.cell?_alloc_lt W (.cells #[.int .i64 (k : Int), .int .i64 cell, .int .i64 num, .int .i64 s, .int .i64 g, .int .i64 1, .bool false] 41) ⟨tb, 0, none⟩ ztb).trans q0, (World.cell?_alloc_lt W (.cells #[.int .i64 (k : Int), .int .i64 cell, .int .i64 num, .int .i64 s, .int .i64 g, .int .i64 1, .bool false] 41) ⟨tb, 1, none⟩ ztb).trans q1⟩ | exact ⟨(World.cell?_alloc_lt W.drew (.cells #[.int .i64 (k : Int), .int .i64 cell, .int .i64 num, .int .i64 s, .int .i64 g, .int .i64 1, .bool false] 41) ⟨tb, 0, none⟩ ztb).trans q0, (World.cell?_alloc_lt W.drew (.cells #[.int .i64 (k : Int), .int .i64 cell, .int .i64 num, .int .i64 s, .int .i64 g, .int .i64 1, .bool false] 41) ⟨tb, 1, none⟩ ztb).trans q1⟩ | exact ⟨(World.cell?_setCell_other _ _ _ _ (fun e => by injection e with e; omega)).trans q0, (World.cell?_setCell_other _ _ _ _ (fun e => by injection e with e; omega)).trans q1⟩)
        clear hK K hS11
        refine wpAnyH_take (i := 12) (oi := { dst := some 72, op := Op.nilCheck (Operand.tmp 60), type := 0, pos := "ref.go:29", after := #[{ on := 0, ground := Ground.data }, { on := 0, ground := Ground.phase }, { on := 1, ground := Ground.phase }, { on := 2, ground := Ground.phase }, { on := 3, ground := Ground.phase }, { on := 4, ground := Ground.phase }, { on := 5, ground := Ground.phase }, { on := 6, ground := Ground.phase }, { on := 7, ground := Ground.phase }, { on := 8, ground := Ground.phase }, { on := 9, ground := Ground.phase }, { on := 10, ground := Ground.phase }, { on := 11, ground := Ground.phase }], guard := none }) (v := ?_) rfl (by kernel_rfl) (by kernel_rfl) (by kernel_rfl) (fun _ _ _ h => h) (Or.inl ⟨by rfl, ?hy13⟩) hS12 ?_
        case hy13 => (intro w hSw; (try dsimp only at hSw); go_simp; try with_reducible rfl)
        try simp only [Act.put, List.setIfInBounds_toArray, List.set_cons_zero, List.set_cons_succ]
        refine wpAnyH_take (i := 13) (oi := { dst := some 73, op := Op.fieldAddr 29 (Operand.tmp 72) 0, type := 0, pos := "ref.go:29", after := #[{ on := 12, ground := Ground.data }, { on := 0, ground := Ground.phase }, { on := 1, ground := Ground.phase }, { on := 2, ground := Ground.phase }, { on := 3, ground := Ground.phase }, { on := 4, ground := Ground.phase }, { on := 5, ground := Ground.phase }, { on := 6, ground := Ground.phase }, { on := 7, ground := Ground.phase }, { on := 8, ground := Ground.phase }, { on := 9, ground := Ground.phase }, { on := 10, ground := Ground.phase }, { on := 11, ground := Ground.phase }], guard := none }) (v := ?_) rfl (by kernel_rfl) (by kernel_rfl) (by kernel_rfl) (fun _ _ _ h => h) (Or.inl ⟨by rfl, ?hy14⟩) hS12 ?_
        case hy14 => (intro w hSw; (try dsimp only at hSw); go_simp; try with_reducible rfl)
        try simp only [Act.put, List.setIfInBounds_toArray, List.set_cons_zero, List.set_cons_succ]
        refine wpAnyH_ready (rs := [14]) (by kernel_rfl) (by simp) ?_
        refine AllReadyH.cons (o := { dst := none, op := Op.store 27 (Operand.tmp 73) (Operand.tmp 71), type := 0, pos := "ref.go:29", after := #[{ on := 13, ground := Ground.data }, { on := 11, ground := Ground.data }, { on := 11, ground := Ground.chain }, { on := 0, ground := Ground.phase }, { on := 1, ground := Ground.phase }, { on := 2, ground := Ground.phase }, { on := 3, ground := Ground.phase }, { on := 4, ground := Ground.phase }, { on := 5, ground := Ground.phase }, { on := 6, ground := Ground.phase }, { on := 7, ground := Ground.phase }, { on := 8, ground := Ground.phase }, { on := 9, ground := Ground.phase }, { on := 10, ground := Ground.phase }, { on := 11, ground := Ground.phase }], guard := none }) rfl (fun K hK => ?_) ?_
        · go_simp
          refine hK.out _ _ ?hs15 (fun hS15 => ?_)
          case hs15 => ((try dsimp only); first | with_reducible exact ⟨q0, q1⟩ | exact ⟨q0, q1⟩ | exact ⟨(World.cell?_alloc_lt W (.cells #[.int .i64 (k : Int), .int .i64 cell, .int .i64 num, .int .i64 s, .int .i64 g, .int .i64 1, .bool false] 41) ⟨tb, 0, none⟩ ztb).trans q0, (World.cell?_alloc_lt W (.cells #[.int .i64 (k : Int), .int .i64 cell, .int .i64 num, .int .i64 s, .int .i64 g, .int .i64 1, .bool false] 41) ⟨tb, 1, none⟩ ztb).trans q1⟩ | exact ⟨(World.cell?_alloc_lt W.drew (.cells #[.int .i64 (k : Int), .int .i64 cell, .int .i64 num, .int .i64 s, .int .i64 g, .int .i64 1, .bool false] 41) ⟨tb, 0, none⟩ ztb).trans q0, (World.cell?_alloc_lt W.drew (.cells #[.int .i64 (k : Int), .int .i64 cell, .int .i64 num, .int .i64 s, .int .i64 g, .int .i64 1, .bool false] 41) ⟨tb, 1, none⟩ ztb).trans q1⟩ | exact ⟨(World.cell?_setCell_other _ _ _ _ (fun e => by injection e with e; omega)).trans q0, (World.cell?_setCell_other _ _ _ _ (fun e => by injection e with e; omega)).trans q1⟩)
          clear hK K hS12
          refine wpAnyH_done (by kernel_rfl) ?_ _
          go_wp2_with fail
          go_ret2
          exact ⟨rfl, FINA.out⟩
        exact AllReadyH.nil
      exact AllReadyH.nil
    exact AllReadyH.nil
  refine AllReadyH.cons (o := { dst := some 70, op := Op.buildSlice 27 1 #[(0, Operand.tmp 69)], type := 27, pos := "ref.go:29", after := #[{ on := 9, ground := Ground.data }], guard := none }) rfl (fun K hK => ?_) ?_
  · go_simp
    refine hK.out _ _ ?hs16 (fun hS16 => ?_)
    case hs16 => ((try dsimp only); first | with_reducible exact ⟨q0, q1⟩ | exact ⟨q0, q1⟩ | exact ⟨(World.cell?_alloc_lt W (.cells #[.int .i64 (k : Int), .int .i64 cell, .int .i64 num, .int .i64 s, .int .i64 g, .int .i64 1, .bool false] 41) ⟨tb, 0, none⟩ ztb).trans q0, (World.cell?_alloc_lt W (.cells #[.int .i64 (k : Int), .int .i64 cell, .int .i64 num, .int .i64 s, .int .i64 g, .int .i64 1, .bool false] 41) ⟨tb, 1, none⟩ ztb).trans q1⟩ | exact ⟨(World.cell?_alloc_lt W.drew (.cells #[.int .i64 (k : Int), .int .i64 cell, .int .i64 num, .int .i64 s, .int .i64 g, .int .i64 1, .bool false] 41) ⟨tb, 0, none⟩ ztb).trans q0, (World.cell?_alloc_lt W.drew (.cells #[.int .i64 (k : Int), .int .i64 cell, .int .i64 num, .int .i64 s, .int .i64 g, .int .i64 1, .bool false] 41) ⟨tb, 1, none⟩ ztb).trans q1⟩ | exact ⟨(World.cell?_setCell_other _ _ _ _ (fun e => by injection e with e; omega)).trans q0, (World.cell?_setCell_other _ _ _ _ (fun e => by injection e with e; omega)).trans q1⟩)
    clear hK K hS0
    refine wpAnyH_ready (rs := [4]) (by kernel_rfl) (by simp) ?_
    refine AllReadyH.cons (o := { dst := some 64, op := Op.load 27 (Operand.tmp 63), type := 27, pos := "ref.go:29", after := #[{ on := 3, ground := Ground.data }], guard := none }) rfl (fun K hK => ?_) ?_
    · go_simp
      refine hK.out _ _ ?hs17 (fun hS17 => ?_)
      case hs17 => ((try dsimp only); first | with_reducible exact ⟨q0, q1⟩ | exact ⟨q0, q1⟩ | exact ⟨(World.cell?_alloc_lt W (.cells #[.int .i64 (k : Int), .int .i64 cell, .int .i64 num, .int .i64 s, .int .i64 g, .int .i64 1, .bool false] 41) ⟨tb, 0, none⟩ ztb).trans q0, (World.cell?_alloc_lt W (.cells #[.int .i64 (k : Int), .int .i64 cell, .int .i64 num, .int .i64 s, .int .i64 g, .int .i64 1, .bool false] 41) ⟨tb, 1, none⟩ ztb).trans q1⟩ | exact ⟨(World.cell?_alloc_lt W.drew (.cells #[.int .i64 (k : Int), .int .i64 cell, .int .i64 num, .int .i64 s, .int .i64 g, .int .i64 1, .bool false] 41) ⟨tb, 0, none⟩ ztb).trans q0, (World.cell?_alloc_lt W.drew (.cells #[.int .i64 (k : Int), .int .i64 cell, .int .i64 num, .int .i64 s, .int .i64 g, .int .i64 1, .bool false] 41) ⟨tb, 1, none⟩ ztb).trans q1⟩ | exact ⟨(World.cell?_setCell_other _ _ _ _ (fun e => by injection e with e; omega)).trans q0, (World.cell?_setCell_other _ _ _ _ (fun e => by injection e with e; omega)).trans q1⟩)
      clear hK K hS16
      refine wpAnyH_ready (rs := [11]) (by kernel_rfl) (by simp) ?_
      refine AllReadyH.cons (o := { dst := some 71, op := Op.call { callee := Callee.builtin Builtin.append, args := #[Operand.tmp 64, Operand.tmp 70], argTypes := #[27, 27] }, type := 27, pos := "ref.go:29", after := #[{ on := 4, ground := Ground.data }, { on := 10, ground := Ground.data }], guard := none }) rfl (fun K hK => ?_) ?_
      · refine step_append_runC (by rfl) _ _ _ (by rfl) (by rfl) (by rfl) RAB.out ?_; have q0 := (farB.out 0).trans q0; have q1 := (farB.out 1).trans q1
        refine hK.out _ _ ?hs18 (fun hS18 => ?_)
        case hs18 => ((try dsimp only); first | with_reducible exact ⟨q0, q1⟩ | exact ⟨q0, q1⟩ | exact ⟨(World.cell?_alloc_lt W (.cells #[.int .i64 (k : Int), .int .i64 cell, .int .i64 num, .int .i64 s, .int .i64 g, .int .i64 1, .bool false] 41) ⟨tb, 0, none⟩ ztb).trans q0, (World.cell?_alloc_lt W (.cells #[.int .i64 (k : Int), .int .i64 cell, .int .i64 num, .int .i64 s, .int .i64 g, .int .i64 1, .bool false] 41) ⟨tb, 1, none⟩ ztb).trans q1⟩ | exact ⟨(World.cell?_alloc_lt W.drew (.cells #[.int .i64 (k : Int), .int .i64 cell, .int .i64 num, .int .i64 s, .int .i64 g, .int .i64 1, .bool false] 41) ⟨tb, 0, none⟩ ztb).trans q0, (World.cell?_alloc_lt W.drew (.cells #[.int .i64 (k : Int), .int .i64 cell, .int .i64 num, .int .i64 s, .int .i64 g, .int .i64 1, .bool false] 41) ⟨tb, 1, none⟩ ztb).trans q1⟩ | exact ⟨(World.cell?_setCell_other _ _ _ _ (fun e => by injection e with e; omega)).trans q0, (World.cell?_setCell_other _ _ _ _ (fun e => by injection e with e; omega)).trans q1⟩)
        clear hK K hS17
        refine wpAnyH_take (i := 12) (oi := { dst := some 72, op := Op.nilCheck (Operand.tmp 60), type := 0, pos := "ref.go:29", after := #[{ on := 0, ground := Ground.data }, { on := 0, ground := Ground.phase }, { on := 1, ground := Ground.phase }, { on := 2, ground := Ground.phase }, { on := 3, ground := Ground.phase }, { on := 4, ground := Ground.phase }, { on := 5, ground := Ground.phase }, { on := 6, ground := Ground.phase }, { on := 7, ground := Ground.phase }, { on := 8, ground := Ground.phase }, { on := 9, ground := Ground.phase }, { on := 10, ground := Ground.phase }, { on := 11, ground := Ground.phase }], guard := none }) (v := ?_) rfl (by kernel_rfl) (by kernel_rfl) (by kernel_rfl) (fun _ _ _ h => h) (Or.inl ⟨by rfl, ?hy19⟩) hS18 ?_
        case hy19 => (intro w hSw; (try dsimp only at hSw); go_simp; try with_reducible rfl)
        try simp only [Act.put, List.setIfInBounds_toArray, List.set_cons_zero, List.set_cons_succ]
        refine wpAnyH_take (i := 13) (oi := { dst := some 73, op := Op.fieldAddr 29 (Operand.tmp 72) 0, type := 0, pos := "ref.go:29", after := #[{ on := 12, ground := Ground.data }, { on := 0, ground := Ground.phase }, { on := 1, ground := Ground.phase }, { on := 2, ground := Ground.phase }, { on := 3, ground := Ground.phase }, { on := 4, ground := Ground.phase }, { on := 5, ground := Ground.phase }, { on := 6, ground := Ground.phase }, { on := 7, ground := Ground.phase }, { on := 8, ground := Ground.phase }, { on := 9, ground := Ground.phase }, { on := 10, ground := Ground.phase }, { on := 11, ground := Ground.phase }], guard := none }) (v := ?_) rfl (by kernel_rfl) (by kernel_rfl) (by kernel_rfl) (fun _ _ _ h => h) (Or.inl ⟨by rfl, ?hy20⟩) hS18 ?_
        case hy20 => (intro w hSw; (try dsimp only at hSw); go_simp; try with_reducible rfl)
        try simp only [Act.put, List.setIfInBounds_toArray, List.set_cons_zero, List.set_cons_succ]
        refine wpAnyH_ready (rs := [14]) (by kernel_rfl) (by simp) ?_
        refine AllReadyH.cons (o := { dst := none, op := Op.store 27 (Operand.tmp 73) (Operand.tmp 71), type := 0, pos := "ref.go:29", after := #[{ on := 13, ground := Ground.data }, { on := 11, ground := Ground.data }, { on := 11, ground := Ground.chain }, { on := 0, ground := Ground.phase }, { on := 1, ground := Ground.phase }, { on := 2, ground := Ground.phase }, { on := 3, ground := Ground.phase }, { on := 4, ground := Ground.phase }, { on := 5, ground := Ground.phase }, { on := 6, ground := Ground.phase }, { on := 7, ground := Ground.phase }, { on := 8, ground := Ground.phase }, { on := 9, ground := Ground.phase }, { on := 10, ground := Ground.phase }, { on := 11, ground := Ground.phase }], guard := none }) rfl (fun K hK => ?_) ?_
        · go_simp
          refine hK.out _ _ ?hs21 (fun hS21 => ?_)
          case hs21 => ((try dsimp only); first | with_reducible exact ⟨q0, q1⟩ | exact ⟨q0, q1⟩ | exact ⟨(World.cell?_alloc_lt W (.cells #[.int .i64 (k : Int), .int .i64 cell, .int .i64 num, .int .i64 s, .int .i64 g, .int .i64 1, .bool false] 41) ⟨tb, 0, none⟩ ztb).trans q0, (World.cell?_alloc_lt W (.cells #[.int .i64 (k : Int), .int .i64 cell, .int .i64 num, .int .i64 s, .int .i64 g, .int .i64 1, .bool false] 41) ⟨tb, 1, none⟩ ztb).trans q1⟩ | exact ⟨(World.cell?_alloc_lt W.drew (.cells #[.int .i64 (k : Int), .int .i64 cell, .int .i64 num, .int .i64 s, .int .i64 g, .int .i64 1, .bool false] 41) ⟨tb, 0, none⟩ ztb).trans q0, (World.cell?_alloc_lt W.drew (.cells #[.int .i64 (k : Int), .int .i64 cell, .int .i64 num, .int .i64 s, .int .i64 g, .int .i64 1, .bool false] 41) ⟨tb, 1, none⟩ ztb).trans q1⟩ | exact ⟨(World.cell?_setCell_other _ _ _ _ (fun e => by injection e with e; omega)).trans q0, (World.cell?_setCell_other _ _ _ _ (fun e => by injection e with e; omega)).trans q1⟩)
          clear hK K hS18
          refine wpAnyH_done (by kernel_rfl) ?_ _
          go_wp2_with fail
          go_ret2
          exact ⟨rfl, FINB.out⟩
        exact AllReadyH.nil
      exact AllReadyH.nil
    exact AllReadyH.nil
  exact AllReadyH.nil
end Go.Proofs.Ytakjpoapjokmbaa
