/-
  The chain of the document's own answer, in memory: its Push.
-/
import Derived.Test.YtakjpoapjokmbaaDoc3
import Derived.Deep.RegionHeld3
namespace Go.Proofs.Ytakjpoapjokmbaa
open Go.ChangeShapes Go.WideShapes Go.ChangeAt Go.RowKit
set_option linter.unusedVariables false

theorem step_append_runC {P : Program} {w w' : World} {ops : Array Oper} {o : Oper} {a : Act} {K : Act → World → Prop} {Q : Exit → Act → World → Prop} {E : Prop} (hgd : o.guard = none) (s x : Operand) (t : TypeId)
    (ho : o.op = .call { callee := .builtin .append, args := #[s, x], argTypes := #[t, t] }) {v v1 v2 : Value} (hs : a.eval s = v1) (hx : a.eval x = v2)
    (hr : (Builtin.append_ #[t, t] o.type #[v1, v2]).run P w = .ok v w') (h : K (a.put o.dst v) w') : if Region.wanted o (yielded ops a.tmps) = true then Oper.wp P o a w K Q else E := by
  have hw : Region.wanted o (yielded ops a.tmps) = true := by simp [Region.wanted, hgd]
  rw [if_pos hw]
  unfold Oper.wp execOp
  simp only [ho, resolve, invoke, builtin, Sem.run_bind, Sem.run_pure, Result.andThen_ok, List.map_toArray, List.map_cons, List.map_nil, hs, hx, hr]
  exact h
theorem ncell_one (q : No) : ∀ v ∈ ncell q, v.oneCell' = true := fun v h => by
  simp [ncell] at h
  rcases h with rfl | rfl | rfl | rfl | rfl | rfl | rfl <;> rfl
theorem info41 : (Try.prog.info? 41).map (fun i => (i.zero, i.size, i.bytes)) = some (some (.agg #[.int .i64 0, .int .i64 0, .int .i64 0, .int .i64 0, .int .i64 0, .int .i64 0, .bool false]), 7, 56) := by kernel_rfl
/-- All below a place are as they were, but one. -/
structure Db (base rc : Nat) (w w' : World) : Prop where
  os : w'.os = w.os
  tape : w'.tape = w.tape
  output : w'.output = w.output
  size : w.heap.size ≤ w'.heap.size
  block : ∀ k, k < base → k ≠ rc → w'.heap[k]? = w.heap[k]?
/-- One node more: the append, ahead of the region that makes it (W: where it begins). -/
theorem node_app {W WA : World} {base rc : Nat} {v : Value} {l : List No} (h : RefC W base rc v l) (hB : base ≤ W.heap.size) (q : No) (hl : l.length ≤ 900) (tb : Nat) (htb : ∀ k, v.ownBlock = some k → k ≠ tb) (hz : tb < W.heap.size)
    (hb : Below W.heap.size W WA) (hc : ∀ j u, (ncell q)[j]? = some u → WA.cell? ⟨W.heap.size, j, none⟩ = some u) :
    ∃ v' w', (Builtin.append_ #[27, 27] 27 #[v, .slice (some ⟨W.heap.size, 0, none⟩) 1 1]).run Try.prog WA = .ok v' w' ∧ w'.frozen? ⟨rc, 0, none⟩ = false ∧ w'.cell? ⟨rc, 0, none⟩ = some v ∧
      RefC (w'.setCell ⟨rc, 0, none⟩ v') base rc v' (l ++ [q]) ∧ Db base rc W (w'.setCell ⟨rc, 0, none⟩ v') ∧ (∀ i, w'.cell? ⟨tb, i, none⟩ = W.cell? ⟨tb, i, none⟩) := by
  obtain ⟨i3, j1, j2, j3, j4⟩ := info_parts info41
  have hlt := h.lt
  have rowA := rrow_keep (e := 41) h.row (fun k hk => hb.block k (rrow_lt h.row hk).2)
  have hsz := hb.size
  obtain ⟨v', w', hr, ho, hg2, _⟩ := run_append_own WA base 27 27 41 i3 _ 7 56 Try.underlying27 j1 j2 j3 j4 rfl (by decide) v l.length (ncells l) rowA ⟨W.heap.size, 0, none⟩ 1 1 (ncell q) rfl (fun j u hu => by
    rw [Go.WideShapes.add_plain, Nat.zero_add]
    exact hc j u hu) (ncell_one q) (by unfold maxLen; omega) (by omega) (by omega)
  have far : ∀ x, x < W.heap.size → x < base → w'.heap[x]? = W.heap[x]? := fun x hx hb' => (hg2.block x (by omega) (fun e => by have := (rrow_lt h.row e.symm).1; omega)).trans (hb.block x hx)
  have hrc : rc < W.heap.size := by omega
  have fr := far rc hrc hlt
  have c0 := (World.cell?_of_block (w := W) (a := ⟨rc, 0, none⟩) fr).trans h.c0
  have f0 := (World.frozen?_of_block (w := W) (a := ⟨rc, 0, none⟩) fr).trans h.f0
  have hs := hg2.size
  refine ⟨v', w', hr, f0, c0, ⟨World.cell?_setCell_same _ _ _ c0, by rw [World.frozen?_setCell]; exact f0, ?_, hlt, by simp; omega⟩, ⟨hg2.os.trans hb.os, hg2.tape.trans hb.tape, hg2.output.trans hb.output, by simp [World.setCell]; omega, fun k hk hn => (Below.heap_setCell _ _ _ _ hn).trans (far k (by omega) hk)⟩, fun i => World.cell?_of_block (w := W) (a := ⟨tb, i, none⟩) ((hg2.block tb (by omega) (fun e => htb tb e.symm rfl)).trans (hb.block tb hz))⟩
  have e : (l ++ [q]).length = l.length + 1 := by simp
  rw [e, ncells_app]
  have ho' : w'.ownsRow base 41 7 v' (l.length + 1) (ncells l ++ ncells [q]) := by
    have : ncells [q] = ncell q := by show ncell q ++ [] = _; simp
    rw [this]
    exact ho
  exact rrow_keep (e := 41) ho' (fun k hk => Below.heap_setCell _ _ _ _ (show k ≠ rc from by have := (rrow_lt ho' hk).1; omega))
theorem RefC.below0 {w w' : World} {base rc : Nat} {v : Value} {l : List No} (h : RefC w base rc v l) (hb : Below w.heap.size w w') (hB : base ≤ w.heap.size) : RefC w' base rc v l := by
  have hlt := h.lt
  exact ⟨(hb.cell (p := ⟨rc, 0, none⟩) (show rc < _ by omega)).trans h.c0, (hb.frozen (p := ⟨rc, 0, none⟩) (show rc < _ by omega)).trans h.f0, rrow_keep (e := 41) h.row (fun k hk => hb.block k (rrow_lt h.row hk).2), h.lt, h.few⟩
theorem Db.of_below {base rc : Nat} {w w' : World} (h : Below w.heap.size w w') (hB : base ≤ w.heap.size) : Db base rc w w' := ⟨h.os, h.tape, h.output, h.size, fun k hk _ => h.block k (by omega)⟩
theorem Db.trans {base rc : Nat} {u v w : World} (h : Db base rc u v) (k : Db base rc v w) : Db base rc u w :=
  ⟨k.os.trans h.os, k.tape.trans h.tape, k.output.trans h.output, Nat.le_trans h.size k.size, fun i hi hn => (k.block i hi hn).trans (h.block i hi hn)⟩
set_option maxRecDepth 100000 in
set_option maxHeartbeats 4000000 in
theorem dpush_none {w : World} {base rc : Nat} {v : Value} {l : List No} (h : RefC w base rc v l) (hB : base ≤ w.heap.size) (num s g : Int) (hl : l.length ≤ 900) :
    Calls Try.prog 25 #[.pointer (some ⟨rc, 0, none⟩), .int .i64 (-1), .int .i64 0, .int .i64 num, .agg #[.int .i64 s, .int .i64 g]] w fun e w' => e = .returned (.tuple #[.int .i64 (l.length : Int), .bool true]) ∧ (∃ v', RefC w' base rc v' (l ++ [⟨-1, 0, num, s, g, 1, false⟩])) ∧ Db base rc w w' := by
  obtain ⟨va, vc, rfl⟩ := h.shape
  have b0 : Below w.heap.size w (w.alloc (.cells #[.int .i64 s, .int .i64 g] 39)) := (Below.refl _ w).alloc (Nat.le_refl _) _
  have q0 := World.cell?_alloc_new w #[.int .i64 s, .int .i64 g] 39 0
  have q1 := World.cell?_alloc_new w #[.int .i64 s, .int .i64 g] 39 1
  simp only [List.getElem?_toArray, List.getElem?_cons_zero, List.getElem?_cons_succ] at q0 q1
  have I := is_at (h.below0 b0 hB) (-1)
  rw [show isL l (-1) = false from rfl] at I
  have I := Lib.hid I
  have H0 := Lib.hid (h.below0 b0 hB)
  have RLT := Lib.hid (fun k hk => (rrow_lt h.row (k := k) hk).2)
  have B0 := Lib.hid (Db.of_below (rc := rc) b0 hB)
  have z0 : w.heap.size < (w.alloc (.cells #[.int .i64 s, .int .i64 g] 39)).heap.size := by rw [World.size_alloc]; omega
  clear h b0
  go_enter Try.func25, Try.ntmps25
  go_wp2_with fail
  generalize htb : w.heap.size = tb at q0 q1 z0 RLT ⊢
  generalize w.alloc (.cells #[.int .i64 s, .int .i64 g] 39) = W at *
  refine I.out.mono ?_
  rintro e w1 ⟨rfl, rfl⟩
  go_wp2_with fail
  have hlen : (l ++ [(⟨-1, 0, num, s, g, 1, false⟩ : No)]).length = l.length + 1 := by simp
  have c0 := H0.out.c0
  have hBW : base ≤ W.heap.size := by omega
  have hrcb := H0.out.lt
  have c0b := (World.cell?_alloc_lt W (.cells #[.int .i64 (-1), .int .i64 0, .int .i64 num, .int .i64 s, .int .i64 g, .int .i64 1, .bool false] 41) ⟨rc, 0, none⟩ (show rc < W.heap.size by omega)).trans c0
  have bA : Below W.heap.size W (W.drew.alloc (.cells #[.int .i64 (-1), .int .i64 0, .int .i64 num, .int .i64 s, .int .i64 g, .int .i64 1, .bool false] 41)) := ((Below.refl _ W).drew).alloc (Nat.le_refl _) _
  have bB : Below W.heap.size W (W.alloc (.cells #[.int .i64 (-1), .int .i64 0, .int .i64 num, .int .i64 s, .int .i64 g, .int .i64 1, .bool false] 41)).drew := ((Below.refl _ W).alloc (Nat.le_refl _) _).drew
  obtain ⟨vA, wA, hrA, f4A, c4A, hRA, hDA, hfarA⟩ := node_app H0.out hBW ⟨-1, 0, num, s, g, 1, false⟩ hl tb (fun k hk e => by have := RLT.out k hk; omega) z0 bA (fun j u hu => (World.cell?_alloc_new (W.drew) #[.int .i64 (-1), .int .i64 0, .int .i64 num, .int .i64 s, .int .i64 g, .int .i64 1, .bool false] 41 j).trans (by simpa [ncell] using hu))
  obtain ⟨vaA, vcA, rfl⟩ := hRA.shape
  have RAA := Lib.hid hrA
  have farA := Lib.hid hfarA
  have FINA := Lib.hid (show (∃ v', RefC (wA.setCell ⟨rc, 0, none⟩ (.slice vaA (l.length + 1) vcA)) base rc v' (l ++ [⟨-1, 0, num, s, g, 1, false⟩])) ∧ Db base rc w (wA.setCell ⟨rc, 0, none⟩ (.slice vaA (l.length + 1) vcA)) from by rw [← hlen]; exact ⟨⟨_, hRA⟩, B0.out.trans hDA⟩)
  obtain ⟨vB, wB, hrB, f4B, c4B, hRB, hDB, hfarB⟩ := node_app H0.out hBW ⟨-1, 0, num, s, g, 1, false⟩ hl tb (fun k hk e => by have := RLT.out k hk; omega) z0 bB (fun j u hu => (World.cell?_alloc_new W #[.int .i64 (-1), .int .i64 0, .int .i64 num, .int .i64 s, .int .i64 g, .int .i64 1, .bool false] 41 j).trans (by simpa [ncell] using hu))
  obtain ⟨vaB, vcB, rfl⟩ := hRB.shape
  have RAB := Lib.hid hrB
  have farB := Lib.hid hfarB
  have FINB := Lib.hid (show (∃ v', RefC (wB.setCell ⟨rc, 0, none⟩ (.slice vaB (l.length + 1) vcB)) base rc v' (l ++ [⟨-1, 0, num, s, g, 1, false⟩])) ∧ Db base rc w (wB.setCell ⟨rc, 0, none⟩ (.slice vaB (l.length + 1) vcB)) from by rw [← hlen]; exact ⟨⟨_, hRB⟩, B0.out.trans hDB⟩)
  have ztb := z0
  have ew : wrap64 (((l.length + 1 : Nat) : Int) - 1) = (l.length : Int) := by unfold wrap64; omega
  have hne : rc ≠ tb := by omega
  clear hrA hrB hRA hRB hDA hDB hfarA hfarB H0 I B0 bA bB
  refine wp_region_held_drew (S := (fun w' => w'.cell? ⟨tb, 0, none⟩ = some (.int .i64 s) ∧ w'.cell? ⟨tb, 1, none⟩ = some (.int .i64 g))) (by kernel_rfl) ?hs0 (fun hS0 => ?_)
  case hs0 => ((try dsimp only); first | with_reducible exact ⟨q0, q1⟩ | exact ⟨q0, q1⟩ | exact ⟨(World.cell?_alloc_lt W (.cells #[.int .i64 (-1), .int .i64 0, .int .i64 num, .int .i64 s, .int .i64 g, .int .i64 1, .bool false] 41) ⟨tb, 0, none⟩ ztb).trans q0, (World.cell?_alloc_lt W (.cells #[.int .i64 (-1), .int .i64 0, .int .i64 num, .int .i64 s, .int .i64 g, .int .i64 1, .bool false] 41) ⟨tb, 1, none⟩ ztb).trans q1⟩ | exact ⟨(World.cell?_alloc_lt W.drew (.cells #[.int .i64 (-1), .int .i64 0, .int .i64 num, .int .i64 s, .int .i64 g, .int .i64 1, .bool false] 41) ⟨tb, 0, none⟩ ztb).trans q0, (World.cell?_alloc_lt W.drew (.cells #[.int .i64 (-1), .int .i64 0, .int .i64 num, .int .i64 s, .int .i64 g, .int .i64 1, .bool false] 41) ⟨tb, 1, none⟩ ztb).trans q1⟩ | exact ⟨(World.cell?_setCell_other _ _ _ _ (fun e => by injection e with e; omega)).trans q0, (World.cell?_setCell_other _ _ _ _ (fun e => by injection e with e; omega)).trans q1⟩)
  refine wpAnyH_take (i := 0) (oi := { dst := some 60, op := Op.move (Operand.tmp 0), type := 26, pos := "ref.go:29", after := #[], guard := none }) (v := ?_) rfl (by kernel_rfl) (by kernel_rfl) (by kernel_rfl) (fun _ _ _ h => h) (Or.inl ⟨by rfl, ?hy1⟩) hS0 ?_
  case hy1 => (intro w hSw; (try dsimp only at hSw); go_simp; try with_reducible rfl)
  try simp only [Act.put, List.setIfInBounds_toArray, List.set_cons_zero, List.set_cons_succ]
  refine wpAnyH_take (i := 1) (oi := { dst := some 61, op := Op.move (Operand.tmp 0), type := 26, pos := "ref.go:29", after := #[], guard := none }) (v := ?_) rfl (by kernel_rfl) (by kernel_rfl) (by kernel_rfl) (fun _ _ _ h => h) (Or.inl ⟨by rfl, ?hy2⟩) hS0 ?_
  case hy2 => (intro w hSw; (try dsimp only at hSw); go_simp; try with_reducible rfl)
  try simp only [Act.put, List.setIfInBounds_toArray, List.set_cons_zero, List.set_cons_succ]
  refine wpAnyH_take (i := 2) (oi := { dst := some 62, op := Op.nilCheck (Operand.tmp 61), type := 0, pos := "ref.go:29", after := #[{ on := 1, ground := Ground.data }], guard := none }) (v := ?_) rfl (by kernel_rfl) (by kernel_rfl) (by kernel_rfl) (fun _ _ _ h => h) (Or.inl ⟨by rfl, ?hy3⟩) hS0 ?_
  case hy3 => (intro w hSw; (try dsimp only at hSw); go_simp; try with_reducible rfl)
  try simp only [Act.put, List.setIfInBounds_toArray, List.set_cons_zero, List.set_cons_succ]
  refine wpAnyH_take (i := 3) (oi := { dst := some 63, op := Op.fieldAddr 29 (Operand.tmp 62) 0, type := 0, pos := "ref.go:29", after := #[{ on := 2, ground := Ground.data }], guard := none }) (v := ?_) rfl (by kernel_rfl) (by kernel_rfl) (by kernel_rfl) (fun _ _ _ h => h) (Or.inl ⟨by rfl, ?hy4⟩) hS0 ?_
  case hy4 => (intro w hSw; (try dsimp only at hSw); go_simp; try with_reducible rfl)
  try simp only [Act.put, List.setIfInBounds_toArray, List.set_cons_zero, List.set_cons_succ]
  refine wpAnyH_take (i := 5) (oi := { dst := some 65, op := Op.move (Operand.tmp 1), type := 3, pos := "ref.go:29", after := #[], guard := none }) (v := ?_) rfl (by kernel_rfl) (by kernel_rfl) (by kernel_rfl) (fun _ _ _ h => h) (Or.inl ⟨by rfl, ?hy5⟩) hS0 ?_
  case hy5 => (intro w hSw; (try dsimp only at hSw); go_simp; try with_reducible rfl)
  try simp only [Act.put, List.setIfInBounds_toArray, List.set_cons_zero, List.set_cons_succ]
  refine wpAnyH_take (i := 6) (oi := { dst := some 66, op := Op.move (Operand.tmp 2), type := 3, pos := "ref.go:29", after := #[], guard := none }) (v := ?_) rfl (by kernel_rfl) (by kernel_rfl) (by kernel_rfl) (fun _ _ _ h => h) (Or.inl ⟨by rfl, ?hy6⟩) hS0 ?_
  case hy6 => (intro w hSw; (try dsimp only at hSw); go_simp; try with_reducible rfl)
  try simp only [Act.put, List.setIfInBounds_toArray, List.set_cons_zero, List.set_cons_succ]
  refine wpAnyH_take (i := 7) (oi := { dst := some 67, op := Op.move (Operand.tmp 3), type := 3, pos := "ref.go:29", after := #[], guard := none }) (v := ?_) rfl (by kernel_rfl) (by kernel_rfl) (by kernel_rfl) (fun _ _ _ h => h) (Or.inl ⟨by rfl, ?hy7⟩) hS0 ?_
  case hy7 => (intro w hSw; (try dsimp only at hSw); go_simp; try with_reducible rfl)
  try simp only [Act.put, List.setIfInBounds_toArray, List.set_cons_zero, List.set_cons_succ]
  refine wpAnyH_take (i := 8) (oi := { dst := some 68, op := Op.load 39 (Operand.tmp 9), type := 39, pos := "ref.go:29", after := #[], guard := none }) (v := ?_) rfl (by kernel_rfl) (by kernel_rfl) (by kernel_rfl) (fun _ _ _ h => h) (Or.inl ⟨by rfl, ?hy8⟩) hS0 ?_
  case hy8 => (intro w hSw; (try dsimp only at hSw); go_simp; try with_reducible rfl)
  try simp only [Act.put, List.setIfInBounds_toArray, List.set_cons_zero, List.set_cons_succ]
  refine wpAnyH_take (i := 9) (oi := { dst := some 69, op := Op.build 41 #[(0, Operand.tmp 65), (1, Operand.tmp 66), (2, Operand.tmp 67), (3, Operand.tmp 68), (4, Operand.const (Value.int IntKind.i64 1))], type := 41, pos := "ref.go:29", after := #[{ on := 5, ground := Ground.data }, { on := 6, ground := Ground.data }, { on := 7, ground := Ground.data }, { on := 8, ground := Ground.data }], guard := none }) (v := ?_) rfl (by kernel_rfl) (by kernel_rfl) (by kernel_rfl) (fun _ _ _ h => h) (Or.inl ⟨by rfl, ?hy9⟩) hS0 ?_
  case hy9 => (intro w hSw; (try dsimp only at hSw); go_simp; try with_reducible rfl)
  try simp only [Act.put, List.setIfInBounds_toArray, List.set_cons_zero, List.set_cons_succ]
  refine wpAnyH_ready (rs := [4, 10]) (by kernel_rfl) (by simp) ?_
  refine AllReadyH.cons (o := { dst := some 64, op := Op.load 27 (Operand.tmp 63), type := 27, pos := "ref.go:29", after := #[{ on := 3, ground := Ground.data }], guard := none }) rfl (fun K hK => ?_) ?_
  · go_simp
    refine hK.out _ _ ?hs10 (fun hS10 => ?_)
    case hs10 => ((try dsimp only); first | with_reducible exact ⟨q0, q1⟩ | exact ⟨q0, q1⟩ | exact ⟨(World.cell?_alloc_lt W (.cells #[.int .i64 (-1), .int .i64 0, .int .i64 num, .int .i64 s, .int .i64 g, .int .i64 1, .bool false] 41) ⟨tb, 0, none⟩ ztb).trans q0, (World.cell?_alloc_lt W (.cells #[.int .i64 (-1), .int .i64 0, .int .i64 num, .int .i64 s, .int .i64 g, .int .i64 1, .bool false] 41) ⟨tb, 1, none⟩ ztb).trans q1⟩ | exact ⟨(World.cell?_alloc_lt W.drew (.cells #[.int .i64 (-1), .int .i64 0, .int .i64 num, .int .i64 s, .int .i64 g, .int .i64 1, .bool false] 41) ⟨tb, 0, none⟩ ztb).trans q0, (World.cell?_alloc_lt W.drew (.cells #[.int .i64 (-1), .int .i64 0, .int .i64 num, .int .i64 s, .int .i64 g, .int .i64 1, .bool false] 41) ⟨tb, 1, none⟩ ztb).trans q1⟩ | exact ⟨(World.cell?_setCell_other _ _ _ _ (fun e => by injection e with e; omega)).trans q0, (World.cell?_setCell_other _ _ _ _ (fun e => by injection e with e; omega)).trans q1⟩)
    clear hK K hS0
    refine wpAnyH_ready (rs := [10]) (by kernel_rfl) (by simp) ?_
    refine AllReadyH.cons (o := { dst := some 70, op := Op.buildSlice 27 1 #[(0, Operand.tmp 69)], type := 27, pos := "ref.go:29", after := #[{ on := 9, ground := Ground.data }], guard := none }) rfl (fun K hK => ?_) ?_
    · go_simp
      refine hK.out _ _ ?hs11 (fun hS11 => ?_)
      case hs11 => ((try dsimp only); first | with_reducible exact ⟨q0, q1⟩ | exact ⟨q0, q1⟩ | exact ⟨(World.cell?_alloc_lt W (.cells #[.int .i64 (-1), .int .i64 0, .int .i64 num, .int .i64 s, .int .i64 g, .int .i64 1, .bool false] 41) ⟨tb, 0, none⟩ ztb).trans q0, (World.cell?_alloc_lt W (.cells #[.int .i64 (-1), .int .i64 0, .int .i64 num, .int .i64 s, .int .i64 g, .int .i64 1, .bool false] 41) ⟨tb, 1, none⟩ ztb).trans q1⟩ | exact ⟨(World.cell?_alloc_lt W.drew (.cells #[.int .i64 (-1), .int .i64 0, .int .i64 num, .int .i64 s, .int .i64 g, .int .i64 1, .bool false] 41) ⟨tb, 0, none⟩ ztb).trans q0, (World.cell?_alloc_lt W.drew (.cells #[.int .i64 (-1), .int .i64 0, .int .i64 num, .int .i64 s, .int .i64 g, .int .i64 1, .bool false] 41) ⟨tb, 1, none⟩ ztb).trans q1⟩ | exact ⟨(World.cell?_setCell_other _ _ _ _ (fun e => by injection e with e; omega)).trans q0, (World.cell?_setCell_other _ _ _ _ (fun e => by injection e with e; omega)).trans q1⟩)
      clear hK K hS10
      refine wpAnyH_ready (rs := [11]) (by kernel_rfl) (by simp) ?_
      refine AllReadyH.cons (o := { dst := some 71, op := Op.call { callee := Callee.builtin Builtin.append, args := #[Operand.tmp 64, Operand.tmp 70], argTypes := #[27, 27] }, type := 27, pos := "ref.go:29", after := #[{ on := 4, ground := Ground.data }, { on := 10, ground := Ground.data }], guard := none }) rfl (fun K hK => ?_) ?_
      · refine step_append_runC (by rfl) _ _ _ (by rfl) (by rfl) (by rfl) RAA.out ?_; have q0 := (farA.out 0).trans q0; have q1 := (farA.out 1).trans q1
        refine hK.out _ _ ?hs12 (fun hS12 => ?_)
        case hs12 => ((try dsimp only); first | with_reducible exact ⟨q0, q1⟩ | exact ⟨q0, q1⟩ | exact ⟨(World.cell?_alloc_lt W (.cells #[.int .i64 (-1), .int .i64 0, .int .i64 num, .int .i64 s, .int .i64 g, .int .i64 1, .bool false] 41) ⟨tb, 0, none⟩ ztb).trans q0, (World.cell?_alloc_lt W (.cells #[.int .i64 (-1), .int .i64 0, .int .i64 num, .int .i64 s, .int .i64 g, .int .i64 1, .bool false] 41) ⟨tb, 1, none⟩ ztb).trans q1⟩ | exact ⟨(World.cell?_alloc_lt W.drew (.cells #[.int .i64 (-1), .int .i64 0, .int .i64 num, .int .i64 s, .int .i64 g, .int .i64 1, .bool false] 41) ⟨tb, 0, none⟩ ztb).trans q0, (World.cell?_alloc_lt W.drew (.cells #[.int .i64 (-1), .int .i64 0, .int .i64 num, .int .i64 s, .int .i64 g, .int .i64 1, .bool false] 41) ⟨tb, 1, none⟩ ztb).trans q1⟩ | exact ⟨(World.cell?_setCell_other _ _ _ _ (fun e => by injection e with e; omega)).trans q0, (World.cell?_setCell_other _ _ _ _ (fun e => by injection e with e; omega)).trans q1⟩)
        clear hK K hS11
        refine wpAnyH_take (i := 12) (oi := { dst := some 72, op := Op.nilCheck (Operand.tmp 60), type := 0, pos := "ref.go:29", after := #[{ on := 0, ground := Ground.data }, { on := 0, ground := Ground.phase }, { on := 1, ground := Ground.phase }, { on := 2, ground := Ground.phase }, { on := 3, ground := Ground.phase }, { on := 4, ground := Ground.phase }, { on := 5, ground := Ground.phase }, { on := 6, ground := Ground.phase }, { on := 7, ground := Ground.phase }, { on := 8, ground := Ground.phase }, { on := 9, ground := Ground.phase }, { on := 10, ground := Ground.phase }, { on := 11, ground := Ground.phase }], guard := none }) (v := ?_) rfl (by kernel_rfl) (by kernel_rfl) (by kernel_rfl) (fun _ _ _ h => h) (Or.inl ⟨by rfl, ?hy13⟩) hS12 ?_
        case hy13 => (intro w hSw; (try dsimp only at hSw); go_simp; try with_reducible rfl)
        try simp only [Act.put, List.setIfInBounds_toArray, List.set_cons_zero, List.set_cons_succ]
        refine wpAnyH_take (i := 13) (oi := { dst := some 73, op := Op.fieldAddr 29 (Operand.tmp 72) 0, type := 0, pos := "ref.go:29", after := #[{ on := 12, ground := Ground.data }, { on := 0, ground := Ground.phase }, { on := 1, ground := Ground.phase }, { on := 2, ground := Ground.phase }, { on := 3, ground := Ground.phase }, { on := 4, ground := Ground.phase }, { on := 5, ground := Ground.phase }, { on := 6, ground := Ground.phase }, { on := 7, ground := Ground.phase }, { on := 8, ground := Ground.phase }, { on := 9, ground := Ground.phase }, { on := 10, ground := Ground.phase }, { on := 11, ground := Ground.phase }], guard := none }) (v := ?_) rfl (by kernel_rfl) (by kernel_rfl) (by kernel_rfl) (fun _ _ _ h => h) (Or.inl ⟨by rfl, ?hy14⟩) hS12 ?_
        case hy14 => (intro w hSw; (try dsimp only at hSw); go_simp; try with_reducible rfl)
        try simp only [Act.put, List.setIfInBounds_toArray, List.set_cons_zero, List.set_cons_succ]
        refine wpAnyH_ready (rs := [14]) (by kernel_rfl) (by simp) ?_
        refine AllReadyH.cons (o := { dst := none, op := Op.store 27 (Operand.tmp 73) (Operand.tmp 71), type := 0, pos := "ref.go:29", after := #[{ on := 13, ground := Ground.data }, { on := 11, ground := Ground.data }, { on := 11, ground := Ground.chain }, { on := 0, ground := Ground.phase }, { on := 1, ground := Ground.phase }, { on := 2, ground := Ground.phase }, { on := 3, ground := Ground.phase }, { on := 4, ground := Ground.phase }, { on := 5, ground := Ground.phase }, { on := 6, ground := Ground.phase }, { on := 7, ground := Ground.phase }, { on := 8, ground := Ground.phase }, { on := 9, ground := Ground.phase }, { on := 10, ground := Ground.phase }, { on := 11, ground := Ground.phase }], guard := none }) rfl (fun K hK => ?_) ?_
        · go_simp
          refine hK.out _ _ ?hs15 (fun hS15 => ?_)
          case hs15 => ((try dsimp only); first | with_reducible exact ⟨q0, q1⟩ | exact ⟨q0, q1⟩ | exact ⟨(World.cell?_alloc_lt W (.cells #[.int .i64 (-1), .int .i64 0, .int .i64 num, .int .i64 s, .int .i64 g, .int .i64 1, .bool false] 41) ⟨tb, 0, none⟩ ztb).trans q0, (World.cell?_alloc_lt W (.cells #[.int .i64 (-1), .int .i64 0, .int .i64 num, .int .i64 s, .int .i64 g, .int .i64 1, .bool false] 41) ⟨tb, 1, none⟩ ztb).trans q1⟩ | exact ⟨(World.cell?_alloc_lt W.drew (.cells #[.int .i64 (-1), .int .i64 0, .int .i64 num, .int .i64 s, .int .i64 g, .int .i64 1, .bool false] 41) ⟨tb, 0, none⟩ ztb).trans q0, (World.cell?_alloc_lt W.drew (.cells #[.int .i64 (-1), .int .i64 0, .int .i64 num, .int .i64 s, .int .i64 g, .int .i64 1, .bool false] 41) ⟨tb, 1, none⟩ ztb).trans q1⟩ | exact ⟨(World.cell?_setCell_other _ _ _ _ (fun e => by injection e with e; omega)).trans q0, (World.cell?_setCell_other _ _ _ _ (fun e => by injection e with e; omega)).trans q1⟩)
          clear hK K hS12
          refine wpAnyH_done (by kernel_rfl) ?_ _
          go_wp2_with fail
          go_ret2
          exact ⟨rfl, FINA.out⟩
        exact AllReadyH.nil
      exact AllReadyH.nil
    exact AllReadyH.nil
  refine AllReadyH.cons (o := { dst := some 70, op := Op.buildSlice 27 1 #[(0, Operand.tmp 69)], type := 27, pos := "ref.go:29", after := #[{ on := 9, ground := Ground.data }], guard := none }) rfl (fun K hK => ?_) ?_
  · go_simp
    refine hK.out _ _ ?hs16 (fun hS16 => ?_)
    case hs16 => ((try dsimp only); first | with_reducible exact ⟨q0, q1⟩ | exact ⟨q0, q1⟩ | exact ⟨(World.cell?_alloc_lt W (.cells #[.int .i64 (-1), .int .i64 0, .int .i64 num, .int .i64 s, .int .i64 g, .int .i64 1, .bool false] 41) ⟨tb, 0, none⟩ ztb).trans q0, (World.cell?_alloc_lt W (.cells #[.int .i64 (-1), .int .i64 0, .int .i64 num, .int .i64 s, .int .i64 g, .int .i64 1, .bool false] 41) ⟨tb, 1, none⟩ ztb).trans q1⟩ | exact ⟨(World.cell?_alloc_lt W.drew (.cells #[.int .i64 (-1), .int .i64 0, .int .i64 num, .int .i64 s, .int .i64 g, .int .i64 1, .bool false] 41) ⟨tb, 0, none⟩ ztb).trans q0, (World.cell?_alloc_lt W.drew (.cells #[.int .i64 (-1), .int .i64 0, .int .i64 num, .int .i64 s, .int .i64 g, .int .i64 1, .bool false] 41) ⟨tb, 1, none⟩ ztb).trans q1⟩ | exact ⟨(World.cell?_setCell_other _ _ _ _ (fun e => by injection e with e; omega)).trans q0, (World.cell?_setCell_other _ _ _ _ (fun e => by injection e with e; omega)).trans q1⟩)
    clear hK K hS0
    refine wpAnyH_ready (rs := [4]) (by kernel_rfl) (by simp) ?_
    refine AllReadyH.cons (o := { dst := some 64, op := Op.load 27 (Operand.tmp 63), type := 27, pos := "ref.go:29", after := #[{ on := 3, ground := Ground.data }], guard := none }) rfl (fun K hK => ?_) ?_
    · go_simp
      refine hK.out _ _ ?hs17 (fun hS17 => ?_)
      case hs17 => ((try dsimp only); first | with_reducible exact ⟨q0, q1⟩ | exact ⟨q0, q1⟩ | exact ⟨(World.cell?_alloc_lt W (.cells #[.int .i64 (-1), .int .i64 0, .int .i64 num, .int .i64 s, .int .i64 g, .int .i64 1, .bool false] 41) ⟨tb, 0, none⟩ ztb).trans q0, (World.cell?_alloc_lt W (.cells #[.int .i64 (-1), .int .i64 0, .int .i64 num, .int .i64 s, .int .i64 g, .int .i64 1, .bool false] 41) ⟨tb, 1, none⟩ ztb).trans q1⟩ | exact ⟨(World.cell?_alloc_lt W.drew (.cells #[.int .i64 (-1), .int .i64 0, .int .i64 num, .int .i64 s, .int .i64 g, .int .i64 1, .bool false] 41) ⟨tb, 0, none⟩ ztb).trans q0, (World.cell?_alloc_lt W.drew (.cells #[.int .i64 (-1), .int .i64 0, .int .i64 num, .int .i64 s, .int .i64 g, .int .i64 1, .bool false] 41) ⟨tb, 1, none⟩ ztb).trans q1⟩ | exact ⟨(World.cell?_setCell_other _ _ _ _ (fun e => by injection e with e; omega)).trans q0, (World.cell?_setCell_other _ _ _ _ (fun e => by injection e with e; omega)).trans q1⟩)
      clear hK K hS16
      refine wpAnyH_ready (rs := [11]) (by kernel_rfl) (by simp) ?_
      refine AllReadyH.cons (o := { dst := some 71, op := Op.call { callee := Callee.builtin Builtin.append, args := #[Operand.tmp 64, Operand.tmp 70], argTypes := #[27, 27] }, type := 27, pos := "ref.go:29", after := #[{ on := 4, ground := Ground.data }, { on := 10, ground := Ground.data }], guard := none }) rfl (fun K hK => ?_) ?_
      · refine step_append_runC (by rfl) _ _ _ (by rfl) (by rfl) (by rfl) RAB.out ?_; have q0 := (farB.out 0).trans q0; have q1 := (farB.out 1).trans q1
        refine hK.out _ _ ?hs18 (fun hS18 => ?_)
        case hs18 => ((try dsimp only); first | with_reducible exact ⟨q0, q1⟩ | exact ⟨q0, q1⟩ | exact ⟨(World.cell?_alloc_lt W (.cells #[.int .i64 (-1), .int .i64 0, .int .i64 num, .int .i64 s, .int .i64 g, .int .i64 1, .bool false] 41) ⟨tb, 0, none⟩ ztb).trans q0, (World.cell?_alloc_lt W (.cells #[.int .i64 (-1), .int .i64 0, .int .i64 num, .int .i64 s, .int .i64 g, .int .i64 1, .bool false] 41) ⟨tb, 1, none⟩ ztb).trans q1⟩ | exact ⟨(World.cell?_alloc_lt W.drew (.cells #[.int .i64 (-1), .int .i64 0, .int .i64 num, .int .i64 s, .int .i64 g, .int .i64 1, .bool false] 41) ⟨tb, 0, none⟩ ztb).trans q0, (World.cell?_alloc_lt W.drew (.cells #[.int .i64 (-1), .int .i64 0, .int .i64 num, .int .i64 s, .int .i64 g, .int .i64 1, .bool false] 41) ⟨tb, 1, none⟩ ztb).trans q1⟩ | exact ⟨(World.cell?_setCell_other _ _ _ _ (fun e => by injection e with e; omega)).trans q0, (World.cell?_setCell_other _ _ _ _ (fun e => by injection e with e; omega)).trans q1⟩)
        clear hK K hS17
        refine wpAnyH_take (i := 12) (oi := { dst := some 72, op := Op.nilCheck (Operand.tmp 60), type := 0, pos := "ref.go:29", after := #[{ on := 0, ground := Ground.data }, { on := 0, ground := Ground.phase }, { on := 1, ground := Ground.phase }, { on := 2, ground := Ground.phase }, { on := 3, ground := Ground.phase }, { on := 4, ground := Ground.phase }, { on := 5, ground := Ground.phase }, { on := 6, ground := Ground.phase }, { on := 7, ground := Ground.phase }, { on := 8, ground := Ground.phase }, { on := 9, ground := Ground.phase }, { on := 10, ground := Ground.phase }, { on := 11, ground := Ground.phase }], guard := none }) (v := ?_) rfl (by kernel_rfl) (by kernel_rfl) (by kernel_rfl) (fun _ _ _ h => h) (Or.inl ⟨by rfl, ?hy19⟩) hS18 ?_
        case hy19 => (intro w hSw; (try dsimp only at hSw); go_simp; try with_reducible rfl)
        try simp only [Act.put, List.setIfInBounds_toArray, List.set_cons_zero, List.set_cons_succ]
        refine wpAnyH_take (i := 13) (oi := { dst := some 73, op := Op.fieldAddr 29 (Operand.tmp 72) 0, type := 0, pos := "ref.go:29", after := #[{ on := 12, ground := Ground.data }, { on := 0, ground := Ground.phase }, { on := 1, ground := Ground.phase }, { on := 2, ground := Ground.phase }, { on := 3, ground := Ground.phase }, { on := 4, ground := Ground.phase }, { on := 5, ground := Ground.phase }, { on := 6, ground := Ground.phase }, { on := 7, ground := Ground.phase }, { on := 8, ground := Ground.phase }, { on := 9, ground := Ground.phase }, { on := 10, ground := Ground.phase }, { on := 11, ground := Ground.phase }], guard := none }) (v := ?_) rfl (by kernel_rfl) (by kernel_rfl) (by kernel_rfl) (fun _ _ _ h => h) (Or.inl ⟨by rfl, ?hy20⟩) hS18 ?_
        case hy20 => (intro w hSw; (try dsimp only at hSw); go_simp; try with_reducible rfl)
        try simp only [Act.put, List.setIfInBounds_toArray, List.set_cons_zero, List.set_cons_succ]
        refine wpAnyH_ready (rs := [14]) (by kernel_rfl) (by simp) ?_
        refine AllReadyH.cons (o := { dst := none, op := Op.store 27 (Operand.tmp 73) (Operand.tmp 71), type := 0, pos := "ref.go:29", after := #[{ on := 13, ground := Ground.data }, { on := 11, ground := Ground.data }, { on := 11, ground := Ground.chain }, { on := 0, ground := Ground.phase }, { on := 1, ground := Ground.phase }, { on := 2, ground := Ground.phase }, { on := 3, ground := Ground.phase }, { on := 4, ground := Ground.phase }, { on := 5, ground := Ground.phase }, { on := 6, ground := Ground.phase }, { on := 7, ground := Ground.phase }, { on := 8, ground := Ground.phase }, { on := 9, ground := Ground.phase }, { on := 10, ground := Ground.phase }, { on := 11, ground := Ground.phase }], guard := none }) rfl (fun K hK => ?_) ?_
        · go_simp
          refine hK.out _ _ ?hs21 (fun hS21 => ?_)
          case hs21 => ((try dsimp only); first | with_reducible exact ⟨q0, q1⟩ | exact ⟨q0, q1⟩ | exact ⟨(World.cell?_alloc_lt W (.cells #[.int .i64 (-1), .int .i64 0, .int .i64 num, .int .i64 s, .int .i64 g, .int .i64 1, .bool false] 41) ⟨tb, 0, none⟩ ztb).trans q0, (World.cell?_alloc_lt W (.cells #[.int .i64 (-1), .int .i64 0, .int .i64 num, .int .i64 s, .int .i64 g, .int .i64 1, .bool false] 41) ⟨tb, 1, none⟩ ztb).trans q1⟩ | exact ⟨(World.cell?_alloc_lt W.drew (.cells #[.int .i64 (-1), .int .i64 0, .int .i64 num, .int .i64 s, .int .i64 g, .int .i64 1, .bool false] 41) ⟨tb, 0, none⟩ ztb).trans q0, (World.cell?_alloc_lt W.drew (.cells #[.int .i64 (-1), .int .i64 0, .int .i64 num, .int .i64 s, .int .i64 g, .int .i64 1, .bool false] 41) ⟨tb, 1, none⟩ ztb).trans q1⟩ | exact ⟨(World.cell?_setCell_other _ _ _ _ (fun e => by injection e with e; omega)).trans q0, (World.cell?_setCell_other _ _ _ _ (fun e => by injection e with e; omega)).trans q1⟩)
          clear hK K hS18
          refine wpAnyH_done (by kernel_rfl) ?_ _
          go_wp2_with fail
          go_ret2
          exact ⟨rfl, FINB.out⟩
        exact AllReadyH.nil
      exact AllReadyH.nil
    exact AllReadyH.nil
  exact AllReadyH.nil
end Go.Proofs.Ytakjpoapjokmbaa
