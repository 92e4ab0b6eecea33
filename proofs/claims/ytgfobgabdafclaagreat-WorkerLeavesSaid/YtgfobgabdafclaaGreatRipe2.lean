/-
  Ripe: the refs of an actor's limbo that are ripe, toldE and taken out: contracts for the walks of the statements of layer 12.
-/
import Derived.Test.YtgfobgabdafclaaGreatDel2
namespace Go.Proofs.YtgfobgabdafclaaGreat
open Go.ChangeShapes Go.WideShapes Go.ChangeAt Go.RowKit
set_option linter.unusedVariables false

section
variable {w w' : World} {x lb n base : Nat} {now : Int} {P : Nat → Int} {V : Nat → Value} {Q : Nat → List (Int × Int × Int)}

theorem ripe_not (w : World) (p : Option Addr) (a : Int) (H : ∀ w, Calls Tryz.prog 219 #[.pointer p, .int .i64 a] w fun e w' => e = .returned (.bool false) ∧ w = w') :
    Calls Tryz.prog 287 #[.pointer p, .int .i64 a] w fun e w' => e = .returned (.slice none 0 0) ∧ Turn (fun _ => False) w w' := by
  have H1 := Lib.hid H
  clear H
  go_enter Tryz.func287, Tryz.ntmps287
  go_wp2_with fail
  refine (H1.out _).mono ?_
  rintro e w1 ⟨rfl, rfl⟩
  go_wp2
  go_ret
  exact ⟨rfl, (Turn.refl _ w).alloc _⟩

/-- What Ripe leaves: the refs that are ripe in a row of their own, the others in the limbo. -/
def RipePost (w : World) (x lb n base : Nat) (now : Int) (P : Nat → Int) (V : Nat → Value) (Q : Nat → List (Int × Int × Int)) (a : Nat) (e : Ending) (w' : World) : Prop :=
  ∃ vl v', e = .returned vl ∧ w'.ownsRow w.heap.size 39 2 vl (toldE now (Q a)).length (cells2 (toldE now (Q a))) ∧ Epo w' x lb n base now P (upd V a v') (upd Q a (kept now (Q a))) ∧ Turn (EpoOwn x lb n V) w w'
theorem own_lowE {w : World} {b b' : Nat} {e : TypeId} {size : Nat} {v : Value} {n : Nat} {xs : List Value} (h : w.ownsRow b e size v n xs) (hb : b' ≤ b) : w.ownsRow b' e size v n xs := by
  refine ⟨h.1, ?_⟩
  rcases h.2 with h0 | ⟨g, cap, cur, rfl, hg, rest⟩
  · exact .inl h0
  · exact .inr ⟨g, cap, cur, rfl, Nat.le_trans hb hg, rest⟩
set_option maxRecDepth 100000 in
set_option maxHeartbeats 1000000 in
theorem Epo.ripe_row (h : Epo w x lb n base now P V Q) {a : Nat} (ha : a < n) (hq : (Q a).length ≤ 1000000) {g cap : Nat} (hv : V a = .slice (some ⟨g, 0, none⟩) (Q a).length cap) (hc : (Q a).length ≤ cap) :
    Calls Tryz.prog 287 #[.pointer (some ⟨x, 0, none⟩), .int .i64 (a : Int)] w (RipePost w x lb n base now P V Q a) := by
  have H := Lib.hid (fun o o2 => ((h.alloc o).alloc o2).has_yes ha)
  have h1 := h.alloc (.cells #[.pointer (some ⟨x, 0, none⟩)] 126)
  have h2 := h1.alloc (.cells #[.slice none 0 0] 34)
  have H1 := Lib.hid (h1.has_yes ha)
  have T0 : Turn (fun _ => False) w ((w.alloc (.cells #[.pointer (some ⟨x, 0, none⟩)] 126)).alloc (.cells #[.slice none 0 0] 34)) := ((Turn.refl _ w).alloc _).alloc _
  have b0 : ((w.alloc (.cells #[.pointer (some ⟨x, 0, none⟩)] 126)).alloc (.cells #[.slice none 0 0] 34)).cell? ⟨w.heap.size, 0, none⟩ = some (.pointer (some ⟨x, 0, none⟩)) := past (World.cell?_alloc_new w #[.pointer (some ⟨x, 0, none⟩)] 126 0)
  have b1 : ((w.alloc (.cells #[.pointer (some ⟨x, 0, none⟩)] 126)).alloc (.cells #[.slice none 0 0] 34)).cell? ⟨w.heap.size + 1, 0, none⟩ = some (.slice none 0 0) := World.cell?_alloc2_new ..
  have f1 : ((w.alloc (.cells #[.pointer (some ⟨x, 0, none⟩)] 126)).alloc (.cells #[.slice none 0 0] 34)).frozen? ⟨w.heap.size + 1, 0, none⟩ = false := by
    rw [frozen?_alloc_cells, frozen?_alloc_cells]
    exact fz _ (by omega)
  have hz : ((w.alloc (.cells #[.pointer (some ⟨x, 0, none⟩)] 126)).alloc (.cells #[.slice none 0 0] 34)).heap.size = w.heap.size + 2 := by simp
  have hx := h.bx
  have hl := h.bl
  have hw := h.bw
  have nn := h.nn
  have ne := h.ne
  have hrow := h2.rows a ha
  have nb := h.rows a ha |>.lt g (by rw [hv]; rfl)
  rw [hv] at hrow
  have FIN : Hid (∀ (vl : Value) (w1 : World), w1.cell? ⟨w.heap.size + 1, 0, none⟩ = some vl → w1.ownsRow (w.heap.size + 2) 39 2 vl (toldE now (Q a)).length (cells2 (toldE now (Q a))) → Turn (fun k => k = w.heap.size + 1 ∨ k = g) (((w.alloc (.cells #[.pointer (some ⟨x, 0, none⟩)] 126)).alloc (.cells #[.slice none 0 0] 34)).drewN 1) w1 → w1.ownsRow base 374 3 (.slice (some ⟨g, 0, none⟩) (kept now (Q a)).length cap) (kept now (Q a)).length (cells3 (kept now (Q a))) → RipePost w x lb n base now P V Q a (.returned vl) (w1.setCell ⟨lb, a, none⟩ (.slice (some ⟨g, 0, none⟩) (kept now (Q a)).length cap))) := Lib.hid (by
    intro vl w1 hvv hvo ht hr
    have T1 : Turn (fun k => (V a).ownBlock = some k) w w1 := by
      have T2 := T0.drewN 1
      exact ⟨ht.os.trans T2.os, ht.tape.trans T2.tape, ht.output.trans T2.output, Nat.le_trans T2.size ht.size, fun k hk h1 => (ht.block k (Nat.lt_of_lt_of_le hk T2.size) (fun e => e.elim (fun e => by omega) (fun e => h1 (by rw [hv, e]; rfl)))).trans (T2.block k hk (fun e => e))⟩
    obtain ⟨E1, T2⟩ := h.row ha T1 hr (by rw [hv]; rfl)
    exact ⟨vl, _, rfl, own_lowE (own_keep hvo (fun k hk => Below.heap_setCell _ _ _ _ (by have := (hvo.lt k hk).1; show k ≠ lb; omega))) (by omega), E1, T2⟩)
  have KC := Lib.hid (fun (W : World) (b0 : W.cell? ⟨w.heap.size, 0, none⟩ = some (.pointer (some ⟨x, 0, none⟩))) (b1 : W.cell? ⟨w.heap.size + 1, 0, none⟩ = some (.slice none 0 0)) (f1 : W.frozen? ⟨w.heap.size + 1, 0, none⟩ = false) (c0 : W.cell? ⟨x, 0, none⟩ = some (.int .i64 now)) (hz : W.heap.size = w.heap.size + 2) (hrow : W.ownsRow base 374 3 (.slice (some ⟨g, 0, none⟩) (Q a).length cap) (Q a).length (cells3 (Q a))) =>
    del_any (wS := W) (w := W) (B := w.heap.size + 1) (bx := w.heap.size) (x := x) (now := now) ⟨Turn.refl _ _, rfl, hrow, ⟨_, b1, World.ownsRow_nil _ _ _ _⟩, f1, by omega, by omega, by omega⟩ ⟨c0, b0, by omega, by omega, by omega, by omega, nn⟩ hq hc)
  have c0 := h2.c0
  have cl := h2.cl
  have cv := h2.cv a ha
  have fl := h2.fl a
  rw [hv] at cv
  clear h h1 h2 H
  go_enter Tryz.func287, Tryz.ntmps287
  go_wp2_with fail
  refine H1.out.mono ?_
  rintro e w1 ⟨rfl, rfl⟩
  clear H1
  go_wp2_with fail
  generalize (w.alloc (.cells #[.pointer (some ⟨x, 0, none⟩)] 126)).alloc (.cells #[.slice none 0 0] 34) = W0 at *
  obtain ⟨bx, hbx⟩ : ∃ bb, w.heap.size = bb := ⟨_, rfl⟩
  rw [hbx] at b0 b1 f1 hz hw nb FIN KC ⊢
  clear hbx
  have an : ((a : Int)) < (n : Int) := by omega
  have an0 : (0 : Int) ≤ (a : Int) := by omega
  have nlB : lb ≠ bx + 1 := by omega
  have nlg : lb ≠ g := by omega
  have nxB : x ≠ bx + 1 := by omega
  have nxg : x ≠ g := by omega
  have nbB : bx ≠ bx + 1 := by omega
  have nbg : bx ≠ g := by omega
  have KD := Lib.hid (KC.out W0.drew b0 b1 f1 c0 hz (own_keep hrow (fun _ _ => rfl)))
  have b0d : W0.drew.cell? ⟨bx, 0, none⟩ = some (.pointer (some ⟨x, 0, none⟩)) := b0
  have cld : W0.drew.cell? ⟨x, 17, none⟩ = some (.slice (some ⟨lb, 0, none⟩) n n) := cl
  have cvd : W0.drew.cell? ⟨lb, a, none⟩ = some (.slice (some ⟨g, 0, none⟩) (Q a).length cap) := cv
  have fln : ∀ w1, Turn (fun k => k = bx + 1 ∨ k = g) W0.drew w1 → w1.frozen? ⟨lb, a, none⟩ = false := fun w1 ht => (World.frozen?_of_block (w := W0.drew) (ht.block lb (block_lt_of_cell cvd) (fun e => e.elim nlB nlg))).trans fl
  refine wp_region_held_drew (S := (fun w' => w'.cell? ⟨bx, 0, none⟩ = some (.pointer (some ⟨x, 0, none⟩)) ∧ w'.cell? ⟨x, 17, none⟩ = some (.slice (some ⟨lb, 0, none⟩) n n))) (by kernel_rfl) ?hs0 (fun hS0 => ?_)
  case hs0 => ((try dsimp only); first | (go_keep; done) | (refine ⟨?_, ?_⟩ <;> (go_keep; done)) | exact ⟨(cell_far _ _ _ _ _ _ (by omega)).trans hS15.1, (cell_far _ _ _ _ _ _ (by omega)).trans hS15.2⟩)
  refine wpAnyH_take (i := 0) (oi := { dst := some 10, op := Op.load 126 (Operand.tmp 2), type := 126, pos := "epoch.go:106", after := #[], guard := none }) (v := ?_) rfl (by kernel_rfl) (by kernel_rfl) (by kernel_rfl) (fun _ _ _ h => h) (Or.inl ⟨by rfl, ?hy1⟩) hS0 ?_
  case hy1 => (intro w hSw; (try dsimp only at hSw); go_simp; try with_reducible rfl)
  try simp only [Act.put, List.setIfInBounds_toArray, List.set_cons_zero, List.set_cons_succ]
  refine wpAnyH_take (i := 4) (oi := { dst := some 14, op := Op.move (Operand.tmp 1), type := 3, pos := "epoch.go:106", after := #[], guard := none }) (v := ?_) rfl (by kernel_rfl) (by kernel_rfl) (by kernel_rfl) (fun _ _ _ h => h) (Or.inl ⟨by rfl, ?hy2⟩) hS0 ?_
  case hy2 => (intro w hSw; (try dsimp only at hSw); go_simp; try with_reducible rfl)
  try simp only [Act.put, List.setIfInBounds_toArray, List.set_cons_zero, List.set_cons_succ]
  refine wpAnyH_take (i := 5) (oi := { dst := some 15, op := Op.load 126 (Operand.tmp 2), type := 126, pos := "epoch.go:106", after := #[], guard := none }) (v := ?_) rfl (by kernel_rfl) (by kernel_rfl) (by kernel_rfl) (fun _ _ _ h => h) (Or.inl ⟨by rfl, ?hy3⟩) hS0 ?_
  case hy3 => (intro w hSw; (try dsimp only at hSw); go_simp; try with_reducible rfl)
  try simp only [Act.put, List.setIfInBounds_toArray, List.set_cons_zero, List.set_cons_succ]
  refine wpAnyH_take (i := 9) (oi := { dst := some 19, op := Op.move (Operand.tmp 1), type := 3, pos := "epoch.go:106", after := #[], guard := none }) (v := ?_) rfl (by kernel_rfl) (by kernel_rfl) (by kernel_rfl) (fun _ _ _ h => h) (Or.inl ⟨by rfl, ?hy4⟩) hS0 ?_
  case hy4 => (intro w hSw; (try dsimp only at hSw); go_simp; try with_reducible rfl)
  try simp only [Act.put, List.setIfInBounds_toArray, List.set_cons_zero, List.set_cons_succ]
  refine wpAnyH_take (i := 12) (oi := { dst := some 22, op := Op.makeFunc (Fn.func 292) #[] #[Operand.tmp 2, Operand.tmp 5], type := 396, pos := "epoch.go:106", after := #[], guard := none }) (v := ?_) rfl (by kernel_rfl) (by kernel_rfl) (by kernel_rfl) (fun _ _ _ h => h) (Or.inl ⟨by rfl, ?hy5⟩) hS0 ?_
  case hy5 => (intro w hSw; (try dsimp only at hSw); go_simp; try with_reducible rfl)
  try simp only [Act.put, List.setIfInBounds_toArray, List.set_cons_zero, List.set_cons_succ]
  refine wpAnyH_take (i := 1) (oi := { dst := some 11, op := Op.nilCheck (Operand.tmp 10), type := 0, pos := "epoch.go:106", after := #[{ on := 0, ground := Ground.data }], guard := none }) (v := ?_) rfl (by kernel_rfl) (by kernel_rfl) (by kernel_rfl) (fun _ _ _ h => h) (Or.inl ⟨by rfl, ?hy6⟩) hS0 ?_
  case hy6 => (intro w hSw; (try dsimp only at hSw); go_simp; try with_reducible rfl)
  try simp only [Act.put, List.setIfInBounds_toArray, List.set_cons_zero, List.set_cons_succ]
  refine wpAnyH_take (i := 6) (oi := { dst := some 16, op := Op.nilCheck (Operand.tmp 15), type := 0, pos := "epoch.go:106", after := #[{ on := 5, ground := Ground.data }], guard := none }) (v := ?_) rfl (by kernel_rfl) (by kernel_rfl) (by kernel_rfl) (fun _ _ _ h => h) (Or.inl ⟨by rfl, ?hy7⟩) hS0 ?_
  case hy7 => (intro w hSw; (try dsimp only at hSw); go_simp; try with_reducible rfl)
  try simp only [Act.put, List.setIfInBounds_toArray, List.set_cons_zero, List.set_cons_succ]
  refine wpAnyH_take (i := 2) (oi := { dst := some 12, op := Op.fieldAddr 213 (Operand.tmp 11) 2, type := 0, pos := "epoch.go:106", after := #[{ on := 1, ground := Ground.data }], guard := none }) (v := ?_) rfl (by kernel_rfl) (by kernel_rfl) (by kernel_rfl) (fun _ _ _ h => h) (Or.inl ⟨by rfl, ?hy8⟩) hS0 ?_
  case hy8 => (intro w hSw; (try dsimp only at hSw); go_simp; try with_reducible rfl)
  try simp only [Act.put, List.setIfInBounds_toArray, List.set_cons_zero, List.set_cons_succ]
  refine wpAnyH_take (i := 7) (oi := { dst := some 17, op := Op.fieldAddr 213 (Operand.tmp 16) 2, type := 0, pos := "epoch.go:106", after := #[{ on := 6, ground := Ground.data }], guard := none }) (v := ?_) rfl (by kernel_rfl) (by kernel_rfl) (by kernel_rfl) (fun _ _ _ h => h) (Or.inl ⟨by rfl, ?hy9⟩) hS0 ?_
  case hy9 => (intro w hSw; (try dsimp only at hSw); go_simp; try with_reducible rfl)
  try simp only [Act.put, List.setIfInBounds_toArray, List.set_cons_zero, List.set_cons_succ]
  refine wpAnyH_take (i := 3) (oi := { dst := some 13, op := Op.load 210 (Operand.tmp 12), type := 210, pos := "epoch.go:106", after := #[{ on := 2, ground := Ground.data }], guard := none }) (v := ?_) rfl (by kernel_rfl) (by kernel_rfl) (by kernel_rfl) (fun _ _ _ h => h) (Or.inl ⟨by rfl, ?hy10⟩) hS0 ?_
  case hy10 => (intro w hSw; (try dsimp only at hSw); go_simp; try with_reducible rfl)
  try simp only [Act.put, List.setIfInBounds_toArray, List.set_cons_zero, List.set_cons_succ]
  refine wpAnyH_take (i := 8) (oi := { dst := some 18, op := Op.load 210 (Operand.tmp 17), type := 210, pos := "epoch.go:106", after := #[{ on := 7, ground := Ground.data }], guard := none }) (v := ?_) rfl (by kernel_rfl) (by kernel_rfl) (by kernel_rfl) (fun _ _ _ h => h) (Or.inl ⟨by rfl, ?hy11⟩) hS0 ?_
  case hy11 => (intro w hSw; (try dsimp only at hSw); go_simp; try with_reducible rfl)
  try simp only [Act.put, List.setIfInBounds_toArray, List.set_cons_zero, List.set_cons_succ]
  refine wpAnyH_take (i := 10) (oi := { dst := some 20, op := Op.indexAddr 210 (Operand.tmp 18) (Operand.tmp 19), type := 0, pos := "epoch.go:106", after := #[{ on := 8, ground := Ground.data }, { on := 9, ground := Ground.data }], guard := none }) (v := ?_) rfl (by kernel_rfl) (by kernel_rfl) (by kernel_rfl) (fun _ _ _ h => h) (Or.inl ⟨by rfl, ?hy12⟩) hS0 ?_
  case hy12 => (intro w hSw; (try dsimp only at hSw); go_simp; try with_reducible rfl)
  try simp only [Act.put, List.setIfInBounds_toArray, List.set_cons_zero, List.set_cons_succ]
  refine wpAnyH_ready (rs := [11]) (by kernel_rfl) (by simp) ?_
  refine AllReadyH.cons (o := { dst := some 21, op := Op.load 372 (Operand.tmp 20), type := 372, pos := "epoch.go:106", after := #[{ on := 10, ground := Ground.data }], guard := none }) rfl (fun K hK => ?_) ?_
  · go_simp
    refine hK.out _ _ ?hs13 (fun hS13 => ?_)
    case hs13 => ((try dsimp only); first | (go_keep; done) | (refine ⟨?_, ?_⟩ <;> (go_keep; done)) | exact ⟨(cell_far _ _ _ _ _ _ (by omega)).trans hS15.1, (cell_far _ _ _ _ _ _ (by omega)).trans hS15.2⟩)
    clear hK K hS0
    refine wpAnyH_ready (rs := [13]) (by kernel_rfl) (by simp) ?_
    refine AllReadyH.cons (o := { dst := some 23, op := Op.call { callee := Callee.value (Operand.func 291), args := #[Operand.tmp 21, Operand.tmp 22], argTypes := #[372, 396] }, type := 372, pos := "epoch.go:106", after := #[{ on := 11, ground := Ground.data }, { on := 12, ground := Ground.data }], guard := none }) rfl (fun K hK => ?_) ?_
    · go_simp; with_reducible refine KD.out.mono ?_; rintro e w1 hP; unfold DelPost at hP; obtain ⟨rfl, hL⟩ := hP; have s0 := hL.turn.cell (fun e => e.elim nbB nbg) (show _ = _ from b0d); have s1 := hL.turn.cell (fun e => e.elim nxB nxg) cld; have s2 := hL.turn.cell (fun e => e.elim nlB nlg) cvd; have fl1 := fln w1 hL.turn; go_simp
      refine hK.out _ _ ?hs14 (fun hS14 => ?_)
      case hs14 => ((try dsimp only); first | (go_keep; done) | (refine ⟨?_, ?_⟩ <;> (go_keep; done)) | exact ⟨(cell_far _ _ _ _ _ _ (by omega)).trans hS15.1, (cell_far _ _ _ _ _ _ (by omega)).trans hS15.2⟩)
      clear hK K hS13
      refine wpAnyH_ready (rs := [14]) (by kernel_rfl) (by simp) ?_
      refine AllReadyH.cons (o := { dst := some 24, op := Op.indexAddr 210 (Operand.tmp 13) (Operand.tmp 14), type := 0, pos := "epoch.go:106", after := #[{ on := 3, ground := Ground.data }, { on := 4, ground := Ground.data }, { on := 0, ground := Ground.phase }, { on := 1, ground := Ground.phase }, { on := 2, ground := Ground.phase }, { on := 3, ground := Ground.phase }, { on := 4, ground := Ground.phase }, { on := 5, ground := Ground.phase }, { on := 6, ground := Ground.phase }, { on := 7, ground := Ground.phase }, { on := 8, ground := Ground.phase }, { on := 9, ground := Ground.phase }, { on := 10, ground := Ground.phase }, { on := 11, ground := Ground.phase }, { on := 12, ground := Ground.phase }, { on := 13, ground := Ground.phase }], guard := none }) rfl (fun K hK => ?_) ?_
      · go_simp
        refine hK.out _ _ ?hs15 (fun hS15 => ?_)
        case hs15 => ((try dsimp only); first | (go_keep; done) | (refine ⟨?_, ?_⟩ <;> (go_keep; done)) | exact ⟨(cell_far _ _ _ _ _ _ (by omega)).trans hS15.1, (cell_far _ _ _ _ _ _ (by omega)).trans hS15.2⟩)
        clear hK K hS14
        refine wpAnyH_ready (rs := [15]) (by kernel_rfl) (by simp) ?_
        refine AllReadyH.cons (o := { dst := none, op := Op.store 372 (Operand.tmp 24) (Operand.tmp 23), type := 0, pos := "epoch.go:106", after := #[{ on := 14, ground := Ground.data }, { on := 13, ground := Ground.data }, { on := 13, ground := Ground.chain }, { on := 0, ground := Ground.phase }, { on := 1, ground := Ground.phase }, { on := 2, ground := Ground.phase }, { on := 3, ground := Ground.phase }, { on := 4, ground := Ground.phase }, { on := 5, ground := Ground.phase }, { on := 6, ground := Ground.phase }, { on := 7, ground := Ground.phase }, { on := 8, ground := Ground.phase }, { on := 9, ground := Ground.phase }, { on := 10, ground := Ground.phase }, { on := 11, ground := Ground.phase }, { on := 12, ground := Ground.phase }, { on := 13, ground := Ground.phase }], guard := none }) rfl (fun K hK => ?_) ?_
        · go_simp
          refine hK.out _ _ ?hs16 (fun hS16 => ?_)
          case hs16 => ((try dsimp only); first | (go_keep; done) | (refine ⟨?_, ?_⟩ <;> (go_keep; done)) | exact ⟨(cell_far _ _ _ _ _ _ (by omega)).trans hS15.1, (cell_far _ _ _ _ _ _ (by omega)).trans hS15.2⟩)
          clear hK K hS15
          refine wpAnyH_done (by kernel_rfl) ?_ _
          obtain ⟨vl, hv, hvo⟩ := hL.box
          have cB : (w1.setCell ⟨lb, a, none⟩ (.slice (some ⟨g, 0, none⟩) (kept now (Q a)).length cap)).cell? ⟨bx + 1, 0, none⟩ = some vl := (cell_far _ _ _ _ _ _ nlB).trans hv
          go_wp2
          go_ret
          exact FIN.out vl w1 hv (own_lowE hvo (by show _ ≤ W0.heap.size; omega)) hL.turn hL.row
        exact AllReadyH.nil
      exact AllReadyH.nil
    exact AllReadyH.nil
  exact AllReadyH.nil
set_option maxRecDepth 100000 in
set_option maxHeartbeats 1000000 in
theorem Epo.ripe_none (h : Epo w x lb n base now P V Q) {a : Nat} (ha : a < n) (hv : V a = .slice none 0 0) (hq0 : Q a = []) :
    Calls Tryz.prog 287 #[.pointer (some ⟨x, 0, none⟩), .int .i64 (a : Int)] w fun e w' => e = .returned (.slice none 0 0) ∧ Epo w' x lb n base now P (upd V a (.slice none 0 0)) (upd Q a []) ∧ Turn (EpoOwn x lb n V) w w' ∧ Kept w w' := by
  have H := Lib.hid (fun o o2 => ((h.alloc o).alloc o2).has_yes ha)
  have h1 := h.alloc (.cells #[.pointer (some ⟨x, 0, none⟩)] 126)
  have h2 := h1.alloc (.cells #[.slice none 0 0] 34)
  have H1 := Lib.hid (h1.has_yes ha)
  have T0 : Turn (fun _ => False) w ((w.alloc (.cells #[.pointer (some ⟨x, 0, none⟩)] 126)).alloc (.cells #[.slice none 0 0] 34)) := ((Turn.refl _ w).alloc _).alloc _
  have b0 : ((w.alloc (.cells #[.pointer (some ⟨x, 0, none⟩)] 126)).alloc (.cells #[.slice none 0 0] 34)).cell? ⟨w.heap.size, 0, none⟩ = some (.pointer (some ⟨x, 0, none⟩)) := past (World.cell?_alloc_new w #[.pointer (some ⟨x, 0, none⟩)] 126 0)
  have b1 : ((w.alloc (.cells #[.pointer (some ⟨x, 0, none⟩)] 126)).alloc (.cells #[.slice none 0 0] 34)).cell? ⟨w.heap.size + 1, 0, none⟩ = some (.slice none 0 0) := World.cell?_alloc2_new ..
  have f1 : ((w.alloc (.cells #[.pointer (some ⟨x, 0, none⟩)] 126)).alloc (.cells #[.slice none 0 0] 34)).frozen? ⟨w.heap.size + 1, 0, none⟩ = false := by
    rw [frozen?_alloc_cells, frozen?_alloc_cells]
    exact fz _ (by omega)
  have hz : ((w.alloc (.cells #[.pointer (some ⟨x, 0, none⟩)] 126)).alloc (.cells #[.slice none 0 0] 34)).heap.size = w.heap.size + 2 := by simp
  have hx := h.bx
  have hl := h.bl
  have hw := h.bw
  have nn := h.nn
  have ne := h.ne
  have FIN : Hid (Epo ((((w.alloc (.cells #[.pointer (some ⟨x, 0, none⟩)] 126)).alloc (.cells #[.slice none 0 0] 34)).drewN 1).setCell ⟨lb, a, none⟩ (.slice none 0 0)) x lb n base now P (upd V a (.slice none 0 0)) (upd Q a []) ∧ Turn (EpoOwn x lb n V) w ((((w.alloc (.cells #[.pointer (some ⟨x, 0, none⟩)] 126)).alloc (.cells #[.slice none 0 0] 34)).drewN 1).setCell ⟨lb, a, none⟩ (.slice none 0 0)) ∧ Kept w ((((w.alloc (.cells #[.pointer (some ⟨x, 0, none⟩)] 126)).alloc (.cells #[.slice none 0 0] 34)).drewN 1).setCell ⟨lb, a, none⟩ (.slice none 0 0))) := Lib.hid (by
    obtain ⟨E1, T2⟩ := h.row ha (((T0.drewN 1).more (S' := fun k => (V a).ownBlock = some k) (fun _ _ e => e.elim))) (q' := []) (World.ownsRow_nil _ _ _ _) (by rw [hv])
    exact ⟨E1, T2, fun b t hb => (hb.turn (T0.drewN 1) (fun f => f)).set _ _⟩)
  have KC := Lib.hid (fun (W : World) (f : Value) => del_nil W none 0 f)
  have cl := h2.cl
  have cv := h2.cv a ha
  have fl := h2.fl a
  rw [hv] at cv
  clear h h1 h2 H
  go_enter Tryz.func287, Tryz.ntmps287
  go_wp2_with fail
  refine H1.out.mono ?_
  rintro e w1 ⟨rfl, rfl⟩
  clear H1
  go_wp2_with fail
  generalize (w.alloc (.cells #[.pointer (some ⟨x, 0, none⟩)] 126)).alloc (.cells #[.slice none 0 0] 34) = W0 at *
  obtain ⟨bx, hbx⟩ : ∃ bb, w.heap.size = bb := ⟨_, rfl⟩
  rw [hbx] at b0 b1 f1 hz hw ⊢
  clear hbx
  have an : ((a : Int)) < (n : Int) := by omega
  have an0 : (0 : Int) ≤ (a : Int) := by omega
  have nlB : lb ≠ bx + 1 := by omega
  have KD := Lib.hid (KC.out W0.drew)
  refine wp_region_held_drew (S := (fun w' => w'.cell? ⟨bx, 0, none⟩ = some (.pointer (some ⟨x, 0, none⟩)) ∧ w'.cell? ⟨x, 17, none⟩ = some (.slice (some ⟨lb, 0, none⟩) n n))) (by kernel_rfl) ?hs0 (fun hS0 => ?_)
  case hs0 => ((try dsimp only); first | (go_keep; done) | (refine ⟨?_, ?_⟩ <;> (go_keep; done)) | exact ⟨(cell_far _ _ _ _ _ _ (by omega)).trans hS15.1, (cell_far _ _ _ _ _ _ (by omega)).trans hS15.2⟩)
  refine wpAnyH_take (i := 0) (oi := { dst := some 10, op := Op.load 126 (Operand.tmp 2), type := 126, pos := "epoch.go:106", after := #[], guard := none }) (v := ?_) rfl (by kernel_rfl) (by kernel_rfl) (by kernel_rfl) (fun _ _ _ h => h) (Or.inl ⟨by rfl, ?hy1⟩) hS0 ?_
  case hy1 => (intro w hSw; (try dsimp only at hSw); go_simp; try with_reducible rfl)
  try simp only [Act.put, List.setIfInBounds_toArray, List.set_cons_zero, List.set_cons_succ]
  refine wpAnyH_take (i := 4) (oi := { dst := some 14, op := Op.move (Operand.tmp 1), type := 3, pos := "epoch.go:106", after := #[], guard := none }) (v := ?_) rfl (by kernel_rfl) (by kernel_rfl) (by kernel_rfl) (fun _ _ _ h => h) (Or.inl ⟨by rfl, ?hy2⟩) hS0 ?_
  case hy2 => (intro w hSw; (try dsimp only at hSw); go_simp; try with_reducible rfl)
  try simp only [Act.put, List.setIfInBounds_toArray, List.set_cons_zero, List.set_cons_succ]
  refine wpAnyH_take (i := 5) (oi := { dst := some 15, op := Op.load 126 (Operand.tmp 2), type := 126, pos := "epoch.go:106", after := #[], guard := none }) (v := ?_) rfl (by kernel_rfl) (by kernel_rfl) (by kernel_rfl) (fun _ _ _ h => h) (Or.inl ⟨by rfl, ?hy3⟩) hS0 ?_
  case hy3 => (intro w hSw; (try dsimp only at hSw); go_simp; try with_reducible rfl)
  try simp only [Act.put, List.setIfInBounds_toArray, List.set_cons_zero, List.set_cons_succ]
  refine wpAnyH_take (i := 9) (oi := { dst := some 19, op := Op.move (Operand.tmp 1), type := 3, pos := "epoch.go:106", after := #[], guard := none }) (v := ?_) rfl (by kernel_rfl) (by kernel_rfl) (by kernel_rfl) (fun _ _ _ h => h) (Or.inl ⟨by rfl, ?hy4⟩) hS0 ?_
  case hy4 => (intro w hSw; (try dsimp only at hSw); go_simp; try with_reducible rfl)
  try simp only [Act.put, List.setIfInBounds_toArray, List.set_cons_zero, List.set_cons_succ]
  refine wpAnyH_take (i := 12) (oi := { dst := some 22, op := Op.makeFunc (Fn.func 292) #[] #[Operand.tmp 2, Operand.tmp 5], type := 396, pos := "epoch.go:106", after := #[], guard := none }) (v := ?_) rfl (by kernel_rfl) (by kernel_rfl) (by kernel_rfl) (fun _ _ _ h => h) (Or.inl ⟨by rfl, ?hy5⟩) hS0 ?_
  case hy5 => (intro w hSw; (try dsimp only at hSw); go_simp; try with_reducible rfl)
  try simp only [Act.put, List.setIfInBounds_toArray, List.set_cons_zero, List.set_cons_succ]
  refine wpAnyH_take (i := 1) (oi := { dst := some 11, op := Op.nilCheck (Operand.tmp 10), type := 0, pos := "epoch.go:106", after := #[{ on := 0, ground := Ground.data }], guard := none }) (v := ?_) rfl (by kernel_rfl) (by kernel_rfl) (by kernel_rfl) (fun _ _ _ h => h) (Or.inl ⟨by rfl, ?hy6⟩) hS0 ?_
  case hy6 => (intro w hSw; (try dsimp only at hSw); go_simp; try with_reducible rfl)
  try simp only [Act.put, List.setIfInBounds_toArray, List.set_cons_zero, List.set_cons_succ]
  refine wpAnyH_take (i := 6) (oi := { dst := some 16, op := Op.nilCheck (Operand.tmp 15), type := 0, pos := "epoch.go:106", after := #[{ on := 5, ground := Ground.data }], guard := none }) (v := ?_) rfl (by kernel_rfl) (by kernel_rfl) (by kernel_rfl) (fun _ _ _ h => h) (Or.inl ⟨by rfl, ?hy7⟩) hS0 ?_
  case hy7 => (intro w hSw; (try dsimp only at hSw); go_simp; try with_reducible rfl)
  try simp only [Act.put, List.setIfInBounds_toArray, List.set_cons_zero, List.set_cons_succ]
  refine wpAnyH_take (i := 2) (oi := { dst := some 12, op := Op.fieldAddr 213 (Operand.tmp 11) 2, type := 0, pos := "epoch.go:106", after := #[{ on := 1, ground := Ground.data }], guard := none }) (v := ?_) rfl (by kernel_rfl) (by kernel_rfl) (by kernel_rfl) (fun _ _ _ h => h) (Or.inl ⟨by rfl, ?hy8⟩) hS0 ?_
  case hy8 => (intro w hSw; (try dsimp only at hSw); go_simp; try with_reducible rfl)
  try simp only [Act.put, List.setIfInBounds_toArray, List.set_cons_zero, List.set_cons_succ]
  refine wpAnyH_take (i := 7) (oi := { dst := some 17, op := Op.fieldAddr 213 (Operand.tmp 16) 2, type := 0, pos := "epoch.go:106", after := #[{ on := 6, ground := Ground.data }], guard := none }) (v := ?_) rfl (by kernel_rfl) (by kernel_rfl) (by kernel_rfl) (fun _ _ _ h => h) (Or.inl ⟨by rfl, ?hy9⟩) hS0 ?_
  case hy9 => (intro w hSw; (try dsimp only at hSw); go_simp; try with_reducible rfl)
  try simp only [Act.put, List.setIfInBounds_toArray, List.set_cons_zero, List.set_cons_succ]
  refine wpAnyH_take (i := 3) (oi := { dst := some 13, op := Op.load 210 (Operand.tmp 12), type := 210, pos := "epoch.go:106", after := #[{ on := 2, ground := Ground.data }], guard := none }) (v := ?_) rfl (by kernel_rfl) (by kernel_rfl) (by kernel_rfl) (fun _ _ _ h => h) (Or.inl ⟨by rfl, ?hy10⟩) hS0 ?_
  case hy10 => (intro w hSw; (try dsimp only at hSw); go_simp; try with_reducible rfl)
  try simp only [Act.put, List.setIfInBounds_toArray, List.set_cons_zero, List.set_cons_succ]
  refine wpAnyH_take (i := 8) (oi := { dst := some 18, op := Op.load 210 (Operand.tmp 17), type := 210, pos := "epoch.go:106", after := #[{ on := 7, ground := Ground.data }], guard := none }) (v := ?_) rfl (by kernel_rfl) (by kernel_rfl) (by kernel_rfl) (fun _ _ _ h => h) (Or.inl ⟨by rfl, ?hy11⟩) hS0 ?_
  case hy11 => (intro w hSw; (try dsimp only at hSw); go_simp; try with_reducible rfl)
  try simp only [Act.put, List.setIfInBounds_toArray, List.set_cons_zero, List.set_cons_succ]
  refine wpAnyH_take (i := 10) (oi := { dst := some 20, op := Op.indexAddr 210 (Operand.tmp 18) (Operand.tmp 19), type := 0, pos := "epoch.go:106", after := #[{ on := 8, ground := Ground.data }, { on := 9, ground := Ground.data }], guard := none }) (v := ?_) rfl (by kernel_rfl) (by kernel_rfl) (by kernel_rfl) (fun _ _ _ h => h) (Or.inl ⟨by rfl, ?hy12⟩) hS0 ?_
  case hy12 => (intro w hSw; (try dsimp only at hSw); go_simp; try with_reducible rfl)
  try simp only [Act.put, List.setIfInBounds_toArray, List.set_cons_zero, List.set_cons_succ]
  refine wpAnyH_ready (rs := [11]) (by kernel_rfl) (by simp) ?_
  refine AllReadyH.cons (o := { dst := some 21, op := Op.load 372 (Operand.tmp 20), type := 372, pos := "epoch.go:106", after := #[{ on := 10, ground := Ground.data }], guard := none }) rfl (fun K hK => ?_) ?_
  · go_simp
    refine hK.out _ _ ?hs13 (fun hS13 => ?_)
    case hs13 => ((try dsimp only); first | (go_keep; done) | (refine ⟨?_, ?_⟩ <;> (go_keep; done)) | exact ⟨(cell_far _ _ _ _ _ _ (by omega)).trans hS15.1, (cell_far _ _ _ _ _ _ (by omega)).trans hS15.2⟩)
    clear hK K hS0
    refine wpAnyH_ready (rs := [13]) (by kernel_rfl) (by simp) ?_
    refine AllReadyH.cons (o := { dst := some 23, op := Op.call { callee := Callee.value (Operand.func 291), args := #[Operand.tmp 21, Operand.tmp 22], argTypes := #[372, 396] }, type := 372, pos := "epoch.go:106", after := #[{ on := 11, ground := Ground.data }, { on := 12, ground := Ground.data }], guard := none }) rfl (fun K hK => ?_) ?_
    · go_simp; with_reducible refine (KD.out _).mono ?_; rintro e w1 ⟨rfl, rfl⟩; go_simp
      refine hK.out _ _ ?hs14 (fun hS14 => ?_)
      case hs14 => ((try dsimp only); first | (go_keep; done) | (refine ⟨?_, ?_⟩ <;> (go_keep; done)) | exact ⟨(cell_far _ _ _ _ _ _ (by omega)).trans hS15.1, (cell_far _ _ _ _ _ _ (by omega)).trans hS15.2⟩)
      clear hK K hS13
      refine wpAnyH_ready (rs := [14]) (by kernel_rfl) (by simp) ?_
      refine AllReadyH.cons (o := { dst := some 24, op := Op.indexAddr 210 (Operand.tmp 13) (Operand.tmp 14), type := 0, pos := "epoch.go:106", after := #[{ on := 3, ground := Ground.data }, { on := 4, ground := Ground.data }, { on := 0, ground := Ground.phase }, { on := 1, ground := Ground.phase }, { on := 2, ground := Ground.phase }, { on := 3, ground := Ground.phase }, { on := 4, ground := Ground.phase }, { on := 5, ground := Ground.phase }, { on := 6, ground := Ground.phase }, { on := 7, ground := Ground.phase }, { on := 8, ground := Ground.phase }, { on := 9, ground := Ground.phase }, { on := 10, ground := Ground.phase }, { on := 11, ground := Ground.phase }, { on := 12, ground := Ground.phase }, { on := 13, ground := Ground.phase }], guard := none }) rfl (fun K hK => ?_) ?_
      · go_simp
        refine hK.out _ _ ?hs15 (fun hS15 => ?_)
        case hs15 => ((try dsimp only); first | (go_keep; done) | (refine ⟨?_, ?_⟩ <;> (go_keep; done)) | exact ⟨(cell_far _ _ _ _ _ _ (by omega)).trans hS15.1, (cell_far _ _ _ _ _ _ (by omega)).trans hS15.2⟩)
        clear hK K hS14
        refine wpAnyH_ready (rs := [15]) (by kernel_rfl) (by simp) ?_
        refine AllReadyH.cons (o := { dst := none, op := Op.store 372 (Operand.tmp 24) (Operand.tmp 23), type := 0, pos := "epoch.go:106", after := #[{ on := 14, ground := Ground.data }, { on := 13, ground := Ground.data }, { on := 13, ground := Ground.chain }, { on := 0, ground := Ground.phase }, { on := 1, ground := Ground.phase }, { on := 2, ground := Ground.phase }, { on := 3, ground := Ground.phase }, { on := 4, ground := Ground.phase }, { on := 5, ground := Ground.phase }, { on := 6, ground := Ground.phase }, { on := 7, ground := Ground.phase }, { on := 8, ground := Ground.phase }, { on := 9, ground := Ground.phase }, { on := 10, ground := Ground.phase }, { on := 11, ground := Ground.phase }, { on := 12, ground := Ground.phase }, { on := 13, ground := Ground.phase }], guard := none }) rfl (fun K hK => ?_) ?_
        · go_simp
          refine hK.out _ _ ?hs16 (fun hS16 => ?_)
          case hs16 => ((try dsimp only); first | (go_keep; done) | (refine ⟨?_, ?_⟩ <;> (go_keep; done)) | exact ⟨(cell_far _ _ _ _ _ _ (by omega)).trans hS15.1, (cell_far _ _ _ _ _ _ (by omega)).trans hS15.2⟩)
          clear hK K hS15
          refine wpAnyH_done (by kernel_rfl) ?_ _
          have cB : (W0.drew.setCell ⟨lb, a, none⟩ (.slice none 0 0)).cell? ⟨bx + 1, 0, none⟩ = some (.slice none 0 0) := (cell_far _ _ _ _ _ _ nlB).trans b1
          go_wp2
          go_ret
          exact ⟨rfl, FIN.out⟩
        exact AllReadyH.nil
      exact AllReadyH.nil
    exact AllReadyH.nil
  exact AllReadyH.nil
end
end Go.Proofs.YtgfobgabdafclaaGreat
