/-
  The document's own log, in memory: a stamp is taken.
-/
import Derived.Test.YteokdibfdahabaaRf4
namespace Go.Proofs.Yteokdibfdahabaa
open Go.ChangeShapes Go.WideShapes Go.ChangeAt Go.RowKit
set_option linter.unusedVariables false
theorem fresh_one (b n : Nat) : ∀ u ∈ (DC.fresh b).cells n, u.oneCell' = true := by
  have : ((DC.fresh b).cells n).all (fun u => u.oneCell') = true := rfl
  exact List.all_eq_true.1 this
section
variable {w w' : World} {R : RB} {c : Cf} {s : LSt}
/-- What is known while a stamp is taken. -/
theorem RefAt.take_mem (W : World) (h : RefAt w R c s) (hn : NoTail c s) (hsh : c.sh ≤ 15) (hb : s.tail ≤ 900) (T : Turn (fun _ => False) w W) :
    ∃ ad cp w1, (∀ w, (Instr.makeSlice 74 (.int .i64 (c.sh : Int)) (.int .i64 (c.sh : Int))).run Try.prog w = .ok (.slice (some ⟨w.heap.size, 0, none⟩) c.sh c.sh) (w.alloc (.cells (madeCells z62 (c.sh * 4)) 62))) ∧
      (Builtin.append_ #[99, 99] 99 #[R.v, .slice (some ⟨W.heap.size + 1, 0, none⟩) 1 1]).run Try.prog ((W.drew.alloc (.cells (madeCells z62 (c.sh * 4)) 62)).alloc (.cells #[.bool false, .bool false, .int .i64 0, .int .i64 0, .int .i64 0, .int .i64 0, .int .i64 0, .int .i64 0, .int .i64 0, .int .i64 0, .int .i64 0, .int .i64 0, .int .i64 0, .slice none 0 0, .int .i64 0, .bool false, .slice (some ⟨W.heap.size, 0, none⟩) c.sh c.sh, .int .i64 0, .int .i64 0, .slice none 0 0] 126)) = .ok (.slice ad (s.tail + 1) cp) w1 ∧
      W.drew.cell? ⟨R.r, 0, none⟩ = some (.int .i64 (c.sh : Int)) ∧
      (W.drew.alloc (.cells (madeCells z62 (c.sh * 4)) 62)).cell? ⟨R.r, 0, none⟩ = some (.int .i64 (c.sh : Int)) ∧
      ((W.drew.alloc (.cells (madeCells z62 (c.sh * 4)) 62)).alloc (.cells #[.bool false, .bool false, .int .i64 0, .int .i64 0, .int .i64 0, .int .i64 0, .int .i64 0, .int .i64 0, .int .i64 0, .int .i64 0, .int .i64 0, .int .i64 0, .int .i64 0, .slice none 0 0, .int .i64 0, .bool false, .slice (some ⟨W.heap.size, 0, none⟩) c.sh c.sh, .int .i64 0, .int .i64 0, .slice none 0 0] 126)).cell? ⟨R.r, 0, none⟩ = some (.int .i64 (c.sh : Int)) ∧
      w1.cell? ⟨R.r, 0, none⟩ = some (.int .i64 (c.sh : Int)) ∧ (w1.setCell ⟨R.r, 7, none⟩ (.slice ad (s.tail + 1) cp)).cell? ⟨R.r, 0, none⟩ = some (.int .i64 (c.sh : Int)) ∧
      W.cell? ⟨R.r, 7, none⟩ = some R.v ∧
      (W.drew.alloc (.cells (madeCells z62 (c.sh * 4)) 62)).cell? ⟨R.r, 7, none⟩ = some R.v ∧
      ((W.drew.alloc (.cells (madeCells z62 (c.sh * 4)) 62)).alloc (.cells #[.bool false, .bool false, .int .i64 0, .int .i64 0, .int .i64 0, .int .i64 0, .int .i64 0, .int .i64 0, .int .i64 0, .int .i64 0, .int .i64 0, .int .i64 0, .int .i64 0, .slice none 0 0, .int .i64 0, .bool false, .slice (some ⟨W.heap.size, 0, none⟩) c.sh c.sh, .int .i64 0, .int .i64 0, .slice none 0 0] 126)).cell? ⟨R.r, 7, none⟩ = some R.v ∧
      w1.cell? ⟨R.r, 7, none⟩ = some R.v ∧ (w1.setCell ⟨R.r, 7, none⟩ (.slice ad (s.tail + 1) cp)).cell? ⟨R.r, 8, none⟩ = some (.bool s.closed) ∧ (∀ i, w1.frozen? ⟨R.r, i, none⟩ = false) ∧ (∀ i, (w1.setCell ⟨R.r, 7, none⟩ (.slice ad (s.tail + 1) cp)).frozen? ⟨R.r, i, none⟩ = false) ∧
      ∀ cl : Bool, ∃ R' : RB, R'.base = R.base ∧ R'.r = R.r ∧ RefAt ((w1.setCell ⟨R.r, 7, none⟩ (.slice ad (s.tail + 1) cp)).setCell ⟨R.r, 8, none⟩ (.bool (s.closed || cl))) R' c { s with tail := s.tail + 1, closed := s.closed || cl } ∧ Turn (RS R.base w) w ((w1.setCell ⟨R.r, 7, none⟩ (.slice ad (s.tail + 1) cp)).setCell ⟨R.r, 8, none⟩ (.bool (s.closed || cl))) := by
  have TD : Turn (fun _ => False) W W.drew := (Turn.refl _ W).drewN 1
  have hD := h.keep (T.trans TD)
  obtain ⟨WM, hWM⟩ : ∃ WM, WM = W.drew.alloc (.cells (madeCells z62 (c.sh * 4)) 62) := ⟨_, rfl⟩
  have TM : Turn (fun _ => False) W.drew WM := by rw [hWM]; exact (Turn.refl _ _).alloc _
  have BM : Blk WM W.heap.size 62 := by
    rw [hWM]
    have := Blk.new W.drew (madeCells z62 (c.sh * 4)).toList 62
    rw [Array.toArray_toList] at this
    exact this
  have RM : ∀ k, k < c.sh → WM.rangeAt W.heap.size (k * 4) [.slice none 0 0, .slice none 0 0, .slice none 0 0, .slice none 0 0] := fun k hk j u hu => by
    have h0 := range_new W.drew (madeCells z62 (c.sh * 4)).toList 62
    rw [Array.toArray_toList, ← hWM] at h0
    have hj : j < 4 := (List.getElem?_eq_some_iff.1 hu).1
    have := h0 (k * 4 + j) (z62[j]!) (by rw [Array.getElem?_toList]; exact made62 c.sh k j hk hj)
    rw [Nat.zero_add] at this
    rw [show W.heap.size = W.drew.heap.size from rfl, this]
    have hj' : j = 0 ∨ j = 1 ∨ j = 2 ∨ j = 3 := by omega
    rcases hj' with rfl | rfl | rfl | rfl <;> exact hu
  have SM : WM.heap.size = W.heap.size + 1 := by rw [hWM, World.size_alloc]; rfl
  rw [← hWM]
  obtain ⟨WB, hWB⟩ : ∃ WB, WB = WM.alloc (.cells ((DC.fresh W.heap.size).cells c.sh).toArray 126) := ⟨_, rfl⟩
  have TB : Turn (fun _ => False) WM WB := by rw [hWB]; exact (Turn.refl _ _).alloc _
  have RBn : WB.rangeAt (W.heap.size + 1) 0 ((DC.fresh W.heap.size).cells c.sh) := by
    rw [hWB, ← SM]
    exact range_new WM _ 126
  have SB : WB.heap.size = W.heap.size + 2 := by rw [hWB, World.size_alloc, SM]
  have eWB : WM.alloc (.cells #[.bool false, .bool false, .int .i64 0, .int .i64 0, .int .i64 0, .int .i64 0, .int .i64 0, .int .i64 0, .int .i64 0, .int .i64 0, .int .i64 0, .int .i64 0, .int .i64 0, .slice none 0 0, .int .i64 0, .bool false, .slice (some ⟨W.heap.size, 0, none⟩) c.sh c.sh, .int .i64 0, .int .i64 0, .slice none 0 0] 126) = WB := hWB.symm
  rw [eWB]
  clear hWM hWB eWB
  have T3 := T.trans (TD.trans (TM.trans TB))
  have hB := h.keep T3
  have hbase : R.base ≤ w.heap.size := by have := h.b1; have := h.br.lt; omega
  obtain ⟨i3, j1, j2, j3, j4⟩ := info_parts info126
  obtain ⟨v', w1, hr, ho, hg, _, ha⟩ := run_append_own_at (P := Try.prog) WB R.base 99 99 126 i3 _ 20 200 Try.underlying99 j1 j2 j3 j4 rfl (by decide) R.v s.tail _ hB.own ⟨W.heap.size + 1, 0, none⟩ 1 1 ((DC.fresh W.heap.size).cells c.sh) rfl (fun j u hu => by
    rw [Go.WideShapes.add_plain, Nat.zero_add]
    have := RBn j u hu
    rw [Nat.zero_add] at this
    exact this) (fresh_one W.heap.size c.sh) (by unfold maxLen; omega) (by omega) (by have := T3.size; omega)
  have T1 : Turn (fun b => R.v.ownBlock = some b) WB w1 := (Turn.refl _ WB).grown hg (fun k hk => .inl hk)
  have n126 : ∀ b (u : TypeId), Blk WB b u → u ≠ 126 → ¬ (R.v.ownBlock = some b) := fun b u hb hu e => (hb.ne (own_blk hB.own e) hu) rfl
  have nr := n126 _ _ hB.br (by decide)
  have hM := hD.keep TM
  have BB := BM.turn TB (fun f => f)
  have nb := n126 _ _ BB (by decide)
  have fr1 := (hB.br.turn T1 nr).fz
  have ho2 : w1.ownsRow R.base 126 20 v' (s.tail + 1) (flat (fun k => (upd R.D s.tail (DC.fresh W.heap.size) k).cells c.sh) (s.tail + 1)) := by
    have e : flat (fun k => (upd R.D s.tail (DC.fresh W.heap.size) k).cells c.sh) (s.tail + 1) = flat (fun k => (R.D k).cells c.sh) s.tail ++ (DC.fresh W.heap.size).cells c.sh := by
      rw [show ∀ G : Nat → List Value, flat G (s.tail + 1) = flat G s.tail ++ G s.tail from fun _ => rfl]
      rw [upd_at, flat_congr (g := fun k => (upd R.D s.tail (DC.fresh W.heap.size) k).cells c.sh) (g' := fun k => (R.D k).cells c.sh) (fun i hi => by rw [upd_off _ _ (by omega)])]
    rw [e]
    exact ho
  obtain ⟨ad, cp, rfl, _⟩ := own_slice ho2
  have hh := h.keep T
  have TF : Turn (fun _ => False) W WB := TD.trans (TM.trans TB)
  have TW1 : Turn (fun b => R.v.ownBlock = some b) W w1 := (TF.more (S' := fun b => R.v.ownBlock = some b) (fun _ _ f => f.elim)).trans T1
  have E2 := hh.more hn (ob := W.heap.size) TW1 ho2 (BB.turn T1 nb) (Nat.le_refl _) (Nat.le_trans hbase T.size) (fun k hk => range_turn (range_turn (RM k hk) TB (fun f => f)) T1 nb)
  have rw0 : ∀ b, R.v.ownBlock = some b → RS R.base w b ∨ w.heap.size ≤ b := fun b hb => by
    by_cases e : b < w.heap.size
    · exact .inl ⟨(h.own.lt b hb).1, .inr (.inr (.inl (own_blk h.own hb)))⟩
    · exact .inr (by omega)
  have TT : Turn (RS R.base w) w (w1.setCell ⟨R.r, 7, none⟩ (.slice ad (s.tail + 1) cp)) := by
    have a1 : Turn (RS R.base w) w w1 := (T.more (S' := RS R.base w) (fun _ _ f => f.elim)).comp TW1 (fun i hi e => ?_)
    · exact a1.setCell (p := ⟨R.r, 7, none⟩) (.inl h.sr) _
    · rcases rw0 i e with q | q
      · exact q
      · omega
  refine ⟨ad, cp, w1, make62 (by omega), hr, hD.k0, hM.k0, hB.k0, T1.cell nr hB.k0, ?_, hh.k7, hM.k7, hB.k7, T1.cell nr hB.k7, ?_, fr1, E2.br.fz, fun cl => ⟨{ R with v := .slice ad (s.tail + 1) cp, D := upd R.D s.tail (DC.fresh W.heap.size) }, rfl, rfl, E2.put_closed _, TT.setCell (p := ⟨R.r, 8, none⟩) (.inl h.sr) _⟩⟩
  · rw [cell_off _ _ _ _ _ (by decide)]
    exact T1.cell nr hB.k0
  · rw [cell_off _ _ _ _ _ (by decide)]
    exact T1.cell nr hB.k8
set_option maxRecDepth 100000 in
set_option maxHeartbeats 4000000 in
theorem RefAt.take_yes (h : RefAt w R c s) (hn : NoTail c s) (hsh : c.sh ≤ 15) (hlt : s.low ≤ s.tail) {t : Int} {cl : Bool} (ht : MayTake c s t cl) (hb : s.tail ≤ 900) :
    Calls Try.prog 39 #[.pointer (some ⟨R.r, 0, none⟩), .int .i64 t, .bool cl] w fun e w' => e = .returned (.bool true) ∧ ∃ R' : RB, R'.base = R.base ∧ R'.r = R.r ∧ RefAt w' R' c { s with tail := s.tail + 1, closed := s.closed || cl } ∧ Turn (RS R.base w) w w' := by
  obtain ⟨rfl, h1, h2, h3⟩ := ht
  have k1 := h.k1
  have k6 := h.k6
  have k7 := h.k7
  have k8 := h.k8
  have k9 := h.k9
  obtain ⟨a, cap, hv, _⟩ := own_slice h.own
  rw [hv] at k7
  have e0 : ((s.tail : Int) != (s.tail : Int)) = false := by simp
  have e1 : ((s.tail : Int) == c.st) = false := by simp; omega
  have e2 : wrap64 ((s.tail : Int) - (s.low : Int)) = (s.tail : Int) - (s.low : Int) := by unfold wrap64; omega
  have e3 : decide ((c.ib : Int) ≤ (s.tail : Int) - (s.low : Int)) = false := by simp; omega
  have e5 : (cl && s.closed) = false := by cases cl <;> simp_all
  have K := Lib.hid (And.intro h (And.intro hn (And.intro hsh hb)))
  have HV := Lib.hid hv
  have MID := Lib.hid (fun W => RefAt.take_mem (w := w) (R := R) (c := c) (s := s) W)
  clear h hn h1 h2 hlt hb hsh hv
  cases cl with
  | true =>
    have e6 : s.closed = false := by simpa using e5
    have CD := Lib.hid e6
    rw [e6] at k8
    clear e5 e6 h3
    go_enter Try.func39, Try.ntmps39
    go_wp2_with fail
    go_quiet (fail)
    go_upto_region 4 with fail
    have TW : Turn (fun _ => False) w (w.drewN nq) := (Turn.refl _ w).drewN _
    generalize w.drewN nq = W at *
    obtain ⟨h, hn, hsh, hb⟩ := K.out
    have KK := Lib.hid (MID.out W h hn hsh hb TW)
    clear h hn hsh hb k1 k6 k7 k9 k8 TW
    obtain ⟨ad, cp, w1, MK, RUN, x0, x0m, x0b, x01, x02, y7, y7m, y7b, z7, z8, fr, fr2, FIN⟩ := KK.out
    clear KK
    rw [HV.out] at y7 y7m y7b RUN z7
    have y7m : (W.alloc (.cells (madeCells z62 (c.sh * 4)) 62)).cell? ⟨R.r, 7, none⟩ = some (.slice a s.tail cap) := y7m
    have y7b : ((W.alloc (.cells (madeCells z62 (c.sh * 4)) 62)).alloc (.cells #[.bool false, .bool false, .int .i64 0, .int .i64 0, .int .i64 0, .int .i64 0, .int .i64 0, .int .i64 0, .int .i64 0, .int .i64 0, .int .i64 0, .int .i64 0, .int .i64 0, .slice none 0 0, .int .i64 0, .bool false, .slice (some ⟨W.heap.size, 0, none⟩) c.sh c.sh, .int .i64 0, .int .i64 0, .slice none 0 0] 126)).cell? ⟨R.r, 7, none⟩ = some (.slice a s.tail cap) := y7b
    have fr7 := fr 7
    have fr8 := fr2 8
    rw [CD.out] at z8
    have RUN := Lib.hid RUN
    have FIN := Lib.hid (FIN true)
    refine wp_region_held_drew (S := (fun w' => w'.cell? ⟨R.r, 0, none⟩ = some (.int .i64 (c.sh : Int)))) (by kernel_rfl) ?hs0 (fun hS0 => ?_)
    case hs0 => ((try dsimp only); first | with_reducible exact x0 | with_reducible exact x0m | with_reducible exact x0b | with_reducible exact x01 | with_reducible exact x02 | exact x0 | exact x0m | exact x0b | exact x01 | exact x02)
    refine wpAnyH_take (i := 0) (oi := { dst := some 48, op := Op.move (Operand.tmp 0), type := 30, pos := "ref.go:49", after := #[], guard := none }) (v := ?_) rfl (by kernel_rfl) (by kernel_rfl) (by kernel_rfl) (fun _ _ _ h => h) (Or.inl ⟨by rfl, ?hy1⟩) hS0 ?_
    case hy1 => (intro w hSw; (try dsimp only at hSw); go_simp; try with_reducible rfl)
    try simp only [Act.put, List.setIfInBounds_toArray, List.set_cons_zero, List.set_cons_succ]
    refine wpAnyH_take (i := 1) (oi := { dst := some 49, op := Op.move (Operand.tmp 0), type := 30, pos := "ref.go:49", after := #[], guard := none }) (v := ?_) rfl (by kernel_rfl) (by kernel_rfl) (by kernel_rfl) (fun _ _ _ h => h) (Or.inl ⟨by rfl, ?hy2⟩) hS0 ?_
    case hy2 => (intro w hSw; (try dsimp only at hSw); go_simp; try with_reducible rfl)
    try simp only [Act.put, List.setIfInBounds_toArray, List.set_cons_zero, List.set_cons_succ]
    refine wpAnyH_take (i := 2) (oi := { dst := some 50, op := Op.nilCheck (Operand.tmp 49), type := 0, pos := "ref.go:49", after := #[{ on := 1, ground := Ground.data }], guard := none }) (v := ?_) rfl (by kernel_rfl) (by kernel_rfl) (by kernel_rfl) (fun _ _ _ h => h) (Or.inl ⟨by rfl, ?hy3⟩) hS0 ?_
    case hy3 => (intro w hSw; (try dsimp only at hSw); go_simp; try with_reducible rfl)
    try simp only [Act.put, List.setIfInBounds_toArray, List.set_cons_zero, List.set_cons_succ]
    refine wpAnyH_take (i := 3) (oi := { dst := some 51, op := Op.fieldAddr 101 (Operand.tmp 50) 1, type := 0, pos := "ref.go:49", after := #[{ on := 2, ground := Ground.data }], guard := none }) (v := ?_) rfl (by kernel_rfl) (by kernel_rfl) (by kernel_rfl) (fun _ _ _ h => h) (Or.inl ⟨by rfl, ?hy4⟩) hS0 ?_
    case hy4 => (intro w hSw; (try dsimp only at hSw); go_simp; try with_reducible rfl)
    try simp only [Act.put, List.setIfInBounds_toArray, List.set_cons_zero, List.set_cons_succ]
    refine wpAnyH_take (i := 5) (oi := { dst := some 53, op := Op.move (Operand.tmp 0), type := 30, pos := "ref.go:49", after := #[], guard := none }) (v := ?_) rfl (by kernel_rfl) (by kernel_rfl) (by kernel_rfl) (fun _ _ _ h => h) (Or.inl ⟨by rfl, ?hy5⟩) hS0 ?_
    case hy5 => (intro w hSw; (try dsimp only at hSw); go_simp; try with_reducible rfl)
    try simp only [Act.put, List.setIfInBounds_toArray, List.set_cons_zero, List.set_cons_succ]
    refine wpAnyH_take (i := 6) (oi := { dst := some 54, op := Op.nilCheck (Operand.tmp 53), type := 0, pos := "ref.go:49", after := #[{ on := 5, ground := Ground.data }], guard := none }) (v := ?_) rfl (by kernel_rfl) (by kernel_rfl) (by kernel_rfl) (fun _ _ _ h => h) (Or.inl ⟨by rfl, ?hy6⟩) hS0 ?_
    case hy6 => (intro w hSw; (try dsimp only at hSw); go_simp; try with_reducible rfl)
    try simp only [Act.put, List.setIfInBounds_toArray, List.set_cons_zero, List.set_cons_succ]
    refine wpAnyH_take (i := 7) (oi := { dst := some 55, op := Op.fieldAddr 101 (Operand.tmp 54) 0, type := 0, pos := "ref.go:49", after := #[{ on := 6, ground := Ground.data }], guard := none }) (v := ?_) rfl (by kernel_rfl) (by kernel_rfl) (by kernel_rfl) (fun _ _ _ h => h) (Or.inl ⟨by rfl, ?hy7⟩) hS0 ?_
    case hy7 => (intro w hSw; (try dsimp only at hSw); go_simp; try with_reducible rfl)
    try simp only [Act.put, List.setIfInBounds_toArray, List.set_cons_zero, List.set_cons_succ]
    refine wpAnyH_take (i := 8) (oi := { dst := some 56, op := Op.fieldAddr 28 (Operand.tmp 55) 0, type := 0, pos := "ref.go:49", after := #[{ on := 7, ground := Ground.data }], guard := none }) (v := ?_) rfl (by kernel_rfl) (by kernel_rfl) (by kernel_rfl) (fun _ _ _ h => h) (Or.inl ⟨by rfl, ?hy8⟩) hS0 ?_
    case hy8 => (intro w hSw; (try dsimp only at hSw); go_simp; try with_reducible rfl)
    try simp only [Act.put, List.setIfInBounds_toArray, List.set_cons_zero, List.set_cons_succ]
    refine wpAnyH_take (i := 9) (oi := { dst := some 57, op := Op.load 3 (Operand.tmp 56), type := 3, pos := "ref.go:49", after := #[{ on := 8, ground := Ground.data }], guard := none }) (v := ?_) rfl (by kernel_rfl) (by kernel_rfl) (by kernel_rfl) (fun _ _ _ h => h) (Or.inl ⟨by rfl, ?hy9⟩) hS0 ?_
    case hy9 => (intro w hSw; (try dsimp only at hSw); go_simp; try with_reducible rfl)
    try simp only [Act.put, List.setIfInBounds_toArray, List.set_cons_zero, List.set_cons_succ]
    refine wpAnyH_ready (rs := [4, 10]) (by kernel_rfl) (by simp) ?_
    refine AllReadyH.cons (o := { dst := some 52, op := Op.load 99 (Operand.tmp 51), type := 99, pos := "ref.go:49", after := #[{ on := 3, ground := Ground.data }], guard := none }) rfl (fun K hK => ?_) ?_
    · go_simp
      refine hK.out _ _ ?hs10 (fun hS10 => ?_)
      case hs10 => ((try dsimp only); first | with_reducible exact x0 | with_reducible exact x0m | with_reducible exact x0b | with_reducible exact x01 | with_reducible exact x02 | exact x0 | exact x0m | exact x0b | exact x01 | exact x02)
      clear hK K hS0
      refine wpAnyH_ready (rs := [10]) (by kernel_rfl) (by simp) ?_
      refine AllReadyH.cons (o := { dst := some 58, op := Op.makeSlice 74 (Operand.tmp 57) (Operand.tmp 57), type := 74, pos := "ref.go:49", after := #[{ on := 9, ground := Ground.data }, { on := 9, ground := Ground.data }], guard := none }) rfl (fun K hK => ?_) ?_
      · go_simp
        refine hK.out _ _ ?hs11 (fun hS11 => ?_)
        case hs11 => ((try dsimp only); first | with_reducible exact x0 | with_reducible exact x0m | with_reducible exact x0b | with_reducible exact x01 | with_reducible exact x02 | exact x0 | exact x0m | exact x0b | exact x01 | exact x02)
        clear hK K hS10
        refine wpAnyH_take (i := 11) (oi := { dst := some 59, op := Op.build 126 #[(3, Operand.tmp 58)], type := 126, pos := "ref.go:49", after := #[{ on := 10, ground := Ground.data }], guard := none }) (v := ?_) rfl (by kernel_rfl) (by kernel_rfl) (by kernel_rfl) (fun _ _ _ h => h) (Or.inl ⟨by rfl, ?hy12⟩) hS11 ?_
        case hy12 => (intro w hSw; (try dsimp only at hSw); go_simp; try with_reducible rfl)
        try simp only [Act.put, List.setIfInBounds_toArray, List.set_cons_zero, List.set_cons_succ]
        refine wpAnyH_ready (rs := [12]) (by kernel_rfl) (by simp) ?_
        refine AllReadyH.cons (o := { dst := some 60, op := Op.buildSlice 99 1 #[(0, Operand.tmp 59)], type := 99, pos := "ref.go:49", after := #[{ on := 11, ground := Ground.data }], guard := none }) rfl (fun K hK => ?_) ?_
        · go_simp
          refine hK.out _ _ ?hs13 (fun hS13 => ?_)
          case hs13 => ((try dsimp only); first | with_reducible exact x0 | with_reducible exact x0m | with_reducible exact x0b | with_reducible exact x01 | with_reducible exact x02 | exact x0 | exact x0m | exact x0b | exact x01 | exact x02)
          clear hK K hS11
          refine wpAnyH_ready (rs := [13]) (by kernel_rfl) (by simp) ?_
          refine AllReadyH.cons (o := { dst := some 61, op := Op.call { callee := Callee.builtin Builtin.append, args := #[Operand.tmp 52, Operand.tmp 60], argTypes := #[99, 99] }, type := 99, pos := "ref.go:49", after := #[{ on := 4, ground := Ground.data }, { on := 12, ground := Ground.data }], guard := none }) rfl (fun K hK => ?_) ?_
          · refine rs_append_run (by rfl) _ _ _ (by rfl) (by rfl) (by rfl) RUN.out ?_
            refine hK.out _ _ ?hs14 (fun hS14 => ?_)
            case hs14 => ((try dsimp only); first | with_reducible exact x0 | with_reducible exact x0m | with_reducible exact x0b | with_reducible exact x01 | with_reducible exact x02 | exact x0 | exact x0m | exact x0b | exact x01 | exact x02)
            clear hK K hS13
            refine wpAnyH_take (i := 14) (oi := { dst := some 62, op := Op.nilCheck (Operand.tmp 48), type := 0, pos := "ref.go:49", after := #[{ on := 0, ground := Ground.data }, { on := 0, ground := Ground.phase }, { on := 1, ground := Ground.phase }, { on := 2, ground := Ground.phase }, { on := 3, ground := Ground.phase }, { on := 4, ground := Ground.phase }, { on := 5, ground := Ground.phase }, { on := 6, ground := Ground.phase }, { on := 7, ground := Ground.phase }, { on := 8, ground := Ground.phase }, { on := 9, ground := Ground.phase }, { on := 10, ground := Ground.phase }, { on := 11, ground := Ground.phase }, { on := 12, ground := Ground.phase }, { on := 13, ground := Ground.phase }], guard := none }) (v := ?_) rfl (by kernel_rfl) (by kernel_rfl) (by kernel_rfl) (fun _ _ _ h => h) (Or.inl ⟨by rfl, ?hy15⟩) hS14 ?_
            case hy15 => (intro w hSw; (try dsimp only at hSw); go_simp; try with_reducible rfl)
            try simp only [Act.put, List.setIfInBounds_toArray, List.set_cons_zero, List.set_cons_succ]
            refine wpAnyH_take (i := 15) (oi := { dst := some 63, op := Op.fieldAddr 101 (Operand.tmp 62) 1, type := 0, pos := "ref.go:49", after := #[{ on := 14, ground := Ground.data }, { on := 0, ground := Ground.phase }, { on := 1, ground := Ground.phase }, { on := 2, ground := Ground.phase }, { on := 3, ground := Ground.phase }, { on := 4, ground := Ground.phase }, { on := 5, ground := Ground.phase }, { on := 6, ground := Ground.phase }, { on := 7, ground := Ground.phase }, { on := 8, ground := Ground.phase }, { on := 9, ground := Ground.phase }, { on := 10, ground := Ground.phase }, { on := 11, ground := Ground.phase }, { on := 12, ground := Ground.phase }, { on := 13, ground := Ground.phase }], guard := none }) (v := ?_) rfl (by kernel_rfl) (by kernel_rfl) (by kernel_rfl) (fun _ _ _ h => h) (Or.inl ⟨by rfl, ?hy16⟩) hS14 ?_
            case hy16 => (intro w hSw; (try dsimp only at hSw); go_simp; try with_reducible rfl)
            try simp only [Act.put, List.setIfInBounds_toArray, List.set_cons_zero, List.set_cons_succ]
            refine wpAnyH_ready (rs := [16]) (by kernel_rfl) (by simp) ?_
            refine AllReadyH.cons (o := { dst := none, op := Op.store 99 (Operand.tmp 63) (Operand.tmp 61), type := 0, pos := "ref.go:49", after := #[{ on := 15, ground := Ground.data }, { on := 13, ground := Ground.data }, { on := 13, ground := Ground.chain }, { on := 0, ground := Ground.phase }, { on := 1, ground := Ground.phase }, { on := 2, ground := Ground.phase }, { on := 3, ground := Ground.phase }, { on := 4, ground := Ground.phase }, { on := 5, ground := Ground.phase }, { on := 6, ground := Ground.phase }, { on := 7, ground := Ground.phase }, { on := 8, ground := Ground.phase }, { on := 9, ground := Ground.phase }, { on := 10, ground := Ground.phase }, { on := 11, ground := Ground.phase }, { on := 12, ground := Ground.phase }, { on := 13, ground := Ground.phase }], guard := none }) rfl (fun K hK => ?_) ?_
            · go_simp
              refine hK.out _ _ ?hs17 (fun hS17 => ?_)
              case hs17 => ((try dsimp only); first | with_reducible exact x0 | with_reducible exact x0m | with_reducible exact x0b | with_reducible exact x01 | with_reducible exact x02 | exact x0 | exact x0m | exact x0b | exact x01 | exact x02)
              clear hK K hS14
              refine wpAnyH_done (by kernel_rfl) ?_ _
              generalize w1.setCell ⟨R.r, 7, none⟩ (Value.slice ad (s.tail + 1) cp) = w2 at *
              go_wp2_with fail
              go_ret
              refine ⟨rfl, ?_⟩
              have F := FIN.out
              rw [CD.out] at F ⊢
              exact F
            exact AllReadyH.nil
          exact AllReadyH.nil
        exact AllReadyH.nil
      exact AllReadyH.nil
    refine AllReadyH.cons (o := { dst := some 58, op := Op.makeSlice 74 (Operand.tmp 57) (Operand.tmp 57), type := 74, pos := "ref.go:49", after := #[{ on := 9, ground := Ground.data }, { on := 9, ground := Ground.data }], guard := none }) rfl (fun K hK => ?_) ?_
    · go_simp
      refine hK.out _ _ ?hs18 (fun hS18 => ?_)
      case hs18 => ((try dsimp only); first | with_reducible exact x0 | with_reducible exact x0m | with_reducible exact x0b | with_reducible exact x01 | with_reducible exact x02 | exact x0 | exact x0m | exact x0b | exact x01 | exact x02)
      clear hK K hS0
      refine wpAnyH_take (i := 11) (oi := { dst := some 59, op := Op.build 126 #[(3, Operand.tmp 58)], type := 126, pos := "ref.go:49", after := #[{ on := 10, ground := Ground.data }], guard := none }) (v := ?_) rfl (by kernel_rfl) (by kernel_rfl) (by kernel_rfl) (fun _ _ _ h => h) (Or.inl ⟨by rfl, ?hy19⟩) hS18 ?_
      case hy19 => (intro w hSw; (try dsimp only at hSw); go_simp; try with_reducible rfl)
      try simp only [Act.put, List.setIfInBounds_toArray, List.set_cons_zero, List.set_cons_succ]
      refine wpAnyH_ready (rs := [4, 12]) (by kernel_rfl) (by simp) ?_
      refine AllReadyH.cons (o := { dst := some 52, op := Op.load 99 (Operand.tmp 51), type := 99, pos := "ref.go:49", after := #[{ on := 3, ground := Ground.data }], guard := none }) rfl (fun K hK => ?_) ?_
      · go_simp
        refine hK.out _ _ ?hs20 (fun hS20 => ?_)
        case hs20 => ((try dsimp only); first | with_reducible exact x0 | with_reducible exact x0m | with_reducible exact x0b | with_reducible exact x01 | with_reducible exact x02 | exact x0 | exact x0m | exact x0b | exact x01 | exact x02)
        clear hK K hS18
        refine wpAnyH_ready (rs := [12]) (by kernel_rfl) (by simp) ?_
        refine AllReadyH.cons (o := { dst := some 60, op := Op.buildSlice 99 1 #[(0, Operand.tmp 59)], type := 99, pos := "ref.go:49", after := #[{ on := 11, ground := Ground.data }], guard := none }) rfl (fun K hK => ?_) ?_
        · go_simp
          refine hK.out _ _ ?hs21 (fun hS21 => ?_)
          case hs21 => ((try dsimp only); first | with_reducible exact x0 | with_reducible exact x0m | with_reducible exact x0b | with_reducible exact x01 | with_reducible exact x02 | exact x0 | exact x0m | exact x0b | exact x01 | exact x02)
          clear hK K hS20
          refine wpAnyH_ready (rs := [13]) (by kernel_rfl) (by simp) ?_
          refine AllReadyH.cons (o := { dst := some 61, op := Op.call { callee := Callee.builtin Builtin.append, args := #[Operand.tmp 52, Operand.tmp 60], argTypes := #[99, 99] }, type := 99, pos := "ref.go:49", after := #[{ on := 4, ground := Ground.data }, { on := 12, ground := Ground.data }], guard := none }) rfl (fun K hK => ?_) ?_
          · refine rs_append_run (by rfl) _ _ _ (by rfl) (by rfl) (by rfl) RUN.out ?_
            refine hK.out _ _ ?hs22 (fun hS22 => ?_)
            case hs22 => ((try dsimp only); first | with_reducible exact x0 | with_reducible exact x0m | with_reducible exact x0b | with_reducible exact x01 | with_reducible exact x02 | exact x0 | exact x0m | exact x0b | exact x01 | exact x02)
            clear hK K hS21
            refine wpAnyH_take (i := 14) (oi := { dst := some 62, op := Op.nilCheck (Operand.tmp 48), type := 0, pos := "ref.go:49", after := #[{ on := 0, ground := Ground.data }, { on := 0, ground := Ground.phase }, { on := 1, ground := Ground.phase }, { on := 2, ground := Ground.phase }, { on := 3, ground := Ground.phase }, { on := 4, ground := Ground.phase }, { on := 5, ground := Ground.phase }, { on := 6, ground := Ground.phase }, { on := 7, ground := Ground.phase }, { on := 8, ground := Ground.phase }, { on := 9, ground := Ground.phase }, { on := 10, ground := Ground.phase }, { on := 11, ground := Ground.phase }, { on := 12, ground := Ground.phase }, { on := 13, ground := Ground.phase }], guard := none }) (v := ?_) rfl (by kernel_rfl) (by kernel_rfl) (by kernel_rfl) (fun _ _ _ h => h) (Or.inl ⟨by rfl, ?hy23⟩) hS22 ?_
            case hy23 => (intro w hSw; (try dsimp only at hSw); go_simp; try with_reducible rfl)
            try simp only [Act.put, List.setIfInBounds_toArray, List.set_cons_zero, List.set_cons_succ]
            refine wpAnyH_take (i := 15) (oi := { dst := some 63, op := Op.fieldAddr 101 (Operand.tmp 62) 1, type := 0, pos := "ref.go:49", after := #[{ on := 14, ground := Ground.data }, { on := 0, ground := Ground.phase }, { on := 1, ground := Ground.phase }, { on := 2, ground := Ground.phase }, { on := 3, ground := Ground.phase }, { on := 4, ground := Ground.phase }, { on := 5, ground := Ground.phase }, { on := 6, ground := Ground.phase }, { on := 7, ground := Ground.phase }, { on := 8, ground := Ground.phase }, { on := 9, ground := Ground.phase }, { on := 10, ground := Ground.phase }, { on := 11, ground := Ground.phase }, { on := 12, ground := Ground.phase }, { on := 13, ground := Ground.phase }], guard := none }) (v := ?_) rfl (by kernel_rfl) (by kernel_rfl) (by kernel_rfl) (fun _ _ _ h => h) (Or.inl ⟨by rfl, ?hy24⟩) hS22 ?_
            case hy24 => (intro w hSw; (try dsimp only at hSw); go_simp; try with_reducible rfl)
            try simp only [Act.put, List.setIfInBounds_toArray, List.set_cons_zero, List.set_cons_succ]
            refine wpAnyH_ready (rs := [16]) (by kernel_rfl) (by simp) ?_
            refine AllReadyH.cons (o := { dst := none, op := Op.store 99 (Operand.tmp 63) (Operand.tmp 61), type := 0, pos := "ref.go:49", after := #[{ on := 15, ground := Ground.data }, { on := 13, ground := Ground.data }, { on := 13, ground := Ground.chain }, { on := 0, ground := Ground.phase }, { on := 1, ground := Ground.phase }, { on := 2, ground := Ground.phase }, { on := 3, ground := Ground.phase }, { on := 4, ground := Ground.phase }, { on := 5, ground := Ground.phase }, { on := 6, ground := Ground.phase }, { on := 7, ground := Ground.phase }, { on := 8, ground := Ground.phase }, { on := 9, ground := Ground.phase }, { on := 10, ground := Ground.phase }, { on := 11, ground := Ground.phase }, { on := 12, ground := Ground.phase }, { on := 13, ground := Ground.phase }], guard := none }) rfl (fun K hK => ?_) ?_
            · go_simp
              refine hK.out _ _ ?hs25 (fun hS25 => ?_)
              case hs25 => ((try dsimp only); first | with_reducible exact x0 | with_reducible exact x0m | with_reducible exact x0b | with_reducible exact x01 | with_reducible exact x02 | exact x0 | exact x0m | exact x0b | exact x01 | exact x02)
              clear hK K hS22
              refine wpAnyH_done (by kernel_rfl) ?_ _
              generalize w1.setCell ⟨R.r, 7, none⟩ (Value.slice ad (s.tail + 1) cp) = w2 at *
              go_wp2_with fail
              go_ret
              refine ⟨rfl, ?_⟩
              have F := FIN.out
              rw [CD.out] at F ⊢
              exact F
            exact AllReadyH.nil
          exact AllReadyH.nil
        exact AllReadyH.nil
      refine AllReadyH.cons (o := { dst := some 60, op := Op.buildSlice 99 1 #[(0, Operand.tmp 59)], type := 99, pos := "ref.go:49", after := #[{ on := 11, ground := Ground.data }], guard := none }) rfl (fun K hK => ?_) ?_
      · go_simp
        refine hK.out _ _ ?hs26 (fun hS26 => ?_)
        case hs26 => ((try dsimp only); first | with_reducible exact x0 | with_reducible exact x0m | with_reducible exact x0b | with_reducible exact x01 | with_reducible exact x02 | exact x0 | exact x0m | exact x0b | exact x01 | exact x02)
        clear hK K hS18
        refine wpAnyH_ready (rs := [4]) (by kernel_rfl) (by simp) ?_
        refine AllReadyH.cons (o := { dst := some 52, op := Op.load 99 (Operand.tmp 51), type := 99, pos := "ref.go:49", after := #[{ on := 3, ground := Ground.data }], guard := none }) rfl (fun K hK => ?_) ?_
        · go_simp
          refine hK.out _ _ ?hs27 (fun hS27 => ?_)
          case hs27 => ((try dsimp only); first | with_reducible exact x0 | with_reducible exact x0m | with_reducible exact x0b | with_reducible exact x01 | with_reducible exact x02 | exact x0 | exact x0m | exact x0b | exact x01 | exact x02)
          clear hK K hS26
          refine wpAnyH_ready (rs := [13]) (by kernel_rfl) (by simp) ?_
          refine AllReadyH.cons (o := { dst := some 61, op := Op.call { callee := Callee.builtin Builtin.append, args := #[Operand.tmp 52, Operand.tmp 60], argTypes := #[99, 99] }, type := 99, pos := "ref.go:49", after := #[{ on := 4, ground := Ground.data }, { on := 12, ground := Ground.data }], guard := none }) rfl (fun K hK => ?_) ?_
          · refine rs_append_run (by rfl) _ _ _ (by rfl) (by rfl) (by rfl) RUN.out ?_
            refine hK.out _ _ ?hs28 (fun hS28 => ?_)
            case hs28 => ((try dsimp only); first | with_reducible exact x0 | with_reducible exact x0m | with_reducible exact x0b | with_reducible exact x01 | with_reducible exact x02 | exact x0 | exact x0m | exact x0b | exact x01 | exact x02)
            clear hK K hS27
            refine wpAnyH_take (i := 14) (oi := { dst := some 62, op := Op.nilCheck (Operand.tmp 48), type := 0, pos := "ref.go:49", after := #[{ on := 0, ground := Ground.data }, { on := 0, ground := Ground.phase }, { on := 1, ground := Ground.phase }, { on := 2, ground := Ground.phase }, { on := 3, ground := Ground.phase }, { on := 4, ground := Ground.phase }, { on := 5, ground := Ground.phase }, { on := 6, ground := Ground.phase }, { on := 7, ground := Ground.phase }, { on := 8, ground := Ground.phase }, { on := 9, ground := Ground.phase }, { on := 10, ground := Ground.phase }, { on := 11, ground := Ground.phase }, { on := 12, ground := Ground.phase }, { on := 13, ground := Ground.phase }], guard := none }) (v := ?_) rfl (by kernel_rfl) (by kernel_rfl) (by kernel_rfl) (fun _ _ _ h => h) (Or.inl ⟨by rfl, ?hy29⟩) hS28 ?_
            case hy29 => (intro w hSw; (try dsimp only at hSw); go_simp; try with_reducible rfl)
            try simp only [Act.put, List.setIfInBounds_toArray, List.set_cons_zero, List.set_cons_succ]
            refine wpAnyH_take (i := 15) (oi := { dst := some 63, op := Op.fieldAddr 101 (Operand.tmp 62) 1, type := 0, pos := "ref.go:49", after := #[{ on := 14, ground := Ground.data }, { on := 0, ground := Ground.phase }, { on := 1, ground := Ground.phase }, { on := 2, ground := Ground.phase }, { on := 3, ground := Ground.phase }, { on := 4, ground := Ground.phase }, { on := 5, ground := Ground.phase }, { on := 6, ground := Ground.phase }, { on := 7, ground := Ground.phase }, { on := 8, ground := Ground.phase }, { on := 9, ground := Ground.phase }, { on := 10, ground := Ground.phase }, { on := 11, ground := Ground.phase }, { on := 12, ground := Ground.phase }, { on := 13, ground := Ground.phase }], guard := none }) (v := ?_) rfl (by kernel_rfl) (by kernel_rfl) (by kernel_rfl) (fun _ _ _ h => h) (Or.inl ⟨by rfl, ?hy30⟩) hS28 ?_
            case hy30 => (intro w hSw; (try dsimp only at hSw); go_simp; try with_reducible rfl)
            try simp only [Act.put, List.setIfInBounds_toArray, List.set_cons_zero, List.set_cons_succ]
            refine wpAnyH_ready (rs := [16]) (by kernel_rfl) (by simp) ?_
            refine AllReadyH.cons (o := { dst := none, op := Op.store 99 (Operand.tmp 63) (Operand.tmp 61), type := 0, pos := "ref.go:49", after := #[{ on := 15, ground := Ground.data }, { on := 13, ground := Ground.data }, { on := 13, ground := Ground.chain }, { on := 0, ground := Ground.phase }, { on := 1, ground := Ground.phase }, { on := 2, ground := Ground.phase }, { on := 3, ground := Ground.phase }, { on := 4, ground := Ground.phase }, { on := 5, ground := Ground.phase }, { on := 6, ground := Ground.phase }, { on := 7, ground := Ground.phase }, { on := 8, ground := Ground.phase }, { on := 9, ground := Ground.phase }, { on := 10, ground := Ground.phase }, { on := 11, ground := Ground.phase }, { on := 12, ground := Ground.phase }, { on := 13, ground := Ground.phase }], guard := none }) rfl (fun K hK => ?_) ?_
            · go_simp
              refine hK.out _ _ ?hs31 (fun hS31 => ?_)
              case hs31 => ((try dsimp only); first | with_reducible exact x0 | with_reducible exact x0m | with_reducible exact x0b | with_reducible exact x01 | with_reducible exact x02 | exact x0 | exact x0m | exact x0b | exact x01 | exact x02)
              clear hK K hS28
              refine wpAnyH_done (by kernel_rfl) ?_ _
              generalize w1.setCell ⟨R.r, 7, none⟩ (Value.slice ad (s.tail + 1) cp) = w2 at *
              go_wp2_with fail
              go_ret
              refine ⟨rfl, ?_⟩
              have F := FIN.out
              rw [CD.out] at F ⊢
              exact F
            exact AllReadyH.nil
          exact AllReadyH.nil
        exact AllReadyH.nil
      exact AllReadyH.nil
    exact AllReadyH.nil
  | false =>
    obtain ⟨q, e6⟩ : ∃ q, s.closed = q := ⟨_, rfl⟩
    cases q with
    | true =>
      have CD := Lib.hid e6
      rw [e6] at k8
      clear e5 e6 h3
      go_enter Try.func39, Try.ntmps39
      go_wp2_with fail
      go_quiet (fail)
      go_upto_region 4 with fail
      have TW : Turn (fun _ => False) w (w.drewN nq) := (Turn.refl _ w).drewN _
      generalize w.drewN nq = W at *
      obtain ⟨h, hn, hsh, hb⟩ := K.out
      have KK := Lib.hid (MID.out W h hn hsh hb TW)
      clear h hn hsh hb k1 k6 k7 k9 k8 TW
      obtain ⟨ad, cp, w1, MK, RUN, x0, x0m, x0b, x01, x02, y7, y7m, y7b, z7, z8, fr, fr2, FIN⟩ := KK.out
      clear KK
      rw [HV.out] at y7 y7m y7b RUN z7
      have y7m : (W.alloc (.cells (madeCells z62 (c.sh * 4)) 62)).cell? ⟨R.r, 7, none⟩ = some (.slice a s.tail cap) := y7m
      have y7b : ((W.alloc (.cells (madeCells z62 (c.sh * 4)) 62)).alloc (.cells #[.bool false, .bool false, .int .i64 0, .int .i64 0, .int .i64 0, .int .i64 0, .int .i64 0, .int .i64 0, .int .i64 0, .int .i64 0, .int .i64 0, .int .i64 0, .int .i64 0, .slice none 0 0, .int .i64 0, .bool false, .slice (some ⟨W.heap.size, 0, none⟩) c.sh c.sh, .int .i64 0, .int .i64 0, .slice none 0 0] 126)).cell? ⟨R.r, 7, none⟩ = some (.slice a s.tail cap) := y7b
      have fr7 := fr 7
      have fr8 := fr2 8
      rw [CD.out] at z8
      have RUN := Lib.hid RUN
      have FIN := Lib.hid (FIN false)
      refine wp_region_held_drew (S := (fun w' => w'.cell? ⟨R.r, 0, none⟩ = some (.int .i64 (c.sh : Int)))) (by kernel_rfl) ?hs0 (fun hS0 => ?_)
      case hs0 => ((try dsimp only); first | with_reducible exact x0 | with_reducible exact x0m | with_reducible exact x0b | with_reducible exact x01 | with_reducible exact x02 | exact x0 | exact x0m | exact x0b | exact x01 | exact x02)
      refine wpAnyH_take (i := 0) (oi := { dst := some 48, op := Op.move (Operand.tmp 0), type := 30, pos := "ref.go:49", after := #[], guard := none }) (v := ?_) rfl (by kernel_rfl) (by kernel_rfl) (by kernel_rfl) (fun _ _ _ h => h) (Or.inl ⟨by rfl, ?hy1⟩) hS0 ?_
      case hy1 => (intro w hSw; (try dsimp only at hSw); go_simp; try with_reducible rfl)
      try simp only [Act.put, List.setIfInBounds_toArray, List.set_cons_zero, List.set_cons_succ]
      refine wpAnyH_take (i := 1) (oi := { dst := some 49, op := Op.move (Operand.tmp 0), type := 30, pos := "ref.go:49", after := #[], guard := none }) (v := ?_) rfl (by kernel_rfl) (by kernel_rfl) (by kernel_rfl) (fun _ _ _ h => h) (Or.inl ⟨by rfl, ?hy2⟩) hS0 ?_
      case hy2 => (intro w hSw; (try dsimp only at hSw); go_simp; try with_reducible rfl)
      try simp only [Act.put, List.setIfInBounds_toArray, List.set_cons_zero, List.set_cons_succ]
      refine wpAnyH_take (i := 2) (oi := { dst := some 50, op := Op.nilCheck (Operand.tmp 49), type := 0, pos := "ref.go:49", after := #[{ on := 1, ground := Ground.data }], guard := none }) (v := ?_) rfl (by kernel_rfl) (by kernel_rfl) (by kernel_rfl) (fun _ _ _ h => h) (Or.inl ⟨by rfl, ?hy3⟩) hS0 ?_
      case hy3 => (intro w hSw; (try dsimp only at hSw); go_simp; try with_reducible rfl)
      try simp only [Act.put, List.setIfInBounds_toArray, List.set_cons_zero, List.set_cons_succ]
      refine wpAnyH_take (i := 3) (oi := { dst := some 51, op := Op.fieldAddr 101 (Operand.tmp 50) 1, type := 0, pos := "ref.go:49", after := #[{ on := 2, ground := Ground.data }], guard := none }) (v := ?_) rfl (by kernel_rfl) (by kernel_rfl) (by kernel_rfl) (fun _ _ _ h => h) (Or.inl ⟨by rfl, ?hy4⟩) hS0 ?_
      case hy4 => (intro w hSw; (try dsimp only at hSw); go_simp; try with_reducible rfl)
      try simp only [Act.put, List.setIfInBounds_toArray, List.set_cons_zero, List.set_cons_succ]
      refine wpAnyH_take (i := 5) (oi := { dst := some 53, op := Op.move (Operand.tmp 0), type := 30, pos := "ref.go:49", after := #[], guard := none }) (v := ?_) rfl (by kernel_rfl) (by kernel_rfl) (by kernel_rfl) (fun _ _ _ h => h) (Or.inl ⟨by rfl, ?hy5⟩) hS0 ?_
      case hy5 => (intro w hSw; (try dsimp only at hSw); go_simp; try with_reducible rfl)
      try simp only [Act.put, List.setIfInBounds_toArray, List.set_cons_zero, List.set_cons_succ]
      refine wpAnyH_take (i := 6) (oi := { dst := some 54, op := Op.nilCheck (Operand.tmp 53), type := 0, pos := "ref.go:49", after := #[{ on := 5, ground := Ground.data }], guard := none }) (v := ?_) rfl (by kernel_rfl) (by kernel_rfl) (by kernel_rfl) (fun _ _ _ h => h) (Or.inl ⟨by rfl, ?hy6⟩) hS0 ?_
      case hy6 => (intro w hSw; (try dsimp only at hSw); go_simp; try with_reducible rfl)
      try simp only [Act.put, List.setIfInBounds_toArray, List.set_cons_zero, List.set_cons_succ]
      refine wpAnyH_take (i := 7) (oi := { dst := some 55, op := Op.fieldAddr 101 (Operand.tmp 54) 0, type := 0, pos := "ref.go:49", after := #[{ on := 6, ground := Ground.data }], guard := none }) (v := ?_) rfl (by kernel_rfl) (by kernel_rfl) (by kernel_rfl) (fun _ _ _ h => h) (Or.inl ⟨by rfl, ?hy7⟩) hS0 ?_
      case hy7 => (intro w hSw; (try dsimp only at hSw); go_simp; try with_reducible rfl)
      try simp only [Act.put, List.setIfInBounds_toArray, List.set_cons_zero, List.set_cons_succ]
      refine wpAnyH_take (i := 8) (oi := { dst := some 56, op := Op.fieldAddr 28 (Operand.tmp 55) 0, type := 0, pos := "ref.go:49", after := #[{ on := 7, ground := Ground.data }], guard := none }) (v := ?_) rfl (by kernel_rfl) (by kernel_rfl) (by kernel_rfl) (fun _ _ _ h => h) (Or.inl ⟨by rfl, ?hy8⟩) hS0 ?_
      case hy8 => (intro w hSw; (try dsimp only at hSw); go_simp; try with_reducible rfl)
      try simp only [Act.put, List.setIfInBounds_toArray, List.set_cons_zero, List.set_cons_succ]
      refine wpAnyH_take (i := 9) (oi := { dst := some 57, op := Op.load 3 (Operand.tmp 56), type := 3, pos := "ref.go:49", after := #[{ on := 8, ground := Ground.data }], guard := none }) (v := ?_) rfl (by kernel_rfl) (by kernel_rfl) (by kernel_rfl) (fun _ _ _ h => h) (Or.inl ⟨by rfl, ?hy9⟩) hS0 ?_
      case hy9 => (intro w hSw; (try dsimp only at hSw); go_simp; try with_reducible rfl)
      try simp only [Act.put, List.setIfInBounds_toArray, List.set_cons_zero, List.set_cons_succ]
      refine wpAnyH_ready (rs := [4, 10]) (by kernel_rfl) (by simp) ?_
      refine AllReadyH.cons (o := { dst := some 52, op := Op.load 99 (Operand.tmp 51), type := 99, pos := "ref.go:49", after := #[{ on := 3, ground := Ground.data }], guard := none }) rfl (fun K hK => ?_) ?_
      · go_simp
        refine hK.out _ _ ?hs10 (fun hS10 => ?_)
        case hs10 => ((try dsimp only); first | with_reducible exact x0 | with_reducible exact x0m | with_reducible exact x0b | with_reducible exact x01 | with_reducible exact x02 | exact x0 | exact x0m | exact x0b | exact x01 | exact x02)
        clear hK K hS0
        refine wpAnyH_ready (rs := [10]) (by kernel_rfl) (by simp) ?_
        refine AllReadyH.cons (o := { dst := some 58, op := Op.makeSlice 74 (Operand.tmp 57) (Operand.tmp 57), type := 74, pos := "ref.go:49", after := #[{ on := 9, ground := Ground.data }, { on := 9, ground := Ground.data }], guard := none }) rfl (fun K hK => ?_) ?_
        · go_simp
          refine hK.out _ _ ?hs11 (fun hS11 => ?_)
          case hs11 => ((try dsimp only); first | with_reducible exact x0 | with_reducible exact x0m | with_reducible exact x0b | with_reducible exact x01 | with_reducible exact x02 | exact x0 | exact x0m | exact x0b | exact x01 | exact x02)
          clear hK K hS10
          refine wpAnyH_take (i := 11) (oi := { dst := some 59, op := Op.build 126 #[(3, Operand.tmp 58)], type := 126, pos := "ref.go:49", after := #[{ on := 10, ground := Ground.data }], guard := none }) (v := ?_) rfl (by kernel_rfl) (by kernel_rfl) (by kernel_rfl) (fun _ _ _ h => h) (Or.inl ⟨by rfl, ?hy12⟩) hS11 ?_
          case hy12 => (intro w hSw; (try dsimp only at hSw); go_simp; try with_reducible rfl)
          try simp only [Act.put, List.setIfInBounds_toArray, List.set_cons_zero, List.set_cons_succ]
          refine wpAnyH_ready (rs := [12]) (by kernel_rfl) (by simp) ?_
          refine AllReadyH.cons (o := { dst := some 60, op := Op.buildSlice 99 1 #[(0, Operand.tmp 59)], type := 99, pos := "ref.go:49", after := #[{ on := 11, ground := Ground.data }], guard := none }) rfl (fun K hK => ?_) ?_
          · go_simp
            refine hK.out _ _ ?hs13 (fun hS13 => ?_)
            case hs13 => ((try dsimp only); first | with_reducible exact x0 | with_reducible exact x0m | with_reducible exact x0b | with_reducible exact x01 | with_reducible exact x02 | exact x0 | exact x0m | exact x0b | exact x01 | exact x02)
            clear hK K hS11
            refine wpAnyH_ready (rs := [13]) (by kernel_rfl) (by simp) ?_
            refine AllReadyH.cons (o := { dst := some 61, op := Op.call { callee := Callee.builtin Builtin.append, args := #[Operand.tmp 52, Operand.tmp 60], argTypes := #[99, 99] }, type := 99, pos := "ref.go:49", after := #[{ on := 4, ground := Ground.data }, { on := 12, ground := Ground.data }], guard := none }) rfl (fun K hK => ?_) ?_
            · refine rs_append_run (by rfl) _ _ _ (by rfl) (by rfl) (by rfl) RUN.out ?_
              refine hK.out _ _ ?hs14 (fun hS14 => ?_)
              case hs14 => ((try dsimp only); first | with_reducible exact x0 | with_reducible exact x0m | with_reducible exact x0b | with_reducible exact x01 | with_reducible exact x02 | exact x0 | exact x0m | exact x0b | exact x01 | exact x02)
              clear hK K hS13
              refine wpAnyH_take (i := 14) (oi := { dst := some 62, op := Op.nilCheck (Operand.tmp 48), type := 0, pos := "ref.go:49", after := #[{ on := 0, ground := Ground.data }, { on := 0, ground := Ground.phase }, { on := 1, ground := Ground.phase }, { on := 2, ground := Ground.phase }, { on := 3, ground := Ground.phase }, { on := 4, ground := Ground.phase }, { on := 5, ground := Ground.phase }, { on := 6, ground := Ground.phase }, { on := 7, ground := Ground.phase }, { on := 8, ground := Ground.phase }, { on := 9, ground := Ground.phase }, { on := 10, ground := Ground.phase }, { on := 11, ground := Ground.phase }, { on := 12, ground := Ground.phase }, { on := 13, ground := Ground.phase }], guard := none }) (v := ?_) rfl (by kernel_rfl) (by kernel_rfl) (by kernel_rfl) (fun _ _ _ h => h) (Or.inl ⟨by rfl, ?hy15⟩) hS14 ?_
              case hy15 => (intro w hSw; (try dsimp only at hSw); go_simp; try with_reducible rfl)
              try simp only [Act.put, List.setIfInBounds_toArray, List.set_cons_zero, List.set_cons_succ]
              refine wpAnyH_take (i := 15) (oi := { dst := some 63, op := Op.fieldAddr 101 (Operand.tmp 62) 1, type := 0, pos := "ref.go:49", after := #[{ on := 14, ground := Ground.data }, { on := 0, ground := Ground.phase }, { on := 1, ground := Ground.phase }, { on := 2, ground := Ground.phase }, { on := 3, ground := Ground.phase }, { on := 4, ground := Ground.phase }, { on := 5, ground := Ground.phase }, { on := 6, ground := Ground.phase }, { on := 7, ground := Ground.phase }, { on := 8, ground := Ground.phase }, { on := 9, ground := Ground.phase }, { on := 10, ground := Ground.phase }, { on := 11, ground := Ground.phase }, { on := 12, ground := Ground.phase }, { on := 13, ground := Ground.phase }], guard := none }) (v := ?_) rfl (by kernel_rfl) (by kernel_rfl) (by kernel_rfl) (fun _ _ _ h => h) (Or.inl ⟨by rfl, ?hy16⟩) hS14 ?_
              case hy16 => (intro w hSw; (try dsimp only at hSw); go_simp; try with_reducible rfl)
              try simp only [Act.put, List.setIfInBounds_toArray, List.set_cons_zero, List.set_cons_succ]
              refine wpAnyH_ready (rs := [16]) (by kernel_rfl) (by simp) ?_
              refine AllReadyH.cons (o := { dst := none, op := Op.store 99 (Operand.tmp 63) (Operand.tmp 61), type := 0, pos := "ref.go:49", after := #[{ on := 15, ground := Ground.data }, { on := 13, ground := Ground.data }, { on := 13, ground := Ground.chain }, { on := 0, ground := Ground.phase }, { on := 1, ground := Ground.phase }, { on := 2, ground := Ground.phase }, { on := 3, ground := Ground.phase }, { on := 4, ground := Ground.phase }, { on := 5, ground := Ground.phase }, { on := 6, ground := Ground.phase }, { on := 7, ground := Ground.phase }, { on := 8, ground := Ground.phase }, { on := 9, ground := Ground.phase }, { on := 10, ground := Ground.phase }, { on := 11, ground := Ground.phase }, { on := 12, ground := Ground.phase }, { on := 13, ground := Ground.phase }], guard := none }) rfl (fun K hK => ?_) ?_
              · go_simp
                refine hK.out _ _ ?hs17 (fun hS17 => ?_)
                case hs17 => ((try dsimp only); first | with_reducible exact x0 | with_reducible exact x0m | with_reducible exact x0b | with_reducible exact x01 | with_reducible exact x02 | exact x0 | exact x0m | exact x0b | exact x01 | exact x02)
                clear hK K hS14
                refine wpAnyH_done (by kernel_rfl) ?_ _
                generalize w1.setCell ⟨R.r, 7, none⟩ (Value.slice ad (s.tail + 1) cp) = w2 at *
                go_wp2_with fail
                go_ret
                refine ⟨rfl, ?_⟩
                have F := FIN.out
                rw [CD.out] at F ⊢
                exact F
              exact AllReadyH.nil
            exact AllReadyH.nil
          exact AllReadyH.nil
        exact AllReadyH.nil
      refine AllReadyH.cons (o := { dst := some 58, op := Op.makeSlice 74 (Operand.tmp 57) (Operand.tmp 57), type := 74, pos := "ref.go:49", after := #[{ on := 9, ground := Ground.data }, { on := 9, ground := Ground.data }], guard := none }) rfl (fun K hK => ?_) ?_
      · go_simp
        refine hK.out _ _ ?hs18 (fun hS18 => ?_)
        case hs18 => ((try dsimp only); first | with_reducible exact x0 | with_reducible exact x0m | with_reducible exact x0b | with_reducible exact x01 | with_reducible exact x02 | exact x0 | exact x0m | exact x0b | exact x01 | exact x02)
        clear hK K hS0
        refine wpAnyH_take (i := 11) (oi := { dst := some 59, op := Op.build 126 #[(3, Operand.tmp 58)], type := 126, pos := "ref.go:49", after := #[{ on := 10, ground := Ground.data }], guard := none }) (v := ?_) rfl (by kernel_rfl) (by kernel_rfl) (by kernel_rfl) (fun _ _ _ h => h) (Or.inl ⟨by rfl, ?hy19⟩) hS18 ?_
        case hy19 => (intro w hSw; (try dsimp only at hSw); go_simp; try with_reducible rfl)
        try simp only [Act.put, List.setIfInBounds_toArray, List.set_cons_zero, List.set_cons_succ]
        refine wpAnyH_ready (rs := [4, 12]) (by kernel_rfl) (by simp) ?_
        refine AllReadyH.cons (o := { dst := some 52, op := Op.load 99 (Operand.tmp 51), type := 99, pos := "ref.go:49", after := #[{ on := 3, ground := Ground.data }], guard := none }) rfl (fun K hK => ?_) ?_
        · go_simp
          refine hK.out _ _ ?hs20 (fun hS20 => ?_)
          case hs20 => ((try dsimp only); first | with_reducible exact x0 | with_reducible exact x0m | with_reducible exact x0b | with_reducible exact x01 | with_reducible exact x02 | exact x0 | exact x0m | exact x0b | exact x01 | exact x02)
          clear hK K hS18
          refine wpAnyH_ready (rs := [12]) (by kernel_rfl) (by simp) ?_
          refine AllReadyH.cons (o := { dst := some 60, op := Op.buildSlice 99 1 #[(0, Operand.tmp 59)], type := 99, pos := "ref.go:49", after := #[{ on := 11, ground := Ground.data }], guard := none }) rfl (fun K hK => ?_) ?_
          · go_simp
            refine hK.out _ _ ?hs21 (fun hS21 => ?_)
            case hs21 => ((try dsimp only); first | with_reducible exact x0 | with_reducible exact x0m | with_reducible exact x0b | with_reducible exact x01 | with_reducible exact x02 | exact x0 | exact x0m | exact x0b | exact x01 | exact x02)
            clear hK K hS20
            refine wpAnyH_ready (rs := [13]) (by kernel_rfl) (by simp) ?_
            refine AllReadyH.cons (o := { dst := some 61, op := Op.call { callee := Callee.builtin Builtin.append, args := #[Operand.tmp 52, Operand.tmp 60], argTypes := #[99, 99] }, type := 99, pos := "ref.go:49", after := #[{ on := 4, ground := Ground.data }, { on := 12, ground := Ground.data }], guard := none }) rfl (fun K hK => ?_) ?_
            · refine rs_append_run (by rfl) _ _ _ (by rfl) (by rfl) (by rfl) RUN.out ?_
              refine hK.out _ _ ?hs22 (fun hS22 => ?_)
              case hs22 => ((try dsimp only); first | with_reducible exact x0 | with_reducible exact x0m | with_reducible exact x0b | with_reducible exact x01 | with_reducible exact x02 | exact x0 | exact x0m | exact x0b | exact x01 | exact x02)
              clear hK K hS21
              refine wpAnyH_take (i := 14) (oi := { dst := some 62, op := Op.nilCheck (Operand.tmp 48), type := 0, pos := "ref.go:49", after := #[{ on := 0, ground := Ground.data }, { on := 0, ground := Ground.phase }, { on := 1, ground := Ground.phase }, { on := 2, ground := Ground.phase }, { on := 3, ground := Ground.phase }, { on := 4, ground := Ground.phase }, { on := 5, ground := Ground.phase }, { on := 6, ground := Ground.phase }, { on := 7, ground := Ground.phase }, { on := 8, ground := Ground.phase }, { on := 9, ground := Ground.phase }, { on := 10, ground := Ground.phase }, { on := 11, ground := Ground.phase }, { on := 12, ground := Ground.phase }, { on := 13, ground := Ground.phase }], guard := none }) (v := ?_) rfl (by kernel_rfl) (by kernel_rfl) (by kernel_rfl) (fun _ _ _ h => h) (Or.inl ⟨by rfl, ?hy23⟩) hS22 ?_
              case hy23 => (intro w hSw; (try dsimp only at hSw); go_simp; try with_reducible rfl)
              try simp only [Act.put, List.setIfInBounds_toArray, List.set_cons_zero, List.set_cons_succ]
              refine wpAnyH_take (i := 15) (oi := { dst := some 63, op := Op.fieldAddr 101 (Operand.tmp 62) 1, type := 0, pos := "ref.go:49", after := #[{ on := 14, ground := Ground.data }, { on := 0, ground := Ground.phase }, { on := 1, ground := Ground.phase }, { on := 2, ground := Ground.phase }, { on := 3, ground := Ground.phase }, { on := 4, ground := Ground.phase }, { on := 5, ground := Ground.phase }, { on := 6, ground := Ground.phase }, { on := 7, ground := Ground.phase }, { on := 8, ground := Ground.phase }, { on := 9, ground := Ground.phase }, { on := 10, ground := Ground.phase }, { on := 11, ground := Ground.phase }, { on := 12, ground := Ground.phase }, { on := 13, ground := Ground.phase }], guard := none }) (v := ?_) rfl (by kernel_rfl) (by kernel_rfl) (by kernel_rfl) (fun _ _ _ h => h) (Or.inl ⟨by rfl, ?hy24⟩) hS22 ?_
              case hy24 => (intro w hSw; (try dsimp only at hSw); go_simp; try with_reducible rfl)
              try simp only [Act.put, List.setIfInBounds_toArray, List.set_cons_zero, List.set_cons_succ]
              refine wpAnyH_ready (rs := [16]) (by kernel_rfl) (by simp) ?_
              refine AllReadyH.cons (o := { dst := none, op := Op.store 99 (Operand.tmp 63) (Operand.tmp 61), type := 0, pos := "ref.go:49", after := #[{ on := 15, ground := Ground.data }, { on := 13, ground := Ground.data }, { on := 13, ground := Ground.chain }, { on := 0, ground := Ground.phase }, { on := 1, ground := Ground.phase }, { on := 2, ground := Ground.phase }, { on := 3, ground := Ground.phase }, { on := 4, ground := Ground.phase }, { on := 5, ground := Ground.phase }, { on := 6, ground := Ground.phase }, { on := 7, ground := Ground.phase }, { on := 8, ground := Ground.phase }, { on := 9, ground := Ground.phase }, { on := 10, ground := Ground.phase }, { on := 11, ground := Ground.phase }, { on := 12, ground := Ground.phase }, { on := 13, ground := Ground.phase }], guard := none }) rfl (fun K hK => ?_) ?_
              · go_simp
                refine hK.out _ _ ?hs25 (fun hS25 => ?_)
                case hs25 => ((try dsimp only); first | with_reducible exact x0 | with_reducible exact x0m | with_reducible exact x0b | with_reducible exact x01 | with_reducible exact x02 | exact x0 | exact x0m | exact x0b | exact x01 | exact x02)
                clear hK K hS22
                refine wpAnyH_done (by kernel_rfl) ?_ _
                generalize w1.setCell ⟨R.r, 7, none⟩ (Value.slice ad (s.tail + 1) cp) = w2 at *
                go_wp2_with fail
                go_ret
                refine ⟨rfl, ?_⟩
                have F := FIN.out
                rw [CD.out] at F ⊢
                exact F
              exact AllReadyH.nil
            exact AllReadyH.nil
          exact AllReadyH.nil
        refine AllReadyH.cons (o := { dst := some 60, op := Op.buildSlice 99 1 #[(0, Operand.tmp 59)], type := 99, pos := "ref.go:49", after := #[{ on := 11, ground := Ground.data }], guard := none }) rfl (fun K hK => ?_) ?_
        · go_simp
          refine hK.out _ _ ?hs26 (fun hS26 => ?_)
          case hs26 => ((try dsimp only); first | with_reducible exact x0 | with_reducible exact x0m | with_reducible exact x0b | with_reducible exact x01 | with_reducible exact x02 | exact x0 | exact x0m | exact x0b | exact x01 | exact x02)
          clear hK K hS18
          refine wpAnyH_ready (rs := [4]) (by kernel_rfl) (by simp) ?_
          refine AllReadyH.cons (o := { dst := some 52, op := Op.load 99 (Operand.tmp 51), type := 99, pos := "ref.go:49", after := #[{ on := 3, ground := Ground.data }], guard := none }) rfl (fun K hK => ?_) ?_
          · go_simp
            refine hK.out _ _ ?hs27 (fun hS27 => ?_)
            case hs27 => ((try dsimp only); first | with_reducible exact x0 | with_reducible exact x0m | with_reducible exact x0b | with_reducible exact x01 | with_reducible exact x02 | exact x0 | exact x0m | exact x0b | exact x01 | exact x02)
            clear hK K hS26
            refine wpAnyH_ready (rs := [13]) (by kernel_rfl) (by simp) ?_
            refine AllReadyH.cons (o := { dst := some 61, op := Op.call { callee := Callee.builtin Builtin.append, args := #[Operand.tmp 52, Operand.tmp 60], argTypes := #[99, 99] }, type := 99, pos := "ref.go:49", after := #[{ on := 4, ground := Ground.data }, { on := 12, ground := Ground.data }], guard := none }) rfl (fun K hK => ?_) ?_
            · refine rs_append_run (by rfl) _ _ _ (by rfl) (by rfl) (by rfl) RUN.out ?_
              refine hK.out _ _ ?hs28 (fun hS28 => ?_)
              case hs28 => ((try dsimp only); first | with_reducible exact x0 | with_reducible exact x0m | with_reducible exact x0b | with_reducible exact x01 | with_reducible exact x02 | exact x0 | exact x0m | exact x0b | exact x01 | exact x02)
              clear hK K hS27
              refine wpAnyH_take (i := 14) (oi := { dst := some 62, op := Op.nilCheck (Operand.tmp 48), type := 0, pos := "ref.go:49", after := #[{ on := 0, ground := Ground.data }, { on := 0, ground := Ground.phase }, { on := 1, ground := Ground.phase }, { on := 2, ground := Ground.phase }, { on := 3, ground := Ground.phase }, { on := 4, ground := Ground.phase }, { on := 5, ground := Ground.phase }, { on := 6, ground := Ground.phase }, { on := 7, ground := Ground.phase }, { on := 8, ground := Ground.phase }, { on := 9, ground := Ground.phase }, { on := 10, ground := Ground.phase }, { on := 11, ground := Ground.phase }, { on := 12, ground := Ground.phase }, { on := 13, ground := Ground.phase }], guard := none }) (v := ?_) rfl (by kernel_rfl) (by kernel_rfl) (by kernel_rfl) (fun _ _ _ h => h) (Or.inl ⟨by rfl, ?hy29⟩) hS28 ?_
              case hy29 => (intro w hSw; (try dsimp only at hSw); go_simp; try with_reducible rfl)
              try simp only [Act.put, List.setIfInBounds_toArray, List.set_cons_zero, List.set_cons_succ]
              refine wpAnyH_take (i := 15) (oi := { dst := some 63, op := Op.fieldAddr 101 (Operand.tmp 62) 1, type := 0, pos := "ref.go:49", after := #[{ on := 14, ground := Ground.data }, { on := 0, ground := Ground.phase }, { on := 1, ground := Ground.phase }, { on := 2, ground := Ground.phase }, { on := 3, ground := Ground.phase }, { on := 4, ground := Ground.phase }, { on := 5, ground := Ground.phase }, { on := 6, ground := Ground.phase }, { on := 7, ground := Ground.phase }, { on := 8, ground := Ground.phase }, { on := 9, ground := Ground.phase }, { on := 10, ground := Ground.phase }, { on := 11, ground := Ground.phase }, { on := 12, ground := Ground.phase }, { on := 13, ground := Ground.phase }], guard := none }) (v := ?_) rfl (by kernel_rfl) (by kernel_rfl) (by kernel_rfl) (fun _ _ _ h => h) (Or.inl ⟨by rfl, ?hy30⟩) hS28 ?_
              case hy30 => (intro w hSw; (try dsimp only at hSw); go_simp; try with_reducible rfl)
              try simp only [Act.put, List.setIfInBounds_toArray, List.set_cons_zero, List.set_cons_succ]
              refine wpAnyH_ready (rs := [16]) (by kernel_rfl) (by simp) ?_
              refine AllReadyH.cons (o := { dst := none, op := Op.store 99 (Operand.tmp 63) (Operand.tmp 61), type := 0, pos := "ref.go:49", after := #[{ on := 15, ground := Ground.data }, { on := 13, ground := Ground.data }, { on := 13, ground := Ground.chain }, { on := 0, ground := Ground.phase }, { on := 1, ground := Ground.phase }, { on := 2, ground := Ground.phase }, { on := 3, ground := Ground.phase }, { on := 4, ground := Ground.phase }, { on := 5, ground := Ground.phase }, { on := 6, ground := Ground.phase }, { on := 7, ground := Ground.phase }, { on := 8, ground := Ground.phase }, { on := 9, ground := Ground.phase }, { on := 10, ground := Ground.phase }, { on := 11, ground := Ground.phase }, { on := 12, ground := Ground.phase }, { on := 13, ground := Ground.phase }], guard := none }) rfl (fun K hK => ?_) ?_
              · go_simp
                refine hK.out _ _ ?hs31 (fun hS31 => ?_)
                case hs31 => ((try dsimp only); first | with_reducible exact x0 | with_reducible exact x0m | with_reducible exact x0b | with_reducible exact x01 | with_reducible exact x02 | exact x0 | exact x0m | exact x0b | exact x01 | exact x02)
                clear hK K hS28
                refine wpAnyH_done (by kernel_rfl) ?_ _
                generalize w1.setCell ⟨R.r, 7, none⟩ (Value.slice ad (s.tail + 1) cp) = w2 at *
                go_wp2_with fail
                go_ret
                refine ⟨rfl, ?_⟩
                have F := FIN.out
                rw [CD.out] at F ⊢
                exact F
              exact AllReadyH.nil
            exact AllReadyH.nil
          exact AllReadyH.nil
        exact AllReadyH.nil
      exact AllReadyH.nil
    | false =>
      have CD := Lib.hid e6
      rw [e6] at k8
      clear e5 e6 h3
      go_enter Try.func39, Try.ntmps39
      go_wp2_with fail
      go_quiet (fail)
      go_upto_region 4 with fail
      have TW : Turn (fun _ => False) w (w.drewN nq) := (Turn.refl _ w).drewN _
      generalize w.drewN nq = W at *
      obtain ⟨h, hn, hsh, hb⟩ := K.out
      have KK := Lib.hid (MID.out W h hn hsh hb TW)
      clear h hn hsh hb k1 k6 k7 k9 k8 TW
      obtain ⟨ad, cp, w1, MK, RUN, x0, x0m, x0b, x01, x02, y7, y7m, y7b, z7, z8, fr, fr2, FIN⟩ := KK.out
      clear KK
      rw [HV.out] at y7 y7m y7b RUN z7
      have y7m : (W.alloc (.cells (madeCells z62 (c.sh * 4)) 62)).cell? ⟨R.r, 7, none⟩ = some (.slice a s.tail cap) := y7m
      have y7b : ((W.alloc (.cells (madeCells z62 (c.sh * 4)) 62)).alloc (.cells #[.bool false, .bool false, .int .i64 0, .int .i64 0, .int .i64 0, .int .i64 0, .int .i64 0, .int .i64 0, .int .i64 0, .int .i64 0, .int .i64 0, .int .i64 0, .int .i64 0, .slice none 0 0, .int .i64 0, .bool false, .slice (some ⟨W.heap.size, 0, none⟩) c.sh c.sh, .int .i64 0, .int .i64 0, .slice none 0 0] 126)).cell? ⟨R.r, 7, none⟩ = some (.slice a s.tail cap) := y7b
      have fr7 := fr 7
      have fr8 := fr2 8
      rw [CD.out] at z8
      have RUN := Lib.hid RUN
      have FIN := Lib.hid (FIN false)
      refine wp_region_held_drew (S := (fun w' => w'.cell? ⟨R.r, 0, none⟩ = some (.int .i64 (c.sh : Int)))) (by kernel_rfl) ?hs0 (fun hS0 => ?_)
      case hs0 => ((try dsimp only); first | with_reducible exact x0 | with_reducible exact x0m | with_reducible exact x0b | with_reducible exact x01 | with_reducible exact x02 | exact x0 | exact x0m | exact x0b | exact x01 | exact x02)
      refine wpAnyH_take (i := 0) (oi := { dst := some 48, op := Op.move (Operand.tmp 0), type := 30, pos := "ref.go:49", after := #[], guard := none }) (v := ?_) rfl (by kernel_rfl) (by kernel_rfl) (by kernel_rfl) (fun _ _ _ h => h) (Or.inl ⟨by rfl, ?hy1⟩) hS0 ?_
      case hy1 => (intro w hSw; (try dsimp only at hSw); go_simp; try with_reducible rfl)
      try simp only [Act.put, List.setIfInBounds_toArray, List.set_cons_zero, List.set_cons_succ]
      refine wpAnyH_take (i := 1) (oi := { dst := some 49, op := Op.move (Operand.tmp 0), type := 30, pos := "ref.go:49", after := #[], guard := none }) (v := ?_) rfl (by kernel_rfl) (by kernel_rfl) (by kernel_rfl) (fun _ _ _ h => h) (Or.inl ⟨by rfl, ?hy2⟩) hS0 ?_
      case hy2 => (intro w hSw; (try dsimp only at hSw); go_simp; try with_reducible rfl)
      try simp only [Act.put, List.setIfInBounds_toArray, List.set_cons_zero, List.set_cons_succ]
      refine wpAnyH_take (i := 2) (oi := { dst := some 50, op := Op.nilCheck (Operand.tmp 49), type := 0, pos := "ref.go:49", after := #[{ on := 1, ground := Ground.data }], guard := none }) (v := ?_) rfl (by kernel_rfl) (by kernel_rfl) (by kernel_rfl) (fun _ _ _ h => h) (Or.inl ⟨by rfl, ?hy3⟩) hS0 ?_
      case hy3 => (intro w hSw; (try dsimp only at hSw); go_simp; try with_reducible rfl)
      try simp only [Act.put, List.setIfInBounds_toArray, List.set_cons_zero, List.set_cons_succ]
      refine wpAnyH_take (i := 3) (oi := { dst := some 51, op := Op.fieldAddr 101 (Operand.tmp 50) 1, type := 0, pos := "ref.go:49", after := #[{ on := 2, ground := Ground.data }], guard := none }) (v := ?_) rfl (by kernel_rfl) (by kernel_rfl) (by kernel_rfl) (fun _ _ _ h => h) (Or.inl ⟨by rfl, ?hy4⟩) hS0 ?_
      case hy4 => (intro w hSw; (try dsimp only at hSw); go_simp; try with_reducible rfl)
      try simp only [Act.put, List.setIfInBounds_toArray, List.set_cons_zero, List.set_cons_succ]
      refine wpAnyH_take (i := 5) (oi := { dst := some 53, op := Op.move (Operand.tmp 0), type := 30, pos := "ref.go:49", after := #[], guard := none }) (v := ?_) rfl (by kernel_rfl) (by kernel_rfl) (by kernel_rfl) (fun _ _ _ h => h) (Or.inl ⟨by rfl, ?hy5⟩) hS0 ?_
      case hy5 => (intro w hSw; (try dsimp only at hSw); go_simp; try with_reducible rfl)
      try simp only [Act.put, List.setIfInBounds_toArray, List.set_cons_zero, List.set_cons_succ]
      refine wpAnyH_take (i := 6) (oi := { dst := some 54, op := Op.nilCheck (Operand.tmp 53), type := 0, pos := "ref.go:49", after := #[{ on := 5, ground := Ground.data }], guard := none }) (v := ?_) rfl (by kernel_rfl) (by kernel_rfl) (by kernel_rfl) (fun _ _ _ h => h) (Or.inl ⟨by rfl, ?hy6⟩) hS0 ?_
      case hy6 => (intro w hSw; (try dsimp only at hSw); go_simp; try with_reducible rfl)
      try simp only [Act.put, List.setIfInBounds_toArray, List.set_cons_zero, List.set_cons_succ]
      refine wpAnyH_take (i := 7) (oi := { dst := some 55, op := Op.fieldAddr 101 (Operand.tmp 54) 0, type := 0, pos := "ref.go:49", after := #[{ on := 6, ground := Ground.data }], guard := none }) (v := ?_) rfl (by kernel_rfl) (by kernel_rfl) (by kernel_rfl) (fun _ _ _ h => h) (Or.inl ⟨by rfl, ?hy7⟩) hS0 ?_
      case hy7 => (intro w hSw; (try dsimp only at hSw); go_simp; try with_reducible rfl)
      try simp only [Act.put, List.setIfInBounds_toArray, List.set_cons_zero, List.set_cons_succ]
      refine wpAnyH_take (i := 8) (oi := { dst := some 56, op := Op.fieldAddr 28 (Operand.tmp 55) 0, type := 0, pos := "ref.go:49", after := #[{ on := 7, ground := Ground.data }], guard := none }) (v := ?_) rfl (by kernel_rfl) (by kernel_rfl) (by kernel_rfl) (fun _ _ _ h => h) (Or.inl ⟨by rfl, ?hy8⟩) hS0 ?_
      case hy8 => (intro w hSw; (try dsimp only at hSw); go_simp; try with_reducible rfl)
      try simp only [Act.put, List.setIfInBounds_toArray, List.set_cons_zero, List.set_cons_succ]
      refine wpAnyH_take (i := 9) (oi := { dst := some 57, op := Op.load 3 (Operand.tmp 56), type := 3, pos := "ref.go:49", after := #[{ on := 8, ground := Ground.data }], guard := none }) (v := ?_) rfl (by kernel_rfl) (by kernel_rfl) (by kernel_rfl) (fun _ _ _ h => h) (Or.inl ⟨by rfl, ?hy9⟩) hS0 ?_
      case hy9 => (intro w hSw; (try dsimp only at hSw); go_simp; try with_reducible rfl)
      try simp only [Act.put, List.setIfInBounds_toArray, List.set_cons_zero, List.set_cons_succ]
      refine wpAnyH_ready (rs := [4, 10]) (by kernel_rfl) (by simp) ?_
      refine AllReadyH.cons (o := { dst := some 52, op := Op.load 99 (Operand.tmp 51), type := 99, pos := "ref.go:49", after := #[{ on := 3, ground := Ground.data }], guard := none }) rfl (fun K hK => ?_) ?_
      · go_simp
        refine hK.out _ _ ?hs10 (fun hS10 => ?_)
        case hs10 => ((try dsimp only); first | with_reducible exact x0 | with_reducible exact x0m | with_reducible exact x0b | with_reducible exact x01 | with_reducible exact x02 | exact x0 | exact x0m | exact x0b | exact x01 | exact x02)
        clear hK K hS0
        refine wpAnyH_ready (rs := [10]) (by kernel_rfl) (by simp) ?_
        refine AllReadyH.cons (o := { dst := some 58, op := Op.makeSlice 74 (Operand.tmp 57) (Operand.tmp 57), type := 74, pos := "ref.go:49", after := #[{ on := 9, ground := Ground.data }, { on := 9, ground := Ground.data }], guard := none }) rfl (fun K hK => ?_) ?_
        · go_simp
          refine hK.out _ _ ?hs11 (fun hS11 => ?_)
          case hs11 => ((try dsimp only); first | with_reducible exact x0 | with_reducible exact x0m | with_reducible exact x0b | with_reducible exact x01 | with_reducible exact x02 | exact x0 | exact x0m | exact x0b | exact x01 | exact x02)
          clear hK K hS10
          refine wpAnyH_take (i := 11) (oi := { dst := some 59, op := Op.build 126 #[(3, Operand.tmp 58)], type := 126, pos := "ref.go:49", after := #[{ on := 10, ground := Ground.data }], guard := none }) (v := ?_) rfl (by kernel_rfl) (by kernel_rfl) (by kernel_rfl) (fun _ _ _ h => h) (Or.inl ⟨by rfl, ?hy12⟩) hS11 ?_
          case hy12 => (intro w hSw; (try dsimp only at hSw); go_simp; try with_reducible rfl)
          try simp only [Act.put, List.setIfInBounds_toArray, List.set_cons_zero, List.set_cons_succ]
          refine wpAnyH_ready (rs := [12]) (by kernel_rfl) (by simp) ?_
          refine AllReadyH.cons (o := { dst := some 60, op := Op.buildSlice 99 1 #[(0, Operand.tmp 59)], type := 99, pos := "ref.go:49", after := #[{ on := 11, ground := Ground.data }], guard := none }) rfl (fun K hK => ?_) ?_
          · go_simp
            refine hK.out _ _ ?hs13 (fun hS13 => ?_)
            case hs13 => ((try dsimp only); first | with_reducible exact x0 | with_reducible exact x0m | with_reducible exact x0b | with_reducible exact x01 | with_reducible exact x02 | exact x0 | exact x0m | exact x0b | exact x01 | exact x02)
            clear hK K hS11
            refine wpAnyH_ready (rs := [13]) (by kernel_rfl) (by simp) ?_
            refine AllReadyH.cons (o := { dst := some 61, op := Op.call { callee := Callee.builtin Builtin.append, args := #[Operand.tmp 52, Operand.tmp 60], argTypes := #[99, 99] }, type := 99, pos := "ref.go:49", after := #[{ on := 4, ground := Ground.data }, { on := 12, ground := Ground.data }], guard := none }) rfl (fun K hK => ?_) ?_
            · refine rs_append_run (by rfl) _ _ _ (by rfl) (by rfl) (by rfl) RUN.out ?_
              refine hK.out _ _ ?hs14 (fun hS14 => ?_)
              case hs14 => ((try dsimp only); first | with_reducible exact x0 | with_reducible exact x0m | with_reducible exact x0b | with_reducible exact x01 | with_reducible exact x02 | exact x0 | exact x0m | exact x0b | exact x01 | exact x02)
              clear hK K hS13
              refine wpAnyH_take (i := 14) (oi := { dst := some 62, op := Op.nilCheck (Operand.tmp 48), type := 0, pos := "ref.go:49", after := #[{ on := 0, ground := Ground.data }, { on := 0, ground := Ground.phase }, { on := 1, ground := Ground.phase }, { on := 2, ground := Ground.phase }, { on := 3, ground := Ground.phase }, { on := 4, ground := Ground.phase }, { on := 5, ground := Ground.phase }, { on := 6, ground := Ground.phase }, { on := 7, ground := Ground.phase }, { on := 8, ground := Ground.phase }, { on := 9, ground := Ground.phase }, { on := 10, ground := Ground.phase }, { on := 11, ground := Ground.phase }, { on := 12, ground := Ground.phase }, { on := 13, ground := Ground.phase }], guard := none }) (v := ?_) rfl (by kernel_rfl) (by kernel_rfl) (by kernel_rfl) (fun _ _ _ h => h) (Or.inl ⟨by rfl, ?hy15⟩) hS14 ?_
              case hy15 => (intro w hSw; (try dsimp only at hSw); go_simp; try with_reducible rfl)
              try simp only [Act.put, List.setIfInBounds_toArray, List.set_cons_zero, List.set_cons_succ]
              refine wpAnyH_take (i := 15) (oi := { dst := some 63, op := Op.fieldAddr 101 (Operand.tmp 62) 1, type := 0, pos := "ref.go:49", after := #[{ on := 14, ground := Ground.data }, { on := 0, ground := Ground.phase }, { on := 1, ground := Ground.phase }, { on := 2, ground := Ground.phase }, { on := 3, ground := Ground.phase }, { on := 4, ground := Ground.phase }, { on := 5, ground := Ground.phase }, { on := 6, ground := Ground.phase }, { on := 7, ground := Ground.phase }, { on := 8, ground := Ground.phase }, { on := 9, ground := Ground.phase }, { on := 10, ground := Ground.phase }, { on := 11, ground := Ground.phase }, { on := 12, ground := Ground.phase }, { on := 13, ground := Ground.phase }], guard := none }) (v := ?_) rfl (by kernel_rfl) (by kernel_rfl) (by kernel_rfl) (fun _ _ _ h => h) (Or.inl ⟨by rfl, ?hy16⟩) hS14 ?_
              case hy16 => (intro w hSw; (try dsimp only at hSw); go_simp; try with_reducible rfl)
              try simp only [Act.put, List.setIfInBounds_toArray, List.set_cons_zero, List.set_cons_succ]
              refine wpAnyH_ready (rs := [16]) (by kernel_rfl) (by simp) ?_
              refine AllReadyH.cons (o := { dst := none, op := Op.store 99 (Operand.tmp 63) (Operand.tmp 61), type := 0, pos := "ref.go:49", after := #[{ on := 15, ground := Ground.data }, { on := 13, ground := Ground.data }, { on := 13, ground := Ground.chain }, { on := 0, ground := Ground.phase }, { on := 1, ground := Ground.phase }, { on := 2, ground := Ground.phase }, { on := 3, ground := Ground.phase }, { on := 4, ground := Ground.phase }, { on := 5, ground := Ground.phase }, { on := 6, ground := Ground.phase }, { on := 7, ground := Ground.phase }, { on := 8, ground := Ground.phase }, { on := 9, ground := Ground.phase }, { on := 10, ground := Ground.phase }, { on := 11, ground := Ground.phase }, { on := 12, ground := Ground.phase }, { on := 13, ground := Ground.phase }], guard := none }) rfl (fun K hK => ?_) ?_
              · go_simp
                refine hK.out _ _ ?hs17 (fun hS17 => ?_)
                case hs17 => ((try dsimp only); first | with_reducible exact x0 | with_reducible exact x0m | with_reducible exact x0b | with_reducible exact x01 | with_reducible exact x02 | exact x0 | exact x0m | exact x0b | exact x01 | exact x02)
                clear hK K hS14
                refine wpAnyH_done (by kernel_rfl) ?_ _
                generalize w1.setCell ⟨R.r, 7, none⟩ (Value.slice ad (s.tail + 1) cp) = w2 at *
                go_wp2_with fail
                go_ret
                refine ⟨rfl, ?_⟩
                have F := FIN.out
                rw [CD.out] at F ⊢
                exact F
              exact AllReadyH.nil
            exact AllReadyH.nil
          exact AllReadyH.nil
        exact AllReadyH.nil
      refine AllReadyH.cons (o := { dst := some 58, op := Op.makeSlice 74 (Operand.tmp 57) (Operand.tmp 57), type := 74, pos := "ref.go:49", after := #[{ on := 9, ground := Ground.data }, { on := 9, ground := Ground.data }], guard := none }) rfl (fun K hK => ?_) ?_
      · go_simp
        refine hK.out _ _ ?hs18 (fun hS18 => ?_)
        case hs18 => ((try dsimp only); first | with_reducible exact x0 | with_reducible exact x0m | with_reducible exact x0b | with_reducible exact x01 | with_reducible exact x02 | exact x0 | exact x0m | exact x0b | exact x01 | exact x02)
        clear hK K hS0
        refine wpAnyH_take (i := 11) (oi := { dst := some 59, op := Op.build 126 #[(3, Operand.tmp 58)], type := 126, pos := "ref.go:49", after := #[{ on := 10, ground := Ground.data }], guard := none }) (v := ?_) rfl (by kernel_rfl) (by kernel_rfl) (by kernel_rfl) (fun _ _ _ h => h) (Or.inl ⟨by rfl, ?hy19⟩) hS18 ?_
        case hy19 => (intro w hSw; (try dsimp only at hSw); go_simp; try with_reducible rfl)
        try simp only [Act.put, List.setIfInBounds_toArray, List.set_cons_zero, List.set_cons_succ]
        refine wpAnyH_ready (rs := [4, 12]) (by kernel_rfl) (by simp) ?_
        refine AllReadyH.cons (o := { dst := some 52, op := Op.load 99 (Operand.tmp 51), type := 99, pos := "ref.go:49", after := #[{ on := 3, ground := Ground.data }], guard := none }) rfl (fun K hK => ?_) ?_
        · go_simp
          refine hK.out _ _ ?hs20 (fun hS20 => ?_)
          case hs20 => ((try dsimp only); first | with_reducible exact x0 | with_reducible exact x0m | with_reducible exact x0b | with_reducible exact x01 | with_reducible exact x02 | exact x0 | exact x0m | exact x0b | exact x01 | exact x02)
          clear hK K hS18
          refine wpAnyH_ready (rs := [12]) (by kernel_rfl) (by simp) ?_
          refine AllReadyH.cons (o := { dst := some 60, op := Op.buildSlice 99 1 #[(0, Operand.tmp 59)], type := 99, pos := "ref.go:49", after := #[{ on := 11, ground := Ground.data }], guard := none }) rfl (fun K hK => ?_) ?_
          · go_simp
            refine hK.out _ _ ?hs21 (fun hS21 => ?_)
            case hs21 => ((try dsimp only); first | with_reducible exact x0 | with_reducible exact x0m | with_reducible exact x0b | with_reducible exact x01 | with_reducible exact x02 | exact x0 | exact x0m | exact x0b | exact x01 | exact x02)
            clear hK K hS20
            refine wpAnyH_ready (rs := [13]) (by kernel_rfl) (by simp) ?_
            refine AllReadyH.cons (o := { dst := some 61, op := Op.call { callee := Callee.builtin Builtin.append, args := #[Operand.tmp 52, Operand.tmp 60], argTypes := #[99, 99] }, type := 99, pos := "ref.go:49", after := #[{ on := 4, ground := Ground.data }, { on := 12, ground := Ground.data }], guard := none }) rfl (fun K hK => ?_) ?_
            · refine rs_append_run (by rfl) _ _ _ (by rfl) (by rfl) (by rfl) RUN.out ?_
              refine hK.out _ _ ?hs22 (fun hS22 => ?_)
              case hs22 => ((try dsimp only); first | with_reducible exact x0 | with_reducible exact x0m | with_reducible exact x0b | with_reducible exact x01 | with_reducible exact x02 | exact x0 | exact x0m | exact x0b | exact x01 | exact x02)
              clear hK K hS21
              refine wpAnyH_take (i := 14) (oi := { dst := some 62, op := Op.nilCheck (Operand.tmp 48), type := 0, pos := "ref.go:49", after := #[{ on := 0, ground := Ground.data }, { on := 0, ground := Ground.phase }, { on := 1, ground := Ground.phase }, { on := 2, ground := Ground.phase }, { on := 3, ground := Ground.phase }, { on := 4, ground := Ground.phase }, { on := 5, ground := Ground.phase }, { on := 6, ground := Ground.phase }, { on := 7, ground := Ground.phase }, { on := 8, ground := Ground.phase }, { on := 9, ground := Ground.phase }, { on := 10, ground := Ground.phase }, { on := 11, ground := Ground.phase }, { on := 12, ground := Ground.phase }, { on := 13, ground := Ground.phase }], guard := none }) (v := ?_) rfl (by kernel_rfl) (by kernel_rfl) (by kernel_rfl) (fun _ _ _ h => h) (Or.inl ⟨by rfl, ?hy23⟩) hS22 ?_
              case hy23 => (intro w hSw; (try dsimp only at hSw); go_simp; try with_reducible rfl)
              try simp only [Act.put, List.setIfInBounds_toArray, List.set_cons_zero, List.set_cons_succ]
              refine wpAnyH_take (i := 15) (oi := { dst := some 63, op := Op.fieldAddr 101 (Operand.tmp 62) 1, type := 0, pos := "ref.go:49", after := #[{ on := 14, ground := Ground.data }, { on := 0, ground := Ground.phase }, { on := 1, ground := Ground.phase }, { on := 2, ground := Ground.phase }, { on := 3, ground := Ground.phase }, { on := 4, ground := Ground.phase }, { on := 5, ground := Ground.phase }, { on := 6, ground := Ground.phase }, { on := 7, ground := Ground.phase }, { on := 8, ground := Ground.phase }, { on := 9, ground := Ground.phase }, { on := 10, ground := Ground.phase }, { on := 11, ground := Ground.phase }, { on := 12, ground := Ground.phase }, { on := 13, ground := Ground.phase }], guard := none }) (v := ?_) rfl (by kernel_rfl) (by kernel_rfl) (by kernel_rfl) (fun _ _ _ h => h) (Or.inl ⟨by rfl, ?hy24⟩) hS22 ?_
              case hy24 => (intro w hSw; (try dsimp only at hSw); go_simp; try with_reducible rfl)
              try simp only [Act.put, List.setIfInBounds_toArray, List.set_cons_zero, List.set_cons_succ]
              refine wpAnyH_ready (rs := [16]) (by kernel_rfl) (by simp) ?_
              refine AllReadyH.cons (o := { dst := none, op := Op.store 99 (Operand.tmp 63) (Operand.tmp 61), type := 0, pos := "ref.go:49", after := #[{ on := 15, ground := Ground.data }, { on := 13, ground := Ground.data }, { on := 13, ground := Ground.chain }, { on := 0, ground := Ground.phase }, { on := 1, ground := Ground.phase }, { on := 2, ground := Ground.phase }, { on := 3, ground := Ground.phase }, { on := 4, ground := Ground.phase }, { on := 5, ground := Ground.phase }, { on := 6, ground := Ground.phase }, { on := 7, ground := Ground.phase }, { on := 8, ground := Ground.phase }, { on := 9, ground := Ground.phase }, { on := 10, ground := Ground.phase }, { on := 11, ground := Ground.phase }, { on := 12, ground := Ground.phase }, { on := 13, ground := Ground.phase }], guard := none }) rfl (fun K hK => ?_) ?_
              · go_simp
                refine hK.out _ _ ?hs25 (fun hS25 => ?_)
                case hs25 => ((try dsimp only); first | with_reducible exact x0 | with_reducible exact x0m | with_reducible exact x0b | with_reducible exact x01 | with_reducible exact x02 | exact x0 | exact x0m | exact x0b | exact x01 | exact x02)
                clear hK K hS22
                refine wpAnyH_done (by kernel_rfl) ?_ _
                generalize w1.setCell ⟨R.r, 7, none⟩ (Value.slice ad (s.tail + 1) cp) = w2 at *
                go_wp2_with fail
                go_ret
                refine ⟨rfl, ?_⟩
                have F := FIN.out
                rw [CD.out] at F ⊢
                exact F
              exact AllReadyH.nil
            exact AllReadyH.nil
          exact AllReadyH.nil
        refine AllReadyH.cons (o := { dst := some 60, op := Op.buildSlice 99 1 #[(0, Operand.tmp 59)], type := 99, pos := "ref.go:49", after := #[{ on := 11, ground := Ground.data }], guard := none }) rfl (fun K hK => ?_) ?_
        · go_simp
          refine hK.out _ _ ?hs26 (fun hS26 => ?_)
          case hs26 => ((try dsimp only); first | with_reducible exact x0 | with_reducible exact x0m | with_reducible exact x0b | with_reducible exact x01 | with_reducible exact x02 | exact x0 | exact x0m | exact x0b | exact x01 | exact x02)
          clear hK K hS18
          refine wpAnyH_ready (rs := [4]) (by kernel_rfl) (by simp) ?_
          refine AllReadyH.cons (o := { dst := some 52, op := Op.load 99 (Operand.tmp 51), type := 99, pos := "ref.go:49", after := #[{ on := 3, ground := Ground.data }], guard := none }) rfl (fun K hK => ?_) ?_
          · go_simp
            refine hK.out _ _ ?hs27 (fun hS27 => ?_)
            case hs27 => ((try dsimp only); first | with_reducible exact x0 | with_reducible exact x0m | with_reducible exact x0b | with_reducible exact x01 | with_reducible exact x02 | exact x0 | exact x0m | exact x0b | exact x01 | exact x02)
            clear hK K hS26
            refine wpAnyH_ready (rs := [13]) (by kernel_rfl) (by simp) ?_
            refine AllReadyH.cons (o := { dst := some 61, op := Op.call { callee := Callee.builtin Builtin.append, args := #[Operand.tmp 52, Operand.tmp 60], argTypes := #[99, 99] }, type := 99, pos := "ref.go:49", after := #[{ on := 4, ground := Ground.data }, { on := 12, ground := Ground.data }], guard := none }) rfl (fun K hK => ?_) ?_
            · refine rs_append_run (by rfl) _ _ _ (by rfl) (by rfl) (by rfl) RUN.out ?_
              refine hK.out _ _ ?hs28 (fun hS28 => ?_)
              case hs28 => ((try dsimp only); first | with_reducible exact x0 | with_reducible exact x0m | with_reducible exact x0b | with_reducible exact x01 | with_reducible exact x02 | exact x0 | exact x0m | exact x0b | exact x01 | exact x02)
              clear hK K hS27
              refine wpAnyH_take (i := 14) (oi := { dst := some 62, op := Op.nilCheck (Operand.tmp 48), type := 0, pos := "ref.go:49", after := #[{ on := 0, ground := Ground.data }, { on := 0, ground := Ground.phase }, { on := 1, ground := Ground.phase }, { on := 2, ground := Ground.phase }, { on := 3, ground := Ground.phase }, { on := 4, ground := Ground.phase }, { on := 5, ground := Ground.phase }, { on := 6, ground := Ground.phase }, { on := 7, ground := Ground.phase }, { on := 8, ground := Ground.phase }, { on := 9, ground := Ground.phase }, { on := 10, ground := Ground.phase }, { on := 11, ground := Ground.phase }, { on := 12, ground := Ground.phase }, { on := 13, ground := Ground.phase }], guard := none }) (v := ?_) rfl (by kernel_rfl) (by kernel_rfl) (by kernel_rfl) (fun _ _ _ h => h) (Or.inl ⟨by rfl, ?hy29⟩) hS28 ?_
              case hy29 => (intro w hSw; (try dsimp only at hSw); go_simp; try with_reducible rfl)
              try simp only [Act.put, List.setIfInBounds_toArray, List.set_cons_zero, List.set_cons_succ]
              refine wpAnyH_take (i := 15) (oi := { dst := some 63, op := Op.fieldAddr 101 (Operand.tmp 62) 1, type := 0, pos := "ref.go:49", after := #[{ on := 14, ground := Ground.data }, { on := 0, ground := Ground.phase }, { on := 1, ground := Ground.phase }, { on := 2, ground := Ground.phase }, { on := 3, ground := Ground.phase }, { on := 4, ground := Ground.phase }, { on := 5, ground := Ground.phase }, { on := 6, ground := Ground.phase }, { on := 7, ground := Ground.phase }, { on := 8, ground := Ground.phase }, { on := 9, ground := Ground.phase }, { on := 10, ground := Ground.phase }, { on := 11, ground := Ground.phase }, { on := 12, ground := Ground.phase }, { on := 13, ground := Ground.phase }], guard := none }) (v := ?_) rfl (by kernel_rfl) (by kernel_rfl) (by kernel_rfl) (fun _ _ _ h => h) (Or.inl ⟨by rfl, ?hy30⟩) hS28 ?_
              case hy30 => (intro w hSw; (try dsimp only at hSw); go_simp; try with_reducible rfl)
              try simp only [Act.put, List.setIfInBounds_toArray, List.set_cons_zero, List.set_cons_succ]
              refine wpAnyH_ready (rs := [16]) (by kernel_rfl) (by simp) ?_
              refine AllReadyH.cons (o := { dst := none, op := Op.store 99 (Operand.tmp 63) (Operand.tmp 61), type := 0, pos := "ref.go:49", after := #[{ on := 15, ground := Ground.data }, { on := 13, ground := Ground.data }, { on := 13, ground := Ground.chain }, { on := 0, ground := Ground.phase }, { on := 1, ground := Ground.phase }, { on := 2, ground := Ground.phase }, { on := 3, ground := Ground.phase }, { on := 4, ground := Ground.phase }, { on := 5, ground := Ground.phase }, { on := 6, ground := Ground.phase }, { on := 7, ground := Ground.phase }, { on := 8, ground := Ground.phase }, { on := 9, ground := Ground.phase }, { on := 10, ground := Ground.phase }, { on := 11, ground := Ground.phase }, { on := 12, ground := Ground.phase }, { on := 13, ground := Ground.phase }], guard := none }) rfl (fun K hK => ?_) ?_
              · go_simp
                refine hK.out _ _ ?hs31 (fun hS31 => ?_)
                case hs31 => ((try dsimp only); first | with_reducible exact x0 | with_reducible exact x0m | with_reducible exact x0b | with_reducible exact x01 | with_reducible exact x02 | exact x0 | exact x0m | exact x0b | exact x01 | exact x02)
                clear hK K hS28
                refine wpAnyH_done (by kernel_rfl) ?_ _
                generalize w1.setCell ⟨R.r, 7, none⟩ (Value.slice ad (s.tail + 1) cp) = w2 at *
                go_wp2_with fail
                go_ret
                refine ⟨rfl, ?_⟩
                have F := FIN.out
                rw [CD.out] at F ⊢
                exact F
              exact AllReadyH.nil
            exact AllReadyH.nil
          exact AllReadyH.nil
        exact AllReadyH.nil
      exact AllReadyH.nil
end
end Go.Proofs.Yteokdibfdahabaa
