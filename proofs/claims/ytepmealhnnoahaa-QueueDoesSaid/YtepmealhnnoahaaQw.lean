/-
  The first matches of a row are taken out of it: slices.Delete.
-/
import Derived.Test.YtepmealhnnoahaaQv
namespace Go.Proofs.Ytepmealhnnoahaa
open Go.ChangeShapes Go.WideShapes Go.ChangeAt Go.RowKit
set_option linter.unusedVariables false
theorem clear_own {w : World} {base g m cap k c : Nat} {xs : List Value} (h : w.ownsRow base 71 2 (.slice (some ⟨g, 0, none⟩) m cap) m xs) (hk : 1 ≤ k) (hmk : m + k ≤ cap) :
    ∃ w', (∀ ty, (Builtin.clear_ #[89] ty #[.slice (some ⟨g, m * 2, none⟩) k c]).run Try.prog w = .ok (.tuple #[]) w') ∧ w'.ownsRow base 71 2 (.slice (some ⟨g, 0, none⟩) m cap) m xs ∧ Turn (fun q => q = g) w w' := by
  rcases h.2 with ⟨e, _⟩ | ⟨g', cap', cu, e, hb, hg, hnc, hcm, hcs, ht⟩
  · simp at e
  simp only [Value.slice.injEq, Option.some.injEq, Addr.mk.injEq, and_true, true_and] at e
  obtain ⟨rfl, rfl⟩ := e
  have hl := h.1
  have hz : (Builtin.zeroCells (Value.cells (.agg #[.slice none 0 0, .slice none 0 0])) k).toList.length = k * 2 := by
    rw [Array.length_toList, size_zeroCells]
    rfl
  have h1 : ∀ v ∈ (Builtin.zeroCells (Value.cells (.agg #[.slice none 0 0, .slice none 0 0])) k).toList, v.oneCell' = true := by
    intro v hv
    simp [Builtin.zeroCells, Value.cells] at hv
    obtain ⟨j, hj, rfl⟩ := hv
    have : j % 2 = 0 ∨ j % 2 = 1 := by omega
    rcases this with e | e <;> simp [e, Value.oneCell']
  have hst := run_storeCells_at (P := Try.prog) g (m * 2) 71 (Builtin.zeroCells (Value.cells (.agg #[.slice none 0 0, .slice none 0 0])) k).toList 0 cu w hg (by rw [hz, hcs]; omega) h1
  simp only [Nat.add_zero] at hst
  refine ⟨w.setRow g (cu.toList.take (m * 2) ++ (Builtin.zeroCells (Value.cells (.agg #[.slice none 0 0, .slice none 0 0])) k).toList ++ cu.toList.drop (m * 2 + (Builtin.zeroCells (Value.cells (.agg #[.slice none 0 0, .slice none 0 0])) k).toList.length)).toArray, fun ty => ?_, ?_, ?_⟩
  · obtain ⟨k', rfl⟩ : ∃ k', k = k' + 1 := ⟨k - 1, by omega⟩
    simp [Builtin.clear_, run_underlying Try.underlying89, hst]
  · refine ⟨hl, .inr ⟨g, cap, _, rfl, hb, setRow_heap w g cu _ 71 _ hg, hnc, hcm, ?_, ?_⟩⟩
    · simp only [List.size_toArray, List.length_append, List.length_take, List.length_drop, Array.length_toList, hz]
      omega
    · rw [← ht]
      simp only [List.append_assoc]
      rw [List.take_append_of_le_length (by simp; omega), List.take_take, Nat.min_self]
  · exact ⟨rfl, rfl, rfl, by simp, fun q _ hq => setRow_other w g q _ hq⟩
theorem info71d : (Try.prog.info? 71).map (fun i => (i.zero, i.size, i.bytes)) = some (some (.agg #[.slice none 0 0, .slice none 0 0]), 2, 48) := by kernel_rfl
theorem shift_own {w : World} {base g n cap k c : Nat} {xs : List Value} (h : w.ownsRow base 71 2 (.slice (some ⟨g, 0, none⟩) n cap) n xs) (h1 : ∀ u ∈ xs, u.oneCell' = true) (hk : k ≤ n) {A : Addr} (hA : k < n → A = ⟨g, k * 2, none⟩) :
    ∃ w', (Builtin.append_ #[89, 89] 89 #[.slice (some ⟨g, 0, none⟩) 0 cap, .slice (some A) (n - k) c]).run Try.prog w = .ok (.slice (some ⟨g, 0, none⟩) (n - k) cap) w' ∧ w'.ownsRow base 71 2 (.slice (some ⟨g, 0, none⟩) (n - k) cap) (n - k) (xs.drop (k * 2)) ∧ Turn (fun q => q = g) w w' := by
  rcases h.2 with ⟨e, _⟩ | ⟨g', cap', cu, e, hb, hg, hnc, hcm, hcs, ht⟩
  · simp at e
  simp only [Value.slice.injEq, Option.some.injEq, Addr.mk.injEq, and_true, true_and] at e
  obtain ⟨rfl, rfl⟩ := e
  have hl := h.1
  obtain ⟨i, hi, j2, j3, j4⟩ := info_parts info71d
  have hd : (xs.drop (k * 2)).length = (n - k) * 2 := by rw [List.length_drop, hl]; omega
  have hr := run_append_room (P := Try.prog) w 89 89 71 i Try.underlying89 hi g 0 cap cu hg A (n - k) c (xs.drop (k * 2)) (by rw [hd, j3]) (fun j u hu => by
    have hj : j < (n - k) * 2 := by rw [← hd]; exact (List.getElem?_eq_some_iff.1 hu).1
    rw [hA (by omega), Go.WideShapes.add_plain, h.cellAt _ (by omega)]
    rw [List.getElem?_drop] at hu
    exact hu) (fun u hu => h1 u (List.mem_of_mem_drop hu)) (by omega) (by rw [hd]; omega)
  rw [Nat.zero_add] at hr
  refine ⟨_, hr, ⟨hd, .inr ⟨g, cap, _, rfl, hb, setRow_heap w g cu _ 71 _ hg, by omega, hcm, ?_, ?_⟩⟩, ⟨rfl, rfl, rfl, by simp, fun q _ hq => setRow_other w g q _ hq⟩⟩
  · simp only [List.size_toArray, List.length_append, List.length_take, List.length_drop, Array.length_toList, hd]
    have := hl
    omega
  · simp only [Nat.zero_mul, List.take_zero, List.nil_append, Nat.zero_add]
    rw [List.take_append_of_le_length (by omega), List.take_of_length_le (by omega)]
set_option maxRecDepth 100000 in
set_option maxHeartbeats 4000000 in
theorem del_none {w : World} {ad : Option Addr} {n cap : Nat} (hn : n ≤ cap) (hc : cap ≤ maxLen) (ha : ad = none → cap = 0) : Calls Try.prog 41 #[.slice ad n cap, .int .i64 0, .int .i64 0] w fun e w' => e = .returned (.slice ad n cap) ∧ w = w' := by
  have := hc
  unfold maxLen at this
  go_enter Try.func41, Try.ntmps41
  go_wp2

  all_goals (go_ret; exact ⟨rfl, rfl⟩)
set_option maxRecDepth 100000 in
set_option maxHeartbeats 4000000 in
theorem del_first {w : World} {base g n cap k : Nat} {xs : List Value} (h : w.ownsRow base 71 2 (.slice (some ⟨g, 0, none⟩) n cap) n xs) (h1 : ∀ u ∈ xs, u.oneCell' = true) (hk1 : 1 ≤ k) (hk : k ≤ n) (hn : n ≤ 1000000) :
    Calls Try.prog 41 #[.slice (some ⟨g, 0, none⟩) n cap, .int .i64 0, .int .i64 (k : Int)] w fun e w' => e = .returned (.slice (some ⟨g, 0, none⟩) (n - k) cap) ∧ w'.ownsRow base 71 2 (.slice (some ⟨g, 0, none⟩) (n - k) cap) (n - k) (xs.drop (k * 2)) ∧ Turn (fun q => q = g) w w' := by
  have hcm : n ≤ cap ∧ cap ≤ maxLen := by
    rcases h.2 with ⟨e, _⟩ | ⟨g', cap', cu, e, hb, hg, hnc, hcm, hcs, ht⟩
    · simp at e
    · simp at e
      obtain ⟨rfl, rfl⟩ := e
      exact ⟨hnc, hcm⟩
  have hcap := hcm.1
  have hmax := hcm.2
  unfold maxLen at hmax
  have T1 : Turn (fun q => q = g) w w.drew := (Turn.refl _ w).drewN 1
  have h0 : w.drew.ownsRow base 71 2 (.slice (some ⟨g, 0, none⟩) n cap) n xs := h
  obtain ⟨A, hA, hA2⟩ : ∃ A : Addr, (if cap = k then some (⟨g, 0, none⟩ : Addr) else some ⟨g, k * 2, none⟩) = some A ∧ (k < n → A = ⟨g, k * 2, none⟩) := by
    by_cases e : cap = k
    · exact ⟨⟨g, 0, none⟩, by simp [e], fun q => by omega⟩
    · exact ⟨⟨g, k * 2, none⟩, by simp [e], fun _ => rfl⟩
  obtain ⟨W1, hr, ho, T2⟩ := shift_own (c := cap - k) h0 h1 hk hA2
  obtain ⟨W2, hc, ho2, T3⟩ := clear_own (c := cap - (n - k)) (k := n - (n - k)) ho (by omega) (by omega)
  have RA := Lib.hid hr
  have RC := Lib.hid hc
  have FIN := Lib.hid (show W2.ownsRow base 71 2 (.slice (some ⟨g, 0, none⟩) (n - k) cap) (n - k) (xs.drop (k * 2)) ∧ Turn (fun q => q = g) w W2 from ⟨ho2, (T1.trans T2).trans T3⟩)
  clear h h0 h1 T1 T2 T3 hr ho hc ho2 hA2 hcm
  go_enter Try.func41, Try.ntmps41
  go_wp2_with fail

  refine wp_region_held_drew (S := (fun w' => True)) (by kernel_rfl) ?hs0 (fun hS0 => ?_)
  case hs0 => exact True.intro
  refine wpAnyH_take (i := 0) (oi := { dst := some 20, op := Op.move (Operand.tmp 0), type := 89, pos := "slices.go:232", after := #[], guard := none }) (v := ?_) rfl (by kernel_rfl) (by kernel_rfl) (by kernel_rfl) (fun _ _ _ h => h) (Or.inl ⟨by rfl, ?hy1⟩) hS0 ?_
  case hy1 => (intro w hSw; (try dsimp only at hSw); go_simp; try with_reducible rfl)
  try simp only [Act.put, List.setIfInBounds_toArray, List.set_cons_zero, List.set_cons_succ]
  refine wpAnyH_take (i := 1) (oi := { dst := some 21, op := Op.move (Operand.tmp 1), type := 3, pos := "slices.go:232", after := #[], guard := none }) (v := ?_) rfl (by kernel_rfl) (by kernel_rfl) (by kernel_rfl) (fun _ _ _ h => h) (Or.inl ⟨by rfl, ?hy2⟩) hS0 ?_
  case hy2 => (intro w hSw; (try dsimp only at hSw); go_simp; try with_reducible rfl)
  try simp only [Act.put, List.setIfInBounds_toArray, List.set_cons_zero, List.set_cons_succ]
  refine wpAnyH_take (i := 2) (oi := { dst := some 22, op := Op.slice 89 (Operand.tmp 20) none (some (Operand.tmp 21)) none, type := 89, pos := "slices.go:232", after := #[{ on := 0, ground := Ground.data }, { on := 1, ground := Ground.data }], guard := none }) (v := ?_) rfl (by kernel_rfl) (by kernel_rfl) (by kernel_rfl) (fun _ _ _ h => h) (Or.inl ⟨by rfl, ?hy3⟩) hS0 ?_
  case hy3 => (intro w hSw; (try dsimp only at hSw); go_simp; try with_reducible rfl)
  try simp only [Act.put, List.setIfInBounds_toArray, List.set_cons_zero, List.set_cons_succ]
  refine wpAnyH_take (i := 3) (oi := { dst := some 23, op := Op.move (Operand.tmp 0), type := 89, pos := "slices.go:232", after := #[], guard := none }) (v := ?_) rfl (by kernel_rfl) (by kernel_rfl) (by kernel_rfl) (fun _ _ _ h => h) (Or.inl ⟨by rfl, ?hy4⟩) hS0 ?_
  case hy4 => (intro w hSw; (try dsimp only at hSw); go_simp; try with_reducible rfl)
  try simp only [Act.put, List.setIfInBounds_toArray, List.set_cons_zero, List.set_cons_succ]
  refine wpAnyH_take (i := 4) (oi := { dst := some 24, op := Op.move (Operand.tmp 2), type := 3, pos := "slices.go:232", after := #[], guard := none }) (v := ?_) rfl (by kernel_rfl) (by kernel_rfl) (by kernel_rfl) (fun _ _ _ h => h) (Or.inl ⟨by rfl, ?hy5⟩) hS0 ?_
  case hy5 => (intro w hSw; (try dsimp only at hSw); go_simp; try with_reducible rfl)
  try simp only [Act.put, List.setIfInBounds_toArray, List.set_cons_zero, List.set_cons_succ]
  refine wpAnyH_take (i := 5) (oi := { dst := some 25, op := Op.slice 89 (Operand.tmp 23) (some (Operand.tmp 24)) none none, type := 89, pos := "slices.go:232", after := #[{ on := 3, ground := Ground.data }, { on := 4, ground := Ground.data }], guard := none }) (v := ?_) rfl (by kernel_rfl) (by kernel_rfl) (by kernel_rfl) (fun _ _ _ h => h) (Or.inl ⟨by rfl, ?hy6⟩) hS0 ?_
  case hy6 => (intro w hSw; (try dsimp only at hSw); go_simp; try with_reducible rfl)
  try simp only [Act.put, List.setIfInBounds_toArray, List.set_cons_zero, List.set_cons_succ]
  refine wpAnyH_ready (rs := [6]) (by kernel_rfl) (by simp) ?_
  refine AllReadyH.cons (o := { dst := some 26, op := Op.call { callee := Callee.builtin Builtin.append, args := #[Operand.tmp 22, Operand.tmp 25], argTypes := #[89, 89] }, type := 89, pos := "slices.go:232", after := #[{ on := 2, ground := Ground.data }, { on := 5, ground := Ground.data }], guard := none }) rfl (fun K hK => ?_) ?_
  · refine rs_append_run (by rfl) _ _ _ (by rfl) (by rfl) (by rfl) RA.out ?_
    refine hK.out _ _ ?hs7 (fun hS7 => ?_)
    case hs7 => exact True.intro
    clear hK K hS0
    refine wpAnyH_take (i := 7) (oi := { dst := some 0, op := Op.assign (Operand.tmp 26), type := 89, pos := "slices.go:232", after := #[{ on := 6, ground := Ground.data }, { on := 6, ground := Ground.chain }, { on := 0, ground := Ground.phase }, { on := 1, ground := Ground.phase }, { on := 2, ground := Ground.phase }, { on := 3, ground := Ground.phase }, { on := 4, ground := Ground.phase }, { on := 5, ground := Ground.phase }, { on := 6, ground := Ground.phase }], guard := none }) (v := ?_) rfl (by kernel_rfl) (by kernel_rfl) (by kernel_rfl) (fun _ _ _ h => h) (Or.inl ⟨by rfl, ?hy8⟩) hS7 ?_
    case hy8 => (intro w hSw; (try dsimp only at hSw); go_simp; try with_reducible rfl)
    try simp only [Act.put, List.setIfInBounds_toArray, List.set_cons_zero, List.set_cons_succ]
    refine wpAnyH_done (by kernel_rfl) ?_ _
    have nk : cap ≠ n - k := by omega
    have RC0 := RC.out
    clear hA
    go_wp2_with fail
    trace_state
    go_ret
    exact ⟨rfl, FIN.out⟩
    
  exact AllReadyH.nil
end Go.Proofs.Ytepmealhnnoahaa
