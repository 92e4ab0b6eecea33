/-
  The document's own log, in memory: an answer is asked for.
-/
import Derived.Test.YteokdibfdahabaaRf9
namespace Go.Proofs.Yteokdibfdahabaa
open Go.ChangeShapes Go.WideShapes Go.ChangeAt Go.RowKit
set_option linter.unusedVariables false
section
variable {w w' : World} {R : RB} {c : Cf} {s : LSt}
set_option maxRecDepth 100000 in
set_option maxHeartbeats 2000000 in
theorem RefAt.answer_yes (h : RefAt w R c s) {i : Nat} (hi : i < s.tail) {q : Nd} (hq : s.G (i : Int) = some q) :
    Calls Try.prog 44 #[.pointer (some ⟨R.r, 0, none⟩), .int .i64 (i : Int)] w fun e w' => e = .returned (.tuple #[q.val, .bool true]) ∧ ∃ R' : RB, R'.base = R.base ∧ R'.r = R.r ∧ RefAt w' R' c { s with G := updI s.G (i : Int) none } ∧ Turn (RS R.base w) w w' := by
  obtain ⟨W, hW⟩ : ∃ W, W = w.alloc (.cells #[.int .i64 0, .int .i64 0, .slice none 0 0] 67) := ⟨_, rfl⟩
  have T : Turn (fun _ => False) w W := by rw [hW]; exact (Turn.refl _ w).alloc _
  have Bk : Blk W w.heap.size 67 := by rw [hW]; exact Blk.new w [.int .i64 0, .int .i64 0, .slice none 0 0] 67
  have C : W.rangeAt w.heap.size 0 [.int .i64 0, .int .i64 0, .slice none 0 0] := by rw [hW]; exact range_new w [.int .i64 0, .int .i64 0, .slice none 0 0] 67
  have hh := h.keep T
  obtain ⟨g, cap, hv, hb, hgb, rows⟩ := hh.row hi
  have k7 := hh.k7
  rw [hv] at k7
  have c1 : W.cell? ⟨g, i * 20 + 1, none⟩ = some (.bool true) := by
    have := rows i hi 1 _ rfl
    rw [hh.wt i hi, hq] at this
    exact this
  have hown := hh.own
  rw [hv] at hown
  obtain ⟨W1, hW1⟩ : ∃ W1, W1 = W.setCell ⟨g, i * 20 + 1, none⟩ (.bool false) := ⟨_, rfl⟩
  have T1 : Turn (fun b => b = g) W W1 := by rw [hW1]; exact Turn.put _ _ _ _
  have O1 : W1.ownsRow R.base 126 20 (.slice (some ⟨g, 0, none⟩) s.tail cap) s.tail (flat (fun k => (upd R.D i { R.D i with wt := false } k).cells c.sh) s.tail) := by
    rw [hW1]
    exact own_cell hown hi { R.D i with wt := false } 1 [.bool false] (by decide) (DC.set_wt _ _ _)
  have F := hh.put_cell hv hi (d := { R.D i with wt := false }) rfl T1 O1 (X := s.X) (G := updI s.G (i : Int) none) (fun hl => ⟨hh.fl _ hi hl, hh.cm _ hi hl⟩) ⟨by rw [updI_at]; rfl, fun q hq => by rw [updI_at] at hq; cases hq⟩ (fun k hk => ⟨rfl, updI_off _ _ (by omega)⟩)
  have RQ : W1.rangeAt g (i * 20 + 17) [.int .i64 q.err, .int .i64 q.n, .slice none 0 0] := fun j u hu => by
    have hj : j < 3 := (List.getElem?_eq_some_iff.1 hu).1
    rw [Nat.add_assoc, hW1, cell_off _ _ _ _ _ (by omega)]
    refine rows i hi (17 + j) u ?_
    rw [← hh.an i hi q hq] at hu
    have hj' : j = 0 ∨ j = 1 ∨ j = 2 := by omega
    rcases hj' with rfl | rfl | rfl <;> exact hu
  have nb : w.heap.size ≠ g := Bk.ne hb (by decide)
  have TH : W1.there w.heap.size 0 3 := range_there (range_turn C T1 nb) rfl (Bk.turn T1 nb)
  have nr : R.r ≠ g := hh.br.ne hb (by decide)
  have z7 := T1.cell nr k7
  have fz1 : W.frozen? ⟨g, i * 20 + 1, none⟩ = false := hb.fz _
  have hbl := Bk.lt
  have T6 : Turn (fun k => k = w.heap.size) W1 (W1.setCells w.heap.size 0 [.int .i64 q.err, .int .i64 q.n, .slice none 0 0]) := Turn.setCells _ 0 (Turn.refl _ W1) (.inl rfl)
  have nt : ∀ (t : TypeId) b, t ≠ 67 → Blk W1 b t → ¬ (b = w.heap.size) := fun t b ht hb' e => hb'.ne (Bk.turn T1 nb) ht e
  have FIN := Lib.hid (show ∃ R' : RB, R'.base = R.base ∧ R'.r = R.r ∧ RefAt (W1.setCells w.heap.size 0 [.int .i64 q.err, .int .i64 q.n, .slice none 0 0]) R' c { s with G := updI s.G (i : Int) none } ∧ Turn (RS R.base w) w (W1.setCells w.heap.size 0 [.int .i64 q.err, .int .i64 q.n, .slice none 0 0]) from
    ⟨{ R with D := upd R.D i { R.D i with wt := false } }, rfl, rfl, F.turn T6 (nt 101 · (by decide)) (nt 128 · (by decide)) (nt 126 · (by decide)) (nt 62 · (by decide)) (nt 3 · (by decide)),
      ((T.more (S' := RS R.base w) (fun _ _ f => f.elim)).comp T1 (fun k hk e => by
        rw [e] at hk ⊢
        obtain ⟨cs, hc⟩ := hb
        exact ⟨hgb, .inr (.inr (.inl ⟨cs, (T.block g hk (fun f => f)).symm.trans hc⟩))⟩)).comp T6 (fun k hk e => by omega)⟩)
  have HC := Lib.hid (show ([.int .i64 q.err, .int .i64 q.n, .slice none 0 0] : List Value).length = 3 ∧ ([.int .i64 q.err, .int .i64 q.n, .slice none 0 0] : List Value).toArray.all (·.oneCell') = true from ⟨rfl, by simp [Value.oneCell']⟩)
  have QV : q.val = .agg ([.int .i64 q.err, .int .i64 q.n, .slice none 0 0] : List Value).toArray := rfl
  rw [QV]
  have t1 : decide ((i : Int) < 0) = false := by simp
  have t2 : decide ((s.tail : Int) ≤ (i : Int)) = false := by simp; omega
  have t2n : ¬ s.tail ≤ i := by omega
  have m1 : (0 : Int) ≤ (i : Int) := by omega
  have m2 : (i : Int) < (s.tail : Int) := by omega
  have TH := Lib.hid TH
  have RQ := Lib.hid RQ
  clear T Bk C hh h hv hb hgb rows hown T1 O1 F nb nr T6 nt hq QV hi hbl
  generalize [Value.int .i64 q.err, Value.int .i64 q.n, Value.slice none 0 0] = cs at *
  generalize s.tail = n at *
  go_enter Try.func44, Try.ntmps44
  go_upto_region 1 with fail
  rw [← hW]
  clear hW
  generalize w.heap.size = b at *
  go_upto_region 4 with fail
  rw [← hW1]
  clear hW1
  refine wp_region_lit ?_
  refine rl_rd rfl (v := ?_) ?hz1 ?_
  case hz1 => (go_simp; try with_reducible rfl)
  try simp only [Act.put, List.setIfInBounds_toArray, List.set_cons_zero, List.set_cons_succ]
  refine rl_rd rfl (v := ?_) ?hz2 ?_
  case hz2 => (go_simp; try with_reducible rfl)
  try simp only [Act.put, List.setIfInBounds_toArray, List.set_cons_zero, List.set_cons_succ]
  refine rl_rd rfl (v := ?_) ?hz3 ?_
  case hz3 => (go_simp; try with_reducible rfl)
  try simp only [Act.put, List.setIfInBounds_toArray, List.set_cons_zero, List.set_cons_succ]
  refine rl_rd rfl (v := ?_) ?hz4 ?_
  case hz4 => (go_simp; try with_reducible rfl)
  try simp only [Act.put, List.setIfInBounds_toArray, List.set_cons_zero, List.set_cons_succ]
  refine rl_rd rfl (v := ?_) ?hz5 ?_
  case hz5 => (go_simp; try with_reducible rfl)
  try simp only [Act.put, List.setIfInBounds_toArray, List.set_cons_zero, List.set_cons_succ]
  refine rl_rd rfl (v := ?_) ?hz6 ?_
  case hz6 => (go_simp; try with_reducible rfl)
  try simp only [Act.put, List.setIfInBounds_toArray, List.set_cons_zero, List.set_cons_succ]
  refine rl_rd rfl (v := ?_) ?hz7 ?_
  case hz7 => (go_simp; try with_reducible rfl)
  try simp only [Act.put, List.setIfInBounds_toArray, List.set_cons_zero, List.set_cons_succ]
  refine wpList_load_mid rfl 67 _ rfl g (i * 20 + 17) rfl cs _ RQ.out Try.underlying67 rfl (by rw [HC.out.1]; exact size67) ?_
  try simp only [Act.put, List.setIfInBounds_toArray, List.set_cons_zero, List.set_cons_succ]
  refine wpList_store_mid rfl 67 _ _ rfl b 0 cs.toArray rfl rfl (by rw [List.size_toArray, HC.out.1]; exact TH.out) (by rw [List.size_toArray, HC.out.1]; exact size67) HC.out.2 ?_
  try simp only [Act.put, List.setIfInBounds_toArray, List.set_cons_zero, List.set_cons_succ]
  go_wp2_with fail
  exact bodyPost_ret (v := .tuple #[.agg cs.toArray, .bool true]) (res_cell_tmp (a := 4) (k := 5) rfl rfl rfl (run_loadVar_mid _ b 0 67 cs _ (World.rangeAt_setCells_same _ b 0 cs (by rw [HC.out.1]; exact TH.out)) Try.underlying67 rfl (by rw [HC.out.1]; exact size67))) rfl ⟨rfl, FIN.out⟩
theorem build67 (w : World) : (Instr.build 67 #[]).run Try.prog w = .ok (.agg #[.int .i64 0, .int .i64 0, .slice none 0 0]) w := run_build w 67 _ _ (by kernel_rfl)
set_option maxRecDepth 100000 in
set_option maxHeartbeats 2000000 in
theorem RefAt.answer_no (h : RefAt w R c s) {at_ : Int} (hq : s.G at_ = none) :
    Calls Try.prog 44 #[.pointer (some ⟨R.r, 0, none⟩), .int .i64 at_] w fun e w' => e = .returned (.tuple #[Nd.zero.val, .bool false]) ∧ Turn (fun _ => False) w w' := by
  obtain ⟨W, hW⟩ : ∃ W, W = w.alloc (.cells #[.int .i64 0, .int .i64 0, .slice none 0 0] 67) := ⟨_, rfl⟩
  have T : Turn (fun _ => False) w W := by rw [hW]; exact (Turn.refl _ w).alloc _
  have Bk : Blk W w.heap.size 67 := by rw [hW]; exact Blk.new w [.int .i64 0, .int .i64 0, .slice none 0 0] 67
  have C : W.rangeAt w.heap.size 0 [.int .i64 0, .int .i64 0, .slice none 0 0] := by rw [hW]; exact range_new w [.int .i64 0, .int .i64 0, .slice none 0 0] 67
  have hh := h.keep T
  obtain ⟨cs, hcs⟩ : ∃ cs : List Value, cs = [.int .i64 0, .int .i64 0, .slice none 0 0] := ⟨_, rfl⟩
  have QV : Nd.zero.val = .agg cs.toArray := by rw [hcs]; rfl
  rw [QV]
  have BU : ∀ w, (Instr.build 67 #[]).run Try.prog w = .ok (.agg cs.toArray) w := fun w => by rw [hcs]; exact build67 w
  have BU := Lib.hid BU
  have HC := Lib.hid (show cs.length = 3 ∧ cs.toArray.all (·.oneCell') = true from by rw [hcs]; exact ⟨rfl, by decide +kernel⟩)
  have TH := Lib.hid (show W.there w.heap.size 0 3 from range_there C rfl Bk)
  have hbl := Bk.lt
  have KE := Lib.hid (T.comp (Turn.setCells cs 0 (show Turn (fun b => b = w.heap.size) W W from Turn.refl _ W) (.inl rfl)) (S := fun _ => False) (fun j hj e => by omega))
  have k7 := hh.k7
  clear Bk C hbl QV
  by_cases q0 : at_ < 0
  · have t1 : decide (at_ < 0) = true := by simpa using q0
    clear T hh h hq q0 hcs
    go_enter Try.func44, Try.ntmps44
    go_upto_region 1 with fail
    rw [← hW]
    clear hW
    generalize w.heap.size = b at *
    go_upto_region 2 with fail
    refine wp_region_lit ?_
    refine rl_build rfl 67 _ rfl (vs := #[]) (v := .agg cs.toArray) (by simp) (BU.out _) ?_
    try simp only [Act.put, List.setIfInBounds_toArray, List.set_cons_zero, List.set_cons_succ]
    refine wpList_store_mid rfl 67 _ _ rfl b 0 cs.toArray rfl rfl (by rw [List.size_toArray, HC.out.1]; exact TH.out) (by rw [List.size_toArray, HC.out.1]; exact size67) HC.out.2 ?_
    try simp only [Act.put, List.setIfInBounds_toArray, List.set_cons_zero, List.set_cons_succ]
    go_wp2_with fail
    exact bodyPost_ret (v := .tuple #[.agg cs.toArray, .bool false]) (res_cell_tmp (a := 4) (k := 5) rfl rfl rfl (run_loadVar_mid _ b 0 67 cs _ (World.rangeAt_setCells_same _ b 0 cs (by rw [HC.out.1]; exact TH.out)) Try.underlying67 rfl (by rw [HC.out.1]; exact size67))) rfl ⟨rfl, KE.out⟩
  · have t1 : decide (at_ < 0) = false := by simpa using q0
    by_cases q1 : (s.tail : Int) ≤ at_
    · have t2 : decide ((s.tail : Int) ≤ at_) = true := by simpa using q1
      obtain ⟨a, cap, hv, _⟩ := own_slice hh.own
      rw [hv] at k7
      clear T hh h hq q0 hcs hv q1
      go_enter Try.func44, Try.ntmps44
      go_upto_region 1 with fail
      rw [← hW]
      clear hW
      generalize w.heap.size = b at *
      go_upto_region 2 with fail
      refine wp_region_lit ?_
      refine rl_build rfl 67 _ rfl (vs := #[]) (v := .agg cs.toArray) (by simp) (BU.out _) ?_
      try simp only [Act.put, List.setIfInBounds_toArray, List.set_cons_zero, List.set_cons_succ]
      refine wpList_store_mid rfl 67 _ _ rfl b 0 cs.toArray rfl rfl (by rw [List.size_toArray, HC.out.1]; exact TH.out) (by rw [List.size_toArray, HC.out.1]; exact size67) HC.out.2 ?_
      try simp only [Act.put, List.setIfInBounds_toArray, List.set_cons_zero, List.set_cons_succ]
      go_wp2_with fail
      exact bodyPost_ret (v := .tuple #[.agg cs.toArray, .bool false]) (res_cell_tmp (a := 4) (k := 5) rfl rfl rfl (run_loadVar_mid _ b 0 67 cs _ (World.rangeAt_setCells_same _ b 0 cs (by rw [HC.out.1]; exact TH.out)) Try.underlying67 rfl (by rw [HC.out.1]; exact size67))) rfl ⟨rfl, KE.out⟩
    · obtain ⟨i, rfl⟩ : ∃ i : Nat, at_ = (i : Int) := ⟨at_.toNat, by omega⟩
      have hi : i < s.tail := by omega
      obtain ⟨g, cap, hv, hb, hgb, rows⟩ := hh.row hi
      rw [hv] at k7
      have c1 : W.cell? ⟨g, i * 20 + 1, none⟩ = some (.bool false) := by
        have := rows i hi 1 _ rfl
        rw [hh.wt i hi, hq] at this
        exact this
      have t2 : decide ((s.tail : Int) ≤ (i : Int)) = false := by simp; omega
      have t2n : ¬ s.tail ≤ i := by omega
      have m1 : (0 : Int) ≤ (i : Int) := by omega
      have m2 : (i : Int) < (s.tail : Int) := by omega
      clear T hh h hq q0 hcs hv q1 hi rows hb
      go_enter Try.func44, Try.ntmps44
      go_upto_region 1 with fail
      rw [← hW]
      clear hW
      generalize w.heap.size = b at *
      go_upto_region 2 with fail
      refine wp_region_lit ?_
      refine rl_build rfl 67 _ rfl (vs := #[]) (v := .agg cs.toArray) (by simp) (BU.out _) ?_
      try simp only [Act.put, List.setIfInBounds_toArray, List.set_cons_zero, List.set_cons_succ]
      refine wpList_store_mid rfl 67 _ _ rfl b 0 cs.toArray rfl rfl (by rw [List.size_toArray, HC.out.1]; exact TH.out) (by rw [List.size_toArray, HC.out.1]; exact size67) HC.out.2 ?_
      try simp only [Act.put, List.setIfInBounds_toArray, List.set_cons_zero, List.set_cons_succ]
      go_wp2_with fail
      exact bodyPost_ret (v := .tuple #[.agg cs.toArray, .bool false]) (res_cell_tmp (a := 4) (k := 5) rfl rfl rfl (run_loadVar_mid _ b 0 67 cs _ (World.rangeAt_setCells_same _ b 0 cs (by rw [HC.out.1]; exact TH.out)) Try.underlying67 rfl (by rw [HC.out.1]; exact size67))) rfl ⟨rfl, KE.out⟩
theorem RefAt.answer_is (h : RefAt w R c s) {at_ : Int} (hG : (s.G at_).isSome = true → 0 ≤ at_ ∧ at_ < (s.tail : Int)) :
    Calls Try.prog 44 #[.pointer (some ⟨R.r, 0, none⟩), .int .i64 at_] w fun e w' => e = .returned (.tuple #[((s.G at_).getD Nd.zero).val, .bool (s.G at_).isSome]) ∧ ∃ R' : RB, R'.base = R.base ∧ R'.r = R.r ∧ RefAt w' R' c { s with G := updI s.G at_ none } ∧ Turn (RS R.base w) w w' := by
  cases hq : s.G at_ with
  | none =>
    refine (h.answer_no hq).mono (fun e w' ⟨he, T⟩ => ⟨he, R, rfl, rfl, ?_, T.more (fun _ _ f => f.elim)⟩)
    have : updI s.G at_ none = s.G := by
      funext j
      by_cases e : j = at_
      · rw [e, updI_at, hq]
      · rw [updI_off _ _ e]
    rw [this]
    exact h.keep T
  | some q =>
    obtain ⟨h0, h1⟩ := hG (by rw [hq]; rfl)
    obtain ⟨i, rfl⟩ : ∃ i : Nat, at_ = (i : Int) := ⟨at_.toNat, by omega⟩
    exact h.answer_yes (by omega) hq
end
end Go.Proofs.Yteokdibfdahabaa
