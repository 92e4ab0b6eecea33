/-
  Both logs, side by side: an act, done with both.
-/
import Derived.Test.YteokdibfdahabaaPa
import Derived.Test.YteokdibfdahabaaLc
namespace Go.Proofs.Yteokdibfdahabaa
open Go.ChangeShapes Go.WideShapes Go.ChangeAt Go.RowKit
set_option linter.unusedVariables false
/-- The stamp that an act takes. -/
def tailOf (a n : Int) (t : Nat) : Int := if restN a 8 = 0 then (t : Int) + restN n 4 - 2 else t
theorem Aft.from {w W w2 : World} {B : LB} {R : RB} {c : Cf} {P : LSt → Prop} (h : Aft W B R c P w2) (T : Turn (fun _ => False) w W) : Aft w B R c P w2 := by
  obtain ⟨R', s', h1, h2, h3, h4, h5⟩ := h
  exact ⟨R', s', h1, h2, h3, h4, TS.trans (TS.no T) h5⟩
theorem wf_small {n : Nat} (h : n ≤ 100000) : (Lit.int .i64 (n : Int)).wf = true := by
  simp only [Lit.wf, Bool.and_eq_true, decide_eq_true_eq]
  show (-9223372036854775808 : Int) ≤ (n : Int) ∧ (n : Int) ≤ 9223372036854775807
  omega
theorem Aft.onto {w w2 W : World} {B : LB} {R : RB} {c : Cf} {P : LSt → Prop} (h : Aft w B R c P w2) (T : Turn (fun _ => False) w2 W) : Aft w B R c P W := by
  obtain ⟨R', s', h1, h2, h3, h4, h5⟩ := h
  exact ⟨R', s', h1, h2, h3.keep T, h4, TS.trans h5 (TS.no T)⟩
theorem Aft.turn {w w2 : World} {B : LB} {R : RB} {c : Cf} {P : LSt → Prop} (h : Aft w B R c P w2) : Turn (TS B c.sh R.base w) w w2 := by
  obtain ⟨R', s', h1, h2, h3, h4, h5⟩ := h
  exact h5
set_option maxRecDepth 100000 in
set_option maxHeartbeats 1000000 in
theorem tail_is (w : World) (k a n : Int) {t : Nat} (ht : t ≤ 1000) : Calls Try.prog 21 #[.agg #[.int .i64 k, .int .i64 a, .int .i64 n], .int .i64 (t : Int)] w fun e w' => e = .returned (.int .i64 (tailOf a n t)) ∧ Turn (fun _ => False) w w' := by
  obtain ⟨W, hW⟩ : ∃ W, W = w.alloc (.cells #[.int .i64 k, .int .i64 a, .int .i64 n] 34) := ⟨_, rfl⟩
  have T : Turn (fun _ => False) w W := by rw [hW]; exact (Turn.refl _ w).alloc _
  have C : W.rangeAt w.heap.size 0 [.int .i64 k, .int .i64 a, .int .i64 n] := by rw [hW]; exact range_new w [.int .i64 k, .int .i64 a, .int .i64 n] 34
  have x1 : W.cell? ⟨w.heap.size, 1, none⟩ = some (.int .i64 a) := C 1 _ rfl
  have x2 : W.cell? ⟨w.heap.size, 2, none⟩ = some (.int .i64 n) := C 2 _ rfl
  have A8 := Lib.hid (show ∀ w, Calls Try.prog 20 #[.int .i64 a, .int .i64 8] w fun e w' => e = .returned (.int .i64 (restN a 8 : Int)) ∧ w = w' from fun w => rest_is w a (n := 8) (by decide) (by decide))
  have A4 := Lib.hid (show ∀ w, Calls Try.prog 20 #[.int .i64 n, .int .i64 4] w fun e w' => e = .returned (.int .i64 (restN n 4 : Int)) ∧ w = w' from fun w => rest_is w n (n := 4) (by decide) (by decide))
  have l4 := restN_lt n (n := 4) (by decide)
  have K := Lib.hid T
  unfold tailOf
  clear T C
  by_cases h8 : restN a 8 = 0
  · rw [if_pos h8]
    rw [h8] at A8
    have e1 : wrap64 ((t : Int) + restN n 4) = (t : Int) + restN n 4 := by unfold wrap64; omega
    have e2 : wrap64 ((t : Int) + restN n 4 - 2) = (t : Int) + restN n 4 - 2 := by unfold wrap64; omega
    clear l4 h8
    go_enter Try.func21, Try.ntmps21
    go_upto_region 1 with fail
    rw [← hW]
    clear hW
    generalize w.heap.size = b at *
    go_wp2_with fail
    with_reducible refine (A8.out _).mono ?_
    rintro e w1 ⟨rfl, rfl⟩
    go_wp2_with fail
    with_reducible refine (A4.out _).mono ?_
    rintro e w1 ⟨rfl, rfl⟩
    go_wp2
    go_ret
    refine ⟨?_, K.out⟩
    show Ending.returned (Value.int .i64 (wrap64 ((t : Int) + restN n 4 - 2))) = _
    rw [e2]
  · rw [if_neg h8]
    obtain ⟨q, hq⟩ : ∃ q, restN a 8 = q := ⟨_, rfl⟩
    rw [hq] at A8 h8
    have t1 : ((q : Int) == 0) = false := by simp; omega
    have t1n : ¬ q = 0 := h8
    clear l4 h8 hq
    go_enter Try.func21, Try.ntmps21
    go_upto_region 1 with fail
    rw [← hW]
    clear hW
    generalize w.heap.size = b at *
    go_wp2_with fail
    with_reducible refine (A8.out _).mono ?_
    rintro e w1 ⟨rfl, rfl⟩
    go_wp2
    go_ret
    exact ⟨rfl, K.out⟩
theorem wp_alloc51' {op : Oper} {a : Act} {w : World} {K : Act → World → Prop} {Q : Exit → Act → World → Prop} (ho : op.op = .alloc 51) (h : K (a.put op.dst (.pointer (some ⟨w.heap.size, 0, none⟩))) (w.alloc (.cells zc.toArray 51))) : op.wp Try.prog a w K Q := by
  unfold Oper.wp
  simp only [alloc51 a w ho]
  exact h
section
variable {w : World} {B : LB} {R : RB} {c : Cf} {s : LSt}
set_option maxRecDepth 100000 in
set_option maxHeartbeats 8000000 in
theorem Two.does0 (h : Two w B R c s) {k a n : Int} (hk : restN k 10 = 0) :
    Calls Try.prog 13 #[.pointer (some ⟨B.l, 0, none⟩), .pointer (some ⟨R.r, 0, none⟩), .agg #[.int .i64 k, .int .i64 a, .int .i64 n]] w fun e w' => e = .returned (.bool true) ∧ Aft w B R c (Stp c s 0 (tailOf a n s.tail)) w' := by
  obtain ⟨W, hW⟩ : ∃ W, W = w.alloc (.cells #[.int .i64 k, .int .i64 a, .int .i64 n] 34) := ⟨_, rfl⟩
  have TW : Turn (fun _ => False) w W := by rw [hW]; exact (Turn.refl _ w).alloc _
  have Bk : Blk W w.heap.size 34 := by rw [hW]; exact Blk.new w [.int .i64 k, .int .i64 a, .int .i64 n] 34
  have C : W.rangeAt w.heap.size 0 [.int .i64 k, .int .i64 a, .int .i64 n] := by rw [hW]; exact range_new w [.int .i64 k, .int .i64 a, .int .i64 n] 34
  have hh := h.keep TW
  have x0 : W.cell? ⟨w.heap.size, 0, none⟩ = some (.int .i64 k) := C 0 _ rfl
  have x1 : W.cell? ⟨w.heap.size, 1, none⟩ = some (.int .i64 a) := C 1 _ rfl
  have x2 : W.cell? ⟨w.heap.size, 2, none⟩ = some (.int .i64 n) := C 2 _ rfl
  have noff := hh.off Bk (by decide) (by decide)
  have KS := Lib.hid (show ∀ W', Turn (TS B c.sh R.base W) W W' → W'.cell? ⟨w.heap.size, 0, none⟩ = some (.int .i64 k) ∧ W'.cell? ⟨w.heap.size, 1, none⟩ = some (.int .i64 a) ∧ W'.cell? ⟨w.heap.size, 2, none⟩ = some (.int .i64 n) from fun W' T => ⟨T.cell noff x0, T.cell noff x1, T.cell noff x2⟩)
  obtain ⟨q5, hq5⟩ : ∃ q : Int, (restN a 5 : Int) = q := ⟨_, rfl⟩
  have A5 := Lib.hid (show ∀ w, Calls Try.prog 20 #[.int .i64 a, .int .i64 5] w fun e w' => e = .returned (.int .i64 q5) ∧ w = w' from fun w => by rw [← hq5]; exact rest_is w a (n := 5) (by decide) (by decide))
  have A10 := Lib.hid (show ∀ w, Calls Try.prog 20 #[.int .i64 k, .int .i64 10] w fun e w' => e = .returned (.int .i64 0) ∧ w = w' from fun w => by have := rest_is w k (n := 10) (by decide) (by decide); rw [hk] at this; exact this)
  have l5 := restN_lt a (n := 5) (by decide)
  have e5 : wrap64 (q5 - 1) = q5 - 1 := by unfold wrap64; omega
  have HH := Lib.hid hh
  have TT := Lib.hid TW
  have ht := h.tail
  have hlt := h.I.lt
  have y7 := hh.D.k7
  obtain ⟨av, cv, hv, _⟩ := own_slice hh.D.own
  rw [hv] at y7
  have KS5 := Lib.hid (show ∀ W', Turn (fun _ => False) W W' → W'.cell? ⟨w.heap.size, 0, none⟩ = some (.int .i64 k) ∧ W'.cell? ⟨w.heap.size, 1, none⟩ = some (.int .i64 a) ∧ W'.cell? ⟨w.heap.size, 2, none⟩ = some (.int .i64 n) ∧ W'.cell? ⟨R.r, 7, none⟩ = some (.slice av s.tail cv) from fun W' T => ⟨T.cell (fun f => f) x0, T.cell (fun f => f) x1, T.cell (fun f => f) x2, T.cell (fun f => f) y7⟩)
  have A21 := Lib.hid (fun w => tail_is w k a n (t := s.tail) (by omega))
  obtain ⟨q9, hq9⟩ : ∃ q : Int, (restN n 9 : Int) = q := ⟨_, rfl⟩
  have A9 := Lib.hid (show ∀ w, Calls Try.prog 20 #[.int .i64 n, .int .i64 9] w fun e w' => e = .returned (.int .i64 q9) ∧ w = w' from fun w => by rw [← hq9]; exact rest_is w n (n := 9) (by decide) (by decide))
  obtain ⟨cl, hcl⟩ : ∃ cl, (q9 == 0) = cl := ⟨_, rfl⟩
  clear hv hq9
  clear Bk C noff hq5 l5 hk hh h TW
  go_enter Try.func13, Try.ntmps13
  go_upto_region 1 with fail
  rw [← hW]
  clear hW
  generalize w.heap.size = b at *
  go_wp2_with fail
  with_reducible refine (A5.out _).mono ?_
  rintro e w1 ⟨rfl, rfl⟩
  go_wp2_with fail
  with_reducible refine (A10.out _).mono ?_
  rintro e w1 ⟨rfl, rfl⟩
  have Ta : Turn (fun _ => False) W W.drew := (Turn.refl _ W).drewN 1
  go_upto_region 5 with fail
  refine wp_region_held_drew (S := (fun w' => w'.cell? ⟨b, 0, none⟩ = some (.int .i64 k) ∧ w'.cell? ⟨b, 1, none⟩ = some (.int .i64 a) ∧ w'.cell? ⟨b, 2, none⟩ = some (.int .i64 n) ∧ w'.cell? ⟨R.r, 7, none⟩ = some (.slice av s.tail cv))) (by kernel_rfl) ?hs0 (fun hS0 => ?_)
  case hs0 => ((try dsimp only); first | with_reducible exact KS5.out _ Ta | with_reducible exact KS5.out _ Tb | exact KS5.out _ Ta | exact KS5.out _ Tb)
  refine wpAnyH_take (i := 0) (oi := { dst := some 25, op := Op.load 34 (Operand.tmp 5), type := 34, pos := "law.go:58", after := #[], guard := none }) (v := ?_) rfl (by kernel_rfl) (by kernel_rfl) (by kernel_rfl) (fun _ _ _ h => h) (Or.inl ⟨by rfl, ?hy1⟩) hS0 ?_
  case hy1 => (intro w hSw; (try dsimp only at hSw); go_simp; try with_reducible rfl)
  try simp only [Act.put, List.setIfInBounds_toArray, List.set_cons_zero, List.set_cons_succ]
  refine wpAnyH_take (i := 1) (oi := { dst := some 26, op := Op.move (Operand.tmp 1), type := 30, pos := "law.go:58", after := #[], guard := none }) (v := ?_) rfl (by kernel_rfl) (by kernel_rfl) (by kernel_rfl) (fun _ _ _ h => h) (Or.inl ⟨by rfl, ?hy2⟩) hS0 ?_
  case hy2 => (intro w hSw; (try dsimp only at hSw); go_simp; try with_reducible rfl)
  try simp only [Act.put, List.setIfInBounds_toArray, List.set_cons_zero, List.set_cons_succ]
  refine wpAnyH_take (i := 2) (oi := { dst := some 27, op := Op.nilCheck (Operand.tmp 26), type := 0, pos := "law.go:58", after := #[{ on := 1, ground := Ground.data }], guard := none }) (v := ?_) rfl (by kernel_rfl) (by kernel_rfl) (by kernel_rfl) (fun _ _ _ h => h) (Or.inl ⟨by rfl, ?hy3⟩) hS0 ?_
  case hy3 => (intro w hSw; (try dsimp only at hSw); go_simp; try with_reducible rfl)
  try simp only [Act.put, List.setIfInBounds_toArray, List.set_cons_zero, List.set_cons_succ]
  refine wpAnyH_take (i := 3) (oi := { dst := some 28, op := Op.fieldAddr 101 (Operand.tmp 27) 1, type := 0, pos := "law.go:58", after := #[{ on := 2, ground := Ground.data }], guard := none }) (v := ?_) rfl (by kernel_rfl) (by kernel_rfl) (by kernel_rfl) (fun _ _ _ h => h) (Or.inl ⟨by rfl, ?hy4⟩) hS0 ?_
  case hy4 => (intro w hSw; (try dsimp only at hSw); go_simp; try with_reducible rfl)
  try simp only [Act.put, List.setIfInBounds_toArray, List.set_cons_zero, List.set_cons_succ]
  refine wpAnyH_take (i := 4) (oi := { dst := some 29, op := Op.load 99 (Operand.tmp 28), type := 99, pos := "law.go:58", after := #[{ on := 3, ground := Ground.data }], guard := none }) (v := ?_) rfl (by kernel_rfl) (by kernel_rfl) (by kernel_rfl) (fun _ _ _ h => h) (Or.inl ⟨by rfl, ?hy5⟩) hS0 ?_
  case hy5 => (intro w hSw; (try dsimp only at hSw); go_simp; try with_reducible rfl)
  try simp only [Act.put, List.setIfInBounds_toArray, List.set_cons_zero, List.set_cons_succ]
  refine wpAnyH_take (i := 5) (oi := { dst := some 30, op := Op.call { callee := Callee.builtin Builtin.len, args := #[Operand.tmp 29], argTypes := #[99] }, type := 3, pos := "law.go:58", after := #[{ on := 4, ground := Ground.data }], guard := none }) (v := ?_) rfl (by kernel_rfl) (by kernel_rfl) (by kernel_rfl) (fun _ _ _ h => h) (Or.inl ⟨by rfl, ?hy6⟩) hS0 ?_
  case hy6 => (intro w hSw; (try dsimp only at hSw); go_simp; try with_reducible rfl)
  try simp only [Act.put, List.setIfInBounds_toArray, List.set_cons_zero, List.set_cons_succ]
  refine wpAnyH_ready (rs := [6]) (by kernel_rfl) (by simp) ?_
  refine AllReadyH.cons (o := { dst := some 31, op := Op.call { callee := Callee.value (Operand.func 21), args := #[Operand.tmp 25, Operand.tmp 30], argTypes := #[34, 3] }, type := 3, pos := "law.go:58", after := #[{ on := 0, ground := Ground.data }, { on := 5, ground := Ground.data }], guard := none }) rfl (fun K hK => ?_) ?_
  · go_simp; with_reducible refine (A21.out _).mono ?_; rintro en W2 ⟨rfl, T2⟩; have Tb := Ta.trans T2; go_simp
    refine hK.out _ _ ?hs7 (fun hS7 => ?_)
    case hs7 => ((try dsimp only); first | with_reducible exact KS5.out _ Ta | with_reducible exact KS5.out _ Tb | exact KS5.out _ Ta | exact KS5.out _ Tb)
    clear hK K hS0
    refine wpAnyH_take (i := 7) (oi := { dst := some 8, op := Op.assign (Operand.tmp 31), type := 3, pos := "law.go:58", after := #[{ on := 6, ground := Ground.data }, { on := 6, ground := Ground.chain }, { on := 0, ground := Ground.phase }, { on := 1, ground := Ground.phase }, { on := 2, ground := Ground.phase }, { on := 3, ground := Ground.phase }, { on := 4, ground := Ground.phase }, { on := 5, ground := Ground.phase }, { on := 6, ground := Ground.phase }], guard := none }) (v := ?_) rfl (by kernel_rfl) (by kernel_rfl) (by kernel_rfl) (fun _ _ _ h => h) (Or.inl ⟨by rfl, ?hy8⟩) hS7 ?_
    case hy8 => (intro w hSw; (try dsimp only at hSw); go_simp; try with_reducible rfl)
    try simp only [Act.put, List.setIfInBounds_toArray, List.set_cons_zero, List.set_cons_succ]
    refine wpAnyH_done (by kernel_rfl) ?_ _
    have TK := Lib.hid ((HH.out.keep (show Turn (fun _ => False) W W2.drew from Tb.trans ((Turn.refl _ W2).drewN 1))).take (tailOf a n s.tail) cl (kk := 0) (by decide))
    have Tc := Lib.hid (show Turn (fun _ => False) W W2.drew from Tb.trans ((Turn.refl (fun _ => False) W2).drewN 1))
    have KS6 := Lib.hid (fun W' (T : Turn (TS B c.sh R.base W2.drew) W2.drew W') => KS.out W' (TS.trans (TS.no Tc.out) T))
    have T0 : Turn (TS B c.sh R.base W2.drew) W2.drew W2.drew := Turn.refl _ _
    clear Ta Tb T2 KS5 A21 x0 x1 x2 y7
    go_upto_region 6 with fail
    refine wp_region_held_drew (S := (fun w' => w'.cell? ⟨b, 0, none⟩ = some (.int .i64 k) ∧ w'.cell? ⟨b, 1, none⟩ = some (.int .i64 a) ∧ w'.cell? ⟨b, 2, none⟩ = some (.int .i64 n))) (by kernel_rfl) ?hs0 (fun hS0 => ?_)
    case hs0 => ((try dsimp only); first | with_reducible exact KS6.out _ T0 | with_reducible exact KS6.out _ T3 | with_reducible exact KS6.out _ T4 | exact KS6.out _ T0 | exact KS6.out _ T3 | exact KS6.out _ T4)
    refine wpAnyH_take (i := 0) (oi := { dst := some 32, op := Op.move (Operand.tmp 0), type := 25, pos := "law.go:59", after := #[], guard := none }) (v := ?_) rfl (by kernel_rfl) (by kernel_rfl) (by kernel_rfl) (fun _ _ _ h => h) (Or.inl ⟨by rfl, ?hy1⟩) hS0 ?_
    case hy1 => (intro w hSw; (try dsimp only at hSw); go_simp; try with_reducible rfl)
    try simp only [Act.put, List.setIfInBounds_toArray, List.set_cons_zero, List.set_cons_succ]
    refine wpAnyH_take (i := 1) (oi := { dst := some 33, op := Op.move (Operand.tmp 8), type := 3, pos := "law.go:59", after := #[], guard := none }) (v := ?_) rfl (by kernel_rfl) (by kernel_rfl) (by kernel_rfl) (fun _ _ _ h => h) (Or.inl ⟨by rfl, ?hy2⟩) hS0 ?_
    case hy2 => (intro w hSw; (try dsimp only at hSw); go_simp; try with_reducible rfl)
    try simp only [Act.put, List.setIfInBounds_toArray, List.set_cons_zero, List.set_cons_succ]
    refine wpAnyH_take (i := 2) (oi := { dst := some 34, op := Op.fieldAddr 34 (Operand.tmp 5) 2, type := 0, pos := "law.go:59", after := #[], guard := none }) (v := ?_) rfl (by kernel_rfl) (by kernel_rfl) (by kernel_rfl) (fun _ _ _ h => h) (Or.inl ⟨by rfl, ?hy3⟩) hS0 ?_
    case hy3 => (intro w hSw; (try dsimp only at hSw); go_simp; try with_reducible rfl)
    try simp only [Act.put, List.setIfInBounds_toArray, List.set_cons_zero, List.set_cons_succ]
    refine wpAnyH_take (i := 3) (oi := { dst := some 35, op := Op.load 3 (Operand.tmp 34), type := 3, pos := "law.go:59", after := #[{ on := 2, ground := Ground.data }], guard := none }) (v := ?_) rfl (by kernel_rfl) (by kernel_rfl) (by kernel_rfl) (fun _ _ _ h => h) (Or.inl ⟨by rfl, ?hy4⟩) hS0 ?_
    case hy4 => (intro w hSw; (try dsimp only at hSw); go_simp; try with_reducible rfl)
    try simp only [Act.put, List.setIfInBounds_toArray, List.set_cons_zero, List.set_cons_succ]
    refine wpAnyH_take (i := 7) (oi := { dst := some 39, op := Op.move (Operand.tmp 1), type := 30, pos := "law.go:59", after := #[], guard := none }) (v := ?_) rfl (by kernel_rfl) (by kernel_rfl) (by kernel_rfl) (fun _ _ _ h => h) (Or.inl ⟨by rfl, ?hy5⟩) hS0 ?_
    case hy5 => (intro w hSw; (try dsimp only at hSw); go_simp; try with_reducible rfl)
    try simp only [Act.put, List.setIfInBounds_toArray, List.set_cons_zero, List.set_cons_succ]
    refine wpAnyH_take (i := 8) (oi := { dst := some 40, op := Op.move (Operand.tmp 8), type := 3, pos := "law.go:59", after := #[], guard := none }) (v := ?_) rfl (by kernel_rfl) (by kernel_rfl) (by kernel_rfl) (fun _ _ _ h => h) (Or.inl ⟨by rfl, ?hy6⟩) hS0 ?_
    case hy6 => (intro w hSw; (try dsimp only at hSw); go_simp; try with_reducible rfl)
    try simp only [Act.put, List.setIfInBounds_toArray, List.set_cons_zero, List.set_cons_succ]
    refine wpAnyH_take (i := 9) (oi := { dst := some 41, op := Op.fieldAddr 34 (Operand.tmp 5) 2, type := 0, pos := "law.go:59", after := #[], guard := none }) (v := ?_) rfl (by kernel_rfl) (by kernel_rfl) (by kernel_rfl) (fun _ _ _ h => h) (Or.inl ⟨by rfl, ?hy7⟩) hS0 ?_
    case hy7 => (intro w hSw; (try dsimp only at hSw); go_simp; try with_reducible rfl)
    try simp only [Act.put, List.setIfInBounds_toArray, List.set_cons_zero, List.set_cons_succ]
    refine wpAnyH_take (i := 10) (oi := { dst := some 42, op := Op.load 3 (Operand.tmp 41), type := 3, pos := "law.go:59", after := #[{ on := 9, ground := Ground.data }], guard := none }) (v := ?_) rfl (by kernel_rfl) (by kernel_rfl) (by kernel_rfl) (fun _ _ _ h => h) (Or.inl ⟨by rfl, ?hy8⟩) hS0 ?_
    case hy8 => (intro w hSw; (try dsimp only at hSw); go_simp; try with_reducible rfl)
    try simp only [Act.put, List.setIfInBounds_toArray, List.set_cons_zero, List.set_cons_succ]
    refine wpAnyH_ready (rs := [4]) (by kernel_rfl) (by simp) ?_
    refine AllReadyH.cons (o := { dst := some 36, op := Op.call { callee := Callee.value (Operand.func 20), args := #[Operand.tmp 35, Operand.const (Value.int IntKind.i64 9)], argTypes := #[3, 3] }, type := 3, pos := "law.go:59", after := #[{ on := 3, ground := Ground.data }], guard := none }) rfl (fun K hK => ?_) ?_
    · go_simp; with_reducible refine (A9.out _).mono ?_; rintro en Wr ⟨rfl, rfl⟩; go_simp
      refine hK.out _ _ ?hs9 (fun hS9 => ?_)
      case hs9 => ((try dsimp only); first | with_reducible exact KS6.out _ T0 | with_reducible exact KS6.out _ T3 | with_reducible exact KS6.out _ T4 | exact KS6.out _ T0 | exact KS6.out _ T3 | exact KS6.out _ T4)
      clear hK K hS0
      refine wpAnyH_take (i := 5) (oi := { dst := some 37, op := Op.binOp BinOp.eql 3 (Operand.tmp 36) (Operand.const (Value.int IntKind.i64 0)) 3, type := 4, pos := "law.go:59", after := #[{ on := 4, ground := Ground.data }], guard := none }) (v := ?_) rfl (by kernel_rfl) (by kernel_rfl) (by kernel_rfl) (fun _ _ _ h => h) (Or.inl ⟨by rfl, ?hy10⟩) hS9 ?_
      case hy10 => (intro w hSw; (try dsimp only at hSw); go_simp; try with_reducible rfl)
      try simp only [Act.put, List.setIfInBounds_toArray, List.set_cons_zero, List.set_cons_succ]
      refine wpAnyH_ready (rs := [6]) (by kernel_rfl) (by simp) ?_
      refine AllReadyH.cons (o := { dst := some 38, op := Op.call { callee := Callee.value (Operand.func 22), args := #[Operand.tmp 32, Operand.tmp 33, Operand.tmp 37], argTypes := #[25, 3, 4] }, type := 4, pos := "law.go:59", after := #[{ on := 0, ground := Ground.data }, { on := 1, ground := Ground.data }, { on := 5, ground := Ground.data }, { on := 4, ground := Ground.chain }], guard := none }) rfl (fun K hK => ?_) ?_
      · go_simp; with_reducible refine TK.out.mono ?_; rintro en W3 ⟨r, rfl, T3, NX⟩; have NX := Lib.hid NX; go_simp
        refine hK.out _ _ ?hs11 (fun hS11 => ?_)
        case hs11 => ((try dsimp only); first | with_reducible exact KS6.out _ T0 | with_reducible exact KS6.out _ T3 | with_reducible exact KS6.out _ T4 | exact KS6.out _ T0 | exact KS6.out _ T3 | exact KS6.out _ T4)
        clear hK K hS9
        refine wpAnyH_ready (rs := [11]) (by kernel_rfl) (by simp) ?_
        refine AllReadyH.cons (o := { dst := some 43, op := Op.call { callee := Callee.value (Operand.func 20), args := #[Operand.tmp 42, Operand.const (Value.int IntKind.i64 9)], argTypes := #[3, 3] }, type := 3, pos := "law.go:59", after := #[{ on := 10, ground := Ground.data }, { on := 6, ground := Ground.chain }], guard := none }) rfl (fun K hK => ?_) ?_
        · go_simp; with_reducible refine (A9.out _).mono ?_; rintro en Wr ⟨rfl, rfl⟩; go_simp
          refine hK.out _ _ ?hs12 (fun hS12 => ?_)
          case hs12 => ((try dsimp only); first | with_reducible exact KS6.out _ T0 | with_reducible exact KS6.out _ T3 | with_reducible exact KS6.out _ T4 | exact KS6.out _ T0 | exact KS6.out _ T3 | exact KS6.out _ T4)
          clear hK K hS11
          refine wpAnyH_take (i := 12) (oi := { dst := some 44, op := Op.binOp BinOp.eql 3 (Operand.tmp 43) (Operand.const (Value.int IntKind.i64 0)) 3, type := 4, pos := "law.go:59", after := #[{ on := 11, ground := Ground.data }], guard := none }) (v := ?_) rfl (by kernel_rfl) (by kernel_rfl) (by kernel_rfl) (fun _ _ _ h => h) (Or.inl ⟨by rfl, ?hy13⟩) hS12 ?_
          case hy13 => (intro w hSw; (try dsimp only at hSw); go_simp; try with_reducible rfl)
          try simp only [Act.put, List.setIfInBounds_toArray, List.set_cons_zero, List.set_cons_succ]
          refine wpAnyH_ready (rs := [13]) (by kernel_rfl) (by simp) ?_
          refine AllReadyH.cons (o := { dst := some 45, op := Op.call { callee := Callee.value (Operand.func 39), args := #[Operand.tmp 39, Operand.tmp 40, Operand.tmp 44], argTypes := #[30, 3, 4] }, type := 4, pos := "law.go:59", after := #[{ on := 7, ground := Ground.data }, { on := 8, ground := Ground.data }, { on := 12, ground := Ground.data }, { on := 11, ground := Ground.chain }], guard := none }) rfl (fun K hK => ?_) ?_
          · go_simp; with_reducible refine (NX.out _ (Turn.refl _ _)).mono ?_; rintro en W4 ⟨rfl, A4⟩; have T4 := A4.turn; go_simp
            refine hK.out _ _ ?hs14 (fun hS14 => ?_)
            case hs14 => ((try dsimp only); first | with_reducible exact KS6.out _ T0 | with_reducible exact KS6.out _ T3 | with_reducible exact KS6.out _ T4 | exact KS6.out _ T0 | exact KS6.out _ T3 | exact KS6.out _ T4)
            clear hK K hS12
            refine wpAnyH_take (i := 14) (oi := { dst := some 46, op := Op.binOp BinOp.eql 4 (Operand.tmp 38) (Operand.tmp 45) 4, type := 4, pos := "law.go:59", after := #[{ on := 6, ground := Ground.data }, { on := 13, ground := Ground.data }], guard := none }) (v := ?_) rfl (by kernel_rfl) (by kernel_rfl) (by kernel_rfl) (fun _ _ _ h => h) (Or.inl ⟨by rfl, ?hy15⟩) hS14 ?_
            case hy15 => (intro w hSw; (try dsimp only at hSw); go_simp; try with_reducible rfl)
            try simp only [Act.put, List.setIfInBounds_toArray, List.set_cons_zero, List.set_cons_succ]
            refine wpAnyH_take (i := 15) (oi := { dst := some 6, op := Op.assign (Operand.tmp 46), type := 4, pos := "law.go:59", after := #[{ on := 14, ground := Ground.data }, { on := 13, ground := Ground.chain }, { on := 0, ground := Ground.phase }, { on := 1, ground := Ground.phase }, { on := 2, ground := Ground.phase }, { on := 3, ground := Ground.phase }, { on := 4, ground := Ground.phase }, { on := 5, ground := Ground.phase }, { on := 6, ground := Ground.phase }, { on := 7, ground := Ground.phase }, { on := 8, ground := Ground.phase }, { on := 9, ground := Ground.phase }, { on := 10, ground := Ground.phase }, { on := 11, ground := Ground.phase }, { on := 12, ground := Ground.phase }, { on := 13, ground := Ground.phase }, { on := 14, ground := Ground.phase }], guard := none }) (v := ?_) rfl (by kernel_rfl) (by kernel_rfl) (by kernel_rfl) (fun _ _ _ h => h) (Or.inl ⟨by rfl, ?hy16⟩) hS14 ?_
            case hy16 => (intro w hSw; (try dsimp only at hSw); go_simp; try with_reducible rfl)
            try simp only [Act.put, List.setIfInBounds_toArray, List.set_cons_zero, List.set_cons_succ]
            refine wpAnyH_done (by kernel_rfl) ?_ _
            go_wp2_with fail
            go_ret
            exact ⟨by simp, A4.from (TT.out.trans Tc.out)⟩
          exact AllReadyH.nil
        exact AllReadyH.nil
      exact AllReadyH.nil
    exact AllReadyH.nil
  exact AllReadyH.nil
set_option maxRecDepth 100000 in
set_option maxHeartbeats 8000000 in
theorem Two.does1 (h : Two w B R c s) {k a n : Int} (hk : restN k 10 = 1) :
    Calls Try.prog 13 #[.pointer (some ⟨B.l, 0, none⟩), .pointer (some ⟨R.r, 0, none⟩), .agg #[.int .i64 k, .int .i64 a, .int .i64 n]] w fun e w' => e = .returned (.bool true) ∧ Aft w B R c (Stp c s 1 (tailOf a n s.tail)) w' := by
  obtain ⟨W, hW⟩ : ∃ W, W = w.alloc (.cells #[.int .i64 k, .int .i64 a, .int .i64 n] 34) := ⟨_, rfl⟩
  have TW : Turn (fun _ => False) w W := by rw [hW]; exact (Turn.refl _ w).alloc _
  have Bk : Blk W w.heap.size 34 := by rw [hW]; exact Blk.new w [.int .i64 k, .int .i64 a, .int .i64 n] 34
  have C : W.rangeAt w.heap.size 0 [.int .i64 k, .int .i64 a, .int .i64 n] := by rw [hW]; exact range_new w [.int .i64 k, .int .i64 a, .int .i64 n] 34
  have hh := h.keep TW
  have x0 : W.cell? ⟨w.heap.size, 0, none⟩ = some (.int .i64 k) := C 0 _ rfl
  have x1 : W.cell? ⟨w.heap.size, 1, none⟩ = some (.int .i64 a) := C 1 _ rfl
  have x2 : W.cell? ⟨w.heap.size, 2, none⟩ = some (.int .i64 n) := C 2 _ rfl
  have noff := hh.off Bk (by decide) (by decide)
  have KS := Lib.hid (show ∀ W', Turn (TS B c.sh R.base W) W W' → W'.cell? ⟨w.heap.size, 0, none⟩ = some (.int .i64 k) ∧ W'.cell? ⟨w.heap.size, 1, none⟩ = some (.int .i64 a) ∧ W'.cell? ⟨w.heap.size, 2, none⟩ = some (.int .i64 n) from fun W' T => ⟨T.cell noff x0, T.cell noff x1, T.cell noff x2⟩)
  obtain ⟨q5, hq5⟩ : ∃ q : Int, (restN a 5 : Int) = q := ⟨_, rfl⟩
  have A5 := Lib.hid (show ∀ w, Calls Try.prog 20 #[.int .i64 a, .int .i64 5] w fun e w' => e = .returned (.int .i64 q5) ∧ w = w' from fun w => by rw [← hq5]; exact rest_is w a (n := 5) (by decide) (by decide))
  have A10 := Lib.hid (show ∀ w, Calls Try.prog 20 #[.int .i64 k, .int .i64 10] w fun e w' => e = .returned (.int .i64 1) ∧ w = w' from fun w => by have := rest_is w k (n := 10) (by decide) (by decide); rw [hk] at this; exact this)
  have l5 := restN_lt a (n := 5) (by decide)
  have e5 : wrap64 (q5 - 1) = q5 - 1 := by unfold wrap64; omega
  have HH := Lib.hid hh
  have TT := Lib.hid TW
  have ht := h.tail
  have hlt := h.I.lt
  have y7 := hh.D.k7
  obtain ⟨av, cv, hv, _⟩ := own_slice hh.D.own
  rw [hv] at y7
  have KS5 := Lib.hid (show ∀ W', Turn (fun _ => False) W W' → W'.cell? ⟨w.heap.size, 0, none⟩ = some (.int .i64 k) ∧ W'.cell? ⟨w.heap.size, 1, none⟩ = some (.int .i64 a) ∧ W'.cell? ⟨w.heap.size, 2, none⟩ = some (.int .i64 n) ∧ W'.cell? ⟨R.r, 7, none⟩ = some (.slice av s.tail cv) from fun W' T => ⟨T.cell (fun f => f) x0, T.cell (fun f => f) x1, T.cell (fun f => f) x2, T.cell (fun f => f) y7⟩)
  have A21 := Lib.hid (fun w => tail_is w k a n (t := s.tail) (by omega))
  obtain ⟨q9, hq9⟩ : ∃ q : Int, (restN n 9 : Int) = q := ⟨_, rfl⟩
  have A9 := Lib.hid (show ∀ w, Calls Try.prog 20 #[.int .i64 n, .int .i64 9] w fun e w' => e = .returned (.int .i64 q9) ∧ w = w' from fun w => by rw [← hq9]; exact rest_is w n (n := 9) (by decide) (by decide))
  obtain ⟨cl, hcl⟩ : ∃ cl, (q9 == 0) = cl := ⟨_, rfl⟩
  clear hv hq9
  clear Bk C noff hq5 l5 hk hh h TW
  go_enter Try.func13, Try.ntmps13
  go_upto_region 1 with fail
  rw [← hW]
  clear hW
  generalize w.heap.size = b at *
  go_wp2_with fail
  with_reducible refine (A5.out _).mono ?_
  rintro e w1 ⟨rfl, rfl⟩
  go_wp2_with fail
  with_reducible refine (A10.out _).mono ?_
  rintro e w1 ⟨rfl, rfl⟩
  have Ta : Turn (fun _ => False) W W.drew := (Turn.refl _ W).drewN 1
  go_upto_region 5 with fail
  refine wp_region_held_drew (S := (fun w' => w'.cell? ⟨b, 0, none⟩ = some (.int .i64 k) ∧ w'.cell? ⟨b, 1, none⟩ = some (.int .i64 a) ∧ w'.cell? ⟨b, 2, none⟩ = some (.int .i64 n) ∧ w'.cell? ⟨R.r, 7, none⟩ = some (.slice av s.tail cv))) (by kernel_rfl) ?hs0 (fun hS0 => ?_)
  case hs0 => ((try dsimp only); first | with_reducible exact KS5.out _ Ta | with_reducible exact KS5.out _ Tb | exact KS5.out _ Ta | exact KS5.out _ Tb)
  refine wpAnyH_take (i := 0) (oi := { dst := some 25, op := Op.load 34 (Operand.tmp 5), type := 34, pos := "law.go:58", after := #[], guard := none }) (v := ?_) rfl (by kernel_rfl) (by kernel_rfl) (by kernel_rfl) (fun _ _ _ h => h) (Or.inl ⟨by rfl, ?hy1⟩) hS0 ?_
  case hy1 => (intro w hSw; (try dsimp only at hSw); go_simp; try with_reducible rfl)
  try simp only [Act.put, List.setIfInBounds_toArray, List.set_cons_zero, List.set_cons_succ]
  refine wpAnyH_take (i := 1) (oi := { dst := some 26, op := Op.move (Operand.tmp 1), type := 30, pos := "law.go:58", after := #[], guard := none }) (v := ?_) rfl (by kernel_rfl) (by kernel_rfl) (by kernel_rfl) (fun _ _ _ h => h) (Or.inl ⟨by rfl, ?hy2⟩) hS0 ?_
  case hy2 => (intro w hSw; (try dsimp only at hSw); go_simp; try with_reducible rfl)
  try simp only [Act.put, List.setIfInBounds_toArray, List.set_cons_zero, List.set_cons_succ]
  refine wpAnyH_take (i := 2) (oi := { dst := some 27, op := Op.nilCheck (Operand.tmp 26), type := 0, pos := "law.go:58", after := #[{ on := 1, ground := Ground.data }], guard := none }) (v := ?_) rfl (by kernel_rfl) (by kernel_rfl) (by kernel_rfl) (fun _ _ _ h => h) (Or.inl ⟨by rfl, ?hy3⟩) hS0 ?_
  case hy3 => (intro w hSw; (try dsimp only at hSw); go_simp; try with_reducible rfl)
  try simp only [Act.put, List.setIfInBounds_toArray, List.set_cons_zero, List.set_cons_succ]
  refine wpAnyH_take (i := 3) (oi := { dst := some 28, op := Op.fieldAddr 101 (Operand.tmp 27) 1, type := 0, pos := "law.go:58", after := #[{ on := 2, ground := Ground.data }], guard := none }) (v := ?_) rfl (by kernel_rfl) (by kernel_rfl) (by kernel_rfl) (fun _ _ _ h => h) (Or.inl ⟨by rfl, ?hy4⟩) hS0 ?_
  case hy4 => (intro w hSw; (try dsimp only at hSw); go_simp; try with_reducible rfl)
  try simp only [Act.put, List.setIfInBounds_toArray, List.set_cons_zero, List.set_cons_succ]
  refine wpAnyH_take (i := 4) (oi := { dst := some 29, op := Op.load 99 (Operand.tmp 28), type := 99, pos := "law.go:58", after := #[{ on := 3, ground := Ground.data }], guard := none }) (v := ?_) rfl (by kernel_rfl) (by kernel_rfl) (by kernel_rfl) (fun _ _ _ h => h) (Or.inl ⟨by rfl, ?hy5⟩) hS0 ?_
  case hy5 => (intro w hSw; (try dsimp only at hSw); go_simp; try with_reducible rfl)
  try simp only [Act.put, List.setIfInBounds_toArray, List.set_cons_zero, List.set_cons_succ]
  refine wpAnyH_take (i := 5) (oi := { dst := some 30, op := Op.call { callee := Callee.builtin Builtin.len, args := #[Operand.tmp 29], argTypes := #[99] }, type := 3, pos := "law.go:58", after := #[{ on := 4, ground := Ground.data }], guard := none }) (v := ?_) rfl (by kernel_rfl) (by kernel_rfl) (by kernel_rfl) (fun _ _ _ h => h) (Or.inl ⟨by rfl, ?hy6⟩) hS0 ?_
  case hy6 => (intro w hSw; (try dsimp only at hSw); go_simp; try with_reducible rfl)
  try simp only [Act.put, List.setIfInBounds_toArray, List.set_cons_zero, List.set_cons_succ]
  refine wpAnyH_ready (rs := [6]) (by kernel_rfl) (by simp) ?_
  refine AllReadyH.cons (o := { dst := some 31, op := Op.call { callee := Callee.value (Operand.func 21), args := #[Operand.tmp 25, Operand.tmp 30], argTypes := #[34, 3] }, type := 3, pos := "law.go:58", after := #[{ on := 0, ground := Ground.data }, { on := 5, ground := Ground.data }], guard := none }) rfl (fun K hK => ?_) ?_
  · go_simp; with_reducible refine (A21.out _).mono ?_; rintro en W2 ⟨rfl, T2⟩; have Tb := Ta.trans T2; go_simp
    refine hK.out _ _ ?hs7 (fun hS7 => ?_)
    case hs7 => ((try dsimp only); first | with_reducible exact KS5.out _ Ta | with_reducible exact KS5.out _ Tb | exact KS5.out _ Ta | exact KS5.out _ Tb)
    clear hK K hS0
    refine wpAnyH_take (i := 7) (oi := { dst := some 8, op := Op.assign (Operand.tmp 31), type := 3, pos := "law.go:58", after := #[{ on := 6, ground := Ground.data }, { on := 6, ground := Ground.chain }, { on := 0, ground := Ground.phase }, { on := 1, ground := Ground.phase }, { on := 2, ground := Ground.phase }, { on := 3, ground := Ground.phase }, { on := 4, ground := Ground.phase }, { on := 5, ground := Ground.phase }, { on := 6, ground := Ground.phase }], guard := none }) (v := ?_) rfl (by kernel_rfl) (by kernel_rfl) (by kernel_rfl) (fun _ _ _ h => h) (Or.inl ⟨by rfl, ?hy8⟩) hS7 ?_
    case hy8 => (intro w hSw; (try dsimp only at hSw); go_simp; try with_reducible rfl)
    try simp only [Act.put, List.setIfInBounds_toArray, List.set_cons_zero, List.set_cons_succ]
    refine wpAnyH_done (by kernel_rfl) ?_ _
    have TK := Lib.hid ((HH.out.keep (show Turn (fun _ => False) W W2.drew from Tb.trans ((Turn.refl _ W2).drewN 1))).take (tailOf a n s.tail) cl (kk := 1) (by decide))
    have Tc := Lib.hid (show Turn (fun _ => False) W W2.drew from Tb.trans ((Turn.refl (fun _ => False) W2).drewN 1))
    have KS6 := Lib.hid (fun W' (T : Turn (TS B c.sh R.base W2.drew) W2.drew W') => KS.out W' (TS.trans (TS.no Tc.out) T))
    have T0 : Turn (TS B c.sh R.base W2.drew) W2.drew W2.drew := Turn.refl _ _
    clear Ta Tb T2 KS5 A21 x0 x1 x2 y7
    go_upto_region 6 with fail
    refine wp_region_held_drew (S := (fun w' => w'.cell? ⟨b, 0, none⟩ = some (.int .i64 k) ∧ w'.cell? ⟨b, 1, none⟩ = some (.int .i64 a) ∧ w'.cell? ⟨b, 2, none⟩ = some (.int .i64 n))) (by kernel_rfl) ?hs0 (fun hS0 => ?_)
    case hs0 => ((try dsimp only); first | with_reducible exact KS6.out _ T0 | with_reducible exact KS6.out _ T3 | with_reducible exact KS6.out _ T4 | exact KS6.out _ T0 | exact KS6.out _ T3 | exact KS6.out _ T4)
    refine wpAnyH_take (i := 0) (oi := { dst := some 32, op := Op.move (Operand.tmp 0), type := 25, pos := "law.go:59", after := #[], guard := none }) (v := ?_) rfl (by kernel_rfl) (by kernel_rfl) (by kernel_rfl) (fun _ _ _ h => h) (Or.inl ⟨by rfl, ?hy1⟩) hS0 ?_
    case hy1 => (intro w hSw; (try dsimp only at hSw); go_simp; try with_reducible rfl)
    try simp only [Act.put, List.setIfInBounds_toArray, List.set_cons_zero, List.set_cons_succ]
    refine wpAnyH_take (i := 1) (oi := { dst := some 33, op := Op.move (Operand.tmp 8), type := 3, pos := "law.go:59", after := #[], guard := none }) (v := ?_) rfl (by kernel_rfl) (by kernel_rfl) (by kernel_rfl) (fun _ _ _ h => h) (Or.inl ⟨by rfl, ?hy2⟩) hS0 ?_
    case hy2 => (intro w hSw; (try dsimp only at hSw); go_simp; try with_reducible rfl)
    try simp only [Act.put, List.setIfInBounds_toArray, List.set_cons_zero, List.set_cons_succ]
    refine wpAnyH_take (i := 2) (oi := { dst := some 34, op := Op.fieldAddr 34 (Operand.tmp 5) 2, type := 0, pos := "law.go:59", after := #[], guard := none }) (v := ?_) rfl (by kernel_rfl) (by kernel_rfl) (by kernel_rfl) (fun _ _ _ h => h) (Or.inl ⟨by rfl, ?hy3⟩) hS0 ?_
    case hy3 => (intro w hSw; (try dsimp only at hSw); go_simp; try with_reducible rfl)
    try simp only [Act.put, List.setIfInBounds_toArray, List.set_cons_zero, List.set_cons_succ]
    refine wpAnyH_take (i := 3) (oi := { dst := some 35, op := Op.load 3 (Operand.tmp 34), type := 3, pos := "law.go:59", after := #[{ on := 2, ground := Ground.data }], guard := none }) (v := ?_) rfl (by kernel_rfl) (by kernel_rfl) (by kernel_rfl) (fun _ _ _ h => h) (Or.inl ⟨by rfl, ?hy4⟩) hS0 ?_
    case hy4 => (intro w hSw; (try dsimp only at hSw); go_simp; try with_reducible rfl)
    try simp only [Act.put, List.setIfInBounds_toArray, List.set_cons_zero, List.set_cons_succ]
    refine wpAnyH_take (i := 7) (oi := { dst := some 39, op := Op.move (Operand.tmp 1), type := 30, pos := "law.go:59", after := #[], guard := none }) (v := ?_) rfl (by kernel_rfl) (by kernel_rfl) (by kernel_rfl) (fun _ _ _ h => h) (Or.inl ⟨by rfl, ?hy5⟩) hS0 ?_
    case hy5 => (intro w hSw; (try dsimp only at hSw); go_simp; try with_reducible rfl)
    try simp only [Act.put, List.setIfInBounds_toArray, List.set_cons_zero, List.set_cons_succ]
    refine wpAnyH_take (i := 8) (oi := { dst := some 40, op := Op.move (Operand.tmp 8), type := 3, pos := "law.go:59", after := #[], guard := none }) (v := ?_) rfl (by kernel_rfl) (by kernel_rfl) (by kernel_rfl) (fun _ _ _ h => h) (Or.inl ⟨by rfl, ?hy6⟩) hS0 ?_
    case hy6 => (intro w hSw; (try dsimp only at hSw); go_simp; try with_reducible rfl)
    try simp only [Act.put, List.setIfInBounds_toArray, List.set_cons_zero, List.set_cons_succ]
    refine wpAnyH_take (i := 9) (oi := { dst := some 41, op := Op.fieldAddr 34 (Operand.tmp 5) 2, type := 0, pos := "law.go:59", after := #[], guard := none }) (v := ?_) rfl (by kernel_rfl) (by kernel_rfl) (by kernel_rfl) (fun _ _ _ h => h) (Or.inl ⟨by rfl, ?hy7⟩) hS0 ?_
    case hy7 => (intro w hSw; (try dsimp only at hSw); go_simp; try with_reducible rfl)
    try simp only [Act.put, List.setIfInBounds_toArray, List.set_cons_zero, List.set_cons_succ]
    refine wpAnyH_take (i := 10) (oi := { dst := some 42, op := Op.load 3 (Operand.tmp 41), type := 3, pos := "law.go:59", after := #[{ on := 9, ground := Ground.data }], guard := none }) (v := ?_) rfl (by kernel_rfl) (by kernel_rfl) (by kernel_rfl) (fun _ _ _ h => h) (Or.inl ⟨by rfl, ?hy8⟩) hS0 ?_
    case hy8 => (intro w hSw; (try dsimp only at hSw); go_simp; try with_reducible rfl)
    try simp only [Act.put, List.setIfInBounds_toArray, List.set_cons_zero, List.set_cons_succ]
    refine wpAnyH_ready (rs := [4]) (by kernel_rfl) (by simp) ?_
    refine AllReadyH.cons (o := { dst := some 36, op := Op.call { callee := Callee.value (Operand.func 20), args := #[Operand.tmp 35, Operand.const (Value.int IntKind.i64 9)], argTypes := #[3, 3] }, type := 3, pos := "law.go:59", after := #[{ on := 3, ground := Ground.data }], guard := none }) rfl (fun K hK => ?_) ?_
    · go_simp; with_reducible refine (A9.out _).mono ?_; rintro en Wr ⟨rfl, rfl⟩; go_simp
      refine hK.out _ _ ?hs9 (fun hS9 => ?_)
      case hs9 => ((try dsimp only); first | with_reducible exact KS6.out _ T0 | with_reducible exact KS6.out _ T3 | with_reducible exact KS6.out _ T4 | exact KS6.out _ T0 | exact KS6.out _ T3 | exact KS6.out _ T4)
      clear hK K hS0
      refine wpAnyH_take (i := 5) (oi := { dst := some 37, op := Op.binOp BinOp.eql 3 (Operand.tmp 36) (Operand.const (Value.int IntKind.i64 0)) 3, type := 4, pos := "law.go:59", after := #[{ on := 4, ground := Ground.data }], guard := none }) (v := ?_) rfl (by kernel_rfl) (by kernel_rfl) (by kernel_rfl) (fun _ _ _ h => h) (Or.inl ⟨by rfl, ?hy10⟩) hS9 ?_
      case hy10 => (intro w hSw; (try dsimp only at hSw); go_simp; try with_reducible rfl)
      try simp only [Act.put, List.setIfInBounds_toArray, List.set_cons_zero, List.set_cons_succ]
      refine wpAnyH_ready (rs := [6]) (by kernel_rfl) (by simp) ?_
      refine AllReadyH.cons (o := { dst := some 38, op := Op.call { callee := Callee.value (Operand.func 22), args := #[Operand.tmp 32, Operand.tmp 33, Operand.tmp 37], argTypes := #[25, 3, 4] }, type := 4, pos := "law.go:59", after := #[{ on := 0, ground := Ground.data }, { on := 1, ground := Ground.data }, { on := 5, ground := Ground.data }, { on := 4, ground := Ground.chain }], guard := none }) rfl (fun K hK => ?_) ?_
      · go_simp; with_reducible refine TK.out.mono ?_; rintro en W3 ⟨r, rfl, T3, NX⟩; have NX := Lib.hid NX; go_simp
        refine hK.out _ _ ?hs11 (fun hS11 => ?_)
        case hs11 => ((try dsimp only); first | with_reducible exact KS6.out _ T0 | with_reducible exact KS6.out _ T3 | with_reducible exact KS6.out _ T4 | exact KS6.out _ T0 | exact KS6.out _ T3 | exact KS6.out _ T4)
        clear hK K hS9
        refine wpAnyH_ready (rs := [11]) (by kernel_rfl) (by simp) ?_
        refine AllReadyH.cons (o := { dst := some 43, op := Op.call { callee := Callee.value (Operand.func 20), args := #[Operand.tmp 42, Operand.const (Value.int IntKind.i64 9)], argTypes := #[3, 3] }, type := 3, pos := "law.go:59", after := #[{ on := 10, ground := Ground.data }, { on := 6, ground := Ground.chain }], guard := none }) rfl (fun K hK => ?_) ?_
        · go_simp; with_reducible refine (A9.out _).mono ?_; rintro en Wr ⟨rfl, rfl⟩; go_simp
          refine hK.out _ _ ?hs12 (fun hS12 => ?_)
          case hs12 => ((try dsimp only); first | with_reducible exact KS6.out _ T0 | with_reducible exact KS6.out _ T3 | with_reducible exact KS6.out _ T4 | exact KS6.out _ T0 | exact KS6.out _ T3 | exact KS6.out _ T4)
          clear hK K hS11
          refine wpAnyH_take (i := 12) (oi := { dst := some 44, op := Op.binOp BinOp.eql 3 (Operand.tmp 43) (Operand.const (Value.int IntKind.i64 0)) 3, type := 4, pos := "law.go:59", after := #[{ on := 11, ground := Ground.data }], guard := none }) (v := ?_) rfl (by kernel_rfl) (by kernel_rfl) (by kernel_rfl) (fun _ _ _ h => h) (Or.inl ⟨by rfl, ?hy13⟩) hS12 ?_
          case hy13 => (intro w hSw; (try dsimp only at hSw); go_simp; try with_reducible rfl)
          try simp only [Act.put, List.setIfInBounds_toArray, List.set_cons_zero, List.set_cons_succ]
          refine wpAnyH_ready (rs := [13]) (by kernel_rfl) (by simp) ?_
          refine AllReadyH.cons (o := { dst := some 45, op := Op.call { callee := Callee.value (Operand.func 39), args := #[Operand.tmp 39, Operand.tmp 40, Operand.tmp 44], argTypes := #[30, 3, 4] }, type := 4, pos := "law.go:59", after := #[{ on := 7, ground := Ground.data }, { on := 8, ground := Ground.data }, { on := 12, ground := Ground.data }, { on := 11, ground := Ground.chain }], guard := none }) rfl (fun K hK => ?_) ?_
          · go_simp; with_reducible refine (NX.out _ (Turn.refl _ _)).mono ?_; rintro en W4 ⟨rfl, A4⟩; have T4 := A4.turn; go_simp
            refine hK.out _ _ ?hs14 (fun hS14 => ?_)
            case hs14 => ((try dsimp only); first | with_reducible exact KS6.out _ T0 | with_reducible exact KS6.out _ T3 | with_reducible exact KS6.out _ T4 | exact KS6.out _ T0 | exact KS6.out _ T3 | exact KS6.out _ T4)
            clear hK K hS12
            refine wpAnyH_take (i := 14) (oi := { dst := some 46, op := Op.binOp BinOp.eql 4 (Operand.tmp 38) (Operand.tmp 45) 4, type := 4, pos := "law.go:59", after := #[{ on := 6, ground := Ground.data }, { on := 13, ground := Ground.data }], guard := none }) (v := ?_) rfl (by kernel_rfl) (by kernel_rfl) (by kernel_rfl) (fun _ _ _ h => h) (Or.inl ⟨by rfl, ?hy15⟩) hS14 ?_
            case hy15 => (intro w hSw; (try dsimp only at hSw); go_simp; try with_reducible rfl)
            try simp only [Act.put, List.setIfInBounds_toArray, List.set_cons_zero, List.set_cons_succ]
            refine wpAnyH_take (i := 15) (oi := { dst := some 6, op := Op.assign (Operand.tmp 46), type := 4, pos := "law.go:59", after := #[{ on := 14, ground := Ground.data }, { on := 13, ground := Ground.chain }, { on := 0, ground := Ground.phase }, { on := 1, ground := Ground.phase }, { on := 2, ground := Ground.phase }, { on := 3, ground := Ground.phase }, { on := 4, ground := Ground.phase }, { on := 5, ground := Ground.phase }, { on := 6, ground := Ground.phase }, { on := 7, ground := Ground.phase }, { on := 8, ground := Ground.phase }, { on := 9, ground := Ground.phase }, { on := 10, ground := Ground.phase }, { on := 11, ground := Ground.phase }, { on := 12, ground := Ground.phase }, { on := 13, ground := Ground.phase }, { on := 14, ground := Ground.phase }], guard := none }) (v := ?_) rfl (by kernel_rfl) (by kernel_rfl) (by kernel_rfl) (fun _ _ _ h => h) (Or.inl ⟨by rfl, ?hy16⟩) hS14 ?_
            case hy16 => (intro w hSw; (try dsimp only at hSw); go_simp; try with_reducible rfl)
            try simp only [Act.put, List.setIfInBounds_toArray, List.set_cons_zero, List.set_cons_succ]
            refine wpAnyH_done (by kernel_rfl) ?_ _
            go_wp2_with fail
            go_ret
            exact ⟨by simp, A4.from (TT.out.trans Tc.out)⟩
          exact AllReadyH.nil
        exact AllReadyH.nil
      exact AllReadyH.nil
    exact AllReadyH.nil
  exact AllReadyH.nil
set_option maxRecDepth 100000 in
set_option maxHeartbeats 8000000 in
theorem Two.does2 (h : Two w B R c s) {k a n : Int} (hk : restN k 10 = 2) :
    Calls Try.prog 13 #[.pointer (some ⟨B.l, 0, none⟩), .pointer (some ⟨R.r, 0, none⟩), .agg #[.int .i64 k, .int .i64 a, .int .i64 n]] w fun e w' => e = .returned (.bool true) ∧ Aft w B R c (Stp c s 2 (tailOf a n s.tail)) w' := by
  obtain ⟨W, hW⟩ : ∃ W, W = w.alloc (.cells #[.int .i64 k, .int .i64 a, .int .i64 n] 34) := ⟨_, rfl⟩
  have TW : Turn (fun _ => False) w W := by rw [hW]; exact (Turn.refl _ w).alloc _
  have Bk : Blk W w.heap.size 34 := by rw [hW]; exact Blk.new w [.int .i64 k, .int .i64 a, .int .i64 n] 34
  have C : W.rangeAt w.heap.size 0 [.int .i64 k, .int .i64 a, .int .i64 n] := by rw [hW]; exact range_new w [.int .i64 k, .int .i64 a, .int .i64 n] 34
  have hh := h.keep TW
  have x0 : W.cell? ⟨w.heap.size, 0, none⟩ = some (.int .i64 k) := C 0 _ rfl
  have x1 : W.cell? ⟨w.heap.size, 1, none⟩ = some (.int .i64 a) := C 1 _ rfl
  have x2 : W.cell? ⟨w.heap.size, 2, none⟩ = some (.int .i64 n) := C 2 _ rfl
  have noff := hh.off Bk (by decide) (by decide)
  have KS := Lib.hid (show ∀ W', Turn (TS B c.sh R.base W) W W' → W'.cell? ⟨w.heap.size, 0, none⟩ = some (.int .i64 k) ∧ W'.cell? ⟨w.heap.size, 1, none⟩ = some (.int .i64 a) ∧ W'.cell? ⟨w.heap.size, 2, none⟩ = some (.int .i64 n) from fun W' T => ⟨T.cell noff x0, T.cell noff x1, T.cell noff x2⟩)
  obtain ⟨q5, hq5⟩ : ∃ q : Int, (restN a 5 : Int) = q := ⟨_, rfl⟩
  have A5 := Lib.hid (show ∀ w, Calls Try.prog 20 #[.int .i64 a, .int .i64 5] w fun e w' => e = .returned (.int .i64 q5) ∧ w = w' from fun w => by rw [← hq5]; exact rest_is w a (n := 5) (by decide) (by decide))
  have A10 := Lib.hid (show ∀ w, Calls Try.prog 20 #[.int .i64 k, .int .i64 10] w fun e w' => e = .returned (.int .i64 2) ∧ w = w' from fun w => by have := rest_is w k (n := 10) (by decide) (by decide); rw [hk] at this; exact this)
  have l5 := restN_lt a (n := 5) (by decide)
  have e5 : wrap64 (q5 - 1) = q5 - 1 := by unfold wrap64; omega
  have HH := Lib.hid hh
  have TT := Lib.hid TW
  have ht := h.tail
  have hlt := h.I.lt
  have y9 := hh.D.k9
  have KS9 := Lib.hid (show ∀ W', Turn (fun _ => False) W W' → W'.cell? ⟨w.heap.size, 0, none⟩ = some (.int .i64 k) ∧ W'.cell? ⟨w.heap.size, 1, none⟩ = some (.int .i64 a) ∧ W'.cell? ⟨w.heap.size, 2, none⟩ = some (.int .i64 n) ∧ W'.cell? ⟨R.r, 9, none⟩ = some (.int .i64 (s.low : Int)) from fun W' T => ⟨T.cell (fun f => f) x0, T.cell (fun f => f) x1, T.cell (fun f => f) x2, T.cell (fun f => f) y9⟩)
  obtain ⟨q7, hq7⟩ : ∃ q : Int, (restN a 7 : Int) = q := ⟨_, rfl⟩
  have A7 := Lib.hid (show ∀ w, Calls Try.prog 20 #[.int .i64 a, .int .i64 7] w fun e w' => e = .returned (.int .i64 q7) ∧ w = w' from fun w => by rw [← hq7]; exact rest_is w a (n := 7) (by decide) (by decide))
  have l7 := restN_lt a (n := 7) (by decide)
  have e7a : wrap64 ((s.low : Int) + q7) = (s.low : Int) + q7 := by unfold wrap64; omega
  have e7b : wrap64 ((s.low : Int) + q7 - 1) = (s.low : Int) + q7 - 1 := by unfold wrap64; omega
  have e7c : IntKind.i64.wrap ((s.low : Int) + q7) = (s.low : Int) + q7 := by rw [IntKind.wrap_i64]; omega
  have e7d : IntKind.i64.wrap ((s.low : Int) + q7 - 1) = (s.low : Int) + q7 - 1 := by rw [IntKind.wrap_i64]; omega
  have L7 := Lib.hid (show (-1000 : Int) ≤ (s.low : Int) + q7 - 1 by omega)
  obtain ⟨qn, hqn⟩ : ∃ q : Int, (restN n 5 : Int) = q := ⟨_, rfl⟩
  have An := Lib.hid (show ∀ w, Calls Try.prog 20 #[.int .i64 n, .int .i64 5] w fun e w' => e = .returned (.int .i64 qn) ∧ w = w' from fun w => by rw [← hqn]; exact rest_is w n (n := 5) (by decide) (by decide))
  have ln := restN_lt n (n := 5) (by decide)
  have en5 : wrap64 (1 + qn) = 1 + qn := by unfold wrap64; omega
  have en6 : IntKind.i64.wrap (1 + qn) = 1 + qn := by rw [IntKind.wrap_i64]; omega
  clear hq7 hqn l7 ln ht hlt
  clear Bk C noff hq5 l5 hk hh h TW
  go_enter Try.func13, Try.ntmps13
  go_upto_region 1 with fail
  rw [← hW]
  clear hW
  generalize w.heap.size = b at *
  go_wp2_with fail
  with_reducible refine (A5.out _).mono ?_
  rintro e w1 ⟨rfl, rfl⟩
  go_wp2_with fail
  with_reducible refine (A10.out _).mono ?_
  rintro e w1 ⟨rfl, rfl⟩
  have Ta : Turn (fun _ => False) W W.drew := (Turn.refl _ W).drewN 1
  go_upto_region 9 with fail
  refine wp_region_held_drew (S := (fun w' => w'.cell? ⟨b, 0, none⟩ = some (.int .i64 k) ∧ w'.cell? ⟨b, 1, none⟩ = some (.int .i64 a) ∧ w'.cell? ⟨b, 2, none⟩ = some (.int .i64 n) ∧ w'.cell? ⟨R.r, 9, none⟩ = some (.int .i64 (s.low : Int)))) (by kernel_rfl) ?hs0 (fun hS0 => ?_)
  case hs0 => ((try dsimp only); first | with_reducible exact KS9.out _ Ta | exact KS9.out _ Ta)
  refine wpAnyH_take (i := 0) (oi := { dst := some 50, op := Op.move (Operand.tmp 1), type := 30, pos := "law.go:61", after := #[], guard := none }) (v := ?_) rfl (by kernel_rfl) (by kernel_rfl) (by kernel_rfl) (fun _ _ _ h => h) (Or.inl ⟨by rfl, ?hy1⟩) hS0 ?_
  case hy1 => (intro w hSw; (try dsimp only at hSw); go_simp; try with_reducible rfl)
  try simp only [Act.put, List.setIfInBounds_toArray, List.set_cons_zero, List.set_cons_succ]
  refine wpAnyH_take (i := 1) (oi := { dst := some 51, op := Op.nilCheck (Operand.tmp 50), type := 0, pos := "law.go:61", after := #[{ on := 0, ground := Ground.data }], guard := none }) (v := ?_) rfl (by kernel_rfl) (by kernel_rfl) (by kernel_rfl) (fun _ _ _ h => h) (Or.inl ⟨by rfl, ?hy2⟩) hS0 ?_
  case hy2 => (intro w hSw; (try dsimp only at hSw); go_simp; try with_reducible rfl)
  try simp only [Act.put, List.setIfInBounds_toArray, List.set_cons_zero, List.set_cons_succ]
  refine wpAnyH_take (i := 2) (oi := { dst := some 52, op := Op.fieldAddr 101 (Operand.tmp 51) 3, type := 0, pos := "law.go:61", after := #[{ on := 1, ground := Ground.data }], guard := none }) (v := ?_) rfl (by kernel_rfl) (by kernel_rfl) (by kernel_rfl) (fun _ _ _ h => h) (Or.inl ⟨by rfl, ?hy3⟩) hS0 ?_
  case hy3 => (intro w hSw; (try dsimp only at hSw); go_simp; try with_reducible rfl)
  try simp only [Act.put, List.setIfInBounds_toArray, List.set_cons_zero, List.set_cons_succ]
  refine wpAnyH_take (i := 3) (oi := { dst := some 53, op := Op.load 3 (Operand.tmp 52), type := 3, pos := "law.go:61", after := #[{ on := 2, ground := Ground.data }], guard := none }) (v := ?_) rfl (by kernel_rfl) (by kernel_rfl) (by kernel_rfl) (fun _ _ _ h => h) (Or.inl ⟨by rfl, ?hy4⟩) hS0 ?_
  case hy4 => (intro w hSw; (try dsimp only at hSw); go_simp; try with_reducible rfl)
  try simp only [Act.put, List.setIfInBounds_toArray, List.set_cons_zero, List.set_cons_succ]
  refine wpAnyH_take (i := 4) (oi := { dst := some 54, op := Op.fieldAddr 34 (Operand.tmp 5) 1, type := 0, pos := "law.go:61", after := #[], guard := none }) (v := ?_) rfl (by kernel_rfl) (by kernel_rfl) (by kernel_rfl) (fun _ _ _ h => h) (Or.inl ⟨by rfl, ?hy5⟩) hS0 ?_
  case hy5 => (intro w hSw; (try dsimp only at hSw); go_simp; try with_reducible rfl)
  try simp only [Act.put, List.setIfInBounds_toArray, List.set_cons_zero, List.set_cons_succ]
  refine wpAnyH_take (i := 5) (oi := { dst := some 55, op := Op.load 3 (Operand.tmp 54), type := 3, pos := "law.go:61", after := #[{ on := 4, ground := Ground.data }], guard := none }) (v := ?_) rfl (by kernel_rfl) (by kernel_rfl) (by kernel_rfl) (fun _ _ _ h => h) (Or.inl ⟨by rfl, ?hy6⟩) hS0 ?_
  case hy6 => (intro w hSw; (try dsimp only at hSw); go_simp; try with_reducible rfl)
  try simp only [Act.put, List.setIfInBounds_toArray, List.set_cons_zero, List.set_cons_succ]
  refine wpAnyH_ready (rs := [6]) (by kernel_rfl) (by simp) ?_
  refine AllReadyH.cons (o := { dst := some 56, op := Op.call { callee := Callee.value (Operand.func 20), args := #[Operand.tmp 55, Operand.const (Value.int IntKind.i64 7)], argTypes := #[3, 3] }, type := 3, pos := "law.go:61", after := #[{ on := 5, ground := Ground.data }], guard := none }) rfl (fun K hK => ?_) ?_
  · go_simp; with_reducible refine (A7.out _).mono ?_; rintro en Wr ⟨rfl, rfl⟩; go_simp
    refine hK.out _ _ ?hs7 (fun hS7 => ?_)
    case hs7 => ((try dsimp only); first | with_reducible exact KS9.out _ Ta | exact KS9.out _ Ta)
    clear hK K hS0
    refine wpAnyH_take (i := 7) (oi := { dst := some 57, op := Op.binOp BinOp.add 3 (Operand.tmp 53) (Operand.tmp 56) 3, type := 3, pos := "law.go:61", after := #[{ on := 3, ground := Ground.data }, { on := 6, ground := Ground.data }], guard := none }) (v := ?_) rfl (by kernel_rfl) (by kernel_rfl) (by kernel_rfl) (fun _ _ _ h => h) (Or.inl ⟨by rfl, ?hy8⟩) hS7 ?_
    case hy8 => (intro w hSw; (try dsimp only at hSw); go_simp; try with_reducible rfl)
    try simp only [Act.put, List.setIfInBounds_toArray, List.set_cons_zero, List.set_cons_succ]
    refine wpAnyH_take (i := 8) (oi := { dst := some 58, op := Op.binOp BinOp.sub 3 (Operand.tmp 57) (Operand.const (Value.int IntKind.i64 1)) 3, type := 3, pos := "law.go:61", after := #[{ on := 7, ground := Ground.data }], guard := none }) (v := ?_) rfl (by kernel_rfl) (by kernel_rfl) (by kernel_rfl) (fun _ _ _ h => h) (Or.inl ⟨by rfl, ?hy9⟩) hS7 ?_
    case hy9 => (intro w hSw; (try dsimp only at hSw); go_simp; try with_reducible rfl)
    try simp only [Act.put, List.setIfInBounds_toArray, List.set_cons_zero, List.set_cons_succ]
    refine wpAnyH_take (i := 9) (oi := { dst := some 9, op := Op.assign (Operand.tmp 58), type := 3, pos := "law.go:61", after := #[{ on := 8, ground := Ground.data }, { on := 6, ground := Ground.chain }, { on := 0, ground := Ground.phase }, { on := 1, ground := Ground.phase }, { on := 2, ground := Ground.phase }, { on := 3, ground := Ground.phase }, { on := 4, ground := Ground.phase }, { on := 5, ground := Ground.phase }, { on := 6, ground := Ground.phase }, { on := 7, ground := Ground.phase }, { on := 8, ground := Ground.phase }], guard := none }) (v := ?_) rfl (by kernel_rfl) (by kernel_rfl) (by kernel_rfl) (fun _ _ _ h => h) (Or.inl ⟨by rfl, ?hy10⟩) hS7 ?_
    case hy10 => (intro w hSw; (try dsimp only at hSw); go_simp; try with_reducible rfl)
    try simp only [Act.put, List.setIfInBounds_toArray, List.set_cons_zero, List.set_cons_succ]
    refine wpAnyH_done (by kernel_rfl) ?_ _
    generalize W.drew = V at *
    go_upto_region 10 with fail
    have KSV := Lib.hid (fun W' (T : Turn (fun _ => False) V.drew W') => KS.out W' (TS.no (Ta.trans (((Turn.refl (fun _ => False) V).drewN 1).trans T))))
    have T0 : Turn (fun _ => False) V.drew V.drew := Turn.refl _ _
    obtain ⟨VA, hVA⟩ : ∃ VA, VA = V.drew.alloc (.cells zc.toArray 51) := ⟨_, rfl⟩
    have TA : Turn (fun _ => False) V.drew VA := by rw [hVA]; exact T0.alloc _
    obtain ⟨b10, hb10⟩ : ∃ q, V.heap.size = q := ⟨_, rfl⟩
    have RA : VA.rangeAt b10 0 zc := by rw [hVA, ← hb10]; exact range_new V.drew zc 51
    have BA : Blk VA b10 51 := by rw [hVA, ← hb10]; exact Blk.new V.drew zc 51
    have TH := Lib.hid (show VA.there b10 0 14 from range_there RA rfl BA)
    have TB : Turn (fun _ => False) V.drew (VA.setCells b10 0 (cmdL (1 + qn, n))) := TA.comp (Turn.setCells _ 0 (show Turn (fun q => q = b10) _ _ from Turn.refl _ _) (.inl rfl)) (fun j hj e => by have : V.drew.heap.size = b10 := hb10; omega)
    have RBB : (VA.setCells b10 0 (cmdL (1 + qn, n))).rangeAt b10 0 (cmdL (1 + qn, n)) := World.rangeAt_setCells_same _ _ _ _ (by rw [(cmdL_is _).len]; exact TH.out)
    have BB : Blk (VA.setCells b10 0 (cmdL (1 + qn, n))) b10 51 := BA.setCells _ _
    have wp_alloc51 : ∀ {op : Oper} {ac : Act} {K : Act → World → Prop} {Q : Exit → Act → World → Prop}, op.op = .alloc 51 → K (ac.put op.dst (.pointer (some ⟨b10, 0, none⟩))) VA → op.wp Try.prog ac V.drew K Q := fun ho hk => wp_alloc51' ho (by rw [show V.drew.heap.size = b10 from hb10, ← hVA]; exact hk)
    clear x0 x1 x2 y9 KS9 hb10 hVA
    refine wp_region_held_drew (S := (fun w' => w'.cell? ⟨b, 0, none⟩ = some (.int .i64 k) ∧ w'.cell? ⟨b, 1, none⟩ = some (.int .i64 a) ∧ w'.cell? ⟨b, 2, none⟩ = some (.int .i64 n))) (by kernel_rfl) ?hs0 (fun hS0 => ?_)
    case hs0 => ((try dsimp only); first | with_reducible exact KSV.out _ T0 | with_reducible exact KSV.out _ TA | with_reducible exact KSV.out _ TB | exact KSV.out _ T0 | exact KSV.out _ TA | exact KSV.out _ TB)
    refine wpAnyH_take (i := 0) (oi := { dst := some 59, op := Op.fieldAddr 34 (Operand.tmp 5) 2, type := 0, pos := "law.go:62", after := #[], guard := none }) (v := ?_) rfl (by kernel_rfl) (by kernel_rfl) (by kernel_rfl) (fun _ _ _ h => h) (Or.inl ⟨by rfl, ?hy1⟩) hS0 ?_
    case hy1 => (intro w hSw; (try dsimp only at hSw); go_simp; try with_reducible rfl)
    try simp only [Act.put, List.setIfInBounds_toArray, List.set_cons_zero, List.set_cons_succ]
    refine wpAnyH_take (i := 1) (oi := { dst := some 60, op := Op.load 3 (Operand.tmp 59), type := 3, pos := "law.go:62", after := #[{ on := 0, ground := Ground.data }], guard := none }) (v := ?_) rfl (by kernel_rfl) (by kernel_rfl) (by kernel_rfl) (fun _ _ _ h => h) (Or.inl ⟨by rfl, ?hy2⟩) hS0 ?_
    case hy2 => (intro w hSw; (try dsimp only at hSw); go_simp; try with_reducible rfl)
    try simp only [Act.put, List.setIfInBounds_toArray, List.set_cons_zero, List.set_cons_succ]
    refine wpAnyH_take (i := 4) (oi := { dst := some 63, op := Op.fieldAddr 34 (Operand.tmp 5) 2, type := 0, pos := "law.go:62", after := #[], guard := none }) (v := ?_) rfl (by kernel_rfl) (by kernel_rfl) (by kernel_rfl) (fun _ _ _ h => h) (Or.inl ⟨by rfl, ?hy3⟩) hS0 ?_
    case hy3 => (intro w hSw; (try dsimp only at hSw); go_simp; try with_reducible rfl)
    try simp only [Act.put, List.setIfInBounds_toArray, List.set_cons_zero, List.set_cons_succ]
    refine wpAnyH_take (i := 5) (oi := { dst := some 64, op := Op.load 3 (Operand.tmp 63), type := 3, pos := "law.go:62", after := #[{ on := 4, ground := Ground.data }], guard := none }) (v := ?_) rfl (by kernel_rfl) (by kernel_rfl) (by kernel_rfl) (fun _ _ _ h => h) (Or.inl ⟨by rfl, ?hy4⟩) hS0 ?_
    case hy4 => (intro w hSw; (try dsimp only at hSw); go_simp; try with_reducible rfl)
    try simp only [Act.put, List.setIfInBounds_toArray, List.set_cons_zero, List.set_cons_succ]
    refine wpAnyH_ready (rs := [2, 7]) (by kernel_rfl) (by simp) ?_
    refine AllReadyH.cons (o := { dst := some 61, op := Op.call { callee := Callee.value (Operand.func 20), args := #[Operand.tmp 60, Operand.const (Value.int IntKind.i64 5)], argTypes := #[3, 3] }, type := 3, pos := "law.go:62", after := #[{ on := 1, ground := Ground.data }], guard := none }) rfl (fun K hK => ?_) ?_
    · go_simp; with_reducible refine (An.out _).mono ?_; rintro en Wr ⟨rfl, rfl⟩; go_simp
      refine hK.out _ _ ?hs5 (fun hS5 => ?_)
      case hs5 => ((try dsimp only); first | with_reducible exact KSV.out _ T0 | with_reducible exact KSV.out _ TA | with_reducible exact KSV.out _ TB | exact KSV.out _ T0 | exact KSV.out _ TA | exact KSV.out _ TB)
      clear hK K hS0
      refine wpAnyH_take (i := 3) (oi := { dst := some 62, op := Op.binOp BinOp.add 3 (Operand.const (Value.int IntKind.i64 1)) (Operand.tmp 61) 3, type := 3, pos := "law.go:62", after := #[{ on := 2, ground := Ground.data }], guard := none }) (v := ?_) rfl (by kernel_rfl) (by kernel_rfl) (by kernel_rfl) (fun _ _ _ h => h) (Or.inl ⟨by rfl, ?hy6⟩) hS5 ?_
      case hy6 => (intro w hSw; (try dsimp only at hSw); go_simp; try with_reducible rfl)
      try simp only [Act.put, List.setIfInBounds_toArray, List.set_cons_zero, List.set_cons_succ]
      refine wpAnyH_take (i := 6) (oi := { dst := some 65, op := Op.build 51 #[(0, Operand.tmp 62), (2, Operand.tmp 64)], type := 51, pos := "law.go:62", after := #[{ on := 3, ground := Ground.data }, { on := 5, ground := Ground.data }], guard := none }) (v := ?_) rfl (by kernel_rfl) (by kernel_rfl) (by kernel_rfl) (fun _ _ _ h => h) (Or.inl ⟨by rfl, ?hy7⟩) hS5 ?_
      case hy7 => (intro w hSw; (try dsimp only at hSw); go_simp; try with_reducible rfl)
      try simp only [Act.put, List.setIfInBounds_toArray, List.set_cons_zero, List.set_cons_succ]
      refine wpAnyH_ready (rs := [7]) (by kernel_rfl) (by simp) ?_
      refine AllReadyH.cons (o := { dst := some 10, op := Op.alloc 51, type := 0, pos := "law.go:62", after := #[], guard := none }) rfl (fun K hK => ?_) ?_
      · rw [if_pos (by rfl)]; refine wp_alloc51 rfl ?_
        refine hK.out _ _ ?hs8 (fun hS8 => ?_)
        case hs8 => ((try dsimp only); first | with_reducible exact KSV.out _ T0 | with_reducible exact KSV.out _ TA | with_reducible exact KSV.out _ TB | exact KSV.out _ T0 | exact KSV.out _ TA | exact KSV.out _ TB)
        clear hK K hS5
        refine wpAnyH_ready (rs := [8]) (by kernel_rfl) (by simp) ?_
        refine AllReadyH.cons (o := { dst := none, op := Op.store 51 (Operand.tmp 10) (Operand.tmp 65), type := 0, pos := "law.go:62", after := #[{ on := 7, ground := Ground.data }, { on := 6, ground := Ground.data }, { on := 2, ground := Ground.chain }, { on := 0, ground := Ground.phase }, { on := 1, ground := Ground.phase }, { on := 2, ground := Ground.phase }, { on := 3, ground := Ground.phase }, { on := 4, ground := Ground.phase }, { on := 5, ground := Ground.phase }, { on := 6, ground := Ground.phase }, { on := 7, ground := Ground.phase }], guard := none }) rfl (fun K hK => ?_) ?_
        · rw [if_pos (by rfl)]; refine wp_store_mid 51 _ _ rfl b10 0 (cmdL (1 + qn, n)).toArray rfl rfl (by rw [List.size_toArray, (cmdL_is _).len]; exact TH.out) (by rw [List.size_toArray, (cmdL_is _).len]; exact size51) (cmdL_is _).one ?_
          refine hK.out _ _ ?hs9 (fun hS9 => ?_)
          case hs9 => ((try dsimp only); first | with_reducible exact KSV.out _ T0 | with_reducible exact KSV.out _ TA | with_reducible exact KSV.out _ TB | exact KSV.out _ T0 | exact KSV.out _ TA | exact KSV.out _ TB)
          clear hK K hS8
          refine wpAnyH_done (by kernel_rfl) ?_ _
          go_upto_region 11 with fail
          obtain ⟨p, hp⟩ : ∃ p, p = (1 + qn, n) := ⟨_, rfl⟩
          rw [← hp] at RBB BB TB ⊢
          clear hp
          generalize VA.setCells b10 0 (cmdL p) = V2 at *
          have TV2 : Turn (fun _ => False) V V2.drew := ((Turn.refl (fun _ => False) V).drewN 1).trans (TB.trans ((Turn.refl (fun _ => False) V2).drewN 1))
          have TK := Lib.hid ((HH.out.keep (show Turn (fun _ => False) W V2.drew from Ta.trans TV2)).fill L7.out p 2 (tailOf a n s.tail))
          have K11 := Lib.hid (show ∀ W', Turn (TS B c.sh R.base V2.drew) V2.drew W' → W'.rangeAt b10 0 (cmdL p) from fun W' T => range_turn (show V2.drew.rangeAt b10 0 (cmdL p) from RBB) T ((HH.out.keep (show Turn (fun _ => False) W V2.drew from Ta.trans TV2)).off (show Blk V2.drew b10 51 from BB) (by decide) (by decide)))
          have U0 : Turn (TS B c.sh R.base V2.drew) V2.drew V2.drew := Turn.refl _ _
          clear RA BA TA TB TH RBB BB wp_alloc51
          refine wp_region_held_drew (S := (fun w' => w'.rangeAt b10 0 (cmdL p))) (by kernel_rfl) ?hs0 (fun hS0 => ?_)
          case hs0 => ((try dsimp only); first | with_reducible exact K11.out _ U0 | with_reducible exact K11.out _ T3 | with_reducible exact K11.out _ T4 | exact K11.out _ U0 | exact K11.out _ T3 | exact K11.out _ T4)
          refine wpAnyH_take (i := 0) (oi := { dst := some 66, op := Op.move (Operand.tmp 0), type := 25, pos := "law.go:63", after := #[], guard := none }) (v := ?_) rfl (by kernel_rfl) (by kernel_rfl) (by kernel_rfl) (fun _ _ _ h => h) (Or.inl ⟨by rfl, ?hy1⟩) hS0 ?_
          case hy1 => (intro w hSw; (try dsimp only at hSw); go_simp; try with_reducible rfl)
          try simp only [Act.put, List.setIfInBounds_toArray, List.set_cons_zero, List.set_cons_succ]
          refine wpAnyH_take (i := 1) (oi := { dst := some 67, op := Op.move (Operand.tmp 9), type := 3, pos := "law.go:63", after := #[], guard := none }) (v := ?_) rfl (by kernel_rfl) (by kernel_rfl) (by kernel_rfl) (fun _ _ _ h => h) (Or.inl ⟨by rfl, ?hy2⟩) hS0 ?_
          case hy2 => (intro w hSw; (try dsimp only at hSw); go_simp; try with_reducible rfl)
          try simp only [Act.put, List.setIfInBounds_toArray, List.set_cons_zero, List.set_cons_succ]
          refine wpAnyH_take (i := 4) (oi := { dst := some 70, op := Op.move (Operand.tmp 1), type := 30, pos := "law.go:63", after := #[], guard := none }) (v := ?_) rfl (by kernel_rfl) (by kernel_rfl) (by kernel_rfl) (fun _ _ _ h => h) (Or.inl ⟨by rfl, ?hy3⟩) hS0 ?_
          case hy3 => (intro w hSw; (try dsimp only at hSw); go_simp; try with_reducible rfl)
          try simp only [Act.put, List.setIfInBounds_toArray, List.set_cons_zero, List.set_cons_succ]
          refine wpAnyH_take (i := 5) (oi := { dst := some 71, op := Op.move (Operand.tmp 9), type := 3, pos := "law.go:63", after := #[], guard := none }) (v := ?_) rfl (by kernel_rfl) (by kernel_rfl) (by kernel_rfl) (fun _ _ _ h => h) (Or.inl ⟨by rfl, ?hy4⟩) hS0 ?_
          case hy4 => (intro w hSw; (try dsimp only at hSw); go_simp; try with_reducible rfl)
          try simp only [Act.put, List.setIfInBounds_toArray, List.set_cons_zero, List.set_cons_succ]
          refine wpAnyH_take (i := 2) (oi := { dst := some 68, op := Op.load 51 (Operand.tmp 10), type := 51, pos := "law.go:63", after := #[], guard := none }) (v := .agg (cmdL p).toArray) rfl (by kernel_rfl) (by kernel_rfl) (by kernel_rfl) (fun _ _ _ h => h) (yieldsIf_load_mid (by rfl) 51 _ rfl b10 0 rfl (cmdL p) _ (fun _ h => h) Try.underlying51 rfl (by rw [(cmdL_is _).len]; exact size51)) hS0 ?_
          try simp only [Act.put, List.setIfInBounds_toArray, List.set_cons_zero, List.set_cons_succ]
          refine wpAnyH_take (i := 6) (oi := { dst := some 72, op := Op.load 51 (Operand.tmp 10), type := 51, pos := "law.go:63", after := #[], guard := none }) (v := .agg (cmdL p).toArray) rfl (by kernel_rfl) (by kernel_rfl) (by kernel_rfl) (fun _ _ _ h => h) (yieldsIf_load_mid (by rfl) 51 _ rfl b10 0 rfl (cmdL p) _ (fun _ h => h) Try.underlying51 rfl (by rw [(cmdL_is _).len]; exact size51)) hS0 ?_
          try simp only [Act.put, List.setIfInBounds_toArray, List.set_cons_zero, List.set_cons_succ]
          refine wpAnyH_ready (rs := [3]) (by kernel_rfl) (by simp) ?_
          refine AllReadyH.cons (o := { dst := some 69, op := Op.call { callee := Callee.value (Operand.func 23), args := #[Operand.tmp 66, Operand.tmp 67, Operand.tmp 68], argTypes := #[25, 3, 51] }, type := 4, pos := "law.go:63", after := #[{ on := 0, ground := Ground.data }, { on := 1, ground := Ground.data }, { on := 2, ground := Ground.data }], guard := none }) rfl (fun K hK => ?_) ?_
          · go_simp; with_reducible refine TK.out.mono ?_; rintro en W3 ⟨r, rfl, T3, NX⟩; have NX := Lib.hid NX; go_simp
            refine hK.out _ _ ?hs7 (fun hS7 => ?_)
            case hs7 => ((try dsimp only); first | with_reducible exact K11.out _ U0 | with_reducible exact K11.out _ T3 | with_reducible exact K11.out _ T4 | exact K11.out _ U0 | exact K11.out _ T3 | exact K11.out _ T4)
            clear hK K hS0
            refine wpAnyH_ready (rs := [7]) (by kernel_rfl) (by simp) ?_
            refine AllReadyH.cons (o := { dst := some 73, op := Op.call { callee := Callee.value (Operand.func 40), args := #[Operand.tmp 70, Operand.tmp 71, Operand.tmp 72], argTypes := #[30, 3, 51] }, type := 4, pos := "law.go:63", after := #[{ on := 4, ground := Ground.data }, { on := 5, ground := Ground.data }, { on := 6, ground := Ground.data }, { on := 3, ground := Ground.chain }], guard := none }) rfl (fun K hK => ?_) ?_
            · go_simp; with_reducible refine (NX.out _ (Turn.refl _ _)).mono ?_; rintro en W4 ⟨rfl, A4⟩; have T4 := A4.turn; go_simp
              refine hK.out _ _ ?hs8 (fun hS8 => ?_)
              case hs8 => ((try dsimp only); first | with_reducible exact K11.out _ U0 | with_reducible exact K11.out _ T3 | with_reducible exact K11.out _ T4 | exact K11.out _ U0 | exact K11.out _ T3 | exact K11.out _ T4)
              clear hK K hS7
              refine wpAnyH_take (i := 8) (oi := { dst := some 74, op := Op.binOp BinOp.eql 4 (Operand.tmp 69) (Operand.tmp 73) 4, type := 4, pos := "law.go:63", after := #[{ on := 3, ground := Ground.data }, { on := 7, ground := Ground.data }], guard := none }) (v := ?_) rfl (by kernel_rfl) (by kernel_rfl) (by kernel_rfl) (fun _ _ _ h => h) (Or.inl ⟨by rfl, ?hy9⟩) hS8 ?_
              case hy9 => (intro w hSw; (try dsimp only at hSw); go_simp; try with_reducible rfl)
              try simp only [Act.put, List.setIfInBounds_toArray, List.set_cons_zero, List.set_cons_succ]
              refine wpAnyH_take (i := 9) (oi := { dst := some 6, op := Op.assign (Operand.tmp 74), type := 4, pos := "law.go:63", after := #[{ on := 8, ground := Ground.data }, { on := 7, ground := Ground.chain }, { on := 0, ground := Ground.phase }, { on := 1, ground := Ground.phase }, { on := 2, ground := Ground.phase }, { on := 3, ground := Ground.phase }, { on := 4, ground := Ground.phase }, { on := 5, ground := Ground.phase }, { on := 6, ground := Ground.phase }, { on := 7, ground := Ground.phase }, { on := 8, ground := Ground.phase }], guard := none }) (v := ?_) rfl (by kernel_rfl) (by kernel_rfl) (by kernel_rfl) (fun _ _ _ h => h) (Or.inl ⟨by rfl, ?hy10⟩) hS8 ?_
              case hy10 => (intro w hSw; (try dsimp only at hSw); go_simp; try with_reducible rfl)
              try simp only [Act.put, List.setIfInBounds_toArray, List.set_cons_zero, List.set_cons_succ]
              refine wpAnyH_done (by kernel_rfl) ?_ _
              go_wp2_with fail
              go_ret
              exact ⟨by simp, A4.from (TT.out.trans (Ta.trans TV2))⟩
            exact AllReadyH.nil
          exact AllReadyH.nil
        exact AllReadyH.nil
      exact AllReadyH.nil
    refine AllReadyH.cons (o := { dst := some 10, op := Op.alloc 51, type := 0, pos := "law.go:62", after := #[], guard := none }) rfl (fun K hK => ?_) ?_
    · rw [if_pos (by rfl)]; refine wp_alloc51 rfl ?_
      refine hK.out _ _ ?hs10 (fun hS10 => ?_)
      case hs10 => ((try dsimp only); first | with_reducible exact KSV.out _ T0 | with_reducible exact KSV.out _ TA | with_reducible exact KSV.out _ TB | exact KSV.out _ T0 | exact KSV.out _ TA | exact KSV.out _ TB)
      clear hK K hS0
      refine wpAnyH_ready (rs := [2]) (by kernel_rfl) (by simp) ?_
      refine AllReadyH.cons (o := { dst := some 61, op := Op.call { callee := Callee.value (Operand.func 20), args := #[Operand.tmp 60, Operand.const (Value.int IntKind.i64 5)], argTypes := #[3, 3] }, type := 3, pos := "law.go:62", after := #[{ on := 1, ground := Ground.data }], guard := none }) rfl (fun K hK => ?_) ?_
      · go_simp; with_reducible refine (An.out _).mono ?_; rintro en Wr ⟨rfl, rfl⟩; go_simp
        refine hK.out _ _ ?hs11 (fun hS11 => ?_)
        case hs11 => ((try dsimp only); first | with_reducible exact KSV.out _ T0 | with_reducible exact KSV.out _ TA | with_reducible exact KSV.out _ TB | exact KSV.out _ T0 | exact KSV.out _ TA | exact KSV.out _ TB)
        clear hK K hS10
        refine wpAnyH_take (i := 3) (oi := { dst := some 62, op := Op.binOp BinOp.add 3 (Operand.const (Value.int IntKind.i64 1)) (Operand.tmp 61) 3, type := 3, pos := "law.go:62", after := #[{ on := 2, ground := Ground.data }], guard := none }) (v := ?_) rfl (by kernel_rfl) (by kernel_rfl) (by kernel_rfl) (fun _ _ _ h => h) (Or.inl ⟨by rfl, ?hy12⟩) hS11 ?_
        case hy12 => (intro w hSw; (try dsimp only at hSw); go_simp; try with_reducible rfl)
        try simp only [Act.put, List.setIfInBounds_toArray, List.set_cons_zero, List.set_cons_succ]
        refine wpAnyH_take (i := 6) (oi := { dst := some 65, op := Op.build 51 #[(0, Operand.tmp 62), (2, Operand.tmp 64)], type := 51, pos := "law.go:62", after := #[{ on := 3, ground := Ground.data }, { on := 5, ground := Ground.data }], guard := none }) (v := ?_) rfl (by kernel_rfl) (by kernel_rfl) (by kernel_rfl) (fun _ _ _ h => h) (Or.inl ⟨by rfl, ?hy13⟩) hS11 ?_
        case hy13 => (intro w hSw; (try dsimp only at hSw); go_simp; try with_reducible rfl)
        try simp only [Act.put, List.setIfInBounds_toArray, List.set_cons_zero, List.set_cons_succ]
        refine wpAnyH_ready (rs := [8]) (by kernel_rfl) (by simp) ?_
        refine AllReadyH.cons (o := { dst := none, op := Op.store 51 (Operand.tmp 10) (Operand.tmp 65), type := 0, pos := "law.go:62", after := #[{ on := 7, ground := Ground.data }, { on := 6, ground := Ground.data }, { on := 2, ground := Ground.chain }, { on := 0, ground := Ground.phase }, { on := 1, ground := Ground.phase }, { on := 2, ground := Ground.phase }, { on := 3, ground := Ground.phase }, { on := 4, ground := Ground.phase }, { on := 5, ground := Ground.phase }, { on := 6, ground := Ground.phase }, { on := 7, ground := Ground.phase }], guard := none }) rfl (fun K hK => ?_) ?_
        · rw [if_pos (by rfl)]; refine wp_store_mid 51 _ _ rfl b10 0 (cmdL (1 + qn, n)).toArray rfl rfl (by rw [List.size_toArray, (cmdL_is _).len]; exact TH.out) (by rw [List.size_toArray, (cmdL_is _).len]; exact size51) (cmdL_is _).one ?_
          refine hK.out _ _ ?hs14 (fun hS14 => ?_)
          case hs14 => ((try dsimp only); first | with_reducible exact KSV.out _ T0 | with_reducible exact KSV.out _ TA | with_reducible exact KSV.out _ TB | exact KSV.out _ T0 | exact KSV.out _ TA | exact KSV.out _ TB)
          clear hK K hS11
          refine wpAnyH_done (by kernel_rfl) ?_ _
          go_upto_region 11 with fail
          obtain ⟨p, hp⟩ : ∃ p, p = (1 + qn, n) := ⟨_, rfl⟩
          rw [← hp] at RBB BB TB ⊢
          clear hp
          generalize VA.setCells b10 0 (cmdL p) = V2 at *
          have TV2 : Turn (fun _ => False) V V2.drew := ((Turn.refl (fun _ => False) V).drewN 1).trans (TB.trans ((Turn.refl (fun _ => False) V2).drewN 1))
          have TK := Lib.hid ((HH.out.keep (show Turn (fun _ => False) W V2.drew from Ta.trans TV2)).fill L7.out p 2 (tailOf a n s.tail))
          have K11 := Lib.hid (show ∀ W', Turn (TS B c.sh R.base V2.drew) V2.drew W' → W'.rangeAt b10 0 (cmdL p) from fun W' T => range_turn (show V2.drew.rangeAt b10 0 (cmdL p) from RBB) T ((HH.out.keep (show Turn (fun _ => False) W V2.drew from Ta.trans TV2)).off (show Blk V2.drew b10 51 from BB) (by decide) (by decide)))
          have U0 : Turn (TS B c.sh R.base V2.drew) V2.drew V2.drew := Turn.refl _ _
          clear RA BA TA TB TH RBB BB wp_alloc51
          refine wp_region_held_drew (S := (fun w' => w'.rangeAt b10 0 (cmdL p))) (by kernel_rfl) ?hs0 (fun hS0 => ?_)
          case hs0 => ((try dsimp only); first | with_reducible exact K11.out _ U0 | with_reducible exact K11.out _ T3 | with_reducible exact K11.out _ T4 | exact K11.out _ U0 | exact K11.out _ T3 | exact K11.out _ T4)
          refine wpAnyH_take (i := 0) (oi := { dst := some 66, op := Op.move (Operand.tmp 0), type := 25, pos := "law.go:63", after := #[], guard := none }) (v := ?_) rfl (by kernel_rfl) (by kernel_rfl) (by kernel_rfl) (fun _ _ _ h => h) (Or.inl ⟨by rfl, ?hy1⟩) hS0 ?_
          case hy1 => (intro w hSw; (try dsimp only at hSw); go_simp; try with_reducible rfl)
          try simp only [Act.put, List.setIfInBounds_toArray, List.set_cons_zero, List.set_cons_succ]
          refine wpAnyH_take (i := 1) (oi := { dst := some 67, op := Op.move (Operand.tmp 9), type := 3, pos := "law.go:63", after := #[], guard := none }) (v := ?_) rfl (by kernel_rfl) (by kernel_rfl) (by kernel_rfl) (fun _ _ _ h => h) (Or.inl ⟨by rfl, ?hy2⟩) hS0 ?_
          case hy2 => (intro w hSw; (try dsimp only at hSw); go_simp; try with_reducible rfl)
          try simp only [Act.put, List.setIfInBounds_toArray, List.set_cons_zero, List.set_cons_succ]
          refine wpAnyH_take (i := 4) (oi := { dst := some 70, op := Op.move (Operand.tmp 1), type := 30, pos := "law.go:63", after := #[], guard := none }) (v := ?_) rfl (by kernel_rfl) (by kernel_rfl) (by kernel_rfl) (fun _ _ _ h => h) (Or.inl ⟨by rfl, ?hy3⟩) hS0 ?_
          case hy3 => (intro w hSw; (try dsimp only at hSw); go_simp; try with_reducible rfl)
          try simp only [Act.put, List.setIfInBounds_toArray, List.set_cons_zero, List.set_cons_succ]
          refine wpAnyH_take (i := 5) (oi := { dst := some 71, op := Op.move (Operand.tmp 9), type := 3, pos := "law.go:63", after := #[], guard := none }) (v := ?_) rfl (by kernel_rfl) (by kernel_rfl) (by kernel_rfl) (fun _ _ _ h => h) (Or.inl ⟨by rfl, ?hy4⟩) hS0 ?_
          case hy4 => (intro w hSw; (try dsimp only at hSw); go_simp; try with_reducible rfl)
          try simp only [Act.put, List.setIfInBounds_toArray, List.set_cons_zero, List.set_cons_succ]
          refine wpAnyH_take (i := 2) (oi := { dst := some 68, op := Op.load 51 (Operand.tmp 10), type := 51, pos := "law.go:63", after := #[], guard := none }) (v := .agg (cmdL p).toArray) rfl (by kernel_rfl) (by kernel_rfl) (by kernel_rfl) (fun _ _ _ h => h) (yieldsIf_load_mid (by rfl) 51 _ rfl b10 0 rfl (cmdL p) _ (fun _ h => h) Try.underlying51 rfl (by rw [(cmdL_is _).len]; exact size51)) hS0 ?_
          try simp only [Act.put, List.setIfInBounds_toArray, List.set_cons_zero, List.set_cons_succ]
          refine wpAnyH_take (i := 6) (oi := { dst := some 72, op := Op.load 51 (Operand.tmp 10), type := 51, pos := "law.go:63", after := #[], guard := none }) (v := .agg (cmdL p).toArray) rfl (by kernel_rfl) (by kernel_rfl) (by kernel_rfl) (fun _ _ _ h => h) (yieldsIf_load_mid (by rfl) 51 _ rfl b10 0 rfl (cmdL p) _ (fun _ h => h) Try.underlying51 rfl (by rw [(cmdL_is _).len]; exact size51)) hS0 ?_
          try simp only [Act.put, List.setIfInBounds_toArray, List.set_cons_zero, List.set_cons_succ]
          refine wpAnyH_ready (rs := [3]) (by kernel_rfl) (by simp) ?_
          refine AllReadyH.cons (o := { dst := some 69, op := Op.call { callee := Callee.value (Operand.func 23), args := #[Operand.tmp 66, Operand.tmp 67, Operand.tmp 68], argTypes := #[25, 3, 51] }, type := 4, pos := "law.go:63", after := #[{ on := 0, ground := Ground.data }, { on := 1, ground := Ground.data }, { on := 2, ground := Ground.data }], guard := none }) rfl (fun K hK => ?_) ?_
          · go_simp; with_reducible refine TK.out.mono ?_; rintro en W3 ⟨r, rfl, T3, NX⟩; have NX := Lib.hid NX; go_simp
            refine hK.out _ _ ?hs7 (fun hS7 => ?_)
            case hs7 => ((try dsimp only); first | with_reducible exact K11.out _ U0 | with_reducible exact K11.out _ T3 | with_reducible exact K11.out _ T4 | exact K11.out _ U0 | exact K11.out _ T3 | exact K11.out _ T4)
            clear hK K hS0
            refine wpAnyH_ready (rs := [7]) (by kernel_rfl) (by simp) ?_
            refine AllReadyH.cons (o := { dst := some 73, op := Op.call { callee := Callee.value (Operand.func 40), args := #[Operand.tmp 70, Operand.tmp 71, Operand.tmp 72], argTypes := #[30, 3, 51] }, type := 4, pos := "law.go:63", after := #[{ on := 4, ground := Ground.data }, { on := 5, ground := Ground.data }, { on := 6, ground := Ground.data }, { on := 3, ground := Ground.chain }], guard := none }) rfl (fun K hK => ?_) ?_
            · go_simp; with_reducible refine (NX.out _ (Turn.refl _ _)).mono ?_; rintro en W4 ⟨rfl, A4⟩; have T4 := A4.turn; go_simp
              refine hK.out _ _ ?hs8 (fun hS8 => ?_)
              case hs8 => ((try dsimp only); first | with_reducible exact K11.out _ U0 | with_reducible exact K11.out _ T3 | with_reducible exact K11.out _ T4 | exact K11.out _ U0 | exact K11.out _ T3 | exact K11.out _ T4)
              clear hK K hS7
              refine wpAnyH_take (i := 8) (oi := { dst := some 74, op := Op.binOp BinOp.eql 4 (Operand.tmp 69) (Operand.tmp 73) 4, type := 4, pos := "law.go:63", after := #[{ on := 3, ground := Ground.data }, { on := 7, ground := Ground.data }], guard := none }) (v := ?_) rfl (by kernel_rfl) (by kernel_rfl) (by kernel_rfl) (fun _ _ _ h => h) (Or.inl ⟨by rfl, ?hy9⟩) hS8 ?_
              case hy9 => (intro w hSw; (try dsimp only at hSw); go_simp; try with_reducible rfl)
              try simp only [Act.put, List.setIfInBounds_toArray, List.set_cons_zero, List.set_cons_succ]
              refine wpAnyH_take (i := 9) (oi := { dst := some 6, op := Op.assign (Operand.tmp 74), type := 4, pos := "law.go:63", after := #[{ on := 8, ground := Ground.data }, { on := 7, ground := Ground.chain }, { on := 0, ground := Ground.phase }, { on := 1, ground := Ground.phase }, { on := 2, ground := Ground.phase }, { on := 3, ground := Ground.phase }, { on := 4, ground := Ground.phase }, { on := 5, ground := Ground.phase }, { on := 6, ground := Ground.phase }, { on := 7, ground := Ground.phase }, { on := 8, ground := Ground.phase }], guard := none }) (v := ?_) rfl (by kernel_rfl) (by kernel_rfl) (by kernel_rfl) (fun _ _ _ h => h) (Or.inl ⟨by rfl, ?hy10⟩) hS8 ?_
              case hy10 => (intro w hSw; (try dsimp only at hSw); go_simp; try with_reducible rfl)
              try simp only [Act.put, List.setIfInBounds_toArray, List.set_cons_zero, List.set_cons_succ]
              refine wpAnyH_done (by kernel_rfl) ?_ _
              go_wp2_with fail
              go_ret
              exact ⟨by simp, A4.from (TT.out.trans (Ta.trans TV2))⟩
            exact AllReadyH.nil
          exact AllReadyH.nil
        exact AllReadyH.nil
      exact AllReadyH.nil
    exact AllReadyH.nil
  exact AllReadyH.nil
set_option maxRecDepth 100000 in
set_option maxHeartbeats 8000000 in
theorem Two.does3 (h : Two w B R c s) {k a n : Int} (hk : restN k 10 = 3) :
    Calls Try.prog 13 #[.pointer (some ⟨B.l, 0, none⟩), .pointer (some ⟨R.r, 0, none⟩), .agg #[.int .i64 k, .int .i64 a, .int .i64 n]] w fun e w' => e = .returned (.bool true) ∧ Aft w B R c (Stp c s 3 (tailOf a n s.tail)) w' := by
  obtain ⟨W, hW⟩ : ∃ W, W = w.alloc (.cells #[.int .i64 k, .int .i64 a, .int .i64 n] 34) := ⟨_, rfl⟩
  have TW : Turn (fun _ => False) w W := by rw [hW]; exact (Turn.refl _ w).alloc _
  have Bk : Blk W w.heap.size 34 := by rw [hW]; exact Blk.new w [.int .i64 k, .int .i64 a, .int .i64 n] 34
  have C : W.rangeAt w.heap.size 0 [.int .i64 k, .int .i64 a, .int .i64 n] := by rw [hW]; exact range_new w [.int .i64 k, .int .i64 a, .int .i64 n] 34
  have hh := h.keep TW
  have x0 : W.cell? ⟨w.heap.size, 0, none⟩ = some (.int .i64 k) := C 0 _ rfl
  have x1 : W.cell? ⟨w.heap.size, 1, none⟩ = some (.int .i64 a) := C 1 _ rfl
  have x2 : W.cell? ⟨w.heap.size, 2, none⟩ = some (.int .i64 n) := C 2 _ rfl
  have noff := hh.off Bk (by decide) (by decide)
  have KS := Lib.hid (show ∀ W', Turn (TS B c.sh R.base W) W W' → W'.cell? ⟨w.heap.size, 0, none⟩ = some (.int .i64 k) ∧ W'.cell? ⟨w.heap.size, 1, none⟩ = some (.int .i64 a) ∧ W'.cell? ⟨w.heap.size, 2, none⟩ = some (.int .i64 n) from fun W' T => ⟨T.cell noff x0, T.cell noff x1, T.cell noff x2⟩)
  obtain ⟨q5, hq5⟩ : ∃ q : Int, (restN a 5 : Int) = q := ⟨_, rfl⟩
  have A5 := Lib.hid (show ∀ w, Calls Try.prog 20 #[.int .i64 a, .int .i64 5] w fun e w' => e = .returned (.int .i64 q5) ∧ w = w' from fun w => by rw [← hq5]; exact rest_is w a (n := 5) (by decide) (by decide))
  have A10 := Lib.hid (show ∀ w, Calls Try.prog 20 #[.int .i64 k, .int .i64 10] w fun e w' => e = .returned (.int .i64 3) ∧ w = w' from fun w => by have := rest_is w k (n := 10) (by decide) (by decide); rw [hk] at this; exact this)
  have l5 := restN_lt a (n := 5) (by decide)
  have e5 : wrap64 (q5 - 1) = q5 - 1 := by unfold wrap64; omega
  have HH := Lib.hid hh
  have TT := Lib.hid TW
  have ht := h.tail
  have hlt := h.I.lt
  have y9 := hh.D.k9
  have KS9 := Lib.hid (show ∀ W', Turn (fun _ => False) W W' → W'.cell? ⟨w.heap.size, 0, none⟩ = some (.int .i64 k) ∧ W'.cell? ⟨w.heap.size, 1, none⟩ = some (.int .i64 a) ∧ W'.cell? ⟨w.heap.size, 2, none⟩ = some (.int .i64 n) ∧ W'.cell? ⟨R.r, 9, none⟩ = some (.int .i64 (s.low : Int)) from fun W' T => ⟨T.cell (fun f => f) x0, T.cell (fun f => f) x1, T.cell (fun f => f) x2, T.cell (fun f => f) y9⟩)
  obtain ⟨q7, hq7⟩ : ∃ q : Int, (restN a 7 : Int) = q := ⟨_, rfl⟩
  have A7 := Lib.hid (show ∀ w, Calls Try.prog 20 #[.int .i64 a, .int .i64 7] w fun e w' => e = .returned (.int .i64 q7) ∧ w = w' from fun w => by rw [← hq7]; exact rest_is w a (n := 7) (by decide) (by decide))
  have l7 := restN_lt a (n := 7) (by decide)
  have e7a : wrap64 ((s.low : Int) + q7) = (s.low : Int) + q7 := by unfold wrap64; omega
  have e7b : wrap64 ((s.low : Int) + q7 - 1) = (s.low : Int) + q7 - 1 := by unfold wrap64; omega
  have e7c : IntKind.i64.wrap ((s.low : Int) + q7) = (s.low : Int) + q7 := by rw [IntKind.wrap_i64]; omega
  have e7d : IntKind.i64.wrap ((s.low : Int) + q7 - 1) = (s.low : Int) + q7 - 1 := by rw [IntKind.wrap_i64]; omega
  have L7 := Lib.hid (show (-1000 : Int) ≤ (s.low : Int) + q7 - 1 by omega)
  obtain ⟨qn, hqn⟩ : ∃ q : Int, (restN n 5 : Int) = q := ⟨_, rfl⟩
  have An := Lib.hid (show ∀ w, Calls Try.prog 20 #[.int .i64 n, .int .i64 5] w fun e w' => e = .returned (.int .i64 qn) ∧ w = w' from fun w => by rw [← hqn]; exact rest_is w n (n := 5) (by decide) (by decide))
  have ln := restN_lt n (n := 5) (by decide)
  have en5 : wrap64 (1 + qn) = 1 + qn := by unfold wrap64; omega
  have en6 : IntKind.i64.wrap (1 + qn) = 1 + qn := by rw [IntKind.wrap_i64]; omega
  clear hq7 hqn l7 ln ht hlt
  clear Bk C noff hq5 l5 hk hh h TW
  go_enter Try.func13, Try.ntmps13
  go_upto_region 1 with fail
  rw [← hW]
  clear hW
  generalize w.heap.size = b at *
  go_wp2_with fail
  with_reducible refine (A5.out _).mono ?_
  rintro e w1 ⟨rfl, rfl⟩
  go_wp2_with fail
  with_reducible refine (A10.out _).mono ?_
  rintro e w1 ⟨rfl, rfl⟩
  have Ta : Turn (fun _ => False) W W.drew := (Turn.refl _ W).drewN 1
  go_upto_region 9 with fail
  refine wp_region_held_drew (S := (fun w' => w'.cell? ⟨b, 0, none⟩ = some (.int .i64 k) ∧ w'.cell? ⟨b, 1, none⟩ = some (.int .i64 a) ∧ w'.cell? ⟨b, 2, none⟩ = some (.int .i64 n) ∧ w'.cell? ⟨R.r, 9, none⟩ = some (.int .i64 (s.low : Int)))) (by kernel_rfl) ?hs0 (fun hS0 => ?_)
  case hs0 => ((try dsimp only); first | with_reducible exact KS9.out _ Ta | exact KS9.out _ Ta)
  refine wpAnyH_take (i := 0) (oi := { dst := some 50, op := Op.move (Operand.tmp 1), type := 30, pos := "law.go:61", after := #[], guard := none }) (v := ?_) rfl (by kernel_rfl) (by kernel_rfl) (by kernel_rfl) (fun _ _ _ h => h) (Or.inl ⟨by rfl, ?hy1⟩) hS0 ?_
  case hy1 => (intro w hSw; (try dsimp only at hSw); go_simp; try with_reducible rfl)
  try simp only [Act.put, List.setIfInBounds_toArray, List.set_cons_zero, List.set_cons_succ]
  refine wpAnyH_take (i := 1) (oi := { dst := some 51, op := Op.nilCheck (Operand.tmp 50), type := 0, pos := "law.go:61", after := #[{ on := 0, ground := Ground.data }], guard := none }) (v := ?_) rfl (by kernel_rfl) (by kernel_rfl) (by kernel_rfl) (fun _ _ _ h => h) (Or.inl ⟨by rfl, ?hy2⟩) hS0 ?_
  case hy2 => (intro w hSw; (try dsimp only at hSw); go_simp; try with_reducible rfl)
  try simp only [Act.put, List.setIfInBounds_toArray, List.set_cons_zero, List.set_cons_succ]
  refine wpAnyH_take (i := 2) (oi := { dst := some 52, op := Op.fieldAddr 101 (Operand.tmp 51) 3, type := 0, pos := "law.go:61", after := #[{ on := 1, ground := Ground.data }], guard := none }) (v := ?_) rfl (by kernel_rfl) (by kernel_rfl) (by kernel_rfl) (fun _ _ _ h => h) (Or.inl ⟨by rfl, ?hy3⟩) hS0 ?_
  case hy3 => (intro w hSw; (try dsimp only at hSw); go_simp; try with_reducible rfl)
  try simp only [Act.put, List.setIfInBounds_toArray, List.set_cons_zero, List.set_cons_succ]
  refine wpAnyH_take (i := 3) (oi := { dst := some 53, op := Op.load 3 (Operand.tmp 52), type := 3, pos := "law.go:61", after := #[{ on := 2, ground := Ground.data }], guard := none }) (v := ?_) rfl (by kernel_rfl) (by kernel_rfl) (by kernel_rfl) (fun _ _ _ h => h) (Or.inl ⟨by rfl, ?hy4⟩) hS0 ?_
  case hy4 => (intro w hSw; (try dsimp only at hSw); go_simp; try with_reducible rfl)
  try simp only [Act.put, List.setIfInBounds_toArray, List.set_cons_zero, List.set_cons_succ]
  refine wpAnyH_take (i := 4) (oi := { dst := some 54, op := Op.fieldAddr 34 (Operand.tmp 5) 1, type := 0, pos := "law.go:61", after := #[], guard := none }) (v := ?_) rfl (by kernel_rfl) (by kernel_rfl) (by kernel_rfl) (fun _ _ _ h => h) (Or.inl ⟨by rfl, ?hy5⟩) hS0 ?_
  case hy5 => (intro w hSw; (try dsimp only at hSw); go_simp; try with_reducible rfl)
  try simp only [Act.put, List.setIfInBounds_toArray, List.set_cons_zero, List.set_cons_succ]
  refine wpAnyH_take (i := 5) (oi := { dst := some 55, op := Op.load 3 (Operand.tmp 54), type := 3, pos := "law.go:61", after := #[{ on := 4, ground := Ground.data }], guard := none }) (v := ?_) rfl (by kernel_rfl) (by kernel_rfl) (by kernel_rfl) (fun _ _ _ h => h) (Or.inl ⟨by rfl, ?hy6⟩) hS0 ?_
  case hy6 => (intro w hSw; (try dsimp only at hSw); go_simp; try with_reducible rfl)
  try simp only [Act.put, List.setIfInBounds_toArray, List.set_cons_zero, List.set_cons_succ]
  refine wpAnyH_ready (rs := [6]) (by kernel_rfl) (by simp) ?_
  refine AllReadyH.cons (o := { dst := some 56, op := Op.call { callee := Callee.value (Operand.func 20), args := #[Operand.tmp 55, Operand.const (Value.int IntKind.i64 7)], argTypes := #[3, 3] }, type := 3, pos := "law.go:61", after := #[{ on := 5, ground := Ground.data }], guard := none }) rfl (fun K hK => ?_) ?_
  · go_simp; with_reducible refine (A7.out _).mono ?_; rintro en Wr ⟨rfl, rfl⟩; go_simp
    refine hK.out _ _ ?hs7 (fun hS7 => ?_)
    case hs7 => ((try dsimp only); first | with_reducible exact KS9.out _ Ta | exact KS9.out _ Ta)
    clear hK K hS0
    refine wpAnyH_take (i := 7) (oi := { dst := some 57, op := Op.binOp BinOp.add 3 (Operand.tmp 53) (Operand.tmp 56) 3, type := 3, pos := "law.go:61", after := #[{ on := 3, ground := Ground.data }, { on := 6, ground := Ground.data }], guard := none }) (v := ?_) rfl (by kernel_rfl) (by kernel_rfl) (by kernel_rfl) (fun _ _ _ h => h) (Or.inl ⟨by rfl, ?hy8⟩) hS7 ?_
    case hy8 => (intro w hSw; (try dsimp only at hSw); go_simp; try with_reducible rfl)
    try simp only [Act.put, List.setIfInBounds_toArray, List.set_cons_zero, List.set_cons_succ]
    refine wpAnyH_take (i := 8) (oi := { dst := some 58, op := Op.binOp BinOp.sub 3 (Operand.tmp 57) (Operand.const (Value.int IntKind.i64 1)) 3, type := 3, pos := "law.go:61", after := #[{ on := 7, ground := Ground.data }], guard := none }) (v := ?_) rfl (by kernel_rfl) (by kernel_rfl) (by kernel_rfl) (fun _ _ _ h => h) (Or.inl ⟨by rfl, ?hy9⟩) hS7 ?_
    case hy9 => (intro w hSw; (try dsimp only at hSw); go_simp; try with_reducible rfl)
    try simp only [Act.put, List.setIfInBounds_toArray, List.set_cons_zero, List.set_cons_succ]
    refine wpAnyH_take (i := 9) (oi := { dst := some 9, op := Op.assign (Operand.tmp 58), type := 3, pos := "law.go:61", after := #[{ on := 8, ground := Ground.data }, { on := 6, ground := Ground.chain }, { on := 0, ground := Ground.phase }, { on := 1, ground := Ground.phase }, { on := 2, ground := Ground.phase }, { on := 3, ground := Ground.phase }, { on := 4, ground := Ground.phase }, { on := 5, ground := Ground.phase }, { on := 6, ground := Ground.phase }, { on := 7, ground := Ground.phase }, { on := 8, ground := Ground.phase }], guard := none }) (v := ?_) rfl (by kernel_rfl) (by kernel_rfl) (by kernel_rfl) (fun _ _ _ h => h) (Or.inl ⟨by rfl, ?hy10⟩) hS7 ?_
    case hy10 => (intro w hSw; (try dsimp only at hSw); go_simp; try with_reducible rfl)
    try simp only [Act.put, List.setIfInBounds_toArray, List.set_cons_zero, List.set_cons_succ]
    refine wpAnyH_done (by kernel_rfl) ?_ _
    generalize W.drew = V at *
    go_upto_region 10 with fail
    have KSV := Lib.hid (fun W' (T : Turn (fun _ => False) V.drew W') => KS.out W' (TS.no (Ta.trans (((Turn.refl (fun _ => False) V).drewN 1).trans T))))
    have T0 : Turn (fun _ => False) V.drew V.drew := Turn.refl _ _
    obtain ⟨VA, hVA⟩ : ∃ VA, VA = V.drew.alloc (.cells zc.toArray 51) := ⟨_, rfl⟩
    have TA : Turn (fun _ => False) V.drew VA := by rw [hVA]; exact T0.alloc _
    obtain ⟨b10, hb10⟩ : ∃ q, V.heap.size = q := ⟨_, rfl⟩
    have RA : VA.rangeAt b10 0 zc := by rw [hVA, ← hb10]; exact range_new V.drew zc 51
    have BA : Blk VA b10 51 := by rw [hVA, ← hb10]; exact Blk.new V.drew zc 51
    have TH := Lib.hid (show VA.there b10 0 14 from range_there RA rfl BA)
    have TB : Turn (fun _ => False) V.drew (VA.setCells b10 0 (cmdL (1 + qn, n))) := TA.comp (Turn.setCells _ 0 (show Turn (fun q => q = b10) _ _ from Turn.refl _ _) (.inl rfl)) (fun j hj e => by have : V.drew.heap.size = b10 := hb10; omega)
    have RBB : (VA.setCells b10 0 (cmdL (1 + qn, n))).rangeAt b10 0 (cmdL (1 + qn, n)) := World.rangeAt_setCells_same _ _ _ _ (by rw [(cmdL_is _).len]; exact TH.out)
    have BB : Blk (VA.setCells b10 0 (cmdL (1 + qn, n))) b10 51 := BA.setCells _ _
    have wp_alloc51 : ∀ {op : Oper} {ac : Act} {K : Act → World → Prop} {Q : Exit → Act → World → Prop}, op.op = .alloc 51 → K (ac.put op.dst (.pointer (some ⟨b10, 0, none⟩))) VA → op.wp Try.prog ac V.drew K Q := fun ho hk => wp_alloc51' ho (by rw [show V.drew.heap.size = b10 from hb10, ← hVA]; exact hk)
    clear x0 x1 x2 y9 KS9 hb10 hVA
    refine wp_region_held_drew (S := (fun w' => w'.cell? ⟨b, 0, none⟩ = some (.int .i64 k) ∧ w'.cell? ⟨b, 1, none⟩ = some (.int .i64 a) ∧ w'.cell? ⟨b, 2, none⟩ = some (.int .i64 n))) (by kernel_rfl) ?hs0 (fun hS0 => ?_)
    case hs0 => ((try dsimp only); first | with_reducible exact KSV.out _ T0 | with_reducible exact KSV.out _ TA | with_reducible exact KSV.out _ TB | exact KSV.out _ T0 | exact KSV.out _ TA | exact KSV.out _ TB)
    refine wpAnyH_take (i := 0) (oi := { dst := some 59, op := Op.fieldAddr 34 (Operand.tmp 5) 2, type := 0, pos := "law.go:62", after := #[], guard := none }) (v := ?_) rfl (by kernel_rfl) (by kernel_rfl) (by kernel_rfl) (fun _ _ _ h => h) (Or.inl ⟨by rfl, ?hy1⟩) hS0 ?_
    case hy1 => (intro w hSw; (try dsimp only at hSw); go_simp; try with_reducible rfl)
    try simp only [Act.put, List.setIfInBounds_toArray, List.set_cons_zero, List.set_cons_succ]
    refine wpAnyH_take (i := 1) (oi := { dst := some 60, op := Op.load 3 (Operand.tmp 59), type := 3, pos := "law.go:62", after := #[{ on := 0, ground := Ground.data }], guard := none }) (v := ?_) rfl (by kernel_rfl) (by kernel_rfl) (by kernel_rfl) (fun _ _ _ h => h) (Or.inl ⟨by rfl, ?hy2⟩) hS0 ?_
    case hy2 => (intro w hSw; (try dsimp only at hSw); go_simp; try with_reducible rfl)
    try simp only [Act.put, List.setIfInBounds_toArray, List.set_cons_zero, List.set_cons_succ]
    refine wpAnyH_take (i := 4) (oi := { dst := some 63, op := Op.fieldAddr 34 (Operand.tmp 5) 2, type := 0, pos := "law.go:62", after := #[], guard := none }) (v := ?_) rfl (by kernel_rfl) (by kernel_rfl) (by kernel_rfl) (fun _ _ _ h => h) (Or.inl ⟨by rfl, ?hy3⟩) hS0 ?_
    case hy3 => (intro w hSw; (try dsimp only at hSw); go_simp; try with_reducible rfl)
    try simp only [Act.put, List.setIfInBounds_toArray, List.set_cons_zero, List.set_cons_succ]
    refine wpAnyH_take (i := 5) (oi := { dst := some 64, op := Op.load 3 (Operand.tmp 63), type := 3, pos := "law.go:62", after := #[{ on := 4, ground := Ground.data }], guard := none }) (v := ?_) rfl (by kernel_rfl) (by kernel_rfl) (by kernel_rfl) (fun _ _ _ h => h) (Or.inl ⟨by rfl, ?hy4⟩) hS0 ?_
    case hy4 => (intro w hSw; (try dsimp only at hSw); go_simp; try with_reducible rfl)
    try simp only [Act.put, List.setIfInBounds_toArray, List.set_cons_zero, List.set_cons_succ]
    refine wpAnyH_ready (rs := [2, 7]) (by kernel_rfl) (by simp) ?_
    refine AllReadyH.cons (o := { dst := some 61, op := Op.call { callee := Callee.value (Operand.func 20), args := #[Operand.tmp 60, Operand.const (Value.int IntKind.i64 5)], argTypes := #[3, 3] }, type := 3, pos := "law.go:62", after := #[{ on := 1, ground := Ground.data }], guard := none }) rfl (fun K hK => ?_) ?_
    · go_simp; with_reducible refine (An.out _).mono ?_; rintro en Wr ⟨rfl, rfl⟩; go_simp
      refine hK.out _ _ ?hs5 (fun hS5 => ?_)
      case hs5 => ((try dsimp only); first | with_reducible exact KSV.out _ T0 | with_reducible exact KSV.out _ TA | with_reducible exact KSV.out _ TB | exact KSV.out _ T0 | exact KSV.out _ TA | exact KSV.out _ TB)
      clear hK K hS0
      refine wpAnyH_take (i := 3) (oi := { dst := some 62, op := Op.binOp BinOp.add 3 (Operand.const (Value.int IntKind.i64 1)) (Operand.tmp 61) 3, type := 3, pos := "law.go:62", after := #[{ on := 2, ground := Ground.data }], guard := none }) (v := ?_) rfl (by kernel_rfl) (by kernel_rfl) (by kernel_rfl) (fun _ _ _ h => h) (Or.inl ⟨by rfl, ?hy6⟩) hS5 ?_
      case hy6 => (intro w hSw; (try dsimp only at hSw); go_simp; try with_reducible rfl)
      try simp only [Act.put, List.setIfInBounds_toArray, List.set_cons_zero, List.set_cons_succ]
      refine wpAnyH_take (i := 6) (oi := { dst := some 65, op := Op.build 51 #[(0, Operand.tmp 62), (2, Operand.tmp 64)], type := 51, pos := "law.go:62", after := #[{ on := 3, ground := Ground.data }, { on := 5, ground := Ground.data }], guard := none }) (v := ?_) rfl (by kernel_rfl) (by kernel_rfl) (by kernel_rfl) (fun _ _ _ h => h) (Or.inl ⟨by rfl, ?hy7⟩) hS5 ?_
      case hy7 => (intro w hSw; (try dsimp only at hSw); go_simp; try with_reducible rfl)
      try simp only [Act.put, List.setIfInBounds_toArray, List.set_cons_zero, List.set_cons_succ]
      refine wpAnyH_ready (rs := [7]) (by kernel_rfl) (by simp) ?_
      refine AllReadyH.cons (o := { dst := some 10, op := Op.alloc 51, type := 0, pos := "law.go:62", after := #[], guard := none }) rfl (fun K hK => ?_) ?_
      · rw [if_pos (by rfl)]; refine wp_alloc51 rfl ?_
        refine hK.out _ _ ?hs8 (fun hS8 => ?_)
        case hs8 => ((try dsimp only); first | with_reducible exact KSV.out _ T0 | with_reducible exact KSV.out _ TA | with_reducible exact KSV.out _ TB | exact KSV.out _ T0 | exact KSV.out _ TA | exact KSV.out _ TB)
        clear hK K hS5
        refine wpAnyH_ready (rs := [8]) (by kernel_rfl) (by simp) ?_
        refine AllReadyH.cons (o := { dst := none, op := Op.store 51 (Operand.tmp 10) (Operand.tmp 65), type := 0, pos := "law.go:62", after := #[{ on := 7, ground := Ground.data }, { on := 6, ground := Ground.data }, { on := 2, ground := Ground.chain }, { on := 0, ground := Ground.phase }, { on := 1, ground := Ground.phase }, { on := 2, ground := Ground.phase }, { on := 3, ground := Ground.phase }, { on := 4, ground := Ground.phase }, { on := 5, ground := Ground.phase }, { on := 6, ground := Ground.phase }, { on := 7, ground := Ground.phase }], guard := none }) rfl (fun K hK => ?_) ?_
        · rw [if_pos (by rfl)]; refine wp_store_mid 51 _ _ rfl b10 0 (cmdL (1 + qn, n)).toArray rfl rfl (by rw [List.size_toArray, (cmdL_is _).len]; exact TH.out) (by rw [List.size_toArray, (cmdL_is _).len]; exact size51) (cmdL_is _).one ?_
          refine hK.out _ _ ?hs9 (fun hS9 => ?_)
          case hs9 => ((try dsimp only); first | with_reducible exact KSV.out _ T0 | with_reducible exact KSV.out _ TA | with_reducible exact KSV.out _ TB | exact KSV.out _ T0 | exact KSV.out _ TA | exact KSV.out _ TB)
          clear hK K hS8
          refine wpAnyH_done (by kernel_rfl) ?_ _
          go_upto_region 11 with fail
          obtain ⟨p, hp⟩ : ∃ p, p = (1 + qn, n) := ⟨_, rfl⟩
          rw [← hp] at RBB BB TB ⊢
          clear hp
          generalize VA.setCells b10 0 (cmdL p) = V2 at *
          have TV2 : Turn (fun _ => False) V V2.drew := ((Turn.refl (fun _ => False) V).drewN 1).trans (TB.trans ((Turn.refl (fun _ => False) V2).drewN 1))
          have TK := Lib.hid ((HH.out.keep (show Turn (fun _ => False) W V2.drew from Ta.trans TV2)).fill L7.out p 3 (tailOf a n s.tail))
          have K11 := Lib.hid (show ∀ W', Turn (TS B c.sh R.base V2.drew) V2.drew W' → W'.rangeAt b10 0 (cmdL p) from fun W' T => range_turn (show V2.drew.rangeAt b10 0 (cmdL p) from RBB) T ((HH.out.keep (show Turn (fun _ => False) W V2.drew from Ta.trans TV2)).off (show Blk V2.drew b10 51 from BB) (by decide) (by decide)))
          have U0 : Turn (TS B c.sh R.base V2.drew) V2.drew V2.drew := Turn.refl _ _
          clear RA BA TA TB TH RBB BB wp_alloc51
          refine wp_region_held_drew (S := (fun w' => w'.rangeAt b10 0 (cmdL p))) (by kernel_rfl) ?hs0 (fun hS0 => ?_)
          case hs0 => ((try dsimp only); first | with_reducible exact K11.out _ U0 | with_reducible exact K11.out _ T3 | with_reducible exact K11.out _ T4 | exact K11.out _ U0 | exact K11.out _ T3 | exact K11.out _ T4)
          refine wpAnyH_take (i := 0) (oi := { dst := some 66, op := Op.move (Operand.tmp 0), type := 25, pos := "law.go:63", after := #[], guard := none }) (v := ?_) rfl (by kernel_rfl) (by kernel_rfl) (by kernel_rfl) (fun _ _ _ h => h) (Or.inl ⟨by rfl, ?hy1⟩) hS0 ?_
          case hy1 => (intro w hSw; (try dsimp only at hSw); go_simp; try with_reducible rfl)
          try simp only [Act.put, List.setIfInBounds_toArray, List.set_cons_zero, List.set_cons_succ]
          refine wpAnyH_take (i := 1) (oi := { dst := some 67, op := Op.move (Operand.tmp 9), type := 3, pos := "law.go:63", after := #[], guard := none }) (v := ?_) rfl (by kernel_rfl) (by kernel_rfl) (by kernel_rfl) (fun _ _ _ h => h) (Or.inl ⟨by rfl, ?hy2⟩) hS0 ?_
          case hy2 => (intro w hSw; (try dsimp only at hSw); go_simp; try with_reducible rfl)
          try simp only [Act.put, List.setIfInBounds_toArray, List.set_cons_zero, List.set_cons_succ]
          refine wpAnyH_take (i := 4) (oi := { dst := some 70, op := Op.move (Operand.tmp 1), type := 30, pos := "law.go:63", after := #[], guard := none }) (v := ?_) rfl (by kernel_rfl) (by kernel_rfl) (by kernel_rfl) (fun _ _ _ h => h) (Or.inl ⟨by rfl, ?hy3⟩) hS0 ?_
          case hy3 => (intro w hSw; (try dsimp only at hSw); go_simp; try with_reducible rfl)
          try simp only [Act.put, List.setIfInBounds_toArray, List.set_cons_zero, List.set_cons_succ]
          refine wpAnyH_take (i := 5) (oi := { dst := some 71, op := Op.move (Operand.tmp 9), type := 3, pos := "law.go:63", after := #[], guard := none }) (v := ?_) rfl (by kernel_rfl) (by kernel_rfl) (by kernel_rfl) (fun _ _ _ h => h) (Or.inl ⟨by rfl, ?hy4⟩) hS0 ?_
          case hy4 => (intro w hSw; (try dsimp only at hSw); go_simp; try with_reducible rfl)
          try simp only [Act.put, List.setIfInBounds_toArray, List.set_cons_zero, List.set_cons_succ]
          refine wpAnyH_take (i := 2) (oi := { dst := some 68, op := Op.load 51 (Operand.tmp 10), type := 51, pos := "law.go:63", after := #[], guard := none }) (v := .agg (cmdL p).toArray) rfl (by kernel_rfl) (by kernel_rfl) (by kernel_rfl) (fun _ _ _ h => h) (yieldsIf_load_mid (by rfl) 51 _ rfl b10 0 rfl (cmdL p) _ (fun _ h => h) Try.underlying51 rfl (by rw [(cmdL_is _).len]; exact size51)) hS0 ?_
          try simp only [Act.put, List.setIfInBounds_toArray, List.set_cons_zero, List.set_cons_succ]
          refine wpAnyH_take (i := 6) (oi := { dst := some 72, op := Op.load 51 (Operand.tmp 10), type := 51, pos := "law.go:63", after := #[], guard := none }) (v := .agg (cmdL p).toArray) rfl (by kernel_rfl) (by kernel_rfl) (by kernel_rfl) (fun _ _ _ h => h) (yieldsIf_load_mid (by rfl) 51 _ rfl b10 0 rfl (cmdL p) _ (fun _ h => h) Try.underlying51 rfl (by rw [(cmdL_is _).len]; exact size51)) hS0 ?_
          try simp only [Act.put, List.setIfInBounds_toArray, List.set_cons_zero, List.set_cons_succ]
          refine wpAnyH_ready (rs := [3]) (by kernel_rfl) (by simp) ?_
          refine AllReadyH.cons (o := { dst := some 69, op := Op.call { callee := Callee.value (Operand.func 23), args := #[Operand.tmp 66, Operand.tmp 67, Operand.tmp 68], argTypes := #[25, 3, 51] }, type := 4, pos := "law.go:63", after := #[{ on := 0, ground := Ground.data }, { on := 1, ground := Ground.data }, { on := 2, ground := Ground.data }], guard := none }) rfl (fun K hK => ?_) ?_
          · go_simp; with_reducible refine TK.out.mono ?_; rintro en W3 ⟨r, rfl, T3, NX⟩; have NX := Lib.hid NX; go_simp
            refine hK.out _ _ ?hs7 (fun hS7 => ?_)
            case hs7 => ((try dsimp only); first | with_reducible exact K11.out _ U0 | with_reducible exact K11.out _ T3 | with_reducible exact K11.out _ T4 | exact K11.out _ U0 | exact K11.out _ T3 | exact K11.out _ T4)
            clear hK K hS0
            refine wpAnyH_ready (rs := [7]) (by kernel_rfl) (by simp) ?_
            refine AllReadyH.cons (o := { dst := some 73, op := Op.call { callee := Callee.value (Operand.func 40), args := #[Operand.tmp 70, Operand.tmp 71, Operand.tmp 72], argTypes := #[30, 3, 51] }, type := 4, pos := "law.go:63", after := #[{ on := 4, ground := Ground.data }, { on := 5, ground := Ground.data }, { on := 6, ground := Ground.data }, { on := 3, ground := Ground.chain }], guard := none }) rfl (fun K hK => ?_) ?_
            · go_simp; with_reducible refine (NX.out _ (Turn.refl _ _)).mono ?_; rintro en W4 ⟨rfl, A4⟩; have T4 := A4.turn; go_simp
              refine hK.out _ _ ?hs8 (fun hS8 => ?_)
              case hs8 => ((try dsimp only); first | with_reducible exact K11.out _ U0 | with_reducible exact K11.out _ T3 | with_reducible exact K11.out _ T4 | exact K11.out _ U0 | exact K11.out _ T3 | exact K11.out _ T4)
              clear hK K hS7
              refine wpAnyH_take (i := 8) (oi := { dst := some 74, op := Op.binOp BinOp.eql 4 (Operand.tmp 69) (Operand.tmp 73) 4, type := 4, pos := "law.go:63", after := #[{ on := 3, ground := Ground.data }, { on := 7, ground := Ground.data }], guard := none }) (v := ?_) rfl (by kernel_rfl) (by kernel_rfl) (by kernel_rfl) (fun _ _ _ h => h) (Or.inl ⟨by rfl, ?hy9⟩) hS8 ?_
              case hy9 => (intro w hSw; (try dsimp only at hSw); go_simp; try with_reducible rfl)
              try simp only [Act.put, List.setIfInBounds_toArray, List.set_cons_zero, List.set_cons_succ]
              refine wpAnyH_take (i := 9) (oi := { dst := some 6, op := Op.assign (Operand.tmp 74), type := 4, pos := "law.go:63", after := #[{ on := 8, ground := Ground.data }, { on := 7, ground := Ground.chain }, { on := 0, ground := Ground.phase }, { on := 1, ground := Ground.phase }, { on := 2, ground := Ground.phase }, { on := 3, ground := Ground.phase }, { on := 4, ground := Ground.phase }, { on := 5, ground := Ground.phase }, { on := 6, ground := Ground.phase }, { on := 7, ground := Ground.phase }, { on := 8, ground := Ground.phase }], guard := none }) (v := ?_) rfl (by kernel_rfl) (by kernel_rfl) (by kernel_rfl) (fun _ _ _ h => h) (Or.inl ⟨by rfl, ?hy10⟩) hS8 ?_
              case hy10 => (intro w hSw; (try dsimp only at hSw); go_simp; try with_reducible rfl)
              try simp only [Act.put, List.setIfInBounds_toArray, List.set_cons_zero, List.set_cons_succ]
              refine wpAnyH_done (by kernel_rfl) ?_ _
              go_wp2_with fail
              go_ret
              exact ⟨by simp, A4.from (TT.out.trans (Ta.trans TV2))⟩
            exact AllReadyH.nil
          exact AllReadyH.nil
        exact AllReadyH.nil
      exact AllReadyH.nil
    refine AllReadyH.cons (o := { dst := some 10, op := Op.alloc 51, type := 0, pos := "law.go:62", after := #[], guard := none }) rfl (fun K hK => ?_) ?_
    · rw [if_pos (by rfl)]; refine wp_alloc51 rfl ?_
      refine hK.out _ _ ?hs10 (fun hS10 => ?_)
      case hs10 => ((try dsimp only); first | with_reducible exact KSV.out _ T0 | with_reducible exact KSV.out _ TA | with_reducible exact KSV.out _ TB | exact KSV.out _ T0 | exact KSV.out _ TA | exact KSV.out _ TB)
      clear hK K hS0
      refine wpAnyH_ready (rs := [2]) (by kernel_rfl) (by simp) ?_
      refine AllReadyH.cons (o := { dst := some 61, op := Op.call { callee := Callee.value (Operand.func 20), args := #[Operand.tmp 60, Operand.const (Value.int IntKind.i64 5)], argTypes := #[3, 3] }, type := 3, pos := "law.go:62", after := #[{ on := 1, ground := Ground.data }], guard := none }) rfl (fun K hK => ?_) ?_
      · go_simp; with_reducible refine (An.out _).mono ?_; rintro en Wr ⟨rfl, rfl⟩; go_simp
        refine hK.out _ _ ?hs11 (fun hS11 => ?_)
        case hs11 => ((try dsimp only); first | with_reducible exact KSV.out _ T0 | with_reducible exact KSV.out _ TA | with_reducible exact KSV.out _ TB | exact KSV.out _ T0 | exact KSV.out _ TA | exact KSV.out _ TB)
        clear hK K hS10
        refine wpAnyH_take (i := 3) (oi := { dst := some 62, op := Op.binOp BinOp.add 3 (Operand.const (Value.int IntKind.i64 1)) (Operand.tmp 61) 3, type := 3, pos := "law.go:62", after := #[{ on := 2, ground := Ground.data }], guard := none }) (v := ?_) rfl (by kernel_rfl) (by kernel_rfl) (by kernel_rfl) (fun _ _ _ h => h) (Or.inl ⟨by rfl, ?hy12⟩) hS11 ?_
        case hy12 => (intro w hSw; (try dsimp only at hSw); go_simp; try with_reducible rfl)
        try simp only [Act.put, List.setIfInBounds_toArray, List.set_cons_zero, List.set_cons_succ]
        refine wpAnyH_take (i := 6) (oi := { dst := some 65, op := Op.build 51 #[(0, Operand.tmp 62), (2, Operand.tmp 64)], type := 51, pos := "law.go:62", after := #[{ on := 3, ground := Ground.data }, { on := 5, ground := Ground.data }], guard := none }) (v := ?_) rfl (by kernel_rfl) (by kernel_rfl) (by kernel_rfl) (fun _ _ _ h => h) (Or.inl ⟨by rfl, ?hy13⟩) hS11 ?_
        case hy13 => (intro w hSw; (try dsimp only at hSw); go_simp; try with_reducible rfl)
        try simp only [Act.put, List.setIfInBounds_toArray, List.set_cons_zero, List.set_cons_succ]
        refine wpAnyH_ready (rs := [8]) (by kernel_rfl) (by simp) ?_
        refine AllReadyH.cons (o := { dst := none, op := Op.store 51 (Operand.tmp 10) (Operand.tmp 65), type := 0, pos := "law.go:62", after := #[{ on := 7, ground := Ground.data }, { on := 6, ground := Ground.data }, { on := 2, ground := Ground.chain }, { on := 0, ground := Ground.phase }, { on := 1, ground := Ground.phase }, { on := 2, ground := Ground.phase }, { on := 3, ground := Ground.phase }, { on := 4, ground := Ground.phase }, { on := 5, ground := Ground.phase }, { on := 6, ground := Ground.phase }, { on := 7, ground := Ground.phase }], guard := none }) rfl (fun K hK => ?_) ?_
        · rw [if_pos (by rfl)]; refine wp_store_mid 51 _ _ rfl b10 0 (cmdL (1 + qn, n)).toArray rfl rfl (by rw [List.size_toArray, (cmdL_is _).len]; exact TH.out) (by rw [List.size_toArray, (cmdL_is _).len]; exact size51) (cmdL_is _).one ?_
          refine hK.out _ _ ?hs14 (fun hS14 => ?_)
          case hs14 => ((try dsimp only); first | with_reducible exact KSV.out _ T0 | with_reducible exact KSV.out _ TA | with_reducible exact KSV.out _ TB | exact KSV.out _ T0 | exact KSV.out _ TA | exact KSV.out _ TB)
          clear hK K hS11
          refine wpAnyH_done (by kernel_rfl) ?_ _
          go_upto_region 11 with fail
          obtain ⟨p, hp⟩ : ∃ p, p = (1 + qn, n) := ⟨_, rfl⟩
          rw [← hp] at RBB BB TB ⊢
          clear hp
          generalize VA.setCells b10 0 (cmdL p) = V2 at *
          have TV2 : Turn (fun _ => False) V V2.drew := ((Turn.refl (fun _ => False) V).drewN 1).trans (TB.trans ((Turn.refl (fun _ => False) V2).drewN 1))
          have TK := Lib.hid ((HH.out.keep (show Turn (fun _ => False) W V2.drew from Ta.trans TV2)).fill L7.out p 3 (tailOf a n s.tail))
          have K11 := Lib.hid (show ∀ W', Turn (TS B c.sh R.base V2.drew) V2.drew W' → W'.rangeAt b10 0 (cmdL p) from fun W' T => range_turn (show V2.drew.rangeAt b10 0 (cmdL p) from RBB) T ((HH.out.keep (show Turn (fun _ => False) W V2.drew from Ta.trans TV2)).off (show Blk V2.drew b10 51 from BB) (by decide) (by decide)))
          have U0 : Turn (TS B c.sh R.base V2.drew) V2.drew V2.drew := Turn.refl _ _
          clear RA BA TA TB TH RBB BB wp_alloc51
          refine wp_region_held_drew (S := (fun w' => w'.rangeAt b10 0 (cmdL p))) (by kernel_rfl) ?hs0 (fun hS0 => ?_)
          case hs0 => ((try dsimp only); first | with_reducible exact K11.out _ U0 | with_reducible exact K11.out _ T3 | with_reducible exact K11.out _ T4 | exact K11.out _ U0 | exact K11.out _ T3 | exact K11.out _ T4)
          refine wpAnyH_take (i := 0) (oi := { dst := some 66, op := Op.move (Operand.tmp 0), type := 25, pos := "law.go:63", after := #[], guard := none }) (v := ?_) rfl (by kernel_rfl) (by kernel_rfl) (by kernel_rfl) (fun _ _ _ h => h) (Or.inl ⟨by rfl, ?hy1⟩) hS0 ?_
          case hy1 => (intro w hSw; (try dsimp only at hSw); go_simp; try with_reducible rfl)
          try simp only [Act.put, List.setIfInBounds_toArray, List.set_cons_zero, List.set_cons_succ]
          refine wpAnyH_take (i := 1) (oi := { dst := some 67, op := Op.move (Operand.tmp 9), type := 3, pos := "law.go:63", after := #[], guard := none }) (v := ?_) rfl (by kernel_rfl) (by kernel_rfl) (by kernel_rfl) (fun _ _ _ h => h) (Or.inl ⟨by rfl, ?hy2⟩) hS0 ?_
          case hy2 => (intro w hSw; (try dsimp only at hSw); go_simp; try with_reducible rfl)
          try simp only [Act.put, List.setIfInBounds_toArray, List.set_cons_zero, List.set_cons_succ]
          refine wpAnyH_take (i := 4) (oi := { dst := some 70, op := Op.move (Operand.tmp 1), type := 30, pos := "law.go:63", after := #[], guard := none }) (v := ?_) rfl (by kernel_rfl) (by kernel_rfl) (by kernel_rfl) (fun _ _ _ h => h) (Or.inl ⟨by rfl, ?hy3⟩) hS0 ?_
          case hy3 => (intro w hSw; (try dsimp only at hSw); go_simp; try with_reducible rfl)
          try simp only [Act.put, List.setIfInBounds_toArray, List.set_cons_zero, List.set_cons_succ]
          refine wpAnyH_take (i := 5) (oi := { dst := some 71, op := Op.move (Operand.tmp 9), type := 3, pos := "law.go:63", after := #[], guard := none }) (v := ?_) rfl (by kernel_rfl) (by kernel_rfl) (by kernel_rfl) (fun _ _ _ h => h) (Or.inl ⟨by rfl, ?hy4⟩) hS0 ?_
          case hy4 => (intro w hSw; (try dsimp only at hSw); go_simp; try with_reducible rfl)
          try simp only [Act.put, List.setIfInBounds_toArray, List.set_cons_zero, List.set_cons_succ]
          refine wpAnyH_take (i := 2) (oi := { dst := some 68, op := Op.load 51 (Operand.tmp 10), type := 51, pos := "law.go:63", after := #[], guard := none }) (v := .agg (cmdL p).toArray) rfl (by kernel_rfl) (by kernel_rfl) (by kernel_rfl) (fun _ _ _ h => h) (yieldsIf_load_mid (by rfl) 51 _ rfl b10 0 rfl (cmdL p) _ (fun _ h => h) Try.underlying51 rfl (by rw [(cmdL_is _).len]; exact size51)) hS0 ?_
          try simp only [Act.put, List.setIfInBounds_toArray, List.set_cons_zero, List.set_cons_succ]
          refine wpAnyH_take (i := 6) (oi := { dst := some 72, op := Op.load 51 (Operand.tmp 10), type := 51, pos := "law.go:63", after := #[], guard := none }) (v := .agg (cmdL p).toArray) rfl (by kernel_rfl) (by kernel_rfl) (by kernel_rfl) (fun _ _ _ h => h) (yieldsIf_load_mid (by rfl) 51 _ rfl b10 0 rfl (cmdL p) _ (fun _ h => h) Try.underlying51 rfl (by rw [(cmdL_is _).len]; exact size51)) hS0 ?_
          try simp only [Act.put, List.setIfInBounds_toArray, List.set_cons_zero, List.set_cons_succ]
          refine wpAnyH_ready (rs := [3]) (by kernel_rfl) (by simp) ?_
          refine AllReadyH.cons (o := { dst := some 69, op := Op.call { callee := Callee.value (Operand.func 23), args := #[Operand.tmp 66, Operand.tmp 67, Operand.tmp 68], argTypes := #[25, 3, 51] }, type := 4, pos := "law.go:63", after := #[{ on := 0, ground := Ground.data }, { on := 1, ground := Ground.data }, { on := 2, ground := Ground.data }], guard := none }) rfl (fun K hK => ?_) ?_
          · go_simp; with_reducible refine TK.out.mono ?_; rintro en W3 ⟨r, rfl, T3, NX⟩; have NX := Lib.hid NX; go_simp
            refine hK.out _ _ ?hs7 (fun hS7 => ?_)
            case hs7 => ((try dsimp only); first | with_reducible exact K11.out _ U0 | with_reducible exact K11.out _ T3 | with_reducible exact K11.out _ T4 | exact K11.out _ U0 | exact K11.out _ T3 | exact K11.out _ T4)
            clear hK K hS0
            refine wpAnyH_ready (rs := [7]) (by kernel_rfl) (by simp) ?_
            refine AllReadyH.cons (o := { dst := some 73, op := Op.call { callee := Callee.value (Operand.func 40), args := #[Operand.tmp 70, Operand.tmp 71, Operand.tmp 72], argTypes := #[30, 3, 51] }, type := 4, pos := "law.go:63", after := #[{ on := 4, ground := Ground.data }, { on := 5, ground := Ground.data }, { on := 6, ground := Ground.data }, { on := 3, ground := Ground.chain }], guard := none }) rfl (fun K hK => ?_) ?_
            · go_simp; with_reducible refine (NX.out _ (Turn.refl _ _)).mono ?_; rintro en W4 ⟨rfl, A4⟩; have T4 := A4.turn; go_simp
              refine hK.out _ _ ?hs8 (fun hS8 => ?_)
              case hs8 => ((try dsimp only); first | with_reducible exact K11.out _ U0 | with_reducible exact K11.out _ T3 | with_reducible exact K11.out _ T4 | exact K11.out _ U0 | exact K11.out _ T3 | exact K11.out _ T4)
              clear hK K hS7
              refine wpAnyH_take (i := 8) (oi := { dst := some 74, op := Op.binOp BinOp.eql 4 (Operand.tmp 69) (Operand.tmp 73) 4, type := 4, pos := "law.go:63", after := #[{ on := 3, ground := Ground.data }, { on := 7, ground := Ground.data }], guard := none }) (v := ?_) rfl (by kernel_rfl) (by kernel_rfl) (by kernel_rfl) (fun _ _ _ h => h) (Or.inl ⟨by rfl, ?hy9⟩) hS8 ?_
              case hy9 => (intro w hSw; (try dsimp only at hSw); go_simp; try with_reducible rfl)
              try simp only [Act.put, List.setIfInBounds_toArray, List.set_cons_zero, List.set_cons_succ]
              refine wpAnyH_take (i := 9) (oi := { dst := some 6, op := Op.assign (Operand.tmp 74), type := 4, pos := "law.go:63", after := #[{ on := 8, ground := Ground.data }, { on := 7, ground := Ground.chain }, { on := 0, ground := Ground.phase }, { on := 1, ground := Ground.phase }, { on := 2, ground := Ground.phase }, { on := 3, ground := Ground.phase }, { on := 4, ground := Ground.phase }, { on := 5, ground := Ground.phase }, { on := 6, ground := Ground.phase }, { on := 7, ground := Ground.phase }, { on := 8, ground := Ground.phase }], guard := none }) (v := ?_) rfl (by kernel_rfl) (by kernel_rfl) (by kernel_rfl) (fun _ _ _ h => h) (Or.inl ⟨by rfl, ?hy10⟩) hS8 ?_
              case hy10 => (intro w hSw; (try dsimp only at hSw); go_simp; try with_reducible rfl)
              try simp only [Act.put, List.setIfInBounds_toArray, List.set_cons_zero, List.set_cons_succ]
              refine wpAnyH_done (by kernel_rfl) ?_ _
              go_wp2_with fail
              go_ret
              exact ⟨by simp, A4.from (TT.out.trans (Ta.trans TV2))⟩
            exact AllReadyH.nil
          exact AllReadyH.nil
        exact AllReadyH.nil
      exact AllReadyH.nil
    exact AllReadyH.nil
  exact AllReadyH.nil
set_option maxRecDepth 100000 in
set_option maxHeartbeats 8000000 in
theorem Two.does4 (h : Two w B R c s) {k a n : Int} (hk : restN k 10 = 4) :
    Calls Try.prog 13 #[.pointer (some ⟨B.l, 0, none⟩), .pointer (some ⟨R.r, 0, none⟩), .agg #[.int .i64 k, .int .i64 a, .int .i64 n]] w fun e w' => e = .returned (.bool true) ∧ Aft w B R c (Stp c s 4 (tailOf a n s.tail)) w' := by
  obtain ⟨W, hW⟩ : ∃ W, W = w.alloc (.cells #[.int .i64 k, .int .i64 a, .int .i64 n] 34) := ⟨_, rfl⟩
  have TW : Turn (fun _ => False) w W := by rw [hW]; exact (Turn.refl _ w).alloc _
  have Bk : Blk W w.heap.size 34 := by rw [hW]; exact Blk.new w [.int .i64 k, .int .i64 a, .int .i64 n] 34
  have C : W.rangeAt w.heap.size 0 [.int .i64 k, .int .i64 a, .int .i64 n] := by rw [hW]; exact range_new w [.int .i64 k, .int .i64 a, .int .i64 n] 34
  have hh := h.keep TW
  have x0 : W.cell? ⟨w.heap.size, 0, none⟩ = some (.int .i64 k) := C 0 _ rfl
  have x1 : W.cell? ⟨w.heap.size, 1, none⟩ = some (.int .i64 a) := C 1 _ rfl
  have x2 : W.cell? ⟨w.heap.size, 2, none⟩ = some (.int .i64 n) := C 2 _ rfl
  have noff := hh.off Bk (by decide) (by decide)
  have KS := Lib.hid (show ∀ W', Turn (TS B c.sh R.base W) W W' → W'.cell? ⟨w.heap.size, 0, none⟩ = some (.int .i64 k) ∧ W'.cell? ⟨w.heap.size, 1, none⟩ = some (.int .i64 a) ∧ W'.cell? ⟨w.heap.size, 2, none⟩ = some (.int .i64 n) from fun W' T => ⟨T.cell noff x0, T.cell noff x1, T.cell noff x2⟩)
  obtain ⟨q5, hq5⟩ : ∃ q : Int, (restN a 5 : Int) = q := ⟨_, rfl⟩
  have A5 := Lib.hid (show ∀ w, Calls Try.prog 20 #[.int .i64 a, .int .i64 5] w fun e w' => e = .returned (.int .i64 q5) ∧ w = w' from fun w => by rw [← hq5]; exact rest_is w a (n := 5) (by decide) (by decide))
  have A10 := Lib.hid (show ∀ w, Calls Try.prog 20 #[.int .i64 k, .int .i64 10] w fun e w' => e = .returned (.int .i64 4) ∧ w = w' from fun w => by have := rest_is w k (n := 10) (by decide) (by decide); rw [hk] at this; exact this)
  have l5 := restN_lt a (n := 5) (by decide)
  have e5 : wrap64 (q5 - 1) = q5 - 1 := by unfold wrap64; omega
  have HH := Lib.hid hh
  have TT := Lib.hid TW
  have ht := h.tail
  have hlt := h.I.lt
  have OUT := Lib.hid (fun w => out_is w n)
  clear ht hlt
  clear Bk C noff hq5 l5 hk hh h TW
  go_enter Try.func13, Try.ntmps13
  go_upto_region 1 with fail
  rw [← hW]
  clear hW
  generalize w.heap.size = b at *
  go_wp2_with fail
  with_reducible refine (A5.out _).mono ?_
  rintro e w1 ⟨rfl, rfl⟩
  go_wp2_with fail
  with_reducible refine (A10.out _).mono ?_
  rintro e w1 ⟨rfl, rfl⟩
  have Ta : Turn (fun _ => False) W W.drew := (Turn.refl _ W).drewN 1
  have U0 : Turn (TS B c.sh R.base W) W W.drew := TS.no Ta
  go_upto_region 14 with fail
  refine wp_region_held_drew (S := (fun w' => w'.cell? ⟨b, 0, none⟩ = some (.int .i64 k) ∧ w'.cell? ⟨b, 1, none⟩ = some (.int .i64 a) ∧ w'.cell? ⟨b, 2, none⟩ = some (.int .i64 n))) (by kernel_rfl) ?hs0 (fun hS0 => ?_)
  case hs0 => ((try dsimp only); first | with_reducible exact KS.out _ U0 | with_reducible exact KS.out _ U2 | with_reducible exact KS.out _ U3 | with_reducible exact KS.out _ U5 | with_reducible exact KS.out _ U4 | exact KS.out _ U0 | exact KS.out _ U2 | exact KS.out _ U3 | exact KS.out _ U5 | exact KS.out _ U4)
  refine wpAnyH_take (i := 0) (oi := { dst := some 78, op := Op.move (Operand.tmp 0), type := 25, pos := "law.go:65", after := #[], guard := none }) (v := ?_) rfl (by kernel_rfl) (by kernel_rfl) (by kernel_rfl) (fun _ _ _ h => h) (Or.inl ⟨by rfl, ?hy1⟩) hS0 ?_
  case hy1 => (intro w hSw; (try dsimp only at hSw); go_simp; try with_reducible rfl)
  try simp only [Act.put, List.setIfInBounds_toArray, List.set_cons_zero, List.set_cons_succ]
  refine wpAnyH_take (i := 1) (oi := { dst := some 79, op := Op.move (Operand.tmp 7), type := 3, pos := "law.go:65", after := #[], guard := none }) (v := ?_) rfl (by kernel_rfl) (by kernel_rfl) (by kernel_rfl) (fun _ _ _ h => h) (Or.inl ⟨by rfl, ?hy2⟩) hS0 ?_
  case hy2 => (intro w hSw; (try dsimp only at hSw); go_simp; try with_reducible rfl)
  try simp only [Act.put, List.setIfInBounds_toArray, List.set_cons_zero, List.set_cons_succ]
  refine wpAnyH_take (i := 2) (oi := { dst := some 80, op := Op.fieldAddr 34 (Operand.tmp 5) 2, type := 0, pos := "law.go:65", after := #[], guard := none }) (v := ?_) rfl (by kernel_rfl) (by kernel_rfl) (by kernel_rfl) (fun _ _ _ h => h) (Or.inl ⟨by rfl, ?hy3⟩) hS0 ?_
  case hy3 => (intro w hSw; (try dsimp only at hSw); go_simp; try with_reducible rfl)
  try simp only [Act.put, List.setIfInBounds_toArray, List.set_cons_zero, List.set_cons_succ]
  refine wpAnyH_take (i := 3) (oi := { dst := some 81, op := Op.load 3 (Operand.tmp 80), type := 3, pos := "law.go:65", after := #[{ on := 2, ground := Ground.data }], guard := none }) (v := ?_) rfl (by kernel_rfl) (by kernel_rfl) (by kernel_rfl) (fun _ _ _ h => h) (Or.inl ⟨by rfl, ?hy4⟩) hS0 ?_
  case hy4 => (intro w hSw; (try dsimp only at hSw); go_simp; try with_reducible rfl)
  try simp only [Act.put, List.setIfInBounds_toArray, List.set_cons_zero, List.set_cons_succ]
  refine wpAnyH_take (i := 6) (oi := { dst := some 84, op := Op.move (Operand.tmp 1), type := 30, pos := "law.go:65", after := #[], guard := none }) (v := ?_) rfl (by kernel_rfl) (by kernel_rfl) (by kernel_rfl) (fun _ _ _ h => h) (Or.inl ⟨by rfl, ?hy5⟩) hS0 ?_
  case hy5 => (intro w hSw; (try dsimp only at hSw); go_simp; try with_reducible rfl)
  try simp only [Act.put, List.setIfInBounds_toArray, List.set_cons_zero, List.set_cons_succ]
  refine wpAnyH_take (i := 7) (oi := { dst := some 85, op := Op.move (Operand.tmp 7), type := 3, pos := "law.go:65", after := #[], guard := none }) (v := ?_) rfl (by kernel_rfl) (by kernel_rfl) (by kernel_rfl) (fun _ _ _ h => h) (Or.inl ⟨by rfl, ?hy6⟩) hS0 ?_
  case hy6 => (intro w hSw; (try dsimp only at hSw); go_simp; try with_reducible rfl)
  try simp only [Act.put, List.setIfInBounds_toArray, List.set_cons_zero, List.set_cons_succ]
  refine wpAnyH_take (i := 8) (oi := { dst := some 86, op := Op.fieldAddr 34 (Operand.tmp 5) 2, type := 0, pos := "law.go:65", after := #[], guard := none }) (v := ?_) rfl (by kernel_rfl) (by kernel_rfl) (by kernel_rfl) (fun _ _ _ h => h) (Or.inl ⟨by rfl, ?hy7⟩) hS0 ?_
  case hy7 => (intro w hSw; (try dsimp only at hSw); go_simp; try with_reducible rfl)
  try simp only [Act.put, List.setIfInBounds_toArray, List.set_cons_zero, List.set_cons_succ]
  refine wpAnyH_take (i := 9) (oi := { dst := some 87, op := Op.load 3 (Operand.tmp 86), type := 3, pos := "law.go:65", after := #[{ on := 8, ground := Ground.data }], guard := none }) (v := ?_) rfl (by kernel_rfl) (by kernel_rfl) (by kernel_rfl) (fun _ _ _ h => h) (Or.inl ⟨by rfl, ?hy8⟩) hS0 ?_
  case hy8 => (intro w hSw; (try dsimp only at hSw); go_simp; try with_reducible rfl)
  try simp only [Act.put, List.setIfInBounds_toArray, List.set_cons_zero, List.set_cons_succ]
  refine wpAnyH_ready (rs := [4]) (by kernel_rfl) (by simp) ?_
  refine AllReadyH.cons (o := { dst := some 82, op := Op.call { callee := Callee.value (Operand.func 28), args := #[Operand.tmp 81], argTypes := #[3] }, type := 62, pos := "law.go:65", after := #[{ on := 3, ground := Ground.data }], guard := none }) rfl (fun K hK => ?_) ?_
  · go_simp; with_reducible refine (OUT.out _).mono ?_; rintro en W2 ⟨b2, rfl, o2, T2⟩; have TK := Lib.hid ((HH.out.keep (show Turn (fun _ => False) W W2 from Ta.trans T2)).post (q5 - 1) o2 4 (tailOf a n s.tail)); have U2 : Turn (TS B c.sh R.base W) W W2 := TS.no (Ta.trans T2); go_simp
    refine hK.out _ _ ?hs9 (fun hS9 => ?_)
    case hs9 => ((try dsimp only); first | with_reducible exact KS.out _ U0 | with_reducible exact KS.out _ U2 | with_reducible exact KS.out _ U3 | with_reducible exact KS.out _ U5 | with_reducible exact KS.out _ U4 | exact KS.out _ U0 | exact KS.out _ U2 | exact KS.out _ U3 | exact KS.out _ U5 | exact KS.out _ U4)
    clear hK K hS0
    refine wpAnyH_ready (rs := [5]) (by kernel_rfl) (by simp) ?_
    refine AllReadyH.cons (o := { dst := some 83, op := Op.call { callee := Callee.value (Operand.func 24), args := #[Operand.tmp 78, Operand.tmp 79, Operand.tmp 82], argTypes := #[25, 3, 62] }, type := 4, pos := "law.go:65", after := #[{ on := 0, ground := Ground.data }, { on := 1, ground := Ground.data }, { on := 4, ground := Ground.data }, { on := 4, ground := Ground.chain }], guard := none }) rfl (fun K hK => ?_) ?_
    · go_simp; with_reducible refine TK.out.mono ?_; rintro en W3 ⟨r, rfl, T3, NX⟩; have NX := Lib.hid NX; have U3 := TS.trans U2 T3; go_simp
      refine hK.out _ _ ?hs10 (fun hS10 => ?_)
      case hs10 => ((try dsimp only); first | with_reducible exact KS.out _ U0 | with_reducible exact KS.out _ U2 | with_reducible exact KS.out _ U3 | with_reducible exact KS.out _ U5 | with_reducible exact KS.out _ U4 | exact KS.out _ U0 | exact KS.out _ U2 | exact KS.out _ U3 | exact KS.out _ U5 | exact KS.out _ U4)
      clear hK K hS9
      refine wpAnyH_ready (rs := [10]) (by kernel_rfl) (by simp) ?_
      refine AllReadyH.cons (o := { dst := some 88, op := Op.call { callee := Callee.value (Operand.func 28), args := #[Operand.tmp 87], argTypes := #[3] }, type := 62, pos := "law.go:65", after := #[{ on := 9, ground := Ground.data }, { on := 5, ground := Ground.chain }], guard := none }) rfl (fun K hK => ?_) ?_
      · go_simp; with_reducible refine (OUT.out _).mono ?_; rintro en W5 ⟨b5, rfl, o5, T5⟩; have U5 := TS.trans U3 (TS.no T5); go_simp
        refine hK.out _ _ ?hs11 (fun hS11 => ?_)
        case hs11 => ((try dsimp only); first | with_reducible exact KS.out _ U0 | with_reducible exact KS.out _ U2 | with_reducible exact KS.out _ U3 | with_reducible exact KS.out _ U5 | with_reducible exact KS.out _ U4 | exact KS.out _ U0 | exact KS.out _ U2 | exact KS.out _ U3 | exact KS.out _ U5 | exact KS.out _ U4)
        clear hK K hS10
        refine wpAnyH_ready (rs := [11]) (by kernel_rfl) (by simp) ?_
        refine AllReadyH.cons (o := { dst := some 89, op := Op.call { callee := Callee.value (Operand.func 41), args := #[Operand.tmp 84, Operand.tmp 85, Operand.tmp 88], argTypes := #[30, 3, 62] }, type := 4, pos := "law.go:65", after := #[{ on := 6, ground := Ground.data }, { on := 7, ground := Ground.data }, { on := 10, ground := Ground.data }, { on := 10, ground := Ground.chain }], guard := none }) rfl (fun K hK => ?_) ?_
        · go_simp; with_reducible refine (NX.out _ T5 _ _ _ o5).mono ?_; rintro en W4 ⟨rfl, A4⟩; have U4 := TS.trans U2 A4.turn; go_simp
          refine hK.out _ _ ?hs12 (fun hS12 => ?_)
          case hs12 => ((try dsimp only); first | with_reducible exact KS.out _ U0 | with_reducible exact KS.out _ U2 | with_reducible exact KS.out _ U3 | with_reducible exact KS.out _ U5 | with_reducible exact KS.out _ U4 | exact KS.out _ U0 | exact KS.out _ U2 | exact KS.out _ U3 | exact KS.out _ U5 | exact KS.out _ U4)
          clear hK K hS11
          refine wpAnyH_take (i := 12) (oi := { dst := some 90, op := Op.binOp BinOp.eql 4 (Operand.tmp 83) (Operand.tmp 89) 4, type := 4, pos := "law.go:65", after := #[{ on := 5, ground := Ground.data }, { on := 11, ground := Ground.data }], guard := none }) (v := ?_) rfl (by kernel_rfl) (by kernel_rfl) (by kernel_rfl) (fun _ _ _ h => h) (Or.inl ⟨by rfl, ?hy13⟩) hS12 ?_
          case hy13 => (intro w hSw; (try dsimp only at hSw); go_simp; try with_reducible rfl)
          try simp only [Act.put, List.setIfInBounds_toArray, List.set_cons_zero, List.set_cons_succ]
          refine wpAnyH_take (i := 13) (oi := { dst := some 6, op := Op.assign (Operand.tmp 90), type := 4, pos := "law.go:65", after := #[{ on := 12, ground := Ground.data }, { on := 11, ground := Ground.chain }, { on := 0, ground := Ground.phase }, { on := 1, ground := Ground.phase }, { on := 2, ground := Ground.phase }, { on := 3, ground := Ground.phase }, { on := 4, ground := Ground.phase }, { on := 5, ground := Ground.phase }, { on := 6, ground := Ground.phase }, { on := 7, ground := Ground.phase }, { on := 8, ground := Ground.phase }, { on := 9, ground := Ground.phase }, { on := 10, ground := Ground.phase }, { on := 11, ground := Ground.phase }, { on := 12, ground := Ground.phase }], guard := none }) (v := ?_) rfl (by kernel_rfl) (by kernel_rfl) (by kernel_rfl) (fun _ _ _ h => h) (Or.inl ⟨by rfl, ?hy14⟩) hS12 ?_
          case hy14 => (intro w hSw; (try dsimp only at hSw); go_simp; try with_reducible rfl)
          try simp only [Act.put, List.setIfInBounds_toArray, List.set_cons_zero, List.set_cons_succ]
          refine wpAnyH_done (by kernel_rfl) ?_ _
          go_wp2_with fail
          go_ret
          exact ⟨by simp, A4.from (TT.out.trans (Ta.trans T2))⟩
        exact AllReadyH.nil
      exact AllReadyH.nil
    exact AllReadyH.nil
  exact AllReadyH.nil
set_option maxRecDepth 100000 in
set_option maxHeartbeats 8000000 in
theorem Two.does5 (h : Two w B R c s) {k a n : Int} (hk : restN k 10 = 5) :
    Calls Try.prog 13 #[.pointer (some ⟨B.l, 0, none⟩), .pointer (some ⟨R.r, 0, none⟩), .agg #[.int .i64 k, .int .i64 a, .int .i64 n]] w fun e w' => e = .returned (.bool true) ∧ Aft w B R c (Stp c s 5 (tailOf a n s.tail)) w' := by
  obtain ⟨W, hW⟩ : ∃ W, W = w.alloc (.cells #[.int .i64 k, .int .i64 a, .int .i64 n] 34) := ⟨_, rfl⟩
  have TW : Turn (fun _ => False) w W := by rw [hW]; exact (Turn.refl _ w).alloc _
  have Bk : Blk W w.heap.size 34 := by rw [hW]; exact Blk.new w [.int .i64 k, .int .i64 a, .int .i64 n] 34
  have C : W.rangeAt w.heap.size 0 [.int .i64 k, .int .i64 a, .int .i64 n] := by rw [hW]; exact range_new w [.int .i64 k, .int .i64 a, .int .i64 n] 34
  have hh := h.keep TW
  have x0 : W.cell? ⟨w.heap.size, 0, none⟩ = some (.int .i64 k) := C 0 _ rfl
  have x1 : W.cell? ⟨w.heap.size, 1, none⟩ = some (.int .i64 a) := C 1 _ rfl
  have x2 : W.cell? ⟨w.heap.size, 2, none⟩ = some (.int .i64 n) := C 2 _ rfl
  have noff := hh.off Bk (by decide) (by decide)
  have KS := Lib.hid (show ∀ W', Turn (TS B c.sh R.base W) W W' → W'.cell? ⟨w.heap.size, 0, none⟩ = some (.int .i64 k) ∧ W'.cell? ⟨w.heap.size, 1, none⟩ = some (.int .i64 a) ∧ W'.cell? ⟨w.heap.size, 2, none⟩ = some (.int .i64 n) from fun W' T => ⟨T.cell noff x0, T.cell noff x1, T.cell noff x2⟩)
  obtain ⟨q5, hq5⟩ : ∃ q : Int, (restN a 5 : Int) = q := ⟨_, rfl⟩
  have A5 := Lib.hid (show ∀ w, Calls Try.prog 20 #[.int .i64 a, .int .i64 5] w fun e w' => e = .returned (.int .i64 q5) ∧ w = w' from fun w => by rw [← hq5]; exact rest_is w a (n := 5) (by decide) (by decide))
  have A10 := Lib.hid (show ∀ w, Calls Try.prog 20 #[.int .i64 k, .int .i64 10] w fun e w' => e = .returned (.int .i64 5) ∧ w = w' from fun w => by have := rest_is w k (n := 10) (by decide) (by decide); rw [hk] at this; exact this)
  have l5 := restN_lt a (n := 5) (by decide)
  have e5 : wrap64 (q5 - 1) = q5 - 1 := by unfold wrap64; omega
  have HH := Lib.hid hh
  have TT := Lib.hid TW
  have ht := h.tail
  have hlt := h.I.lt
  have OUT := Lib.hid (fun w => out_is w n)
  clear ht hlt
  clear Bk C noff hq5 l5 hk hh h TW
  go_enter Try.func13, Try.ntmps13
  go_upto_region 1 with fail
  rw [← hW]
  clear hW
  generalize w.heap.size = b at *
  go_wp2_with fail
  with_reducible refine (A5.out _).mono ?_
  rintro e w1 ⟨rfl, rfl⟩
  go_wp2_with fail
  with_reducible refine (A10.out _).mono ?_
  rintro e w1 ⟨rfl, rfl⟩
  have Ta : Turn (fun _ => False) W W.drew := (Turn.refl _ W).drewN 1
  have U0 : Turn (TS B c.sh R.base W) W W.drew := TS.no Ta
  go_upto_region 14 with fail
  refine wp_region_held_drew (S := (fun w' => w'.cell? ⟨b, 0, none⟩ = some (.int .i64 k) ∧ w'.cell? ⟨b, 1, none⟩ = some (.int .i64 a) ∧ w'.cell? ⟨b, 2, none⟩ = some (.int .i64 n))) (by kernel_rfl) ?hs0 (fun hS0 => ?_)
  case hs0 => ((try dsimp only); first | with_reducible exact KS.out _ U0 | with_reducible exact KS.out _ U2 | with_reducible exact KS.out _ U3 | with_reducible exact KS.out _ U5 | with_reducible exact KS.out _ U4 | exact KS.out _ U0 | exact KS.out _ U2 | exact KS.out _ U3 | exact KS.out _ U5 | exact KS.out _ U4)
  refine wpAnyH_take (i := 0) (oi := { dst := some 78, op := Op.move (Operand.tmp 0), type := 25, pos := "law.go:65", after := #[], guard := none }) (v := ?_) rfl (by kernel_rfl) (by kernel_rfl) (by kernel_rfl) (fun _ _ _ h => h) (Or.inl ⟨by rfl, ?hy1⟩) hS0 ?_
  case hy1 => (intro w hSw; (try dsimp only at hSw); go_simp; try with_reducible rfl)
  try simp only [Act.put, List.setIfInBounds_toArray, List.set_cons_zero, List.set_cons_succ]
  refine wpAnyH_take (i := 1) (oi := { dst := some 79, op := Op.move (Operand.tmp 7), type := 3, pos := "law.go:65", after := #[], guard := none }) (v := ?_) rfl (by kernel_rfl) (by kernel_rfl) (by kernel_rfl) (fun _ _ _ h => h) (Or.inl ⟨by rfl, ?hy2⟩) hS0 ?_
  case hy2 => (intro w hSw; (try dsimp only at hSw); go_simp; try with_reducible rfl)
  try simp only [Act.put, List.setIfInBounds_toArray, List.set_cons_zero, List.set_cons_succ]
  refine wpAnyH_take (i := 2) (oi := { dst := some 80, op := Op.fieldAddr 34 (Operand.tmp 5) 2, type := 0, pos := "law.go:65", after := #[], guard := none }) (v := ?_) rfl (by kernel_rfl) (by kernel_rfl) (by kernel_rfl) (fun _ _ _ h => h) (Or.inl ⟨by rfl, ?hy3⟩) hS0 ?_
  case hy3 => (intro w hSw; (try dsimp only at hSw); go_simp; try with_reducible rfl)
  try simp only [Act.put, List.setIfInBounds_toArray, List.set_cons_zero, List.set_cons_succ]
  refine wpAnyH_take (i := 3) (oi := { dst := some 81, op := Op.load 3 (Operand.tmp 80), type := 3, pos := "law.go:65", after := #[{ on := 2, ground := Ground.data }], guard := none }) (v := ?_) rfl (by kernel_rfl) (by kernel_rfl) (by kernel_rfl) (fun _ _ _ h => h) (Or.inl ⟨by rfl, ?hy4⟩) hS0 ?_
  case hy4 => (intro w hSw; (try dsimp only at hSw); go_simp; try with_reducible rfl)
  try simp only [Act.put, List.setIfInBounds_toArray, List.set_cons_zero, List.set_cons_succ]
  refine wpAnyH_take (i := 6) (oi := { dst := some 84, op := Op.move (Operand.tmp 1), type := 30, pos := "law.go:65", after := #[], guard := none }) (v := ?_) rfl (by kernel_rfl) (by kernel_rfl) (by kernel_rfl) (fun _ _ _ h => h) (Or.inl ⟨by rfl, ?hy5⟩) hS0 ?_
  case hy5 => (intro w hSw; (try dsimp only at hSw); go_simp; try with_reducible rfl)
  try simp only [Act.put, List.setIfInBounds_toArray, List.set_cons_zero, List.set_cons_succ]
  refine wpAnyH_take (i := 7) (oi := { dst := some 85, op := Op.move (Operand.tmp 7), type := 3, pos := "law.go:65", after := #[], guard := none }) (v := ?_) rfl (by kernel_rfl) (by kernel_rfl) (by kernel_rfl) (fun _ _ _ h => h) (Or.inl ⟨by rfl, ?hy6⟩) hS0 ?_
  case hy6 => (intro w hSw; (try dsimp only at hSw); go_simp; try with_reducible rfl)
  try simp only [Act.put, List.setIfInBounds_toArray, List.set_cons_zero, List.set_cons_succ]
  refine wpAnyH_take (i := 8) (oi := { dst := some 86, op := Op.fieldAddr 34 (Operand.tmp 5) 2, type := 0, pos := "law.go:65", after := #[], guard := none }) (v := ?_) rfl (by kernel_rfl) (by kernel_rfl) (by kernel_rfl) (fun _ _ _ h => h) (Or.inl ⟨by rfl, ?hy7⟩) hS0 ?_
  case hy7 => (intro w hSw; (try dsimp only at hSw); go_simp; try with_reducible rfl)
  try simp only [Act.put, List.setIfInBounds_toArray, List.set_cons_zero, List.set_cons_succ]
  refine wpAnyH_take (i := 9) (oi := { dst := some 87, op := Op.load 3 (Operand.tmp 86), type := 3, pos := "law.go:65", after := #[{ on := 8, ground := Ground.data }], guard := none }) (v := ?_) rfl (by kernel_rfl) (by kernel_rfl) (by kernel_rfl) (fun _ _ _ h => h) (Or.inl ⟨by rfl, ?hy8⟩) hS0 ?_
  case hy8 => (intro w hSw; (try dsimp only at hSw); go_simp; try with_reducible rfl)
  try simp only [Act.put, List.setIfInBounds_toArray, List.set_cons_zero, List.set_cons_succ]
  refine wpAnyH_ready (rs := [4]) (by kernel_rfl) (by simp) ?_
  refine AllReadyH.cons (o := { dst := some 82, op := Op.call { callee := Callee.value (Operand.func 28), args := #[Operand.tmp 81], argTypes := #[3] }, type := 62, pos := "law.go:65", after := #[{ on := 3, ground := Ground.data }], guard := none }) rfl (fun K hK => ?_) ?_
  · go_simp; with_reducible refine (OUT.out _).mono ?_; rintro en W2 ⟨b2, rfl, o2, T2⟩; have TK := Lib.hid ((HH.out.keep (show Turn (fun _ => False) W W2 from Ta.trans T2)).post (q5 - 1) o2 5 (tailOf a n s.tail)); have U2 : Turn (TS B c.sh R.base W) W W2 := TS.no (Ta.trans T2); go_simp
    refine hK.out _ _ ?hs9 (fun hS9 => ?_)
    case hs9 => ((try dsimp only); first | with_reducible exact KS.out _ U0 | with_reducible exact KS.out _ U2 | with_reducible exact KS.out _ U3 | with_reducible exact KS.out _ U5 | with_reducible exact KS.out _ U4 | exact KS.out _ U0 | exact KS.out _ U2 | exact KS.out _ U3 | exact KS.out _ U5 | exact KS.out _ U4)
    clear hK K hS0
    refine wpAnyH_ready (rs := [5]) (by kernel_rfl) (by simp) ?_
    refine AllReadyH.cons (o := { dst := some 83, op := Op.call { callee := Callee.value (Operand.func 24), args := #[Operand.tmp 78, Operand.tmp 79, Operand.tmp 82], argTypes := #[25, 3, 62] }, type := 4, pos := "law.go:65", after := #[{ on := 0, ground := Ground.data }, { on := 1, ground := Ground.data }, { on := 4, ground := Ground.data }, { on := 4, ground := Ground.chain }], guard := none }) rfl (fun K hK => ?_) ?_
    · go_simp; with_reducible refine TK.out.mono ?_; rintro en W3 ⟨r, rfl, T3, NX⟩; have NX := Lib.hid NX; have U3 := TS.trans U2 T3; go_simp
      refine hK.out _ _ ?hs10 (fun hS10 => ?_)
      case hs10 => ((try dsimp only); first | with_reducible exact KS.out _ U0 | with_reducible exact KS.out _ U2 | with_reducible exact KS.out _ U3 | with_reducible exact KS.out _ U5 | with_reducible exact KS.out _ U4 | exact KS.out _ U0 | exact KS.out _ U2 | exact KS.out _ U3 | exact KS.out _ U5 | exact KS.out _ U4)
      clear hK K hS9
      refine wpAnyH_ready (rs := [10]) (by kernel_rfl) (by simp) ?_
      refine AllReadyH.cons (o := { dst := some 88, op := Op.call { callee := Callee.value (Operand.func 28), args := #[Operand.tmp 87], argTypes := #[3] }, type := 62, pos := "law.go:65", after := #[{ on := 9, ground := Ground.data }, { on := 5, ground := Ground.chain }], guard := none }) rfl (fun K hK => ?_) ?_
      · go_simp; with_reducible refine (OUT.out _).mono ?_; rintro en W5 ⟨b5, rfl, o5, T5⟩; have U5 := TS.trans U3 (TS.no T5); go_simp
        refine hK.out _ _ ?hs11 (fun hS11 => ?_)
        case hs11 => ((try dsimp only); first | with_reducible exact KS.out _ U0 | with_reducible exact KS.out _ U2 | with_reducible exact KS.out _ U3 | with_reducible exact KS.out _ U5 | with_reducible exact KS.out _ U4 | exact KS.out _ U0 | exact KS.out _ U2 | exact KS.out _ U3 | exact KS.out _ U5 | exact KS.out _ U4)
        clear hK K hS10
        refine wpAnyH_ready (rs := [11]) (by kernel_rfl) (by simp) ?_
        refine AllReadyH.cons (o := { dst := some 89, op := Op.call { callee := Callee.value (Operand.func 41), args := #[Operand.tmp 84, Operand.tmp 85, Operand.tmp 88], argTypes := #[30, 3, 62] }, type := 4, pos := "law.go:65", after := #[{ on := 6, ground := Ground.data }, { on := 7, ground := Ground.data }, { on := 10, ground := Ground.data }, { on := 10, ground := Ground.chain }], guard := none }) rfl (fun K hK => ?_) ?_
        · go_simp; with_reducible refine (NX.out _ T5 _ _ _ o5).mono ?_; rintro en W4 ⟨rfl, A4⟩; have U4 := TS.trans U2 A4.turn; go_simp
          refine hK.out _ _ ?hs12 (fun hS12 => ?_)
          case hs12 => ((try dsimp only); first | with_reducible exact KS.out _ U0 | with_reducible exact KS.out _ U2 | with_reducible exact KS.out _ U3 | with_reducible exact KS.out _ U5 | with_reducible exact KS.out _ U4 | exact KS.out _ U0 | exact KS.out _ U2 | exact KS.out _ U3 | exact KS.out _ U5 | exact KS.out _ U4)
          clear hK K hS11
          refine wpAnyH_take (i := 12) (oi := { dst := some 90, op := Op.binOp BinOp.eql 4 (Operand.tmp 83) (Operand.tmp 89) 4, type := 4, pos := "law.go:65", after := #[{ on := 5, ground := Ground.data }, { on := 11, ground := Ground.data }], guard := none }) (v := ?_) rfl (by kernel_rfl) (by kernel_rfl) (by kernel_rfl) (fun _ _ _ h => h) (Or.inl ⟨by rfl, ?hy13⟩) hS12 ?_
          case hy13 => (intro w hSw; (try dsimp only at hSw); go_simp; try with_reducible rfl)
          try simp only [Act.put, List.setIfInBounds_toArray, List.set_cons_zero, List.set_cons_succ]
          refine wpAnyH_take (i := 13) (oi := { dst := some 6, op := Op.assign (Operand.tmp 90), type := 4, pos := "law.go:65", after := #[{ on := 12, ground := Ground.data }, { on := 11, ground := Ground.chain }, { on := 0, ground := Ground.phase }, { on := 1, ground := Ground.phase }, { on := 2, ground := Ground.phase }, { on := 3, ground := Ground.phase }, { on := 4, ground := Ground.phase }, { on := 5, ground := Ground.phase }, { on := 6, ground := Ground.phase }, { on := 7, ground := Ground.phase }, { on := 8, ground := Ground.phase }, { on := 9, ground := Ground.phase }, { on := 10, ground := Ground.phase }, { on := 11, ground := Ground.phase }, { on := 12, ground := Ground.phase }], guard := none }) (v := ?_) rfl (by kernel_rfl) (by kernel_rfl) (by kernel_rfl) (fun _ _ _ h => h) (Or.inl ⟨by rfl, ?hy14⟩) hS12 ?_
          case hy14 => (intro w hSw; (try dsimp only at hSw); go_simp; try with_reducible rfl)
          try simp only [Act.put, List.setIfInBounds_toArray, List.set_cons_zero, List.set_cons_succ]
          refine wpAnyH_done (by kernel_rfl) ?_ _
          go_wp2_with fail
          go_ret
          exact ⟨by simp, A4.from (TT.out.trans (Ta.trans T2))⟩
        exact AllReadyH.nil
      exact AllReadyH.nil
    exact AllReadyH.nil
  exact AllReadyH.nil
set_option maxRecDepth 100000 in
set_option maxHeartbeats 8000000 in
theorem Two.does6 (h : Two w B R c s) {k a n : Int} (hk : restN k 10 = 6) :
    Calls Try.prog 13 #[.pointer (some ⟨B.l, 0, none⟩), .pointer (some ⟨R.r, 0, none⟩), .agg #[.int .i64 k, .int .i64 a, .int .i64 n]] w fun e w' => e = .returned (.bool true) ∧ Aft w B R c (Stp c s 6 (tailOf a n s.tail)) w' := by
  obtain ⟨W, hW⟩ : ∃ W, W = w.alloc (.cells #[.int .i64 k, .int .i64 a, .int .i64 n] 34) := ⟨_, rfl⟩
  have TW : Turn (fun _ => False) w W := by rw [hW]; exact (Turn.refl _ w).alloc _
  have Bk : Blk W w.heap.size 34 := by rw [hW]; exact Blk.new w [.int .i64 k, .int .i64 a, .int .i64 n] 34
  have C : W.rangeAt w.heap.size 0 [.int .i64 k, .int .i64 a, .int .i64 n] := by rw [hW]; exact range_new w [.int .i64 k, .int .i64 a, .int .i64 n] 34
  have hh := h.keep TW
  have x0 : W.cell? ⟨w.heap.size, 0, none⟩ = some (.int .i64 k) := C 0 _ rfl
  have x1 : W.cell? ⟨w.heap.size, 1, none⟩ = some (.int .i64 a) := C 1 _ rfl
  have x2 : W.cell? ⟨w.heap.size, 2, none⟩ = some (.int .i64 n) := C 2 _ rfl
  have noff := hh.off Bk (by decide) (by decide)
  have KS := Lib.hid (show ∀ W', Turn (TS B c.sh R.base W) W W' → W'.cell? ⟨w.heap.size, 0, none⟩ = some (.int .i64 k) ∧ W'.cell? ⟨w.heap.size, 1, none⟩ = some (.int .i64 a) ∧ W'.cell? ⟨w.heap.size, 2, none⟩ = some (.int .i64 n) from fun W' T => ⟨T.cell noff x0, T.cell noff x1, T.cell noff x2⟩)
  obtain ⟨q5, hq5⟩ : ∃ q : Int, (restN a 5 : Int) = q := ⟨_, rfl⟩
  have A5 := Lib.hid (show ∀ w, Calls Try.prog 20 #[.int .i64 a, .int .i64 5] w fun e w' => e = .returned (.int .i64 q5) ∧ w = w' from fun w => by rw [← hq5]; exact rest_is w a (n := 5) (by decide) (by decide))
  have A10 := Lib.hid (show ∀ w, Calls Try.prog 20 #[.int .i64 k, .int .i64 10] w fun e w' => e = .returned (.int .i64 6) ∧ w = w' from fun w => by have := rest_is w k (n := 10) (by decide) (by decide); rw [hk] at this; exact this)
  have l5 := restN_lt a (n := 5) (by decide)
  have e5 : wrap64 (q5 - 1) = q5 - 1 := by unfold wrap64; omega
  have HH := Lib.hid hh
  have TT := Lib.hid TW
  have ht := h.tail
  have hlt := h.I.lt
  obtain ⟨qn, hqn⟩ : ∃ q : Int, (restN n 5 : Int) = q := ⟨_, rfl⟩
  have An := Lib.hid (show ∀ w, Calls Try.prog 20 #[.int .i64 n, .int .i64 5] w fun e w' => e = .returned (.int .i64 qn) ∧ w = w' from fun w => by rw [← hqn]; exact rest_is w n (n := 5) (by decide) (by decide))
  have TK := Lib.hid (hh.leave (q5 - 1) 6 (tailOf a n s.tail))
  clear hqn ht hlt
  clear Bk C noff hq5 l5 hk hh h TW
  go_enter Try.func13, Try.ntmps13
  go_upto_region 1 with fail
  rw [← hW]
  clear hW
  generalize w.heap.size = b at *
  go_wp2_with fail
  with_reducible refine (A5.out _).mono ?_
  rintro e w1 ⟨rfl, rfl⟩
  go_wp2_with fail
  with_reducible refine (A10.out _).mono ?_
  rintro e w1 ⟨rfl, rfl⟩
  go_upto_region 16 with fail
  by_cases hz : qn = 0
  · have z1 : (qn != 0) = false := by simpa using hz
    clear hz
    go_wp2_with fail
    with_reducible refine (An.out _).mono ?_
    rintro e w1 ⟨rfl, rfl⟩
    go_wp2_with fail
    with_reducible refine TK.out.mono ?_
    rintro en W3 ⟨r, rfl, T3, NX⟩
    have NX := Lib.hid NX
    go_wp2_with fail
    with_reducible refine (NX.out _ (Turn.refl _ _)).mono ?_
    rintro en W4 ⟨rfl, A4⟩
    go_wp2_with fail
    go_ret
    exact ⟨by simp, A4.from TT.out⟩
  · have z1 : (qn != 0) = true := by simpa using hz
    clear hz
    go_wp2_with fail
    with_reducible refine (An.out _).mono ?_
    rintro e w1 ⟨rfl, rfl⟩
    go_wp2_with fail
    go_ret
    exact ⟨rfl, (show Aft W B R c (Stp c s 6 (tailOf a n s.tail)) W from HH.out.off_no (Turn.refl _ _) (Turn.refl _ _) (Turn.refl _ _) (Stp.same rfl rfl rfl)).from TT.out⟩
set_option maxRecDepth 100000 in
set_option maxHeartbeats 8000000 in
theorem Two.does7 (h : Two w B R c s) {k a n : Int} (hk : restN k 10 = 7) :
    Calls Try.prog 13 #[.pointer (some ⟨B.l, 0, none⟩), .pointer (some ⟨R.r, 0, none⟩), .agg #[.int .i64 k, .int .i64 a, .int .i64 n]] w fun e w' => e = .returned (.bool true) ∧ Aft w B R c (Stp c s 7 (tailOf a n s.tail)) w' := by
  obtain ⟨W, hW⟩ : ∃ W, W = w.alloc (.cells #[.int .i64 k, .int .i64 a, .int .i64 n] 34) := ⟨_, rfl⟩
  have TW : Turn (fun _ => False) w W := by rw [hW]; exact (Turn.refl _ w).alloc _
  have Bk : Blk W w.heap.size 34 := by rw [hW]; exact Blk.new w [.int .i64 k, .int .i64 a, .int .i64 n] 34
  have C : W.rangeAt w.heap.size 0 [.int .i64 k, .int .i64 a, .int .i64 n] := by rw [hW]; exact range_new w [.int .i64 k, .int .i64 a, .int .i64 n] 34
  have hh := h.keep TW
  have x0 : W.cell? ⟨w.heap.size, 0, none⟩ = some (.int .i64 k) := C 0 _ rfl
  have x1 : W.cell? ⟨w.heap.size, 1, none⟩ = some (.int .i64 a) := C 1 _ rfl
  have x2 : W.cell? ⟨w.heap.size, 2, none⟩ = some (.int .i64 n) := C 2 _ rfl
  have noff := hh.off Bk (by decide) (by decide)
  have KS := Lib.hid (show ∀ W', Turn (TS B c.sh R.base W) W W' → W'.cell? ⟨w.heap.size, 0, none⟩ = some (.int .i64 k) ∧ W'.cell? ⟨w.heap.size, 1, none⟩ = some (.int .i64 a) ∧ W'.cell? ⟨w.heap.size, 2, none⟩ = some (.int .i64 n) from fun W' T => ⟨T.cell noff x0, T.cell noff x1, T.cell noff x2⟩)
  obtain ⟨q5, hq5⟩ : ∃ q : Int, (restN a 5 : Int) = q := ⟨_, rfl⟩
  have A5 := Lib.hid (show ∀ w, Calls Try.prog 20 #[.int .i64 a, .int .i64 5] w fun e w' => e = .returned (.int .i64 q5) ∧ w = w' from fun w => by rw [← hq5]; exact rest_is w a (n := 5) (by decide) (by decide))
  have A10 := Lib.hid (show ∀ w, Calls Try.prog 20 #[.int .i64 k, .int .i64 10] w fun e w' => e = .returned (.int .i64 7) ∧ w = w' from fun w => by have := rest_is w k (n := 10) (by decide) (by decide); rw [hk] at this; exact this)
  have l5 := restN_lt a (n := 5) (by decide)
  have e5 : wrap64 (q5 - 1) = q5 - 1 := by unfold wrap64; omega
  have HH := Lib.hid hh
  have TT := Lib.hid TW
  have ht := h.tail
  have hlt := h.I.lt
  clear ht hlt
  clear Bk C noff hq5 l5 hk hh h TW
  go_enter Try.func13, Try.ntmps13
  go_upto_region 1 with fail
  rw [← hW]
  clear hW
  generalize w.heap.size = b at *
  go_wp2_with fail
  with_reducible refine (A5.out _).mono ?_
  rintro e w1 ⟨rfl, rfl⟩
  go_wp2_with fail
  with_reducible refine (A10.out _).mono ?_
  rintro e w1 ⟨rfl, rfl⟩
  have Ta : Turn (fun _ => False) W W.drew := (Turn.refl _ W).drewN 1
  have U0 : Turn (TS B c.sh R.base W) W W.drew := TS.no Ta
  have TK := Lib.hid ((HH.out.keep Ta).reply n (kk := 7) (by decide) (tailOf a n s.tail))
  go_upto_region 19 with fail
  refine wp_region_held_drew (S := (fun w' => w'.cell? ⟨b, 0, none⟩ = some (.int .i64 k) ∧ w'.cell? ⟨b, 1, none⟩ = some (.int .i64 a) ∧ w'.cell? ⟨b, 2, none⟩ = some (.int .i64 n))) (by kernel_rfl) ?hs0 (fun hS0 => ?_)
  case hs0 => ((try dsimp only); first | with_reducible exact KS.out _ U0 | with_reducible exact KS.out _ U3 | with_reducible exact KS.out _ U4 | exact KS.out _ U0 | exact KS.out _ U3 | exact KS.out _ U4)
  refine wpAnyH_take (i := 0) (oi := { dst := some 109, op := Op.move (Operand.tmp 0), type := 25, pos := "law.go:69", after := #[], guard := none }) (v := ?_) rfl (by kernel_rfl) (by kernel_rfl) (by kernel_rfl) (fun _ _ _ h => h) (Or.inl ⟨by rfl, ?hy1⟩) hS0 ?_
  case hy1 => (intro w hSw; (try dsimp only at hSw); go_simp; try with_reducible rfl)
  try simp only [Act.put, List.setIfInBounds_toArray, List.set_cons_zero, List.set_cons_succ]
  refine wpAnyH_take (i := 1) (oi := { dst := some 110, op := Op.fieldAddr 34 (Operand.tmp 5) 2, type := 0, pos := "law.go:69", after := #[], guard := none }) (v := ?_) rfl (by kernel_rfl) (by kernel_rfl) (by kernel_rfl) (fun _ _ _ h => h) (Or.inl ⟨by rfl, ?hy2⟩) hS0 ?_
  case hy2 => (intro w hSw; (try dsimp only at hSw); go_simp; try with_reducible rfl)
  try simp only [Act.put, List.setIfInBounds_toArray, List.set_cons_zero, List.set_cons_succ]
  refine wpAnyH_take (i := 2) (oi := { dst := some 111, op := Op.load 3 (Operand.tmp 110), type := 3, pos := "law.go:69", after := #[{ on := 1, ground := Ground.data }], guard := none }) (v := ?_) rfl (by kernel_rfl) (by kernel_rfl) (by kernel_rfl) (fun _ _ _ h => h) (Or.inl ⟨by rfl, ?hy3⟩) hS0 ?_
  case hy3 => (intro w hSw; (try dsimp only at hSw); go_simp; try with_reducible rfl)
  try simp only [Act.put, List.setIfInBounds_toArray, List.set_cons_zero, List.set_cons_succ]
  refine wpAnyH_take (i := 3) (oi := { dst := some 112, op := Op.build 67 #[(1, Operand.tmp 111)], type := 67, pos := "law.go:69", after := #[{ on := 2, ground := Ground.data }], guard := none }) (v := ?_) rfl (by kernel_rfl) (by kernel_rfl) (by kernel_rfl) (fun _ _ _ h => h) (Or.inl ⟨by rfl, ?hy4⟩) hS0 ?_
  case hy4 => (intro w hSw; (try dsimp only at hSw); go_simp; try with_reducible rfl)
  try simp only [Act.put, List.setIfInBounds_toArray, List.set_cons_zero, List.set_cons_succ]
  refine wpAnyH_take (i := 5) (oi := { dst := some 114, op := Op.move (Operand.tmp 1), type := 30, pos := "law.go:69", after := #[], guard := none }) (v := ?_) rfl (by kernel_rfl) (by kernel_rfl) (by kernel_rfl) (fun _ _ _ h => h) (Or.inl ⟨by rfl, ?hy5⟩) hS0 ?_
  case hy5 => (intro w hSw; (try dsimp only at hSw); go_simp; try with_reducible rfl)
  try simp only [Act.put, List.setIfInBounds_toArray, List.set_cons_zero, List.set_cons_succ]
  refine wpAnyH_take (i := 6) (oi := { dst := some 115, op := Op.fieldAddr 34 (Operand.tmp 5) 2, type := 0, pos := "law.go:69", after := #[], guard := none }) (v := ?_) rfl (by kernel_rfl) (by kernel_rfl) (by kernel_rfl) (fun _ _ _ h => h) (Or.inl ⟨by rfl, ?hy6⟩) hS0 ?_
  case hy6 => (intro w hSw; (try dsimp only at hSw); go_simp; try with_reducible rfl)
  try simp only [Act.put, List.setIfInBounds_toArray, List.set_cons_zero, List.set_cons_succ]
  refine wpAnyH_take (i := 7) (oi := { dst := some 116, op := Op.load 3 (Operand.tmp 115), type := 3, pos := "law.go:69", after := #[{ on := 6, ground := Ground.data }], guard := none }) (v := ?_) rfl (by kernel_rfl) (by kernel_rfl) (by kernel_rfl) (fun _ _ _ h => h) (Or.inl ⟨by rfl, ?hy7⟩) hS0 ?_
  case hy7 => (intro w hSw; (try dsimp only at hSw); go_simp; try with_reducible rfl)
  try simp only [Act.put, List.setIfInBounds_toArray, List.set_cons_zero, List.set_cons_succ]
  refine wpAnyH_take (i := 8) (oi := { dst := some 117, op := Op.build 67 #[(1, Operand.tmp 116)], type := 67, pos := "law.go:69", after := #[{ on := 7, ground := Ground.data }], guard := none }) (v := ?_) rfl (by kernel_rfl) (by kernel_rfl) (by kernel_rfl) (fun _ _ _ h => h) (Or.inl ⟨by rfl, ?hy8⟩) hS0 ?_
  case hy8 => (intro w hSw; (try dsimp only at hSw); go_simp; try with_reducible rfl)
  try simp only [Act.put, List.setIfInBounds_toArray, List.set_cons_zero, List.set_cons_succ]
  refine wpAnyH_ready (rs := [4]) (by kernel_rfl) (by simp) ?_
  refine AllReadyH.cons (o := { dst := some 113, op := Op.call { callee := Callee.value (Operand.func 25), args := #[Operand.tmp 109, Operand.tmp 112], argTypes := #[25, 67] }, type := 4, pos := "law.go:69", after := #[{ on := 0, ground := Ground.data }, { on := 3, ground := Ground.data }], guard := none }) rfl (fun K hK => ?_) ?_
  · go_simp; with_reducible refine TK.out.mono ?_; rintro en W3 ⟨r, rfl, T3, NX⟩; have NX := Lib.hid NX; have U3 := TS.trans U0 T3; go_simp
    refine hK.out _ _ ?hs9 (fun hS9 => ?_)
    case hs9 => ((try dsimp only); first | with_reducible exact KS.out _ U0 | with_reducible exact KS.out _ U3 | with_reducible exact KS.out _ U4 | exact KS.out _ U0 | exact KS.out _ U3 | exact KS.out _ U4)
    clear hK K hS0
    refine wpAnyH_ready (rs := [9]) (by kernel_rfl) (by simp) ?_
    refine AllReadyH.cons (o := { dst := some 118, op := Op.call { callee := Callee.value (Operand.func 43), args := #[Operand.tmp 114, Operand.tmp 117], argTypes := #[30, 67] }, type := 4, pos := "law.go:69", after := #[{ on := 5, ground := Ground.data }, { on := 8, ground := Ground.data }, { on := 4, ground := Ground.chain }], guard := none }) rfl (fun K hK => ?_) ?_
    · go_simp; with_reducible refine (NX.out _ (Turn.refl _ _)).mono ?_; rintro en W4 ⟨rfl, A4⟩; have U4 := TS.trans U0 A4.turn; go_simp
      refine hK.out _ _ ?hs10 (fun hS10 => ?_)
      case hs10 => ((try dsimp only); first | with_reducible exact KS.out _ U0 | with_reducible exact KS.out _ U3 | with_reducible exact KS.out _ U4 | exact KS.out _ U0 | exact KS.out _ U3 | exact KS.out _ U4)
      clear hK K hS9
      refine wpAnyH_take (i := 10) (oi := { dst := some 119, op := Op.binOp BinOp.eql 4 (Operand.tmp 113) (Operand.tmp 118) 4, type := 4, pos := "law.go:69", after := #[{ on := 4, ground := Ground.data }, { on := 9, ground := Ground.data }], guard := none }) (v := ?_) rfl (by kernel_rfl) (by kernel_rfl) (by kernel_rfl) (fun _ _ _ h => h) (Or.inl ⟨by rfl, ?hy11⟩) hS10 ?_
      case hy11 => (intro w hSw; (try dsimp only at hSw); go_simp; try with_reducible rfl)
      try simp only [Act.put, List.setIfInBounds_toArray, List.set_cons_zero, List.set_cons_succ]
      refine wpAnyH_take (i := 11) (oi := { dst := some 6, op := Op.assign (Operand.tmp 119), type := 4, pos := "law.go:69", after := #[{ on := 10, ground := Ground.data }, { on := 9, ground := Ground.chain }, { on := 0, ground := Ground.phase }, { on := 1, ground := Ground.phase }, { on := 2, ground := Ground.phase }, { on := 3, ground := Ground.phase }, { on := 4, ground := Ground.phase }, { on := 5, ground := Ground.phase }, { on := 6, ground := Ground.phase }, { on := 7, ground := Ground.phase }, { on := 8, ground := Ground.phase }, { on := 9, ground := Ground.phase }, { on := 10, ground := Ground.phase }], guard := none }) (v := ?_) rfl (by kernel_rfl) (by kernel_rfl) (by kernel_rfl) (fun _ _ _ h => h) (Or.inl ⟨by rfl, ?hy12⟩) hS10 ?_
      case hy12 => (intro w hSw; (try dsimp only at hSw); go_simp; try with_reducible rfl)
      try simp only [Act.put, List.setIfInBounds_toArray, List.set_cons_zero, List.set_cons_succ]
      refine wpAnyH_done (by kernel_rfl) ?_ _
      go_wp2_with fail
      go_ret
      exact ⟨by simp, A4.from (TT.out.trans Ta)⟩
    exact AllReadyH.nil
  exact AllReadyH.nil
set_option maxRecDepth 100000 in
set_option maxHeartbeats 8000000 in
theorem Two.does8 (h : Two w B R c s) {k a n : Int} (hk : restN k 10 = 8) :
    Calls Try.prog 13 #[.pointer (some ⟨B.l, 0, none⟩), .pointer (some ⟨R.r, 0, none⟩), .agg #[.int .i64 k, .int .i64 a, .int .i64 n]] w fun e w' => e = .returned (.bool true) ∧ Aft w B R c (Stp c s 8 (tailOf a n s.tail)) w' := by
  obtain ⟨W, hW⟩ : ∃ W, W = w.alloc (.cells #[.int .i64 k, .int .i64 a, .int .i64 n] 34) := ⟨_, rfl⟩
  have TW : Turn (fun _ => False) w W := by rw [hW]; exact (Turn.refl _ w).alloc _
  have Bk : Blk W w.heap.size 34 := by rw [hW]; exact Blk.new w [.int .i64 k, .int .i64 a, .int .i64 n] 34
  have C : W.rangeAt w.heap.size 0 [.int .i64 k, .int .i64 a, .int .i64 n] := by rw [hW]; exact range_new w [.int .i64 k, .int .i64 a, .int .i64 n] 34
  have hh := h.keep TW
  have x0 : W.cell? ⟨w.heap.size, 0, none⟩ = some (.int .i64 k) := C 0 _ rfl
  have x1 : W.cell? ⟨w.heap.size, 1, none⟩ = some (.int .i64 a) := C 1 _ rfl
  have x2 : W.cell? ⟨w.heap.size, 2, none⟩ = some (.int .i64 n) := C 2 _ rfl
  have noff := hh.off Bk (by decide) (by decide)
  have KS := Lib.hid (show ∀ W', Turn (TS B c.sh R.base W) W W' → W'.cell? ⟨w.heap.size, 0, none⟩ = some (.int .i64 k) ∧ W'.cell? ⟨w.heap.size, 1, none⟩ = some (.int .i64 a) ∧ W'.cell? ⟨w.heap.size, 2, none⟩ = some (.int .i64 n) from fun W' T => ⟨T.cell noff x0, T.cell noff x1, T.cell noff x2⟩)
  obtain ⟨q5, hq5⟩ : ∃ q : Int, (restN a 5 : Int) = q := ⟨_, rfl⟩
  have A5 := Lib.hid (show ∀ w, Calls Try.prog 20 #[.int .i64 a, .int .i64 5] w fun e w' => e = .returned (.int .i64 q5) ∧ w = w' from fun w => by rw [← hq5]; exact rest_is w a (n := 5) (by decide) (by decide))
  have A10 := Lib.hid (show ∀ w, Calls Try.prog 20 #[.int .i64 k, .int .i64 10] w fun e w' => e = .returned (.int .i64 8) ∧ w = w' from fun w => by have := rest_is w k (n := 10) (by decide) (by decide); rw [hk] at this; exact this)
  have l5 := restN_lt a (n := 5) (by decide)
  have e5 : wrap64 (q5 - 1) = q5 - 1 := by unfold wrap64; omega
  have HH := Lib.hid hh
  have TT := Lib.hid TW
  have ht := h.tail
  have hlt := h.I.lt
  clear ht hlt
  clear Bk C noff hq5 l5 hk hh h TW
  go_enter Try.func13, Try.ntmps13
  go_upto_region 1 with fail
  rw [← hW]
  clear hW
  generalize w.heap.size = b at *
  go_wp2_with fail
  with_reducible refine (A5.out _).mono ?_
  rintro e w1 ⟨rfl, rfl⟩
  go_wp2_with fail
  with_reducible refine (A10.out _).mono ?_
  rintro e w1 ⟨rfl, rfl⟩
  have Ta : Turn (fun _ => False) W W.drew := (Turn.refl _ W).drewN 1
  have U0 : Turn (TS B c.sh R.base W) W W.drew := TS.no Ta
  have TK := Lib.hid ((HH.out.keep Ta).reply n (kk := 8) (by decide) (tailOf a n s.tail))
  go_upto_region 19 with fail
  refine wp_region_held_drew (S := (fun w' => w'.cell? ⟨b, 0, none⟩ = some (.int .i64 k) ∧ w'.cell? ⟨b, 1, none⟩ = some (.int .i64 a) ∧ w'.cell? ⟨b, 2, none⟩ = some (.int .i64 n))) (by kernel_rfl) ?hs0 (fun hS0 => ?_)
  case hs0 => ((try dsimp only); first | with_reducible exact KS.out _ U0 | with_reducible exact KS.out _ U3 | with_reducible exact KS.out _ U4 | exact KS.out _ U0 | exact KS.out _ U3 | exact KS.out _ U4)
  refine wpAnyH_take (i := 0) (oi := { dst := some 109, op := Op.move (Operand.tmp 0), type := 25, pos := "law.go:69", after := #[], guard := none }) (v := ?_) rfl (by kernel_rfl) (by kernel_rfl) (by kernel_rfl) (fun _ _ _ h => h) (Or.inl ⟨by rfl, ?hy1⟩) hS0 ?_
  case hy1 => (intro w hSw; (try dsimp only at hSw); go_simp; try with_reducible rfl)
  try simp only [Act.put, List.setIfInBounds_toArray, List.set_cons_zero, List.set_cons_succ]
  refine wpAnyH_take (i := 1) (oi := { dst := some 110, op := Op.fieldAddr 34 (Operand.tmp 5) 2, type := 0, pos := "law.go:69", after := #[], guard := none }) (v := ?_) rfl (by kernel_rfl) (by kernel_rfl) (by kernel_rfl) (fun _ _ _ h => h) (Or.inl ⟨by rfl, ?hy2⟩) hS0 ?_
  case hy2 => (intro w hSw; (try dsimp only at hSw); go_simp; try with_reducible rfl)
  try simp only [Act.put, List.setIfInBounds_toArray, List.set_cons_zero, List.set_cons_succ]
  refine wpAnyH_take (i := 2) (oi := { dst := some 111, op := Op.load 3 (Operand.tmp 110), type := 3, pos := "law.go:69", after := #[{ on := 1, ground := Ground.data }], guard := none }) (v := ?_) rfl (by kernel_rfl) (by kernel_rfl) (by kernel_rfl) (fun _ _ _ h => h) (Or.inl ⟨by rfl, ?hy3⟩) hS0 ?_
  case hy3 => (intro w hSw; (try dsimp only at hSw); go_simp; try with_reducible rfl)
  try simp only [Act.put, List.setIfInBounds_toArray, List.set_cons_zero, List.set_cons_succ]
  refine wpAnyH_take (i := 3) (oi := { dst := some 112, op := Op.build 67 #[(1, Operand.tmp 111)], type := 67, pos := "law.go:69", after := #[{ on := 2, ground := Ground.data }], guard := none }) (v := ?_) rfl (by kernel_rfl) (by kernel_rfl) (by kernel_rfl) (fun _ _ _ h => h) (Or.inl ⟨by rfl, ?hy4⟩) hS0 ?_
  case hy4 => (intro w hSw; (try dsimp only at hSw); go_simp; try with_reducible rfl)
  try simp only [Act.put, List.setIfInBounds_toArray, List.set_cons_zero, List.set_cons_succ]
  refine wpAnyH_take (i := 5) (oi := { dst := some 114, op := Op.move (Operand.tmp 1), type := 30, pos := "law.go:69", after := #[], guard := none }) (v := ?_) rfl (by kernel_rfl) (by kernel_rfl) (by kernel_rfl) (fun _ _ _ h => h) (Or.inl ⟨by rfl, ?hy5⟩) hS0 ?_
  case hy5 => (intro w hSw; (try dsimp only at hSw); go_simp; try with_reducible rfl)
  try simp only [Act.put, List.setIfInBounds_toArray, List.set_cons_zero, List.set_cons_succ]
  refine wpAnyH_take (i := 6) (oi := { dst := some 115, op := Op.fieldAddr 34 (Operand.tmp 5) 2, type := 0, pos := "law.go:69", after := #[], guard := none }) (v := ?_) rfl (by kernel_rfl) (by kernel_rfl) (by kernel_rfl) (fun _ _ _ h => h) (Or.inl ⟨by rfl, ?hy6⟩) hS0 ?_
  case hy6 => (intro w hSw; (try dsimp only at hSw); go_simp; try with_reducible rfl)
  try simp only [Act.put, List.setIfInBounds_toArray, List.set_cons_zero, List.set_cons_succ]
  refine wpAnyH_take (i := 7) (oi := { dst := some 116, op := Op.load 3 (Operand.tmp 115), type := 3, pos := "law.go:69", after := #[{ on := 6, ground := Ground.data }], guard := none }) (v := ?_) rfl (by kernel_rfl) (by kernel_rfl) (by kernel_rfl) (fun _ _ _ h => h) (Or.inl ⟨by rfl, ?hy7⟩) hS0 ?_
  case hy7 => (intro w hSw; (try dsimp only at hSw); go_simp; try with_reducible rfl)
  try simp only [Act.put, List.setIfInBounds_toArray, List.set_cons_zero, List.set_cons_succ]
  refine wpAnyH_take (i := 8) (oi := { dst := some 117, op := Op.build 67 #[(1, Operand.tmp 116)], type := 67, pos := "law.go:69", after := #[{ on := 7, ground := Ground.data }], guard := none }) (v := ?_) rfl (by kernel_rfl) (by kernel_rfl) (by kernel_rfl) (fun _ _ _ h => h) (Or.inl ⟨by rfl, ?hy8⟩) hS0 ?_
  case hy8 => (intro w hSw; (try dsimp only at hSw); go_simp; try with_reducible rfl)
  try simp only [Act.put, List.setIfInBounds_toArray, List.set_cons_zero, List.set_cons_succ]
  refine wpAnyH_ready (rs := [4]) (by kernel_rfl) (by simp) ?_
  refine AllReadyH.cons (o := { dst := some 113, op := Op.call { callee := Callee.value (Operand.func 25), args := #[Operand.tmp 109, Operand.tmp 112], argTypes := #[25, 67] }, type := 4, pos := "law.go:69", after := #[{ on := 0, ground := Ground.data }, { on := 3, ground := Ground.data }], guard := none }) rfl (fun K hK => ?_) ?_
  · go_simp; with_reducible refine TK.out.mono ?_; rintro en W3 ⟨r, rfl, T3, NX⟩; have NX := Lib.hid NX; have U3 := TS.trans U0 T3; go_simp
    refine hK.out _ _ ?hs9 (fun hS9 => ?_)
    case hs9 => ((try dsimp only); first | with_reducible exact KS.out _ U0 | with_reducible exact KS.out _ U3 | with_reducible exact KS.out _ U4 | exact KS.out _ U0 | exact KS.out _ U3 | exact KS.out _ U4)
    clear hK K hS0
    refine wpAnyH_ready (rs := [9]) (by kernel_rfl) (by simp) ?_
    refine AllReadyH.cons (o := { dst := some 118, op := Op.call { callee := Callee.value (Operand.func 43), args := #[Operand.tmp 114, Operand.tmp 117], argTypes := #[30, 67] }, type := 4, pos := "law.go:69", after := #[{ on := 5, ground := Ground.data }, { on := 8, ground := Ground.data }, { on := 4, ground := Ground.chain }], guard := none }) rfl (fun K hK => ?_) ?_
    · go_simp; with_reducible refine (NX.out _ (Turn.refl _ _)).mono ?_; rintro en W4 ⟨rfl, A4⟩; have U4 := TS.trans U0 A4.turn; go_simp
      refine hK.out _ _ ?hs10 (fun hS10 => ?_)
      case hs10 => ((try dsimp only); first | with_reducible exact KS.out _ U0 | with_reducible exact KS.out _ U3 | with_reducible exact KS.out _ U4 | exact KS.out _ U0 | exact KS.out _ U3 | exact KS.out _ U4)
      clear hK K hS9
      refine wpAnyH_take (i := 10) (oi := { dst := some 119, op := Op.binOp BinOp.eql 4 (Operand.tmp 113) (Operand.tmp 118) 4, type := 4, pos := "law.go:69", after := #[{ on := 4, ground := Ground.data }, { on := 9, ground := Ground.data }], guard := none }) (v := ?_) rfl (by kernel_rfl) (by kernel_rfl) (by kernel_rfl) (fun _ _ _ h => h) (Or.inl ⟨by rfl, ?hy11⟩) hS10 ?_
      case hy11 => (intro w hSw; (try dsimp only at hSw); go_simp; try with_reducible rfl)
      try simp only [Act.put, List.setIfInBounds_toArray, List.set_cons_zero, List.set_cons_succ]
      refine wpAnyH_take (i := 11) (oi := { dst := some 6, op := Op.assign (Operand.tmp 119), type := 4, pos := "law.go:69", after := #[{ on := 10, ground := Ground.data }, { on := 9, ground := Ground.chain }, { on := 0, ground := Ground.phase }, { on := 1, ground := Ground.phase }, { on := 2, ground := Ground.phase }, { on := 3, ground := Ground.phase }, { on := 4, ground := Ground.phase }, { on := 5, ground := Ground.phase }, { on := 6, ground := Ground.phase }, { on := 7, ground := Ground.phase }, { on := 8, ground := Ground.phase }, { on := 9, ground := Ground.phase }, { on := 10, ground := Ground.phase }], guard := none }) (v := ?_) rfl (by kernel_rfl) (by kernel_rfl) (by kernel_rfl) (fun _ _ _ h => h) (Or.inl ⟨by rfl, ?hy12⟩) hS10 ?_
      case hy12 => (intro w hSw; (try dsimp only at hSw); go_simp; try with_reducible rfl)
      try simp only [Act.put, List.setIfInBounds_toArray, List.set_cons_zero, List.set_cons_succ]
      refine wpAnyH_done (by kernel_rfl) ?_ _
      go_wp2_with fail
      go_ret
      exact ⟨by simp, A4.from (TT.out.trans Ta)⟩
    exact AllReadyH.nil
  exact AllReadyH.nil
set_option maxRecDepth 100000 in
set_option maxHeartbeats 8000000 in
theorem Two.does9 (h : Two w B R c s) {k a n : Int} (hk : restN k 10 = 9) :
    Calls Try.prog 13 #[.pointer (some ⟨B.l, 0, none⟩), .pointer (some ⟨R.r, 0, none⟩), .agg #[.int .i64 k, .int .i64 a, .int .i64 n]] w fun e w' => e = .returned (.bool true) ∧ Aft w B R c (Stp c s 9 (tailOf a n s.tail)) w' := by
  obtain ⟨W, hW⟩ : ∃ W, W = w.alloc (.cells #[.int .i64 k, .int .i64 a, .int .i64 n] 34) := ⟨_, rfl⟩
  have TW : Turn (fun _ => False) w W := by rw [hW]; exact (Turn.refl _ w).alloc _
  have Bk : Blk W w.heap.size 34 := by rw [hW]; exact Blk.new w [.int .i64 k, .int .i64 a, .int .i64 n] 34
  have C : W.rangeAt w.heap.size 0 [.int .i64 k, .int .i64 a, .int .i64 n] := by rw [hW]; exact range_new w [.int .i64 k, .int .i64 a, .int .i64 n] 34
  have hh := h.keep TW
  have x0 : W.cell? ⟨w.heap.size, 0, none⟩ = some (.int .i64 k) := C 0 _ rfl
  have x1 : W.cell? ⟨w.heap.size, 1, none⟩ = some (.int .i64 a) := C 1 _ rfl
  have x2 : W.cell? ⟨w.heap.size, 2, none⟩ = some (.int .i64 n) := C 2 _ rfl
  have noff := hh.off Bk (by decide) (by decide)
  have KS := Lib.hid (show ∀ W', Turn (TS B c.sh R.base W) W W' → W'.cell? ⟨w.heap.size, 0, none⟩ = some (.int .i64 k) ∧ W'.cell? ⟨w.heap.size, 1, none⟩ = some (.int .i64 a) ∧ W'.cell? ⟨w.heap.size, 2, none⟩ = some (.int .i64 n) from fun W' T => ⟨T.cell noff x0, T.cell noff x1, T.cell noff x2⟩)
  obtain ⟨q5, hq5⟩ : ∃ q : Int, (restN a 5 : Int) = q := ⟨_, rfl⟩
  have A5 := Lib.hid (show ∀ w, Calls Try.prog 20 #[.int .i64 a, .int .i64 5] w fun e w' => e = .returned (.int .i64 q5) ∧ w = w' from fun w => by rw [← hq5]; exact rest_is w a (n := 5) (by decide) (by decide))
  have A10 := Lib.hid (show ∀ w, Calls Try.prog 20 #[.int .i64 k, .int .i64 10] w fun e w' => e = .returned (.int .i64 9) ∧ w = w' from fun w => by have := rest_is w k (n := 10) (by decide) (by decide); rw [hk] at this; exact this)
  have l5 := restN_lt a (n := 5) (by decide)
  have e5 : wrap64 (q5 - 1) = q5 - 1 := by unfold wrap64; omega
  have HH := Lib.hid hh
  have TT := Lib.hid TW
  have ht := h.tail
  have hlt := h.I.lt
  obtain ⟨qa, hqa⟩ : ∃ q : Int, (restN a 25 : Int) = q := ⟨_, rfl⟩
  have Aa := Lib.hid (show ∀ w, Calls Try.prog 20 #[.int .i64 a, .int .i64 25] w fun e w' => e = .returned (.int .i64 qa) ∧ w = w' from fun w => by rw [← hqa]; exact rest_is w a (n := 25) (by decide) (by decide))
  have TK := Lib.hid (hh.answer (a := qa) (by rw [← hqa]; exact wf_small (by have := restN_lt a (n := 25) (by decide); omega)) 9 (tailOf a n s.tail))
  clear hqa ht hlt
  clear Bk C noff hq5 l5 hk hh h TW
  go_enter Try.func13, Try.ntmps13
  go_upto_region 1 with fail
  rw [← hW]
  clear hW
  generalize w.heap.size = b at *
  go_wp2_with fail
  with_reducible refine (A5.out _).mono ?_
  rintro e w1 ⟨rfl, rfl⟩
  go_wp2_with fail
  with_reducible refine (A10.out _).mono ?_
  rintro e w1 ⟨rfl, rfl⟩
  go_upto_region 20 with fail
  go_wp2_with fail
  with_reducible refine (Aa.out _).mono ?_
  rintro e w1 ⟨rfl, rfl⟩
  go_wp2_with fail
  with_reducible refine TK.out.mono ?_
  rintro en W3 ⟨e1, n1, r, rfl, T3, NX⟩
  have NX := Lib.hid NX
  obtain ⟨y0, y1, y2⟩ := KS.out _ T3
  clear x0 x1 x2
  dsimp only
  go_upto_region 21 with fail
  have TX : Turn (fun _ => False) W3 (W3.alloc (.cells #[.int .i64 e1, .int .i64 n1, .slice none 0 0] 67)) := (Turn.refl _ W3).alloc _
  have BX : Blk (W3.alloc (.cells #[.int .i64 e1, .int .i64 n1, .slice none 0 0] 67)) W3.heap.size 67 := Blk.new W3 [.int .i64 e1, .int .i64 n1, .slice none 0 0] 67
  have RX : (W3.alloc (.cells #[.int .i64 e1, .int .i64 n1, .slice none 0 0] 67)).rangeAt W3.heap.size 0 [.int .i64 e1, .int .i64 n1, .slice none 0 0] := range_new W3 [.int .i64 e1, .int .i64 n1, .slice none 0 0] 67
  have z1 := TX.cell (fun f => f) y1
  generalize W3.alloc (.cells #[.int .i64 e1, .int .i64 n1, .slice none 0 0] 67) = X at *
  generalize W3.heap.size = b11 at *
  have NY := Lib.hid (NX.out _ TX)
  clear TX y0 y1 y2 T3 TK NX
  go_wp2_with fail
  with_reducible refine (Aa.out _).mono ?_
  rintro e w1 ⟨rfl, rfl⟩
  go_wp2_with fail
  with_reducible refine NY.out.mono ?_
  rintro en W4 ⟨rfl, T4, A4⟩
  have nx : ¬ RS R.base X b11 := RS.ne BX (by decide) (by decide) (by decide) (by decide)
  have RY := range_turn RX T4 nx
  have TZ : Turn (fun _ => False) W4 (W4.alloc (.cells #[.int .i64 e1, .int .i64 n1, .slice none 0 0] 67)) := (Turn.refl _ W4).alloc _
  have RZ := range_turn RY TZ (fun f => f)
  have RW : (W4.alloc (.cells #[.int .i64 e1, .int .i64 n1, .slice none 0 0] 67)).rangeAt W4.heap.size 0 [.int .i64 e1, .int .i64 n1, .slice none 0 0] := range_new W4 [.int .i64 e1, .int .i64 n1, .slice none 0 0] 67
  have u0 : (W4.alloc (.cells #[.int .i64 e1, .int .i64 n1, .slice none 0 0] 67)).cell? ⟨b11, 0, none⟩ = some (.int .i64 e1) := RZ 0 _ rfl
  have u1 : (W4.alloc (.cells #[.int .i64 e1, .int .i64 n1, .slice none 0 0] 67)).cell? ⟨b11, 1, none⟩ = some (.int .i64 n1) := RZ 1 _ rfl
  have v0 : (W4.alloc (.cells #[.int .i64 e1, .int .i64 n1, .slice none 0 0] 67)).cell? ⟨W4.heap.size, 0, none⟩ = some (.int .i64 e1) := RW 0 _ rfl
  have v1 : (W4.alloc (.cells #[.int .i64 e1, .int .i64 n1, .slice none 0 0] 67)).cell? ⟨W4.heap.size, 1, none⟩ = some (.int .i64 n1) := RW 1 _ rfl
  have FIN : Hid (Aft w B R c (Stp c s 9 (tailOf a n s.tail)) (W4.alloc (.cells #[.int .i64 e1, .int .i64 n1, .slice none 0 0] 67))) := Lib.hid ((A4.onto TZ).from TT.out)
  dsimp only
  go_upto_region 22 with fail
  generalize W4.alloc (.cells #[.int .i64 e1, .int .i64 n1, .slice none 0 0] 67) = Z at *
  generalize W4.heap.size = b13 at *
  clear RX RY RZ RW TZ T4 A4 nx BX z1 NY
  go_wp2_with fail
  go_ret
  exact ⟨by simp, FIN.out⟩
theorem Two.does (h : Two w B R c s) (k a n : Int) :
    Calls Try.prog 13 #[.pointer (some ⟨B.l, 0, none⟩), .pointer (some ⟨R.r, 0, none⟩), .agg #[.int .i64 k, .int .i64 a, .int .i64 n]] w fun e w' => e = .returned (.bool true) ∧ Aft w B R c (Stp c s (restN k 10) (tailOf a n s.tail)) w' := by
  have hl := restN_lt k (n := 10) (by decide)
  obtain ⟨j, hj⟩ : ∃ j, restN k 10 = j := ⟨_, rfl⟩
  rw [hj] at hl ⊢
  have hj' : j = 0 ∨ j = 1 ∨ j = 2 ∨ j = 3 ∨ j = 4 ∨ j = 5 ∨ j = 6 ∨ j = 7 ∨ j = 8 ∨ j = 9 := by omega
  rcases hj' with rfl | rfl | rfl | rfl | rfl | rfl | rfl | rfl | rfl | rfl
  · exact h.does0 hj
  · exact h.does1 hj
  · exact h.does2 hj
  · exact h.does3 hj
  · exact h.does4 hj
  · exact h.does5 hj
  · exact h.does6 hj
  · exact h.does7 hj
  · exact h.does8 hj
  · exact h.does9 hj
end
end Go.Proofs.Yteokdibfdahabaa
