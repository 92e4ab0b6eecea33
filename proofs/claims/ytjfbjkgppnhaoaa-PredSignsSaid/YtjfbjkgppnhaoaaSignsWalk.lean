/-
  The walk of PredSigns.
-/
import Derived.Test.YtjfbjkgppnhaoaaArgX
import Derived.Deep.RegionHeld3
namespace Go.Proofs.Ytjfbjkgppnhaoaa
open Go.ChangeShapes Go.WideShapes Go.ChangeAt Go.RowKit
set_option linter.unusedVariables false

theorem EnvAt.cnt_in {w : World} {a : Option Addr} {m : Nat} {v : Env} (h : EnvAt w a m v) (p : Int) : 0 ≤ v.cnt p ∧ v.cnt p ≤ 1000 := by
  by_cases hp : p < 0 ∨ (m : Int) ≤ p
  · rw [h.out p hp]
    decide
  · obtain ⟨k, rfl⟩ : ∃ k : Nat, p = (k : Int) := ⟨p.toNat, by omega⟩
    obtain ⟨g, ea, n, c, _, _, e3, e4⟩ := h.at_ k (by omega)
    have := e4.le
    rw [e3]
    omega
theorem lit_apart (W : World) (q : Nat) (e : (Value.slice (some ⟨W.heap.size, 0, none⟩) 0 0).ownBlock = some q) (hq : (Value.slice (some ⟨W.heap.size + 1, 0, none⟩) 4 4).ownBlock = some q) : False := by
  simp [Value.ownBlock] at e hq
  omega
set_option maxRecDepth 100000 in
set_option maxHeartbeats 8000000 in
theorem signs_walk (a0 : Option Addr) (len0 cap0 : Nat) (a1 : Option Addr) (len1 cap1 : Nat) (by_ : Int) (w : World) (hst : StepsX w a0 len0) (hrw : ∃ L X, RowsX w a1 len1 L X ∧ ∀ r c, r < len1 → c < L r → I64 (X r c)) :
    Calls Try.prog 6 #[.slice a0 len0 cap0, .slice a1 len1 cap1, .int .i64 by_] w fun e w' => e = .returned (.bool true) ∧ Below w.heap.size w w' := by
  obtain ⟨L, X, hR, hX⟩ := hrw
  obtain ⟨cs, hc12, hcn, hcall⟩ := codes_any_x hst
  have AW := Lib.hid (pred_awake w)
  have HR := Lib.hid hR
  have HC := Lib.hid hcall
  have HX := Lib.hid (And.intro hX hcn)
  clear hR hX hcn hcall hst
  go_enter Try.func6, Try.ntmps6
  go_wp2_with fail
  refine AW.out.mono ?_
  rintro e w1 ⟨rfl, b1⟩
  have SS := Lib.hid (sets_any_x HR.out b1 cap1)
  have B1 := Lib.hid b1
  clear b1 AW
  go_wp2_with fail
  refine SS.out.mono ?_
  rintro e w2 ⟨v, us, rfl, hs, hlen, hmade, b2⟩
  obtain ⟨a, c2, rfl, hE⟩ := hs.env
  have m4 := hs.m4
  have B2 := Lib.hid ((B1.out).trans (b2.mono B1.out.size))
  have CC := Lib.hid (HC.out w2 cap0 B2.out)
  have E2 := Lib.hid hE
  have EI := Lib.hid (fun p f => env_in HX.out.1 p f)
  clear hs hlen hmade b2 hE SS
  generalize envOf (lsOf len1 L X) = env at *
  generalize us.length = m at *
  go_wp2_with fail
  refine CC.out.mono ?_
  rintro e w3 ⟨v3, rfl, hrow, b3⟩
  have B3 := Lib.hid ((B2.out).trans (b3.mono B2.out.size))
  have E3 := Lib.hid (E2.out.keep b3)
  obtain ⟨ad, cc, rfl, hC⟩ := codes_at hrow
  obtain ⟨x0, o0, hx0, hk0⟩ := eval_let E3.out hC rfl (by omega) cc c2
  have ROW := Lib.hid hrow
  have X0 := Lib.hid hx0
  have K0 := Lib.hid hk0
  clear hrow b3 CC hC hx0 hk0
  go_wp2_with fail
  refine K0.out.mono ?_
  rintro e w4 ⟨rfl, b4⟩
  have B4 := Lib.hid ((B3.out).trans (b4.mono B3.out.size))
  have E4 := Lib.hid (E3.out.keep b4)
  have ROW4 := Lib.hid (prow_keep (e := 0) ROW.out (fun q hq => b4.block q (prow_lt ROW.out hq).2))
  clear b4 K0
  have C0 := Lib.hid (CRow.empty w4)
  have ROW5 := Lib.hid (prow_keep (e := 0) ROW4.out (fun q hq => C0.out.bel.block q (prow_lt ROW4.out hq).2))
  obtain ⟨v5, w5, r5, c5⟩ := C0.out.app ROW5.out (by show 0 + _ ≤ _; omega)
  rw [List.nil_append] at c5
  have ROW6 := Lib.hid (prow_keep (e := 0) ROW4.out (fun q hq => c5.bel.block q (prow_lt ROW4.out hq).2))
  obtain ⟨v6, w6, r6, c6⟩ := c5.app ROW6.out (by omega)
  have LIT := Lib.hid (CRow.lit c6.bel [⟨2, 0, 0, 0⟩] (by decide))
  obtain ⟨v7, w7, r7, c7⟩ := (c6.alloc (.cells (ccells [⟨2, 0, 0, 0⟩]).toArray 54)).app LIT.out (by rw [List.length_append]; show _ + 1 ≤ _; omega)
  obtain ⟨ad7, n7, cap7, x1, o1, rfl, hx1, hk1⟩ := c7.eval E4.out (by simp; omega) c2
  have X1 := Lib.hid hx1
  have K1 := Lib.hid hk1
  have R5 := Lib.hid r5
  have R6 := Lib.hid r6
  have R7 := Lib.hid r7
  clear r5 r6 r7 hx1 hk1 c5 c6 c7 C0 LIT
  go_wp2_with (go_loud (at_builtin; first | (refine wpList_append_run rfl _ _ _ rfl rfl rfl R5.out ?_) | (refine wpList_append_run rfl _ _ _ rfl rfl rfl R6.out ?_) | (refine wpList_append_run rfl _ _ _ rfl rfl rfl R7.out ?_)))
  refine K1.out.mono ?_
  rintro e w8 ⟨rfl, b8⟩
  have B8 := Lib.hid ((B4.out).trans (b8.mono B4.out.size))
  have E8 := Lib.hid (E4.out.keep b8)
  have ROW8 := Lib.hid (prow_keep (e := 0) ROW4.out (fun q hq => b8.block q (prow_lt ROW4.out hq).2))
  clear b8 K1 R5 R6 R7 ROW6 ROW5
  have C8 := Lib.hid (CRow.empty w8)
  have ROW9 := Lib.hid (prow_keep (e := 0) ROW8.out (fun q hq => C8.out.bel.block q (prow_lt ROW8.out hq).2))
  obtain ⟨v9, w9, r9, c9⟩ := C8.out.app ROW9.out (by show 0 + _ ≤ _; omega)
  rw [List.nil_append] at c9
  have LIT := Lib.hid (CRow.lit c9.bel [⟨9, 0, 0, 0⟩, ⟨9, 0, 0, 0⟩] (by decide))
  obtain ⟨v10, w10, r10, c10⟩ := (c9.alloc (.cells (ccells [⟨9, 0, 0, 0⟩, ⟨9, 0, 0, 0⟩]).toArray 54)).app LIT.out (by show _ + 2 ≤ _; omega)
  obtain ⟨ad10, n10, cap10, x2, o2, rfl, hx2, hk2⟩ := c10.eval E8.out (by simp; omega) c2
  have X2 := Lib.hid hx2
  have K2 := Lib.hid hk2
  have R9 := Lib.hid r9
  have R10 := Lib.hid r10
  clear r9 r10 hx2 hk2 c9 c10 C8 LIT
  go_wp2_with (go_loud (at_builtin; first | (refine wpList_append_run rfl _ _ _ rfl rfl rfl R9.out ?_) | (refine wpList_append_run rfl _ _ _ rfl rfl rfl R10.out ?_)))
  refine K2.out.mono ?_
  rintro e w11 ⟨rfl, b11⟩
  have B11 := Lib.hid ((B8.out).trans (b11.mono B8.out.size))
  have E11 := Lib.hid (E8.out.keep b11)
  have ROW11 := Lib.hid (prow_keep (e := 0) ROW8.out (fun q hq => b11.block q (prow_lt ROW8.out hq).2))
  clear b11 K2 R9 R10 ROW9
  cases o0 with
  | false =>
    go_wp2_with fail
    go_ret
    exact ⟨rfl, B11.out⟩
  | true =>
    have ex : evalCd env cs = some x0 := by
      have := X0.out
      cases hq : evalCd env cs with
      | none => rw [hq] at this; exact absurd this.2 (by decide)
      | some y => rw [hq] at this; rw [this.1]; rfl
    have in0 := evalCd_in EI.out (fun p => by have := E4.out.cnt_in p; unfold I64; omega) HX.out.2 ex
    have e1 := X1.out
    rw [ev_zero ex] at e1
    obtain ⟨h1, h2⟩ := e1
    subst h1
    subst h2
    have e2 := X2.out
    rw [ev_twice ex in0.1 in0.2] at e2
    obtain ⟨h1, h2⟩ := e2
    subst h1
    subst h2
    obtain ⟨y7, R7, p1, p2, p3, p4, p5, p6, p7, p8, p9⟩ := rem_facts by_ 1000 (by decide) (by decide)
    have wk : wrap64 (1 + R7) = 1 + R7 := by unfold wrap64; omega
    go_wp2_with fail
    --REGION11
    have e3 := ev_back ex (1 + R7) (by omega)
    have hk1 : 1 + R7 ≤ 1000 := by omega
    generalize 1 + R7 = kk at *
    obtain ⟨y, hy, hback⟩ := e3
    have b0 := (B11.out.alloc B11.out.size (.cells #[.int .i64 6, .int .i64 kk, .string ⟨#[]⟩, .int .i64 0, .int .i64 0] 54))
    have EV := Lib.hid (E11.out.new (.cells #[.int .i64 6, .int .i64 kk, .string ⟨#[]⟩, .int .i64 0, .int .i64 0] 54))
    have RW := Lib.hid (ROW11.out.alloc (.cells #[.int .i64 6, .int .i64 kk, .string ⟨#[]⟩, .int .i64 0, .int .i64 0] 54))
    have c0 := World.cell?_alloc_new w11 #[.int .i64 6, .int .i64 kk, .string ⟨#[]⟩, .int .i64 0, .int .i64 0] 54 0
    have c1 := World.cell?_alloc_new w11 #[.int .i64 6, .int .i64 kk, .string ⟨#[]⟩, .int .i64 0, .int .i64 0] 54 1
    have c2' := World.cell?_alloc_new w11 #[.int .i64 6, .int .i64 kk, .string ⟨#[]⟩, .int .i64 0, .int .i64 0] 54 2
    have c3 := World.cell?_alloc_new w11 #[.int .i64 6, .int .i64 kk, .string ⟨#[]⟩, .int .i64 0, .int .i64 0] 54 3
    have c4 := World.cell?_alloc_new w11 #[.int .i64 6, .int .i64 kk, .string ⟨#[]⟩, .int .i64 0, .int .i64 0] 54 4
    simp only [List.getElem?_toArray, List.getElem?_cons_zero, List.getElem?_cons_succ] at c0 c1 c2' c3 c4
    have CELLS := Lib.hid (And.intro c0 (And.intro c1 (And.intro c2' (And.intro c3 c4))))
    have BW := Lib.hid b0
    clear b0
    generalize w11.alloc (.cells #[.int .i64 6, .int .i64 kk, .string ⟨#[]⟩, .int .i64 0, .int .i64 0] 54) = W at *
    generalize w11.heap.size = tb at *
    have HY := Lib.hid hy
    have HB := Lib.hid hback
    have EX := Lib.hid ex
    clear ex hy hback
    refine wp_region_held_drew (S := (fun w' => w'.cell? ⟨tb, 0, none⟩ = some (.int .i64 6) ∧ w'.cell? ⟨tb, 1, none⟩ = some (.int .i64 kk) ∧ w'.cell? ⟨tb, 2, none⟩ = some (.string ⟨#[]⟩) ∧ w'.cell? ⟨tb, 3, none⟩ = some (.int .i64 0) ∧ w'.cell? ⟨tb, 4, none⟩ = some (.int .i64 0))) (by kernel_rfl) ?hs0 (fun hS0 => ?_)
    case hs0 => ((try dsimp only); first | assumption | (go_keep; done) | (refine ⟨?_, ?_, ?_, ?_, ?_⟩ <;> first | assumption | (go_keep; done)))
    refine wpAnyH_take (i := 1) (oi := { dst := some 68, op := Op.move (Operand.tmp 9), type := 39, pos := "law.go:143", after := #[], guard := none }) (v := ?_) rfl (by kernel_rfl) (by kernel_rfl) (by kernel_rfl) (fun _ _ _ h => h) (Or.inl ⟨by rfl, ?hy1⟩) hS0 ?_
    case hy1 => (intro w hSw; (try dsimp only at hSw); go_simp; try with_reducible rfl)
    try simp only [Act.put, List.setIfInBounds_toArray, List.set_cons_zero, List.set_cons_succ]
    refine wpAnyH_take (i := 9) (oi := { dst := some 76, op := Op.move (Operand.tmp 8), type := 27, pos := "law.go:143", after := #[], guard := none }) (v := ?_) rfl (by kernel_rfl) (by kernel_rfl) (by kernel_rfl) (fun _ _ _ h => h) (Or.inl ⟨by rfl, ?hy2⟩) hS0 ?_
    case hy2 => (intro w hSw; (try dsimp only at hSw); go_simp; try with_reducible rfl)
    try simp only [Act.put, List.setIfInBounds_toArray, List.set_cons_zero, List.set_cons_succ]
    refine wpAnyH_take (i := 3) (oi := { dst := some 70, op := Op.load 54 (Operand.tmp 17), type := 54, pos := "law.go:143", after := #[], guard := none }) (v := ?_) rfl (by kernel_rfl) (by kernel_rfl) (by kernel_rfl) (fun _ _ _ h => h) (Or.inl ⟨by rfl, ?hy3⟩) hS0 ?_
    case hy3 => (intro w hSw; (try dsimp only at hSw); go_simp; try with_reducible rfl)
    try simp only [Act.put, List.setIfInBounds_toArray, List.set_cons_zero, List.set_cons_succ]
    refine wpAnyH_take (i := 4) (oi := { dst := some 71, op := Op.build 54 #[(0, Operand.const (Value.int IntKind.i64 3))], type := 54, pos := "law.go:143", after := #[], guard := none }) (v := ?_) rfl (by kernel_rfl) (by kernel_rfl) (by kernel_rfl) (fun _ _ _ h => h) (Or.inl ⟨by rfl, ?hy4⟩) hS0 ?_
    case hy4 => (intro w hSw; (try dsimp only at hSw); go_simp; try with_reducible rfl)
    try simp only [Act.put, List.setIfInBounds_toArray, List.set_cons_zero, List.set_cons_succ]
    refine wpAnyH_take (i := 5) (oi := { dst := some 72, op := Op.load 54 (Operand.tmp 17), type := 54, pos := "law.go:143", after := #[], guard := none }) (v := ?_) rfl (by kernel_rfl) (by kernel_rfl) (by kernel_rfl) (fun _ _ _ h => h) (Or.inl ⟨by rfl, ?hy5⟩) hS0 ?_
    case hy5 => (intro w hSw; (try dsimp only at hSw); go_simp; try with_reducible rfl)
    try simp only [Act.put, List.setIfInBounds_toArray, List.set_cons_zero, List.set_cons_succ]
    refine wpAnyH_take (i := 6) (oi := { dst := some 73, op := Op.build 54 #[(0, Operand.const (Value.int IntKind.i64 4))], type := 54, pos := "law.go:143", after := #[], guard := none }) (v := ?_) rfl (by kernel_rfl) (by kernel_rfl) (by kernel_rfl) (fun _ _ _ h => h) (Or.inl ⟨by rfl, ?hy6⟩) hS0 ?_
    case hy6 => (intro w hSw; (try dsimp only at hSw); go_simp; try with_reducible rfl)
    try simp only [Act.put, List.setIfInBounds_toArray, List.set_cons_zero, List.set_cons_succ]
    refine wpAnyH_ready (rs := [0, 7]) (by kernel_rfl) (by simp) ?_
    refine AllReadyH.cons (o := { dst := some 67, op := Op.buildSlice 39 0 #[], type := 39, pos := "law.go:143", after := #[], guard := none }) rfl (fun K hK => ?_) ?_
    · go_simp
      refine hK.out _ _ ?hs7 (fun hS7 => ?_)
      case hs7 => ((try dsimp only); first | assumption | (go_keep; done) | (refine ⟨?_, ?_, ?_, ?_, ?_⟩ <;> first | assumption | (go_keep; done)))
      clear hK K hS0
      refine wpAnyH_ready (rs := [2, 7]) (by kernel_rfl) (by simp) ?_
      refine AllReadyH.cons (o := { dst := some 69, op := Op.call { callee := Callee.builtin Builtin.append, args := #[Operand.tmp 67, Operand.tmp 68], argTypes := #[39, 39] }, type := 39, pos := "law.go:143", after := #[{ on := 0, ground := Ground.data }, { on := 1, ground := Ground.data }], guard := none }) rfl (fun K hK => ?_) ?_
      · have C0 := (CRow.empty W).drew; obtain ⟨vA, wA, rA, cA⟩ := C0.app (prow_keep (e := 0) RW.out (fun q hq => C0.bel.block q (prow_lt RW.out hq).2)) (by show 0 + _ ≤ _; omega); rw [List.nil_append] at cA; have sK := keep5 cA.bel CELLS.out; obtain ⟨c0, c1, c2', c3, c4⟩ := sK; refine step_append_run (by rfl) _ _ _ (by rfl) (by rfl) (by rfl) rA ?_
        refine hK.out _ _ ?hs8 (fun hS8 => ?_)
        case hs8 => ((try dsimp only); first | assumption | (go_keep; done) | (refine ⟨?_, ?_, ?_, ?_, ?_⟩ <;> first | assumption | (go_keep; done)))
        clear hK K hS7
        refine wpAnyH_ready (rs := [7]) (by kernel_rfl) (by simp) ?_
        refine AllReadyH.cons (o := { dst := some 74, op := Op.buildSlice 39 4 #[(0, Operand.tmp 70), (1, Operand.tmp 71), (2, Operand.tmp 72), (3, Operand.tmp 73)], type := 39, pos := "law.go:143", after := #[{ on := 3, ground := Ground.data }, { on := 4, ground := Ground.data }, { on := 5, ground := Ground.data }, { on := 6, ground := Ground.data }], guard := none }) rfl (fun K hK => ?_) ?_
        · go_simp
          refine hK.out _ _ ?hs9 (fun hS9 => ?_)
          case hs9 => ((try dsimp only); first | assumption | (go_keep; done) | (refine ⟨?_, ?_, ?_, ?_, ?_⟩ <;> first | assumption | (go_keep; done)))
          clear hK K hS8
          refine wpAnyH_ready (rs := [8]) (by kernel_rfl) (by simp) ?_
          refine AllReadyH.cons (o := { dst := some 75, op := Op.call { callee := Callee.builtin Builtin.append, args := #[Operand.tmp 69, Operand.tmp 74], argTypes := #[39, 39] }, type := 39, pos := "law.go:143", after := #[{ on := 2, ground := Ground.data }, { on := 7, ground := Ground.data }, { on := 2, ground := Ground.chain }], guard := none }) rfl (fun K hK => ?_) ?_
          · obtain ⟨vB, wB, rB, cB⟩ := (cA.alloc (.cells (ccells [⟨6, kk, 0, 0⟩, ⟨3, 0, 0, 0⟩, ⟨6, kk, 0, 0⟩, ⟨4, 0, 0, 0⟩]).toArray 54)).app (CRow.lit cA.bel [⟨6, kk, 0, 0⟩, ⟨3, 0, 0, 0⟩, ⟨6, kk, 0, 0⟩, ⟨4, 0, 0, 0⟩] (by show 4 ≤ 1000; decide)) (by show _ + 4 ≤ _; omega); obtain ⟨aB, nB, capB, xB, oB, rfl, hxB, hkB⟩ := cB.eval EV.out (by simp; omega) c2; have HK := Lib.hid hkB; have HXB := Lib.hid hxB; clear hkB hxB; have sK := keep5 cB.bel CELLS.out; obtain ⟨c0, c1, c2', c3, c4⟩ := sK; refine step_append_run (by rfl) _ _ _ (by rfl) (by rfl) (by rfl) rB ?_
            refine hK.out _ _ ?hs10 (fun hS10 => ?_)
            case hs10 => ((try dsimp only); first | assumption | (go_keep; done) | (refine ⟨?_, ?_, ?_, ?_, ?_⟩ <;> first | assumption | (go_keep; done)))
            clear hK K hS9
            refine wpAnyH_ready (rs := [10]) (by kernel_rfl) (by simp) ?_
            refine AllReadyH.cons (o := { dst := some 77, op := Op.call { callee := Callee.value (Operand.func 23), args := #[Operand.tmp 75, Operand.tmp 76], argTypes := #[39, 27] }, type := 45, pos := "law.go:143", after := #[{ on := 8, ground := Ground.data }, { on := 9, ground := Ground.data }, { on := 8, ground := Ground.chain }], guard := none }) rfl (fun K hK => ?_) ?_
            · go_simp; refine HK.out.mono ?_; rintro e wE ⟨rfl, bE⟩; have bE' := bE; have sK := keep5 bE' CELLS.out; obtain ⟨c0, c1, c2', c3, c4⟩ := sK; have BE := Lib.hid (BW.out.trans (bE'.mono BW.out.size)); clear bE bE'; go_simp
              refine hK.out _ _ ?hs11 (fun hS11 => ?_)
              case hs11 => ((try dsimp only); first | assumption | (go_keep; done) | (refine ⟨?_, ?_, ?_, ?_, ?_⟩ <;> first | assumption | (go_keep; done)))
              clear hK K hS10
              refine wpAnyH_take (i := 11) (oi := { dst := some 66, op := Op.move (Operand.tmp 77), type := 45, pos := "law.go:143", after := #[{ on := 10, ground := Ground.data }], guard := none }) (v := ?_) rfl (by kernel_rfl) (by kernel_rfl) (by kernel_rfl) (fun _ _ _ h => h) (Or.inl ⟨by rfl, ?hy12⟩) hS11 ?_
              case hy12 => (intro w hSw; (try dsimp only at hSw); go_simp; try with_reducible rfl)
              try simp only [Act.put, List.setIfInBounds_toArray, List.set_cons_zero, List.set_cons_succ]
              refine wpAnyH_take (i := 12) (oi := { dst := some 78, op := Op.extract (Operand.tmp 66) 0, type := 2, pos := "law.go:143", after := #[{ on := 11, ground := Ground.data }], guard := none }) (v := ?_) rfl (by kernel_rfl) (by kernel_rfl) (by kernel_rfl) (fun _ _ _ h => h) (Or.inl ⟨by rfl, ?hy13⟩) hS11 ?_
              case hy13 => (intro w hSw; (try dsimp only at hSw); go_simp; try with_reducible rfl)
              try simp only [Act.put, List.setIfInBounds_toArray, List.set_cons_zero, List.set_cons_succ]
              refine wpAnyH_take (i := 13) (oi := { dst := some 79, op := Op.extract (Operand.tmp 66) 1, type := 4, pos := "law.go:143", after := #[{ on := 11, ground := Ground.data }, { on := 14, ground := Ground.gcOnly Departure.lateStores }], guard := none }) (v := ?_) rfl (by kernel_rfl) (by kernel_rfl) (by kernel_rfl) (fun _ _ _ h => h) (Or.inl ⟨by rfl, ?hy14⟩) hS11 ?_
              case hy14 => (intro w hSw; (try dsimp only at hSw); go_simp; try with_reducible rfl)
              try simp only [Act.put, List.setIfInBounds_toArray, List.set_cons_zero, List.set_cons_succ]
              refine wpAnyH_take (i := 14) (oi := { dst := some 18, op := Op.assign (Operand.tmp 78), type := 2, pos := "law.go:143", after := #[{ on := 12, ground := Ground.data }, { on := 10, ground := Ground.chain }, { on := 0, ground := Ground.phase }, { on := 1, ground := Ground.phase }, { on := 2, ground := Ground.phase }, { on := 3, ground := Ground.phase }, { on := 4, ground := Ground.phase }, { on := 5, ground := Ground.phase }, { on := 6, ground := Ground.phase }, { on := 7, ground := Ground.phase }, { on := 8, ground := Ground.phase }, { on := 9, ground := Ground.phase }, { on := 10, ground := Ground.phase }, { on := 11, ground := Ground.phase }, { on := 12, ground := Ground.phase }, { on := 13, ground := Ground.textOnly Departure.lateStores }], guard := none }) (v := ?_) rfl (by kernel_rfl) (by kernel_rfl) (by kernel_rfl) (fun _ _ _ h => h) (Or.inl ⟨by rfl, ?hy15⟩) hS11 ?_
              case hy15 => (intro w hSw; (try dsimp only at hSw); go_simp; try with_reducible rfl)
              try simp only [Act.put, List.setIfInBounds_toArray, List.set_cons_zero, List.set_cons_succ]
              refine wpAnyH_take (i := 15) (oi := { dst := some 19, op := Op.assign (Operand.tmp 79), type := 4, pos := "law.go:143", after := #[{ on := 13, ground := Ground.data }, { on := 14, ground := Ground.chain }, { on := 0, ground := Ground.phase }, { on := 1, ground := Ground.phase }, { on := 2, ground := Ground.phase }, { on := 3, ground := Ground.phase }, { on := 4, ground := Ground.phase }, { on := 5, ground := Ground.phase }, { on := 6, ground := Ground.phase }, { on := 7, ground := Ground.phase }, { on := 8, ground := Ground.phase }, { on := 9, ground := Ground.phase }, { on := 10, ground := Ground.phase }, { on := 11, ground := Ground.phase }, { on := 12, ground := Ground.phase }, { on := 13, ground := Ground.phase }, { on := 14, ground := Ground.phase }], guard := none }) (v := ?_) rfl (by kernel_rfl) (by kernel_rfl) (by kernel_rfl) (fun _ _ _ h => h) (Or.inl ⟨by rfl, ?hy16⟩) hS11 ?_
              case hy16 => (intro w hSw; (try dsimp only at hSw); go_simp; try with_reducible rfl)
              try simp only [Act.put, List.setIfInBounds_toArray, List.set_cons_zero, List.set_cons_succ]
              refine wpAnyH_done (by kernel_rfl) ?_ _
              have hxB := HXB.out
              rw [HY.out] at hxB
              obtain ⟨h1, h2⟩ := hxB
              subst h1
              subst h2
              have hback := HB.out
              by_cases q1 : (1125899906842624 : Int) < x2
              · have g1 : decide ((1125899906842624 : Int) < x2) = true := by simpa using q1
                clear hback
                go_wp2_with fail
                go_ret
                exact ⟨rfl, BE.out⟩
              · have g1 : decide ((1125899906842624 : Int) < x2) = false := by simpa using q1
                by_cases q2 : x2 < (-1125899906842624 : Int)
                · have g2 : decide (x2 < (-1125899906842624 : Int)) = true := by simpa using q2
                  clear hback
                  go_wp2_with fail
                  go_ret
                  exact ⟨rfl, BE.out⟩
                · have g2 : decide (x2 < (-1125899906842624 : Int)) = false := by simpa using q2
                  obtain rfl := hback (by omega) (by omega) hk1
                  go_wp2_with fail
                  go_ret
                  exact ⟨rfl, BE.out⟩
            exact AllReadyH.nil
          exact AllReadyH.nil
        exact AllReadyH.nil
      refine AllReadyH.cons (o := { dst := some 74, op := Op.buildSlice 39 4 #[(0, Operand.tmp 70), (1, Operand.tmp 71), (2, Operand.tmp 72), (3, Operand.tmp 73)], type := 39, pos := "law.go:143", after := #[{ on := 3, ground := Ground.data }, { on := 4, ground := Ground.data }, { on := 5, ground := Ground.data }, { on := 6, ground := Ground.data }], guard := none }) rfl (fun K hK => ?_) ?_
      · go_simp
        refine hK.out _ _ ?hs17 (fun hS17 => ?_)
        case hs17 => ((try dsimp only); first | assumption | (go_keep; done) | (refine ⟨?_, ?_, ?_, ?_, ?_⟩ <;> first | assumption | (go_keep; done)))
        clear hK K hS7
        refine wpAnyH_ready (rs := [2]) (by kernel_rfl) (by simp) ?_
        refine AllReadyH.cons (o := { dst := some 69, op := Op.call { callee := Callee.builtin Builtin.append, args := #[Operand.tmp 67, Operand.tmp 68], argTypes := #[39, 39] }, type := 39, pos := "law.go:143", after := #[{ on := 0, ground := Ground.data }, { on := 1, ground := Ground.data }], guard := none }) rfl (fun K hK => ?_) ?_
        · have C0 := (CRow.empty W).drew; have LT := CRow.lit C0.bel [⟨6, kk, 0, 0⟩, ⟨3, 0, 0, 0⟩, ⟨6, kk, 0, 0⟩, ⟨4, 0, 0, 0⟩] (by show 4 ≤ 1000; decide); rw [show (W.alloc (.cells #[] 54)).drew.heap.size = W.heap.size + 1 from World.size_alloc _ _] at LT; have C1 := C0.alloc (.cells (ccells [⟨6, kk, 0, 0⟩, ⟨3, 0, 0, 0⟩, ⟨6, kk, 0, 0⟩, ⟨4, 0, 0, 0⟩]).toArray 54); obtain ⟨vA, wA, rA, cA, gA⟩ := C1.app' (prow_keep (e := 0) RW.out (fun q hq => C1.bel.block q (prow_lt RW.out hq).2)) (by show 0 + _ ≤ _; omega); rw [List.nil_append] at cA; have LA := prow_keep (e := 0) LT (fun q hq => gA.block q (prow_lt LT hq).2 (fun e => lit_apart W q e.symm hq)); have sK := keep5 cA.bel CELLS.out; obtain ⟨c0, c1, c2', c3, c4⟩ := sK; refine step_append_run (by rfl) _ _ _ (by rfl) (by rfl) (by rfl) rA ?_
          refine hK.out _ _ ?hs18 (fun hS18 => ?_)
          case hs18 => ((try dsimp only); first | assumption | (go_keep; done) | (refine ⟨?_, ?_, ?_, ?_, ?_⟩ <;> first | assumption | (go_keep; done)))
          clear hK K hS17
          refine wpAnyH_ready (rs := [8]) (by kernel_rfl) (by simp) ?_
          refine AllReadyH.cons (o := { dst := some 75, op := Op.call { callee := Callee.builtin Builtin.append, args := #[Operand.tmp 69, Operand.tmp 74], argTypes := #[39, 39] }, type := 39, pos := "law.go:143", after := #[{ on := 2, ground := Ground.data }, { on := 7, ground := Ground.data }, { on := 2, ground := Ground.chain }], guard := none }) rfl (fun K hK => ?_) ?_
          · obtain ⟨vB, wB, rB, cB⟩ := cA.app LA (by show _ + 4 ≤ _; omega); obtain ⟨aB, nB, capB, xB, oB, rfl, hxB, hkB⟩ := cB.eval EV.out (by simp; omega) c2; have HK := Lib.hid hkB; have HXB := Lib.hid hxB; clear hkB hxB; have sK := keep5 cB.bel CELLS.out; obtain ⟨c0, c1, c2', c3, c4⟩ := sK; refine step_append_run (by rfl) _ _ _ (by rfl) (by rfl) (by rfl) rB ?_
            refine hK.out _ _ ?hs19 (fun hS19 => ?_)
            case hs19 => ((try dsimp only); first | assumption | (go_keep; done) | (refine ⟨?_, ?_, ?_, ?_, ?_⟩ <;> first | assumption | (go_keep; done)))
            clear hK K hS18
            refine wpAnyH_ready (rs := [10]) (by kernel_rfl) (by simp) ?_
            refine AllReadyH.cons (o := { dst := some 77, op := Op.call { callee := Callee.value (Operand.func 23), args := #[Operand.tmp 75, Operand.tmp 76], argTypes := #[39, 27] }, type := 45, pos := "law.go:143", after := #[{ on := 8, ground := Ground.data }, { on := 9, ground := Ground.data }, { on := 8, ground := Ground.chain }], guard := none }) rfl (fun K hK => ?_) ?_
            · go_simp; refine HK.out.mono ?_; rintro e wE ⟨rfl, bE⟩; have bE' := bE; have sK := keep5 bE' CELLS.out; obtain ⟨c0, c1, c2', c3, c4⟩ := sK; have BE := Lib.hid (BW.out.trans (bE'.mono BW.out.size)); clear bE bE'; go_simp
              refine hK.out _ _ ?hs20 (fun hS20 => ?_)
              case hs20 => ((try dsimp only); first | assumption | (go_keep; done) | (refine ⟨?_, ?_, ?_, ?_, ?_⟩ <;> first | assumption | (go_keep; done)))
              clear hK K hS19
              refine wpAnyH_take (i := 11) (oi := { dst := some 66, op := Op.move (Operand.tmp 77), type := 45, pos := "law.go:143", after := #[{ on := 10, ground := Ground.data }], guard := none }) (v := ?_) rfl (by kernel_rfl) (by kernel_rfl) (by kernel_rfl) (fun _ _ _ h => h) (Or.inl ⟨by rfl, ?hy21⟩) hS20 ?_
              case hy21 => (intro w hSw; (try dsimp only at hSw); go_simp; try with_reducible rfl)
              try simp only [Act.put, List.setIfInBounds_toArray, List.set_cons_zero, List.set_cons_succ]
              refine wpAnyH_take (i := 12) (oi := { dst := some 78, op := Op.extract (Operand.tmp 66) 0, type := 2, pos := "law.go:143", after := #[{ on := 11, ground := Ground.data }], guard := none }) (v := ?_) rfl (by kernel_rfl) (by kernel_rfl) (by kernel_rfl) (fun _ _ _ h => h) (Or.inl ⟨by rfl, ?hy22⟩) hS20 ?_
              case hy22 => (intro w hSw; (try dsimp only at hSw); go_simp; try with_reducible rfl)
              try simp only [Act.put, List.setIfInBounds_toArray, List.set_cons_zero, List.set_cons_succ]
              refine wpAnyH_take (i := 13) (oi := { dst := some 79, op := Op.extract (Operand.tmp 66) 1, type := 4, pos := "law.go:143", after := #[{ on := 11, ground := Ground.data }, { on := 14, ground := Ground.gcOnly Departure.lateStores }], guard := none }) (v := ?_) rfl (by kernel_rfl) (by kernel_rfl) (by kernel_rfl) (fun _ _ _ h => h) (Or.inl ⟨by rfl, ?hy23⟩) hS20 ?_
              case hy23 => (intro w hSw; (try dsimp only at hSw); go_simp; try with_reducible rfl)
              try simp only [Act.put, List.setIfInBounds_toArray, List.set_cons_zero, List.set_cons_succ]
              refine wpAnyH_take (i := 14) (oi := { dst := some 18, op := Op.assign (Operand.tmp 78), type := 2, pos := "law.go:143", after := #[{ on := 12, ground := Ground.data }, { on := 10, ground := Ground.chain }, { on := 0, ground := Ground.phase }, { on := 1, ground := Ground.phase }, { on := 2, ground := Ground.phase }, { on := 3, ground := Ground.phase }, { on := 4, ground := Ground.phase }, { on := 5, ground := Ground.phase }, { on := 6, ground := Ground.phase }, { on := 7, ground := Ground.phase }, { on := 8, ground := Ground.phase }, { on := 9, ground := Ground.phase }, { on := 10, ground := Ground.phase }, { on := 11, ground := Ground.phase }, { on := 12, ground := Ground.phase }, { on := 13, ground := Ground.textOnly Departure.lateStores }], guard := none }) (v := ?_) rfl (by kernel_rfl) (by kernel_rfl) (by kernel_rfl) (fun _ _ _ h => h) (Or.inl ⟨by rfl, ?hy24⟩) hS20 ?_
              case hy24 => (intro w hSw; (try dsimp only at hSw); go_simp; try with_reducible rfl)
              try simp only [Act.put, List.setIfInBounds_toArray, List.set_cons_zero, List.set_cons_succ]
              refine wpAnyH_take (i := 15) (oi := { dst := some 19, op := Op.assign (Operand.tmp 79), type := 4, pos := "law.go:143", after := #[{ on := 13, ground := Ground.data }, { on := 14, ground := Ground.chain }, { on := 0, ground := Ground.phase }, { on := 1, ground := Ground.phase }, { on := 2, ground := Ground.phase }, { on := 3, ground := Ground.phase }, { on := 4, ground := Ground.phase }, { on := 5, ground := Ground.phase }, { on := 6, ground := Ground.phase }, { on := 7, ground := Ground.phase }, { on := 8, ground := Ground.phase }, { on := 9, ground := Ground.phase }, { on := 10, ground := Ground.phase }, { on := 11, ground := Ground.phase }, { on := 12, ground := Ground.phase }, { on := 13, ground := Ground.phase }, { on := 14, ground := Ground.phase }], guard := none }) (v := ?_) rfl (by kernel_rfl) (by kernel_rfl) (by kernel_rfl) (fun _ _ _ h => h) (Or.inl ⟨by rfl, ?hy25⟩) hS20 ?_
              case hy25 => (intro w hSw; (try dsimp only at hSw); go_simp; try with_reducible rfl)
              try simp only [Act.put, List.setIfInBounds_toArray, List.set_cons_zero, List.set_cons_succ]
              refine wpAnyH_done (by kernel_rfl) ?_ _
              have hxB := HXB.out
              rw [HY.out] at hxB
              obtain ⟨h1, h2⟩ := hxB
              subst h1
              subst h2
              have hback := HB.out
              by_cases q1 : (1125899906842624 : Int) < x2
              · have g1 : decide ((1125899906842624 : Int) < x2) = true := by simpa using q1
                clear hback
                go_wp2_with fail
                go_ret
                exact ⟨rfl, BE.out⟩
              · have g1 : decide ((1125899906842624 : Int) < x2) = false := by simpa using q1
                by_cases q2 : x2 < (-1125899906842624 : Int)
                · have g2 : decide (x2 < (-1125899906842624 : Int)) = true := by simpa using q2
                  clear hback
                  go_wp2_with fail
                  go_ret
                  exact ⟨rfl, BE.out⟩
                · have g2 : decide (x2 < (-1125899906842624 : Int)) = false := by simpa using q2
                  obtain rfl := hback (by omega) (by omega) hk1
                  go_wp2_with fail
                  go_ret
                  exact ⟨rfl, BE.out⟩
            exact AllReadyH.nil
          exact AllReadyH.nil
        exact AllReadyH.nil
      exact AllReadyH.nil
    refine AllReadyH.cons (o := { dst := some 74, op := Op.buildSlice 39 4 #[(0, Operand.tmp 70), (1, Operand.tmp 71), (2, Operand.tmp 72), (3, Operand.tmp 73)], type := 39, pos := "law.go:143", after := #[{ on := 3, ground := Ground.data }, { on := 4, ground := Ground.data }, { on := 5, ground := Ground.data }, { on := 6, ground := Ground.data }], guard := none }) rfl (fun K hK => ?_) ?_
    · go_simp
      refine hK.out _ _ ?hs26 (fun hS26 => ?_)
      case hs26 => ((try dsimp only); first | assumption | (go_keep; done) | (refine ⟨?_, ?_, ?_, ?_, ?_⟩ <;> first | assumption | (go_keep; done)))
      clear hK K hS0
      refine wpAnyH_ready (rs := [0]) (by kernel_rfl) (by simp) ?_
      refine AllReadyH.cons (o := { dst := some 67, op := Op.buildSlice 39 0 #[], type := 39, pos := "law.go:143", after := #[], guard := none }) rfl (fun K hK => ?_) ?_
      · go_simp
        refine hK.out _ _ ?hs27 (fun hS27 => ?_)
        case hs27 => ((try dsimp only); first | assumption | (go_keep; done) | (refine ⟨?_, ?_, ?_, ?_, ?_⟩ <;> first | assumption | (go_keep; done)))
        clear hK K hS26
        refine wpAnyH_ready (rs := [2]) (by kernel_rfl) (by simp) ?_
        refine AllReadyH.cons (o := { dst := some 69, op := Op.call { callee := Callee.builtin Builtin.append, args := #[Operand.tmp 67, Operand.tmp 68], argTypes := #[39, 39] }, type := 39, pos := "law.go:143", after := #[{ on := 0, ground := Ground.data }, { on := 1, ground := Ground.data }], guard := none }) rfl (fun K hK => ?_) ?_
        · have LT0 := CRow.lit (Below.refl _ W) [⟨6, kk, 0, 0⟩, ⟨3, 0, 0, 0⟩, ⟨6, kk, 0, 0⟩, ⟨4, 0, 0, 0⟩] (by show 4 ≤ 1000; decide); have LT := (show (W.alloc (.cells (ccells [⟨6, kk, 0, 0⟩, ⟨3, 0, 0, 0⟩, ⟨6, kk, 0, 0⟩, ⟨4, 0, 0, 0⟩]).toArray 54)).drew.ownsRow W.heap.size 54 5 _ _ _ from LT0); have bL := ((Below.refl W.heap.size W).alloc (Nat.le_refl _) (.cells (ccells [⟨6, kk, 0, 0⟩, ⟨3, 0, 0, 0⟩, ⟨6, kk, 0, 0⟩, ⟨4, 0, 0, 0⟩]).toArray 54)).drew; have C0 := CRow.empty (W.alloc (.cells (ccells [⟨6, kk, 0, 0⟩, ⟨3, 0, 0, 0⟩, ⟨6, kk, 0, 0⟩, ⟨4, 0, 0, 0⟩]).toArray 54)).drew; rw [show (W.alloc (.cells (ccells [⟨6, kk, 0, 0⟩, ⟨3, 0, 0, 0⟩, ⟨6, kk, 0, 0⟩, ⟨4, 0, 0, 0⟩]).toArray 54)).drew.heap.size = W.heap.size + 1 from World.size_alloc _ _] at C0; have RL := prow_keep (e := 0) RW.out (fun q hq => bL.block q (prow_lt RW.out hq).2); obtain ⟨vA, wA, rA, cA⟩ := C0.app (prow_keep (e := 0) RL (fun q hq => C0.bel.block q (prow_lt RL hq).2)) (by show 0 + _ ≤ _; omega); rw [List.nil_append] at cA; have LA := prow_keep (e := 0) LT (fun q hq => cA.bel.block q (prow_lt LT hq).2); have sK := keep5 (bL.trans (cA.bel.mono bL.size)) CELLS.out; obtain ⟨c0, c1, c2', c3, c4⟩ := sK; refine step_append_run (by rfl) _ _ _ (by rfl) (by rfl) (by rfl) rA ?_
          refine hK.out _ _ ?hs28 (fun hS28 => ?_)
          case hs28 => ((try dsimp only); first | assumption | (go_keep; done) | (refine ⟨?_, ?_, ?_, ?_, ?_⟩ <;> first | assumption | (go_keep; done)))
          clear hK K hS27
          refine wpAnyH_ready (rs := [8]) (by kernel_rfl) (by simp) ?_
          refine AllReadyH.cons (o := { dst := some 75, op := Op.call { callee := Callee.builtin Builtin.append, args := #[Operand.tmp 69, Operand.tmp 74], argTypes := #[39, 39] }, type := 39, pos := "law.go:143", after := #[{ on := 2, ground := Ground.data }, { on := 7, ground := Ground.data }, { on := 2, ground := Ground.chain }], guard := none }) rfl (fun K hK => ?_) ?_
          · obtain ⟨vB, wB, rB, cB⟩ := cA.app LA (by show _ + 4 ≤ _; omega); obtain ⟨aB, nB, capB, xB, oB, rfl, hxB, hkB⟩ := cB.eval (EV.out.keep bL) (by simp; omega) c2; have HK := Lib.hid hkB; have HXB := Lib.hid hxB; clear hkB hxB; have sK := keep5 (bL.trans (cB.bel.mono bL.size)) CELLS.out; obtain ⟨c0, c1, c2', c3, c4⟩ := sK; refine step_append_run (by rfl) _ _ _ (by rfl) (by rfl) (by rfl) rB ?_
            refine hK.out _ _ ?hs29 (fun hS29 => ?_)
            case hs29 => ((try dsimp only); first | assumption | (go_keep; done) | (refine ⟨?_, ?_, ?_, ?_, ?_⟩ <;> first | assumption | (go_keep; done)))
            clear hK K hS28
            refine wpAnyH_ready (rs := [10]) (by kernel_rfl) (by simp) ?_
            refine AllReadyH.cons (o := { dst := some 77, op := Op.call { callee := Callee.value (Operand.func 23), args := #[Operand.tmp 75, Operand.tmp 76], argTypes := #[39, 27] }, type := 45, pos := "law.go:143", after := #[{ on := 8, ground := Ground.data }, { on := 9, ground := Ground.data }, { on := 8, ground := Ground.chain }], guard := none }) rfl (fun K hK => ?_) ?_
            · go_simp; refine HK.out.mono ?_; rintro e wE ⟨rfl, bE⟩; have bE' := bL.trans (bE.mono bL.size); have sK := keep5 bE' CELLS.out; obtain ⟨c0, c1, c2', c3, c4⟩ := sK; have BE := Lib.hid (BW.out.trans (bE'.mono BW.out.size)); clear bE bE'; go_simp
              refine hK.out _ _ ?hs30 (fun hS30 => ?_)
              case hs30 => ((try dsimp only); first | assumption | (go_keep; done) | (refine ⟨?_, ?_, ?_, ?_, ?_⟩ <;> first | assumption | (go_keep; done)))
              clear hK K hS29
              refine wpAnyH_take (i := 11) (oi := { dst := some 66, op := Op.move (Operand.tmp 77), type := 45, pos := "law.go:143", after := #[{ on := 10, ground := Ground.data }], guard := none }) (v := ?_) rfl (by kernel_rfl) (by kernel_rfl) (by kernel_rfl) (fun _ _ _ h => h) (Or.inl ⟨by rfl, ?hy31⟩) hS30 ?_
              case hy31 => (intro w hSw; (try dsimp only at hSw); go_simp; try with_reducible rfl)
              try simp only [Act.put, List.setIfInBounds_toArray, List.set_cons_zero, List.set_cons_succ]
              refine wpAnyH_take (i := 12) (oi := { dst := some 78, op := Op.extract (Operand.tmp 66) 0, type := 2, pos := "law.go:143", after := #[{ on := 11, ground := Ground.data }], guard := none }) (v := ?_) rfl (by kernel_rfl) (by kernel_rfl) (by kernel_rfl) (fun _ _ _ h => h) (Or.inl ⟨by rfl, ?hy32⟩) hS30 ?_
              case hy32 => (intro w hSw; (try dsimp only at hSw); go_simp; try with_reducible rfl)
              try simp only [Act.put, List.setIfInBounds_toArray, List.set_cons_zero, List.set_cons_succ]
              refine wpAnyH_take (i := 13) (oi := { dst := some 79, op := Op.extract (Operand.tmp 66) 1, type := 4, pos := "law.go:143", after := #[{ on := 11, ground := Ground.data }, { on := 14, ground := Ground.gcOnly Departure.lateStores }], guard := none }) (v := ?_) rfl (by kernel_rfl) (by kernel_rfl) (by kernel_rfl) (fun _ _ _ h => h) (Or.inl ⟨by rfl, ?hy33⟩) hS30 ?_
              case hy33 => (intro w hSw; (try dsimp only at hSw); go_simp; try with_reducible rfl)
              try simp only [Act.put, List.setIfInBounds_toArray, List.set_cons_zero, List.set_cons_succ]
              refine wpAnyH_take (i := 14) (oi := { dst := some 18, op := Op.assign (Operand.tmp 78), type := 2, pos := "law.go:143", after := #[{ on := 12, ground := Ground.data }, { on := 10, ground := Ground.chain }, { on := 0, ground := Ground.phase }, { on := 1, ground := Ground.phase }, { on := 2, ground := Ground.phase }, { on := 3, ground := Ground.phase }, { on := 4, ground := Ground.phase }, { on := 5, ground := Ground.phase }, { on := 6, ground := Ground.phase }, { on := 7, ground := Ground.phase }, { on := 8, ground := Ground.phase }, { on := 9, ground := Ground.phase }, { on := 10, ground := Ground.phase }, { on := 11, ground := Ground.phase }, { on := 12, ground := Ground.phase }, { on := 13, ground := Ground.textOnly Departure.lateStores }], guard := none }) (v := ?_) rfl (by kernel_rfl) (by kernel_rfl) (by kernel_rfl) (fun _ _ _ h => h) (Or.inl ⟨by rfl, ?hy34⟩) hS30 ?_
              case hy34 => (intro w hSw; (try dsimp only at hSw); go_simp; try with_reducible rfl)
              try simp only [Act.put, List.setIfInBounds_toArray, List.set_cons_zero, List.set_cons_succ]
              refine wpAnyH_take (i := 15) (oi := { dst := some 19, op := Op.assign (Operand.tmp 79), type := 4, pos := "law.go:143", after := #[{ on := 13, ground := Ground.data }, { on := 14, ground := Ground.chain }, { on := 0, ground := Ground.phase }, { on := 1, ground := Ground.phase }, { on := 2, ground := Ground.phase }, { on := 3, ground := Ground.phase }, { on := 4, ground := Ground.phase }, { on := 5, ground := Ground.phase }, { on := 6, ground := Ground.phase }, { on := 7, ground := Ground.phase }, { on := 8, ground := Ground.phase }, { on := 9, ground := Ground.phase }, { on := 10, ground := Ground.phase }, { on := 11, ground := Ground.phase }, { on := 12, ground := Ground.phase }, { on := 13, ground := Ground.phase }, { on := 14, ground := Ground.phase }], guard := none }) (v := ?_) rfl (by kernel_rfl) (by kernel_rfl) (by kernel_rfl) (fun _ _ _ h => h) (Or.inl ⟨by rfl, ?hy35⟩) hS30 ?_
              case hy35 => (intro w hSw; (try dsimp only at hSw); go_simp; try with_reducible rfl)
              try simp only [Act.put, List.setIfInBounds_toArray, List.set_cons_zero, List.set_cons_succ]
              refine wpAnyH_done (by kernel_rfl) ?_ _
              have hxB := HXB.out
              rw [HY.out] at hxB
              obtain ⟨h1, h2⟩ := hxB
              subst h1
              subst h2
              have hback := HB.out
              by_cases q1 : (1125899906842624 : Int) < x2
              · have g1 : decide ((1125899906842624 : Int) < x2) = true := by simpa using q1
                clear hback
                go_wp2_with fail
                go_ret
                exact ⟨rfl, BE.out⟩
              · have g1 : decide ((1125899906842624 : Int) < x2) = false := by simpa using q1
                by_cases q2 : x2 < (-1125899906842624 : Int)
                · have g2 : decide (x2 < (-1125899906842624 : Int)) = true := by simpa using q2
                  clear hback
                  go_wp2_with fail
                  go_ret
                  exact ⟨rfl, BE.out⟩
                · have g2 : decide (x2 < (-1125899906842624 : Int)) = false := by simpa using q2
                  obtain rfl := hback (by omega) (by omega) hk1
                  go_wp2_with fail
                  go_ret
                  exact ⟨rfl, BE.out⟩
            exact AllReadyH.nil
          exact AllReadyH.nil
        exact AllReadyH.nil
      exact AllReadyH.nil
    exact AllReadyH.nil

end Go.Proofs.Ytjfbjkgppnhaoaa
