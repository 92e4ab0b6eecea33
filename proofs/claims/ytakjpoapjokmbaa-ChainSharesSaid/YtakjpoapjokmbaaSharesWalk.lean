/-
  The walk of ChainShares.
-/
import Derived.Test.YtakjpoapjokmbaaRg
import Derived.Test.YtakjpoapjokmbaaIArg
import Derived.Deep.RegionHeld3
import Derived.Deep.DeepCutAuto
namespace Go.Proofs.Ytakjpoapjokmbaa
open Go.ChangeShapes Go.WideShapes Go.ChangeAt Go.RowKit
set_option linter.unusedVariables false

def ShRel (w : World) (c mb len : Nat) (gh : Nat) (v9 v10 v11 : Value) (wr : World) : Prop :=
  ∃ (i : Nat) (l : List Nd), AtV i v9 ∧ v10 = .int .i64 (i : Int) ∧ v11 = .int .i64 (i : Int) ∧ i ≤ len ∧ i ≤ 9 ∧ gh = 9 - i ∧ SSt w c mb i l wr
set_option maxRecDepth 100000 in
set_option maxHeartbeats 4000000 in
theorem shares_walk (ad : Option Addr) (b off len cap : Nat) (had : len = 0 ∨ ad = some ⟨b, off, none⟩) (X : Nat → Int) (a1 a2 : Int) (w : World) (hl : ∀ i, i < len → w.cell? ⟨b, off + i, none⟩ = some (.int .i64 (X i))) (hb : 0 < len → b < w.heap.size) (hlen : len ≤ 9223372036854775807) :
    Calls Try.prog 5 #[.slice ad len cap, .int .i64 a1, .int .i64 a2] w fun e w' => e = .returned (.bool true) ∧ Below w.heap.size w w' := by
  have H0 := Lib.hid (chain_awake w)
  have N := Lib.hid (fun w => new_at w)
  have AD := Lib.hid had
  clear had
  go_enter Try.func5, Try.ntmps5
  go_wp2_with fail
  refine H0.out.mono ?_
  rintro e w1 ⟨rfl, b1⟩
  go_wp2_with fail
  refine (N.out _).mono ?_
  rintro e w2 ⟨rfl, h2, b2⟩
  obtain ⟨c, hc⟩ : ∃ c, w1.heap.size + 1 = c := ⟨_, rfl⟩
  obtain ⟨mb, hmb⟩ : ∃ mb, w1.heap.size = mb := ⟨_, rfl⟩
  rw [hc] at h2 ⊢
  rw [hmb] at h2
  have z1 := b1.size
  have E := Lib.hid (show w.heap.size ≤ c ∧ w.heap.size ≤ mb from ⟨by omega, by omega⟩)
  have R0 : ShRel w c mb len 9 (.int .i64 (-1)) (.int .i64 0) (.int .i64 0) w2 :=
    ⟨0, [], .inl ⟨rfl, rfl⟩, rfl, rfl, Nat.zero_le _, Nat.zero_le _, rfl, SSt.start h2 (b1.trans (b2.mono b1.size))⟩
  clear b1 b2 h2 hc hmb z1 H0 N
  go_wp2_with fail
  go_loopg [9, 10, 11] 9 (fun gh v9 v10 v11 wr => ShRel w c mb len gh v9 v10 v11 wr)
  case atStart => exact R0
  case round =>
    clear R0
    obtain ⟨i, l, hat, rfl, rfl, hi, hi9, hg, hst⟩ := hrel
    by_cases hin : i < len ∧ i < 9
    · obtain ⟨hil, hi9'⟩ := hin
      obtain rfl := AD.out.resolve_left (by omega)
      have t1 : decide ((i : Int) < (len : Int)) = true := by simp; omega
      have t2 : decide ((i : Int) < 9) = true := by simp; omega
      obtain ⟨x, hx⟩ : ∃ x, X i = x := ⟨_, rfl⟩
      have x0 : wr.cell? ⟨b, off + i, none⟩ = some (.int .i64 x) := by
        rw [← hx]
        exact (hst.bel.cell (p := ⟨b, off + i, none⟩) (hb (by omega))).trans (hl i hil)
      have P := Lib.hid (hst.push (by omega) hat x E.out.1 E.out.2)
      have AT := Lib.hid (And.intro hat hg)
      clear hst hx hat hg hi9
      go_wp2_with fail
      refine P.out.mono ?_
      rintro e W1 ⟨rfl, l', h1⟩
      rcases AT.out.1 with ⟨hi0, hv⟩ | ⟨k, hk, hv⟩
      · subst hi0
        subst hv
        have h1 := Lib.hid h1.first
        go_wp2_with fail
        go_roundg 8
        case measure => have := AT.out.2; omega
        case rel => exact ⟨1, l', .inr ⟨0, rfl, rfl⟩, rfl, rfl, by omega, by omega, rfl, h1.out⟩
      · subst hk
        subst hv
        have t4 : decide ((0 : Int) ≤ (k : Int)) = true := by simp
        have D := Lib.hid (h1.drop (by omega) E.out.2)
        clear h1 P
        go_wp2_with fail
        refine D.out.mono ?_
        rintro e W2 ⟨v, rfl, h2⟩
        have h2 := Lib.hid h2
        clear D
        go_wp2_with fail
        go_roundg (9 - (k + 2))
        case measure => have := AT.out.2; omega
        case rel => exact ⟨k + 2, l', .inr ⟨k + 1, rfl, rfl⟩, by go_num, by go_num, by omega, by omega, rfl, h2.out⟩
    · have hst := Lib.hid hst
      have HI := Lib.hid (show i ≤ 9 from hi9)
      have NI := Lib.hid hin
      have hat := Lib.hid hat
      clear hl hb AD hg hi hi9 hin
      go_upto_region 6 with fail
      go_cut [35] (fun v35 wx => v35 = .bool false ∧ wx = wr)
      case first =>
        by_cases hil : i < len
        · have t1 : decide ((i : Int) < (len : Int)) = true := by simp; omega
          have t2 : decide ((i : Int) < 9) = false := by have := NI.out; simp; omega
          go_wp2_with fail
          go_meet
          case rel => exact ⟨rfl, rfl⟩
        · have t1 : decide ((i : Int) < (len : Int)) = false := by simp; omega
          go_wp2_with fail
          go_meet
          case rel => exact ⟨rfl, rfl⟩
      case rest =>
      obtain ⟨rfl, rfl⟩ := hcut
      rcases hat.out with ⟨hi0, hv⟩ | ⟨k, hk, hv⟩
      · subst hi0
        subst hv
        have BE := Lib.hid hst.out.bel
        go_wp2_with fail
        go_ret
        exact ⟨rfl, BE.out⟩
      · subst hk
        subst hv
        have hk9 : k < 9 := by have := HI.out; omega
        have t4 : decide ((k : Int) < 0) = false := by simp
        have h0 := hst.out.fork hk9
        have P := Lib.hid (h0.sets hk9)
        have h0 := Lib.hid h0
        have e0 : (((k + 1 : Nat)) : Int) = (k : Int) + 1 := by omega
        rw [e0]
        clear hat hst NI HI e0
        go_wp2_with fail
        refine P.out.mono ?_
        rintro e W1 ⟨vs, rfl, hs, hb1⟩
        obtain ⟨gs, cs, rfl, hg1, hg2⟩ := hs.lies (by simp)
        have hs : Sts W1 wc.heap.size (.slice (some ⟨gs, 0, none⟩) 1 cs) [l.map Nd.num] := hs
        have hd1 := h0.out.below hb1
        have hcm : c < wc.heap.size ∧ mb < wc.heap.size := by obtain ⟨_, _, _, h, _⟩ := h0.out.ch; exact h.lt
        have P1 := Lib.hid (hd1.push hk9 a1 E.out.1 E.out.2)
        have hs := Lib.hid hs
        have CM := Lib.hid hcm
        clear hd1 hb1 P h0 hg1 hg2 hcm
        simp only [List.length_singleton]
        go_wp2_with fail
        refine P1.out.mono ?_
        rintro e W2 ⟨rfl, h1, bt1⟩
        have hs2 := Lib.hid (hs.out.bt bt1 CM.out.1 CM.out.2)
        have P2 := Lib.hid (h1.push hk9 a2 E.out.1 E.out.2)
        clear h1 bt1 P1 hs
        go_wp2_with fail
        refine P2.out.mono ?_
        rintro e W3 ⟨rfl, h2, bt2⟩
        have hs3 := Lib.hid (hs2.out.bt bt2 CM.out.1 CM.out.2)
        have P3 := Lib.hid (h2.drop hk9 E.out.2)
        clear h2 bt2 P2 hs2
        go_wp2_with fail
        refine P3.out.mono ?_
        rintro e W4 ⟨vd, rfl, h3, bt3⟩
        have hs4 := hs3.out.bt bt3 CM.out.1 CM.out.2
        have hL := h3.many
        have SA : ∀ W', Below W4.heap.size W4 W' → Calls Try.prog 19 #[.pointer (some ⟨c, 0, none⟩), .int .i64 ((k : Int) + 1)] W' (GPost W' [l.map Nd.num, [a1]]) := fun W' hb => (h3.below hb).sets_a hk9
        have SB : ∀ W', Below W4.heap.size W4 W' → Calls Try.prog 19 #[.pointer (some ⟨c, 0, none⟩), .int .i64 ((k : Int) + 2)] W' (GPost W' [l.map Nd.num ++ [a2]]) := fun W' hb => (h3.below hb).sets_b hk9
        obtain ⟨L0, hL0⟩ : ∃ L0, l.map Nd.num = L0 := ⟨_, rfl⟩
        rw [hL0] at hs4 hL SA SB
        obtain ⟨g0, c0, q0, qi, hgs, hg0⟩ := hs4.head (by omega)
        have QI := Lib.hid (And.intro qi (And.intro hgs (And.intro hg0 hL)))
        have Q0 := Lib.hid (show W4.cell? ⟨gs, 0, none⟩ = some (.slice (some ⟨g0, 0, none⟩) (k + 1) c0) from by rw [← hL]; exact q0)
        rw [hL] at q0
        have SA := Lib.hid SA
        have SB := Lib.hid SB
        have H3 := Lib.hid h3
        have t5 : (((k : Int) + 1) != ((k : Int) + 1)) = false := by simp
        clear hs4 hL hL0 qi hgs hg0 h3 bt3 P3 hs3
        go_wp2_with fail
        go_upto_region 23 with fail
        go_cut [19] (fun v19 wx => v19 = .bool true ∧ Below W4.heap.size W4 wx)
        case first => as_aux_lemma =>
          have hR := Rg.start W4 [L0, [a1]]
          clear q0
          refine wp_region_held_drew (S := (fun w' => w'.cell? ⟨gs, 0, none⟩ = some (.slice (some ⟨g0, 0, none⟩) (k + 1) c0))) (by kernel_rfl) ?hs0 (fun hS0 => ?_)
          case hs0 => ((try dsimp only); first | exact hR.cell Q0.out QI.out.2.1 | exact (hR.cell (p := ⟨gs, 0, none⟩) QI.out.2.1).trans Q0.out)
          generalize W4.drew = WR at *
          refine wpAnyH_take (i := 0) (oi := { dst := some 104, op := Op.move (Operand.tmp 8), type := 24, pos := "law.go:186", after := #[], guard := none }) (v := ?_) rfl (by kernel_rfl) (by kernel_rfl) (by kernel_rfl) (fun _ _ _ h => h) (Or.inl ⟨by rfl, ?hy1⟩) hS0 ?_
          case hy1 => (intro w hSw; (try dsimp only at hSw); go_simp; try with_reducible rfl)
          try simp only [Act.put, List.setIfInBounds_toArray, List.set_cons_zero, List.set_cons_succ]
          refine wpAnyH_take (i := 1) (oi := { dst := some 105, op := Op.move (Operand.tmp 15), type := 3, pos := "law.go:186", after := #[], guard := none }) (v := ?_) rfl (by kernel_rfl) (by kernel_rfl) (by kernel_rfl) (fun _ _ _ h => h) (Or.inl ⟨by rfl, ?hy2⟩) hS0 ?_
          case hy2 => (intro w hSw; (try dsimp only at hSw); go_simp; try with_reducible rfl)
          try simp only [Act.put, List.setIfInBounds_toArray, List.set_cons_zero, List.set_cons_succ]
          refine wpAnyH_take (i := 3) (oi := { dst := some 107, op := Op.move (Operand.tmp 14), type := 49, pos := "law.go:186", after := #[], guard := none }) (v := ?_) rfl (by kernel_rfl) (by kernel_rfl) (by kernel_rfl) (fun _ _ _ h => h) (Or.inl ⟨by rfl, ?hy3⟩) hS0 ?_
          case hy3 => (intro w hSw; (try dsimp only at hSw); go_simp; try with_reducible rfl)
          try simp only [Act.put, List.setIfInBounds_toArray, List.set_cons_zero, List.set_cons_succ]
          refine wpAnyH_take (i := 4) (oi := { dst := some 108, op := Op.indexAddr 49 (Operand.tmp 107) (Operand.const (Value.int IntKind.i64 0)), type := 0, pos := "law.go:186", after := #[{ on := 3, ground := Ground.data }], guard := none }) (v := ?_) rfl (by kernel_rfl) (by kernel_rfl) (by kernel_rfl) (fun _ _ _ h => h) (Or.inl ⟨by rfl, ?hy4⟩) hS0 ?_
          case hy4 => (intro w hSw; (try dsimp only at hSw); go_simp; try with_reducible rfl)
          try simp only [Act.put, List.setIfInBounds_toArray, List.set_cons_zero, List.set_cons_succ]
          refine wpAnyH_take (i := 5) (oi := { dst := some 109, op := Op.load 46 (Operand.tmp 108), type := 46, pos := "law.go:186", after := #[{ on := 4, ground := Ground.data }], guard := none }) (v := ?_) rfl (by kernel_rfl) (by kernel_rfl) (by kernel_rfl) (fun _ _ _ h => h) (Or.inl ⟨by rfl, ?hy5⟩) hS0 ?_
          case hy5 => (intro w hSw; (try dsimp only at hSw); go_simp; try with_reducible rfl)
          try simp only [Act.put, List.setIfInBounds_toArray, List.set_cons_zero, List.set_cons_succ]
          refine wpAnyH_take (i := 6) (oi := { dst := some 110, op := Op.move (Operand.tmp 1), type := 3, pos := "law.go:186", after := #[], guard := none }) (v := ?_) rfl (by kernel_rfl) (by kernel_rfl) (by kernel_rfl) (fun _ _ _ h => h) (Or.inl ⟨by rfl, ?hy6⟩) hS0 ?_
          case hy6 => (intro w hSw; (try dsimp only at hSw); go_simp; try with_reducible rfl)
          try simp only [Act.put, List.setIfInBounds_toArray, List.set_cons_zero, List.set_cons_succ]
          refine wpAnyH_ready (rs := [2, 7]) (by kernel_rfl) (by simp) ?_
          refine AllReadyH.cons (o := { dst := some 106, op := Op.call { callee := Callee.value (Operand.func 19), args := #[Operand.tmp 104, Operand.tmp 105], argTypes := #[24, 3] }, type := 49, pos := "law.go:186", after := #[{ on := 0, ground := Ground.data }, { on := 1, ground := Ground.data }], guard := none }) rfl (fun K hK => ?_) ?_
          · go_simp; refine (hR.sets rfl (SA.out _ hR.b)).mono ?_; rintro e WR ⟨ad9, cap9, rfl, hR⟩; go_simp
            refine hK.out _ _ ?hs7 (fun hS7 => ?_)
            case hs7 => ((try dsimp only); first | exact hR.cell Q0.out QI.out.2.1 | exact (hR.cell (p := ⟨gs, 0, none⟩) QI.out.2.1).trans Q0.out)
            clear hK K hS0
            refine wpAnyH_ready (rs := [7]) (by kernel_rfl) (by simp) ?_
            refine AllReadyH.cons (o := { dst := some 111, op := Op.buildSlice 46 1 #[(0, Operand.tmp 110)], type := 46, pos := "law.go:186", after := #[{ on := 6, ground := Ground.data }], guard := none }) rfl (fun K hK => ?_) ?_
            · go_simp; have hR := hR.alloc (.cells #[.int .i64 a1] 3); generalize WR.heap.size = b7 at *; generalize WR.alloc (.cells #[.int .i64 a1] 3) = WR at *
              refine hK.out _ _ ?hs8 (fun hS8 => ?_)
              case hs8 => ((try dsimp only); first | exact hR.cell Q0.out QI.out.2.1 | exact (hR.cell (p := ⟨gs, 0, none⟩) QI.out.2.1).trans Q0.out)
              clear hK K hS7
              refine wpAnyH_ready (rs := [8]) (by kernel_rfl) (by simp) ?_
              refine AllReadyH.cons (o := { dst := some 112, op := Op.buildSlice 49 2 #[(0, Operand.tmp 109), (1, Operand.tmp 111)], type := 49, pos := "law.go:186", after := #[{ on := 5, ground := Ground.data }, { on := 7, ground := Ground.data }], guard := none }) rfl (fun K hK => ?_) ?_
              · go_simp; have hR := hR.alloc (.cells #[.slice (some ⟨g0, 0, none⟩) (k + 1) c0, .slice (some ⟨b7, 0, none⟩) 1 1] 46); generalize WR.heap.size = b8 at *; generalize WR.alloc (.cells #[.slice (some ⟨g0, 0, none⟩) (k + 1) c0, .slice (some ⟨b7, 0, none⟩) 1 1] 46) = WR at *
                refine hK.out _ _ ?hs9 (fun hS9 => ?_)
                case hs9 => ((try dsimp only); first | exact hR.cell Q0.out QI.out.2.1 | exact (hR.cell (p := ⟨gs, 0, none⟩) QI.out.2.1).trans Q0.out)
                clear hK K hS8
                refine wpAnyH_ready (rs := [9]) (by kernel_rfl) (by simp) ?_
                refine AllReadyH.cons (o := { dst := some 113, op := Op.call { callee := Callee.value (Operand.func 20), args := #[Operand.tmp 106, Operand.tmp 112], argTypes := #[49, 49] }, type := 3, pos := "law.go:186", after := #[{ on := 2, ground := Ground.data }, { on := 8, ground := Ground.data }, { on := 2, ground := Ground.chain }], guard := none }) rfl (fun K hK => ?_) ?_
                · go_simp; refine (hR.cmp_a QI.out.2.2.2 (by omega) QI.out.1 (b7 := b7) (b8 := b8) (c0 := c0) (by simp) (by simp)).mono ?_; rintro e WC ⟨rfl, hbc⟩; have hR := Rg.onward hR hbc; go_simp
                  refine hK.out _ _ ?hs10 (fun hS10 => ?_)
                  case hs10 => ((try dsimp only); first | exact hR.cell Q0.out QI.out.2.1 | exact (hR.cell (p := ⟨gs, 0, none⟩) QI.out.2.1).trans Q0.out)
                  clear hK K hS9
                  refine wpAnyH_take (i := 10) (oi := { dst := some 114, op := Op.binOp BinOp.eql 3 (Operand.tmp 113) (Operand.const (Value.int IntKind.i64 0)) 3, type := 4, pos := "law.go:186", after := #[{ on := 9, ground := Ground.data }], guard := none }) (v := ?_) rfl (by kernel_rfl) (by kernel_rfl) (by kernel_rfl) (fun _ _ _ h => h) (Or.inl ⟨by rfl, ?hy11⟩) hS10 ?_
                  case hy11 => (intro w hSw; (try dsimp only at hSw); go_simp; try with_reducible rfl)
                  try simp only [Act.put, List.setIfInBounds_toArray, List.set_cons_zero, List.set_cons_succ]
                  refine wpAnyH_take (i := 11) (oi := { dst := some 19, op := Op.assign (Operand.tmp 114), type := 4, pos := "law.go:186", after := #[{ on := 10, ground := Ground.data }, { on := 9, ground := Ground.chain }, { on := 0, ground := Ground.phase }, { on := 1, ground := Ground.phase }, { on := 2, ground := Ground.phase }, { on := 3, ground := Ground.phase }, { on := 4, ground := Ground.phase }, { on := 5, ground := Ground.phase }, { on := 6, ground := Ground.phase }, { on := 7, ground := Ground.phase }, { on := 8, ground := Ground.phase }, { on := 9, ground := Ground.phase }, { on := 10, ground := Ground.phase }], guard := none }) (v := ?_) rfl (by kernel_rfl) (by kernel_rfl) (by kernel_rfl) (fun _ _ _ h => h) (Or.inl ⟨by rfl, ?hy12⟩) hS10 ?_
                  case hy12 => (intro w hSw; (try dsimp only at hSw); go_simp; try with_reducible rfl)
                  try simp only [Act.put, List.setIfInBounds_toArray, List.set_cons_zero, List.set_cons_succ]
                  refine wpAnyH_done (by kernel_rfl) ?_ _
                  go_wp2_with fail
                  go_meet
                  case rel => exact ⟨rfl, hR⟩
                exact AllReadyH.nil
              exact AllReadyH.nil
            exact AllReadyH.nil
          refine AllReadyH.cons (o := { dst := some 111, op := Op.buildSlice 46 1 #[(0, Operand.tmp 110)], type := 46, pos := "law.go:186", after := #[{ on := 6, ground := Ground.data }], guard := none }) rfl (fun K hK => ?_) ?_
          · go_simp; have hR := hR.alloc (.cells #[.int .i64 a1] 3); generalize WR.heap.size = b7 at *; generalize WR.alloc (.cells #[.int .i64 a1] 3) = WR at *
            refine hK.out _ _ ?hs13 (fun hS13 => ?_)
            case hs13 => ((try dsimp only); first | exact hR.cell Q0.out QI.out.2.1 | exact (hR.cell (p := ⟨gs, 0, none⟩) QI.out.2.1).trans Q0.out)
            clear hK K hS0
            refine wpAnyH_ready (rs := [2, 8]) (by kernel_rfl) (by simp) ?_
            refine AllReadyH.cons (o := { dst := some 106, op := Op.call { callee := Callee.value (Operand.func 19), args := #[Operand.tmp 104, Operand.tmp 105], argTypes := #[24, 3] }, type := 49, pos := "law.go:186", after := #[{ on := 0, ground := Ground.data }, { on := 1, ground := Ground.data }], guard := none }) rfl (fun K hK => ?_) ?_
            · go_simp; refine (hR.sets rfl (SA.out _ hR.b)).mono ?_; rintro e WR ⟨ad9, cap9, rfl, hR⟩; go_simp
              refine hK.out _ _ ?hs14 (fun hS14 => ?_)
              case hs14 => ((try dsimp only); first | exact hR.cell Q0.out QI.out.2.1 | exact (hR.cell (p := ⟨gs, 0, none⟩) QI.out.2.1).trans Q0.out)
              clear hK K hS13
              refine wpAnyH_ready (rs := [8]) (by kernel_rfl) (by simp) ?_
              refine AllReadyH.cons (o := { dst := some 112, op := Op.buildSlice 49 2 #[(0, Operand.tmp 109), (1, Operand.tmp 111)], type := 49, pos := "law.go:186", after := #[{ on := 5, ground := Ground.data }, { on := 7, ground := Ground.data }], guard := none }) rfl (fun K hK => ?_) ?_
              · go_simp; have hR := hR.alloc (.cells #[.slice (some ⟨g0, 0, none⟩) (k + 1) c0, .slice (some ⟨b7, 0, none⟩) 1 1] 46); generalize WR.heap.size = b8 at *; generalize WR.alloc (.cells #[.slice (some ⟨g0, 0, none⟩) (k + 1) c0, .slice (some ⟨b7, 0, none⟩) 1 1] 46) = WR at *
                refine hK.out _ _ ?hs15 (fun hS15 => ?_)
                case hs15 => ((try dsimp only); first | exact hR.cell Q0.out QI.out.2.1 | exact (hR.cell (p := ⟨gs, 0, none⟩) QI.out.2.1).trans Q0.out)
                clear hK K hS14
                refine wpAnyH_ready (rs := [9]) (by kernel_rfl) (by simp) ?_
                refine AllReadyH.cons (o := { dst := some 113, op := Op.call { callee := Callee.value (Operand.func 20), args := #[Operand.tmp 106, Operand.tmp 112], argTypes := #[49, 49] }, type := 3, pos := "law.go:186", after := #[{ on := 2, ground := Ground.data }, { on := 8, ground := Ground.data }, { on := 2, ground := Ground.chain }], guard := none }) rfl (fun K hK => ?_) ?_
                · go_simp; refine (hR.cmp_a QI.out.2.2.2 (by omega) QI.out.1 (b7 := b7) (b8 := b8) (c0 := c0) (by simp) (by simp)).mono ?_; rintro e WC ⟨rfl, hbc⟩; have hR := Rg.onward hR hbc; go_simp
                  refine hK.out _ _ ?hs16 (fun hS16 => ?_)
                  case hs16 => ((try dsimp only); first | exact hR.cell Q0.out QI.out.2.1 | exact (hR.cell (p := ⟨gs, 0, none⟩) QI.out.2.1).trans Q0.out)
                  clear hK K hS15
                  refine wpAnyH_take (i := 10) (oi := { dst := some 114, op := Op.binOp BinOp.eql 3 (Operand.tmp 113) (Operand.const (Value.int IntKind.i64 0)) 3, type := 4, pos := "law.go:186", after := #[{ on := 9, ground := Ground.data }], guard := none }) (v := ?_) rfl (by kernel_rfl) (by kernel_rfl) (by kernel_rfl) (fun _ _ _ h => h) (Or.inl ⟨by rfl, ?hy17⟩) hS16 ?_
                  case hy17 => (intro w hSw; (try dsimp only at hSw); go_simp; try with_reducible rfl)
                  try simp only [Act.put, List.setIfInBounds_toArray, List.set_cons_zero, List.set_cons_succ]
                  refine wpAnyH_take (i := 11) (oi := { dst := some 19, op := Op.assign (Operand.tmp 114), type := 4, pos := "law.go:186", after := #[{ on := 10, ground := Ground.data }, { on := 9, ground := Ground.chain }, { on := 0, ground := Ground.phase }, { on := 1, ground := Ground.phase }, { on := 2, ground := Ground.phase }, { on := 3, ground := Ground.phase }, { on := 4, ground := Ground.phase }, { on := 5, ground := Ground.phase }, { on := 6, ground := Ground.phase }, { on := 7, ground := Ground.phase }, { on := 8, ground := Ground.phase }, { on := 9, ground := Ground.phase }, { on := 10, ground := Ground.phase }], guard := none }) (v := ?_) rfl (by kernel_rfl) (by kernel_rfl) (by kernel_rfl) (fun _ _ _ h => h) (Or.inl ⟨by rfl, ?hy18⟩) hS16 ?_
                  case hy18 => (intro w hSw; (try dsimp only at hSw); go_simp; try with_reducible rfl)
                  try simp only [Act.put, List.setIfInBounds_toArray, List.set_cons_zero, List.set_cons_succ]
                  refine wpAnyH_done (by kernel_rfl) ?_ _
                  go_wp2_with fail
                  go_meet
                  case rel => exact ⟨rfl, hR⟩
                exact AllReadyH.nil
              exact AllReadyH.nil
            refine AllReadyH.cons (o := { dst := some 112, op := Op.buildSlice 49 2 #[(0, Operand.tmp 109), (1, Operand.tmp 111)], type := 49, pos := "law.go:186", after := #[{ on := 5, ground := Ground.data }, { on := 7, ground := Ground.data }], guard := none }) rfl (fun K hK => ?_) ?_
            · go_simp; have hR := hR.alloc (.cells #[.slice (some ⟨g0, 0, none⟩) (k + 1) c0, .slice (some ⟨b7, 0, none⟩) 1 1] 46); generalize WR.heap.size = b8 at *; generalize WR.alloc (.cells #[.slice (some ⟨g0, 0, none⟩) (k + 1) c0, .slice (some ⟨b7, 0, none⟩) 1 1] 46) = WR at *
              refine hK.out _ _ ?hs19 (fun hS19 => ?_)
              case hs19 => ((try dsimp only); first | exact hR.cell Q0.out QI.out.2.1 | exact (hR.cell (p := ⟨gs, 0, none⟩) QI.out.2.1).trans Q0.out)
              clear hK K hS13
              refine wpAnyH_ready (rs := [2]) (by kernel_rfl) (by simp) ?_
              refine AllReadyH.cons (o := { dst := some 106, op := Op.call { callee := Callee.value (Operand.func 19), args := #[Operand.tmp 104, Operand.tmp 105], argTypes := #[24, 3] }, type := 49, pos := "law.go:186", after := #[{ on := 0, ground := Ground.data }, { on := 1, ground := Ground.data }], guard := none }) rfl (fun K hK => ?_) ?_
              · go_simp; refine (hR.sets rfl (SA.out _ hR.b)).mono ?_; rintro e WR ⟨ad9, cap9, rfl, hR⟩; go_simp
                refine hK.out _ _ ?hs20 (fun hS20 => ?_)
                case hs20 => ((try dsimp only); first | exact hR.cell Q0.out QI.out.2.1 | exact (hR.cell (p := ⟨gs, 0, none⟩) QI.out.2.1).trans Q0.out)
                clear hK K hS19
                refine wpAnyH_ready (rs := [9]) (by kernel_rfl) (by simp) ?_
                refine AllReadyH.cons (o := { dst := some 113, op := Op.call { callee := Callee.value (Operand.func 20), args := #[Operand.tmp 106, Operand.tmp 112], argTypes := #[49, 49] }, type := 3, pos := "law.go:186", after := #[{ on := 2, ground := Ground.data }, { on := 8, ground := Ground.data }, { on := 2, ground := Ground.chain }], guard := none }) rfl (fun K hK => ?_) ?_
                · go_simp; refine (hR.cmp_a QI.out.2.2.2 (by omega) QI.out.1 (b7 := b7) (b8 := b8) (c0 := c0) (by simp) (by simp)).mono ?_; rintro e WC ⟨rfl, hbc⟩; have hR := Rg.onward hR hbc; go_simp
                  refine hK.out _ _ ?hs21 (fun hS21 => ?_)
                  case hs21 => ((try dsimp only); first | exact hR.cell Q0.out QI.out.2.1 | exact (hR.cell (p := ⟨gs, 0, none⟩) QI.out.2.1).trans Q0.out)
                  clear hK K hS20
                  refine wpAnyH_take (i := 10) (oi := { dst := some 114, op := Op.binOp BinOp.eql 3 (Operand.tmp 113) (Operand.const (Value.int IntKind.i64 0)) 3, type := 4, pos := "law.go:186", after := #[{ on := 9, ground := Ground.data }], guard := none }) (v := ?_) rfl (by kernel_rfl) (by kernel_rfl) (by kernel_rfl) (fun _ _ _ h => h) (Or.inl ⟨by rfl, ?hy22⟩) hS21 ?_
                  case hy22 => (intro w hSw; (try dsimp only at hSw); go_simp; try with_reducible rfl)
                  try simp only [Act.put, List.setIfInBounds_toArray, List.set_cons_zero, List.set_cons_succ]
                  refine wpAnyH_take (i := 11) (oi := { dst := some 19, op := Op.assign (Operand.tmp 114), type := 4, pos := "law.go:186", after := #[{ on := 10, ground := Ground.data }, { on := 9, ground := Ground.chain }, { on := 0, ground := Ground.phase }, { on := 1, ground := Ground.phase }, { on := 2, ground := Ground.phase }, { on := 3, ground := Ground.phase }, { on := 4, ground := Ground.phase }, { on := 5, ground := Ground.phase }, { on := 6, ground := Ground.phase }, { on := 7, ground := Ground.phase }, { on := 8, ground := Ground.phase }, { on := 9, ground := Ground.phase }, { on := 10, ground := Ground.phase }], guard := none }) (v := ?_) rfl (by kernel_rfl) (by kernel_rfl) (by kernel_rfl) (fun _ _ _ h => h) (Or.inl ⟨by rfl, ?hy23⟩) hS21 ?_
                  case hy23 => (intro w hSw; (try dsimp only at hSw); go_simp; try with_reducible rfl)
                  try simp only [Act.put, List.setIfInBounds_toArray, List.set_cons_zero, List.set_cons_succ]
                  refine wpAnyH_done (by kernel_rfl) ?_ _
                  go_wp2_with fail
                  go_meet
                  case rel => exact ⟨rfl, hR⟩
                exact AllReadyH.nil
              exact AllReadyH.nil
            exact AllReadyH.nil
          exact AllReadyH.nil
        case rest =>
        obtain ⟨rfl, hb5⟩ := hcut
        obtain ⟨W5, hW5⟩ : ∃ W5, wc = W5 := ⟨_, rfl⟩
        rw [hW5] at hb5 ⊢
        clear hW5
        have SB5 := Lib.hid (show ∀ W', Below W5.heap.size W5 W' → Calls Try.prog 19 #[.pointer (some ⟨c, 0, none⟩), .int .i64 ((k : Int) + 2)] W' (GPost W' [L0 ++ [a2]]) from fun W' hb => SB.out W' (hb5.trans (hb.mono hb5.size)))
        have q0 : W5.cell? ⟨gs, 0, none⟩ = some (.slice (some ⟨g0, 0, none⟩) (k + 1) c0) := (hb5.cell (p := ⟨gs, 0, none⟩) QI.out.2.1).trans Q0.out
        have hz5 := hb5.size
        have Q0 := Lib.hid q0
        have QI5 := Lib.hid (ints_at_keep QI.out.1 hb5)
        have QI := Lib.hid (show IntsAt W5 (some ⟨g0, 0, none⟩) L0 ∧ gs < W5.heap.size ∧ g0 < W5.heap.size ∧ L0.length = k + 1 from ⟨ints_at_keep QI.out.1 hb5, by have := QI.out.2.1; omega, by have := QI.out.2.2.1; omega, QI.out.2.2.2⟩)
        have h35 := Lib.hid (H3.out.below hb5)
        clear hb5 SA SB H3 hz5
        go_upto_region 24 with fail
        go_cut [20] (fun v20 wx => v20 = .bool true ∧ Below W5.heap.size W5 wx)
        case first => as_aux_lemma =>
          have hR := Rg.start W5 [L0 ++ [a2]]
          clear q0
          refine wp_region_held_drew (S := (fun w' => w'.cell? ⟨gs, 0, none⟩ = some (.slice (some ⟨g0, 0, none⟩) (k + 1) c0))) (by kernel_rfl) ?hs0 (fun hS0 => ?_)
          case hs0 => ((try dsimp only); first | exact hR.cell Q0.out QI.out.2.1 | exact (hR.cell (p := ⟨gs, 0, none⟩) QI.out.2.1).trans Q0.out)
          generalize W5.drew = WR at *
          refine wpAnyH_take (i := 0) (oi := { dst := some 115, op := Op.move (Operand.tmp 8), type := 24, pos := "law.go:187", after := #[], guard := none }) (v := ?_) rfl (by kernel_rfl) (by kernel_rfl) (by kernel_rfl) (fun _ _ _ h => h) (Or.inl ⟨by rfl, ?hy1⟩) hS0 ?_
          case hy1 => (intro w hSw; (try dsimp only at hSw); go_simp; try with_reducible rfl)
          try simp only [Act.put, List.setIfInBounds_toArray, List.set_cons_zero, List.set_cons_succ]
          refine wpAnyH_take (i := 1) (oi := { dst := some 116, op := Op.move (Operand.tmp 17), type := 3, pos := "law.go:187", after := #[], guard := none }) (v := ?_) rfl (by kernel_rfl) (by kernel_rfl) (by kernel_rfl) (fun _ _ _ h => h) (Or.inl ⟨by rfl, ?hy2⟩) hS0 ?_
          case hy2 => (intro w hSw; (try dsimp only at hSw); go_simp; try with_reducible rfl)
          try simp only [Act.put, List.setIfInBounds_toArray, List.set_cons_zero, List.set_cons_succ]
          refine wpAnyH_take (i := 4) (oi := { dst := some 119, op := Op.move (Operand.tmp 14), type := 49, pos := "law.go:187", after := #[], guard := none }) (v := ?_) rfl (by kernel_rfl) (by kernel_rfl) (by kernel_rfl) (fun _ _ _ h => h) (Or.inl ⟨by rfl, ?hy3⟩) hS0 ?_
          case hy3 => (intro w hSw; (try dsimp only at hSw); go_simp; try with_reducible rfl)
          try simp only [Act.put, List.setIfInBounds_toArray, List.set_cons_zero, List.set_cons_succ]
          refine wpAnyH_take (i := 5) (oi := { dst := some 120, op := Op.indexAddr 49 (Operand.tmp 119) (Operand.const (Value.int IntKind.i64 0)), type := 0, pos := "law.go:187", after := #[{ on := 4, ground := Ground.data }], guard := none }) (v := ?_) rfl (by kernel_rfl) (by kernel_rfl) (by kernel_rfl) (fun _ _ _ h => h) (Or.inl ⟨by rfl, ?hy4⟩) hS0 ?_
          case hy4 => (intro w hSw; (try dsimp only at hSw); go_simp; try with_reducible rfl)
          try simp only [Act.put, List.setIfInBounds_toArray, List.set_cons_zero, List.set_cons_succ]
          refine wpAnyH_take (i := 6) (oi := { dst := some 121, op := Op.load 46 (Operand.tmp 120), type := 46, pos := "law.go:187", after := #[{ on := 5, ground := Ground.data }], guard := none }) (v := ?_) rfl (by kernel_rfl) (by kernel_rfl) (by kernel_rfl) (fun _ _ _ h => h) (Or.inl ⟨by rfl, ?hy5⟩) hS0 ?_
          case hy5 => (intro w hSw; (try dsimp only at hSw); go_simp; try with_reducible rfl)
          try simp only [Act.put, List.setIfInBounds_toArray, List.set_cons_zero, List.set_cons_succ]
          refine wpAnyH_take (i := 8) (oi := { dst := some 123, op := Op.move (Operand.tmp 2), type := 3, pos := "law.go:187", after := #[], guard := none }) (v := ?_) rfl (by kernel_rfl) (by kernel_rfl) (by kernel_rfl) (fun _ _ _ h => h) (Or.inl ⟨by rfl, ?hy6⟩) hS0 ?_
          case hy6 => (intro w hSw; (try dsimp only at hSw); go_simp; try with_reducible rfl)
          try simp only [Act.put, List.setIfInBounds_toArray, List.set_cons_zero, List.set_cons_succ]
          refine wpAnyH_ready (rs := [2, 3, 9]) (by kernel_rfl) (by simp) ?_
          refine AllReadyH.cons (o := { dst := some 117, op := Op.call { callee := Callee.value (Operand.func 19), args := #[Operand.tmp 115, Operand.tmp 116], argTypes := #[24, 3] }, type := 49, pos := "law.go:187", after := #[{ on := 0, ground := Ground.data }, { on := 1, ground := Ground.data }], guard := none }) rfl (fun K hK => ?_) ?_
          · go_simp; refine (hR.sets rfl (SB5.out _ hR.b)).mono ?_; rintro e WR ⟨ad9, cap9, rfl, hR⟩; go_simp
            refine hK.out _ _ ?hs7 (fun hS7 => ?_)
            case hs7 => ((try dsimp only); first | exact hR.cell Q0.out QI.out.2.1 | exact (hR.cell (p := ⟨gs, 0, none⟩) QI.out.2.1).trans Q0.out)
            clear hK K hS0
            refine wpAnyH_ready (rs := [3, 9]) (by kernel_rfl) (by simp) ?_
            refine AllReadyH.cons (o := { dst := some 118, op := Op.buildSlice 46 0 #[], type := 46, pos := "law.go:187", after := #[], guard := none }) rfl (fun K hK => ?_) ?_
            · go_simp; have hR := hR.row; generalize WR.heap.size = b3 at *; generalize WR.alloc (.cells #[] 3) = WR at *
              refine hK.out _ _ ?hs8 (fun hS8 => ?_)
              case hs8 => ((try dsimp only); first | exact hR.cell Q0.out QI.out.2.1 | exact (hR.cell (p := ⟨gs, 0, none⟩) QI.out.2.1).trans Q0.out)
              clear hK K hS7
              refine wpAnyH_ready (rs := [7, 9]) (by kernel_rfl) (by simp) ?_
              refine AllReadyH.cons (o := { dst := some 122, op := Op.call { callee := Callee.builtin Builtin.append, args := #[Operand.tmp 118, Operand.tmp 121], argTypes := #[46, 46] }, type := 46, pos := "law.go:187", after := #[{ on := 3, ground := Ground.data }, { on := 6, ground := Ground.data }, { on := 2, ground := Ground.chain }], guard := none }) rfl (fun K hK => ?_) ?_
              · obtain ⟨g7, c7, WR, hrun, hR⟩ := hR.app QI.out.2.2.2 (by omega) (by simp) (by omega) (N := k + 1) (by simp) (hat_of (ints_at_keep QI5.out hR.b)); refine step_append_runC (by rfl) _ _ _ (by rfl) (by rfl) (by rfl) hrun ?_
                refine hK.out _ _ ?hs9 (fun hS9 => ?_)
                case hs9 => ((try dsimp only); first | exact hR.cell Q0.out QI.out.2.1 | exact (hR.cell (p := ⟨gs, 0, none⟩) QI.out.2.1).trans Q0.out)
                clear hK K hS8
                refine wpAnyH_ready (rs := [9]) (by kernel_rfl) (by simp) ?_
                refine AllReadyH.cons (o := { dst := some 124, op := Op.buildSlice 46 1 #[(0, Operand.tmp 123)], type := 46, pos := "law.go:187", after := #[{ on := 8, ground := Ground.data }], guard := none }) rfl (fun K hK => ?_) ?_
                · go_simp; have hR := hR.alloc (.cells #[.int .i64 a2] 3); generalize WR.heap.size = b9 at *; generalize WR.alloc (.cells #[.int .i64 a2] 3) = WR at *
                  refine hK.out _ _ ?hs10 (fun hS10 => ?_)
                  case hs10 => ((try dsimp only); first | exact hR.cell Q0.out QI.out.2.1 | exact (hR.cell (p := ⟨gs, 0, none⟩) QI.out.2.1).trans Q0.out)
                  clear hK K hS9
                  refine wpAnyH_ready (rs := [10]) (by kernel_rfl) (by simp) ?_
                  refine AllReadyH.cons (o := { dst := some 125, op := Op.call { callee := Callee.builtin Builtin.append, args := #[Operand.tmp 122, Operand.tmp 124], argTypes := #[46, 46] }, type := 46, pos := "law.go:187", after := #[{ on := 7, ground := Ground.data }, { on := 9, ground := Ground.data }, { on := 7, ground := Ground.chain }], guard := none }) rfl (fun K hK => ?_) ?_
                  · obtain ⟨g8, c8, WR, hrun, hR⟩ := hR.app (m := 1) (c := 1) (news := [a2]) (ad := ⟨b9, 0, none⟩) rfl (by omega) (by have := QI.out.2.2.2; simp; omega) (by omega) (N := k + 2) (by have := QI.out.2.2.2; simp; omega) (hat_of (ints_one (hR.fixed (p := (b9, .cells #[.int .i64 a2] 3)) (by simp)))); refine step_append_runC (by rfl) _ _ _ (by rfl) (by rfl) (by rfl) hrun ?_
                    refine hK.out _ _ ?hs11 (fun hS11 => ?_)
                    case hs11 => ((try dsimp only); first | exact hR.cell Q0.out QI.out.2.1 | exact (hR.cell (p := ⟨gs, 0, none⟩) QI.out.2.1).trans Q0.out)
                    clear hK K hS10
                    refine wpAnyH_ready (rs := [11]) (by kernel_rfl) (by simp) ?_
                    refine AllReadyH.cons (o := { dst := some 126, op := Op.buildSlice 49 1 #[(0, Operand.tmp 125)], type := 49, pos := "law.go:187", after := #[{ on := 10, ground := Ground.data }], guard := none }) rfl (fun K hK => ?_) ?_
                    · go_simp; have hR := hR.alloc (.cells #[.slice (some ⟨g8, 0, none⟩) (k + 2) c8] 46); generalize WR.heap.size = b11 at *; generalize WR.alloc (.cells #[.slice (some ⟨g8, 0, none⟩) (k + 2) c8] 46) = WR at *
                      refine hK.out _ _ ?hs12 (fun hS12 => ?_)
                      case hs12 => ((try dsimp only); first | exact hR.cell Q0.out QI.out.2.1 | exact (hR.cell (p := ⟨gs, 0, none⟩) QI.out.2.1).trans Q0.out)
                      clear hK K hS11
                      refine wpAnyH_ready (rs := [12]) (by kernel_rfl) (by simp) ?_
                      refine AllReadyH.cons (o := { dst := some 127, op := Op.call { callee := Callee.value (Operand.func 20), args := #[Operand.tmp 117, Operand.tmp 126], argTypes := #[49, 49] }, type := 3, pos := "law.go:187", after := #[{ on := 2, ground := Ground.data }, { on := 11, ground := Ground.data }, { on := 10, ground := Ground.chain }], guard := none }) rfl (fun K hK => ?_) ?_
                      · go_simp; refine (hR.cmp_b (b11 := b11) (by have := QI.out.2.2.2; simp; omega) (by omega) (by simp)).mono ?_; rintro e WC ⟨rfl, hbc⟩; have hR := Rg.onward hR hbc; go_simp
                        refine hK.out _ _ ?hs13 (fun hS13 => ?_)
                        case hs13 => ((try dsimp only); first | exact hR.cell Q0.out QI.out.2.1 | exact (hR.cell (p := ⟨gs, 0, none⟩) QI.out.2.1).trans Q0.out)
                        clear hK K hS12
                        refine wpAnyH_take (i := 13) (oi := { dst := some 128, op := Op.binOp BinOp.eql 3 (Operand.tmp 127) (Operand.const (Value.int IntKind.i64 0)) 3, type := 4, pos := "law.go:187", after := #[{ on := 12, ground := Ground.data }], guard := none }) (v := ?_) rfl (by kernel_rfl) (by kernel_rfl) (by kernel_rfl) (fun _ _ _ h => h) (Or.inl ⟨by rfl, ?hy14⟩) hS13 ?_
                        case hy14 => (intro w hSw; (try dsimp only at hSw); go_simp; try with_reducible rfl)
                        try simp only [Act.put, List.setIfInBounds_toArray, List.set_cons_zero, List.set_cons_succ]
                        refine wpAnyH_take (i := 14) (oi := { dst := some 20, op := Op.assign (Operand.tmp 128), type := 4, pos := "law.go:187", after := #[{ on := 13, ground := Ground.data }, { on := 12, ground := Ground.chain }, { on := 0, ground := Ground.phase }, { on := 1, ground := Ground.phase }, { on := 2, ground := Ground.phase }, { on := 3, ground := Ground.phase }, { on := 4, ground := Ground.phase }, { on := 5, ground := Ground.phase }, { on := 6, ground := Ground.phase }, { on := 7, ground := Ground.phase }, { on := 8, ground := Ground.phase }, { on := 9, ground := Ground.phase }, { on := 10, ground := Ground.phase }, { on := 11, ground := Ground.phase }, { on := 12, ground := Ground.phase }, { on := 13, ground := Ground.phase }], guard := none }) (v := ?_) rfl (by kernel_rfl) (by kernel_rfl) (by kernel_rfl) (fun _ _ _ h => h) (Or.inl ⟨by rfl, ?hy15⟩) hS13 ?_
                        case hy15 => (intro w hSw; (try dsimp only at hSw); go_simp; try with_reducible rfl)
                        try simp only [Act.put, List.setIfInBounds_toArray, List.set_cons_zero, List.set_cons_succ]
                        refine wpAnyH_done (by kernel_rfl) ?_ _
                        go_wp2_with fail
                        go_meet
                        case rel => exact ⟨rfl, hR⟩
                      exact AllReadyH.nil
                    exact AllReadyH.nil
                  exact AllReadyH.nil
                exact AllReadyH.nil
              refine AllReadyH.cons (o := { dst := some 124, op := Op.buildSlice 46 1 #[(0, Operand.tmp 123)], type := 46, pos := "law.go:187", after := #[{ on := 8, ground := Ground.data }], guard := none }) rfl (fun K hK => ?_) ?_
              · go_simp; have hR := hR.alloc (.cells #[.int .i64 a2] 3); generalize WR.heap.size = b9 at *; generalize WR.alloc (.cells #[.int .i64 a2] 3) = WR at *
                refine hK.out _ _ ?hs16 (fun hS16 => ?_)
                case hs16 => ((try dsimp only); first | exact hR.cell Q0.out QI.out.2.1 | exact (hR.cell (p := ⟨gs, 0, none⟩) QI.out.2.1).trans Q0.out)
                clear hK K hS8
                refine wpAnyH_ready (rs := [7]) (by kernel_rfl) (by simp) ?_
                refine AllReadyH.cons (o := { dst := some 122, op := Op.call { callee := Callee.builtin Builtin.append, args := #[Operand.tmp 118, Operand.tmp 121], argTypes := #[46, 46] }, type := 46, pos := "law.go:187", after := #[{ on := 3, ground := Ground.data }, { on := 6, ground := Ground.data }, { on := 2, ground := Ground.chain }], guard := none }) rfl (fun K hK => ?_) ?_
                · obtain ⟨g7, c7, WR, hrun, hR⟩ := hR.app QI.out.2.2.2 (by omega) (by simp) (by omega) (N := k + 1) (by simp) (hat_of (ints_at_keep QI5.out hR.b)); refine step_append_runC (by rfl) _ _ _ (by rfl) (by rfl) (by rfl) hrun ?_
                  refine hK.out _ _ ?hs17 (fun hS17 => ?_)
                  case hs17 => ((try dsimp only); first | exact hR.cell Q0.out QI.out.2.1 | exact (hR.cell (p := ⟨gs, 0, none⟩) QI.out.2.1).trans Q0.out)
                  clear hK K hS16
                  refine wpAnyH_ready (rs := [10]) (by kernel_rfl) (by simp) ?_
                  refine AllReadyH.cons (o := { dst := some 125, op := Op.call { callee := Callee.builtin Builtin.append, args := #[Operand.tmp 122, Operand.tmp 124], argTypes := #[46, 46] }, type := 46, pos := "law.go:187", after := #[{ on := 7, ground := Ground.data }, { on := 9, ground := Ground.data }, { on := 7, ground := Ground.chain }], guard := none }) rfl (fun K hK => ?_) ?_
                  · obtain ⟨g8, c8, WR, hrun, hR⟩ := hR.app (m := 1) (c := 1) (news := [a2]) (ad := ⟨b9, 0, none⟩) rfl (by omega) (by have := QI.out.2.2.2; simp; omega) (by omega) (N := k + 2) (by have := QI.out.2.2.2; simp; omega) (hat_of (ints_one (hR.fixed (p := (b9, .cells #[.int .i64 a2] 3)) (by simp)))); refine step_append_runC (by rfl) _ _ _ (by rfl) (by rfl) (by rfl) hrun ?_
                    refine hK.out _ _ ?hs18 (fun hS18 => ?_)
                    case hs18 => ((try dsimp only); first | exact hR.cell Q0.out QI.out.2.1 | exact (hR.cell (p := ⟨gs, 0, none⟩) QI.out.2.1).trans Q0.out)
                    clear hK K hS17
                    refine wpAnyH_ready (rs := [11]) (by kernel_rfl) (by simp) ?_
                    refine AllReadyH.cons (o := { dst := some 126, op := Op.buildSlice 49 1 #[(0, Operand.tmp 125)], type := 49, pos := "law.go:187", after := #[{ on := 10, ground := Ground.data }], guard := none }) rfl (fun K hK => ?_) ?_
                    · go_simp; have hR := hR.alloc (.cells #[.slice (some ⟨g8, 0, none⟩) (k + 2) c8] 46); generalize WR.heap.size = b11 at *; generalize WR.alloc (.cells #[.slice (some ⟨g8, 0, none⟩) (k + 2) c8] 46) = WR at *
                      refine hK.out _ _ ?hs19 (fun hS19 => ?_)
                      case hs19 => ((try dsimp only); first | exact hR.cell Q0.out QI.out.2.1 | exact (hR.cell (p := ⟨gs, 0, none⟩) QI.out.2.1).trans Q0.out)
                      clear hK K hS18
                      refine wpAnyH_ready (rs := [12]) (by kernel_rfl) (by simp) ?_
                      refine AllReadyH.cons (o := { dst := some 127, op := Op.call { callee := Callee.value (Operand.func 20), args := #[Operand.tmp 117, Operand.tmp 126], argTypes := #[49, 49] }, type := 3, pos := "law.go:187", after := #[{ on := 2, ground := Ground.data }, { on := 11, ground := Ground.data }, { on := 10, ground := Ground.chain }], guard := none }) rfl (fun K hK => ?_) ?_
                      · go_simp; refine (hR.cmp_b (b11 := b11) (by have := QI.out.2.2.2; simp; omega) (by omega) (by simp)).mono ?_; rintro e WC ⟨rfl, hbc⟩; have hR := Rg.onward hR hbc; go_simp
                        refine hK.out _ _ ?hs20 (fun hS20 => ?_)
                        case hs20 => ((try dsimp only); first | exact hR.cell Q0.out QI.out.2.1 | exact (hR.cell (p := ⟨gs, 0, none⟩) QI.out.2.1).trans Q0.out)
                        clear hK K hS19
                        refine wpAnyH_take (i := 13) (oi := { dst := some 128, op := Op.binOp BinOp.eql 3 (Operand.tmp 127) (Operand.const (Value.int IntKind.i64 0)) 3, type := 4, pos := "law.go:187", after := #[{ on := 12, ground := Ground.data }], guard := none }) (v := ?_) rfl (by kernel_rfl) (by kernel_rfl) (by kernel_rfl) (fun _ _ _ h => h) (Or.inl ⟨by rfl, ?hy21⟩) hS20 ?_
                        case hy21 => (intro w hSw; (try dsimp only at hSw); go_simp; try with_reducible rfl)
                        try simp only [Act.put, List.setIfInBounds_toArray, List.set_cons_zero, List.set_cons_succ]
                        refine wpAnyH_take (i := 14) (oi := { dst := some 20, op := Op.assign (Operand.tmp 128), type := 4, pos := "law.go:187", after := #[{ on := 13, ground := Ground.data }, { on := 12, ground := Ground.chain }, { on := 0, ground := Ground.phase }, { on := 1, ground := Ground.phase }, { on := 2, ground := Ground.phase }, { on := 3, ground := Ground.phase }, { on := 4, ground := Ground.phase }, { on := 5, ground := Ground.phase }, { on := 6, ground := Ground.phase }, { on := 7, ground := Ground.phase }, { on := 8, ground := Ground.phase }, { on := 9, ground := Ground.phase }, { on := 10, ground := Ground.phase }, { on := 11, ground := Ground.phase }, { on := 12, ground := Ground.phase }, { on := 13, ground := Ground.phase }], guard := none }) (v := ?_) rfl (by kernel_rfl) (by kernel_rfl) (by kernel_rfl) (fun _ _ _ h => h) (Or.inl ⟨by rfl, ?hy22⟩) hS20 ?_
                        case hy22 => (intro w hSw; (try dsimp only at hSw); go_simp; try with_reducible rfl)
                        try simp only [Act.put, List.setIfInBounds_toArray, List.set_cons_zero, List.set_cons_succ]
                        refine wpAnyH_done (by kernel_rfl) ?_ _
                        go_wp2_with fail
                        go_meet
                        case rel => exact ⟨rfl, hR⟩
                      exact AllReadyH.nil
                    exact AllReadyH.nil
                  exact AllReadyH.nil
                exact AllReadyH.nil
              exact AllReadyH.nil
            refine AllReadyH.cons (o := { dst := some 124, op := Op.buildSlice 46 1 #[(0, Operand.tmp 123)], type := 46, pos := "law.go:187", after := #[{ on := 8, ground := Ground.data }], guard := none }) rfl (fun K hK => ?_) ?_
            · go_simp; have hR := hR.alloc (.cells #[.int .i64 a2] 3); generalize WR.heap.size = b9 at *; generalize WR.alloc (.cells #[.int .i64 a2] 3) = WR at *
              refine hK.out _ _ ?hs23 (fun hS23 => ?_)
              case hs23 => ((try dsimp only); first | exact hR.cell Q0.out QI.out.2.1 | exact (hR.cell (p := ⟨gs, 0, none⟩) QI.out.2.1).trans Q0.out)
              clear hK K hS7
              refine wpAnyH_ready (rs := [3]) (by kernel_rfl) (by simp) ?_
              refine AllReadyH.cons (o := { dst := some 118, op := Op.buildSlice 46 0 #[], type := 46, pos := "law.go:187", after := #[], guard := none }) rfl (fun K hK => ?_) ?_
              · go_simp; have hR := hR.row; generalize WR.heap.size = b3 at *; generalize WR.alloc (.cells #[] 3) = WR at *
                refine hK.out _ _ ?hs24 (fun hS24 => ?_)
                case hs24 => ((try dsimp only); first | exact hR.cell Q0.out QI.out.2.1 | exact (hR.cell (p := ⟨gs, 0, none⟩) QI.out.2.1).trans Q0.out)
                clear hK K hS23
                refine wpAnyH_ready (rs := [7]) (by kernel_rfl) (by simp) ?_
                refine AllReadyH.cons (o := { dst := some 122, op := Op.call { callee := Callee.builtin Builtin.append, args := #[Operand.tmp 118, Operand.tmp 121], argTypes := #[46, 46] }, type := 46, pos := "law.go:187", after := #[{ on := 3, ground := Ground.data }, { on := 6, ground := Ground.data }, { on := 2, ground := Ground.chain }], guard := none }) rfl (fun K hK => ?_) ?_
                · obtain ⟨g7, c7, WR, hrun, hR⟩ := hR.app QI.out.2.2.2 (by omega) (by simp) (by omega) (N := k + 1) (by simp) (hat_of (ints_at_keep QI5.out hR.b)); refine step_append_runC (by rfl) _ _ _ (by rfl) (by rfl) (by rfl) hrun ?_
                  refine hK.out _ _ ?hs25 (fun hS25 => ?_)
                  case hs25 => ((try dsimp only); first | exact hR.cell Q0.out QI.out.2.1 | exact (hR.cell (p := ⟨gs, 0, none⟩) QI.out.2.1).trans Q0.out)
                  clear hK K hS24
                  refine wpAnyH_ready (rs := [10]) (by kernel_rfl) (by simp) ?_
                  refine AllReadyH.cons (o := { dst := some 125, op := Op.call { callee := Callee.builtin Builtin.append, args := #[Operand.tmp 122, Operand.tmp 124], argTypes := #[46, 46] }, type := 46, pos := "law.go:187", after := #[{ on := 7, ground := Ground.data }, { on := 9, ground := Ground.data }, { on := 7, ground := Ground.chain }], guard := none }) rfl (fun K hK => ?_) ?_
                  · obtain ⟨g8, c8, WR, hrun, hR⟩ := hR.app (m := 1) (c := 1) (news := [a2]) (ad := ⟨b9, 0, none⟩) rfl (by omega) (by have := QI.out.2.2.2; simp; omega) (by omega) (N := k + 2) (by have := QI.out.2.2.2; simp; omega) (hat_of (ints_one (hR.fixed (p := (b9, .cells #[.int .i64 a2] 3)) (by simp)))); refine step_append_runC (by rfl) _ _ _ (by rfl) (by rfl) (by rfl) hrun ?_
                    refine hK.out _ _ ?hs26 (fun hS26 => ?_)
                    case hs26 => ((try dsimp only); first | exact hR.cell Q0.out QI.out.2.1 | exact (hR.cell (p := ⟨gs, 0, none⟩) QI.out.2.1).trans Q0.out)
                    clear hK K hS25
                    refine wpAnyH_ready (rs := [11]) (by kernel_rfl) (by simp) ?_
                    refine AllReadyH.cons (o := { dst := some 126, op := Op.buildSlice 49 1 #[(0, Operand.tmp 125)], type := 49, pos := "law.go:187", after := #[{ on := 10, ground := Ground.data }], guard := none }) rfl (fun K hK => ?_) ?_
                    · go_simp; have hR := hR.alloc (.cells #[.slice (some ⟨g8, 0, none⟩) (k + 2) c8] 46); generalize WR.heap.size = b11 at *; generalize WR.alloc (.cells #[.slice (some ⟨g8, 0, none⟩) (k + 2) c8] 46) = WR at *
                      refine hK.out _ _ ?hs27 (fun hS27 => ?_)
                      case hs27 => ((try dsimp only); first | exact hR.cell Q0.out QI.out.2.1 | exact (hR.cell (p := ⟨gs, 0, none⟩) QI.out.2.1).trans Q0.out)
                      clear hK K hS26
                      refine wpAnyH_ready (rs := [12]) (by kernel_rfl) (by simp) ?_
                      refine AllReadyH.cons (o := { dst := some 127, op := Op.call { callee := Callee.value (Operand.func 20), args := #[Operand.tmp 117, Operand.tmp 126], argTypes := #[49, 49] }, type := 3, pos := "law.go:187", after := #[{ on := 2, ground := Ground.data }, { on := 11, ground := Ground.data }, { on := 10, ground := Ground.chain }], guard := none }) rfl (fun K hK => ?_) ?_
                      · go_simp; refine (hR.cmp_b (b11 := b11) (by have := QI.out.2.2.2; simp; omega) (by omega) (by simp)).mono ?_; rintro e WC ⟨rfl, hbc⟩; have hR := Rg.onward hR hbc; go_simp
                        refine hK.out _ _ ?hs28 (fun hS28 => ?_)
                        case hs28 => ((try dsimp only); first | exact hR.cell Q0.out QI.out.2.1 | exact (hR.cell (p := ⟨gs, 0, none⟩) QI.out.2.1).trans Q0.out)
                        clear hK K hS27
                        refine wpAnyH_take (i := 13) (oi := { dst := some 128, op := Op.binOp BinOp.eql 3 (Operand.tmp 127) (Operand.const (Value.int IntKind.i64 0)) 3, type := 4, pos := "law.go:187", after := #[{ on := 12, ground := Ground.data }], guard := none }) (v := ?_) rfl (by kernel_rfl) (by kernel_rfl) (by kernel_rfl) (fun _ _ _ h => h) (Or.inl ⟨by rfl, ?hy29⟩) hS28 ?_
                        case hy29 => (intro w hSw; (try dsimp only at hSw); go_simp; try with_reducible rfl)
                        try simp only [Act.put, List.setIfInBounds_toArray, List.set_cons_zero, List.set_cons_succ]
                        refine wpAnyH_take (i := 14) (oi := { dst := some 20, op := Op.assign (Operand.tmp 128), type := 4, pos := "law.go:187", after := #[{ on := 13, ground := Ground.data }, { on := 12, ground := Ground.chain }, { on := 0, ground := Ground.phase }, { on := 1, ground := Ground.phase }, { on := 2, ground := Ground.phase }, { on := 3, ground := Ground.phase }, { on := 4, ground := Ground.phase }, { on := 5, ground := Ground.phase }, { on := 6, ground := Ground.phase }, { on := 7, ground := Ground.phase }, { on := 8, ground := Ground.phase }, { on := 9, ground := Ground.phase }, { on := 10, ground := Ground.phase }, { on := 11, ground := Ground.phase }, { on := 12, ground := Ground.phase }, { on := 13, ground := Ground.phase }], guard := none }) (v := ?_) rfl (by kernel_rfl) (by kernel_rfl) (by kernel_rfl) (fun _ _ _ h => h) (Or.inl ⟨by rfl, ?hy30⟩) hS28 ?_
                        case hy30 => (intro w hSw; (try dsimp only at hSw); go_simp; try with_reducible rfl)
                        try simp only [Act.put, List.setIfInBounds_toArray, List.set_cons_zero, List.set_cons_succ]
                        refine wpAnyH_done (by kernel_rfl) ?_ _
                        go_wp2_with fail
                        go_meet
                        case rel => exact ⟨rfl, hR⟩
                      exact AllReadyH.nil
                    exact AllReadyH.nil
                  exact AllReadyH.nil
                exact AllReadyH.nil
              exact AllReadyH.nil
            exact AllReadyH.nil
          refine AllReadyH.cons (o := { dst := some 118, op := Op.buildSlice 46 0 #[], type := 46, pos := "law.go:187", after := #[], guard := none }) rfl (fun K hK => ?_) ?_
          · go_simp; have hR := hR.row; generalize WR.heap.size = b3 at *; generalize WR.alloc (.cells #[] 3) = WR at *
            refine hK.out _ _ ?hs31 (fun hS31 => ?_)
            case hs31 => ((try dsimp only); first | exact hR.cell Q0.out QI.out.2.1 | exact (hR.cell (p := ⟨gs, 0, none⟩) QI.out.2.1).trans Q0.out)
            clear hK K hS0
            refine wpAnyH_ready (rs := [2, 9]) (by kernel_rfl) (by simp) ?_
            refine AllReadyH.cons (o := { dst := some 117, op := Op.call { callee := Callee.value (Operand.func 19), args := #[Operand.tmp 115, Operand.tmp 116], argTypes := #[24, 3] }, type := 49, pos := "law.go:187", after := #[{ on := 0, ground := Ground.data }, { on := 1, ground := Ground.data }], guard := none }) rfl (fun K hK => ?_) ?_
            · go_simp; refine (hR.sets rfl (SB5.out _ hR.b)).mono ?_; rintro e WR ⟨ad9, cap9, rfl, hR⟩; go_simp
              refine hK.out _ _ ?hs32 (fun hS32 => ?_)
              case hs32 => ((try dsimp only); first | exact hR.cell Q0.out QI.out.2.1 | exact (hR.cell (p := ⟨gs, 0, none⟩) QI.out.2.1).trans Q0.out)
              clear hK K hS31
              refine wpAnyH_ready (rs := [7, 9]) (by kernel_rfl) (by simp) ?_
              refine AllReadyH.cons (o := { dst := some 122, op := Op.call { callee := Callee.builtin Builtin.append, args := #[Operand.tmp 118, Operand.tmp 121], argTypes := #[46, 46] }, type := 46, pos := "law.go:187", after := #[{ on := 3, ground := Ground.data }, { on := 6, ground := Ground.data }, { on := 2, ground := Ground.chain }], guard := none }) rfl (fun K hK => ?_) ?_
              · obtain ⟨g7, c7, WR, hrun, hR⟩ := hR.app QI.out.2.2.2 (by omega) (by simp) (by omega) (N := k + 1) (by simp) (hat_of (ints_at_keep QI5.out hR.b)); refine step_append_runC (by rfl) _ _ _ (by rfl) (by rfl) (by rfl) hrun ?_
                refine hK.out _ _ ?hs33 (fun hS33 => ?_)
                case hs33 => ((try dsimp only); first | exact hR.cell Q0.out QI.out.2.1 | exact (hR.cell (p := ⟨gs, 0, none⟩) QI.out.2.1).trans Q0.out)
                clear hK K hS32
                refine wpAnyH_ready (rs := [9]) (by kernel_rfl) (by simp) ?_
                refine AllReadyH.cons (o := { dst := some 124, op := Op.buildSlice 46 1 #[(0, Operand.tmp 123)], type := 46, pos := "law.go:187", after := #[{ on := 8, ground := Ground.data }], guard := none }) rfl (fun K hK => ?_) ?_
                · go_simp; have hR := hR.alloc (.cells #[.int .i64 a2] 3); generalize WR.heap.size = b9 at *; generalize WR.alloc (.cells #[.int .i64 a2] 3) = WR at *
                  refine hK.out _ _ ?hs34 (fun hS34 => ?_)
                  case hs34 => ((try dsimp only); first | exact hR.cell Q0.out QI.out.2.1 | exact (hR.cell (p := ⟨gs, 0, none⟩) QI.out.2.1).trans Q0.out)
                  clear hK K hS33
                  refine wpAnyH_ready (rs := [10]) (by kernel_rfl) (by simp) ?_
                  refine AllReadyH.cons (o := { dst := some 125, op := Op.call { callee := Callee.builtin Builtin.append, args := #[Operand.tmp 122, Operand.tmp 124], argTypes := #[46, 46] }, type := 46, pos := "law.go:187", after := #[{ on := 7, ground := Ground.data }, { on := 9, ground := Ground.data }, { on := 7, ground := Ground.chain }], guard := none }) rfl (fun K hK => ?_) ?_
                  · obtain ⟨g8, c8, WR, hrun, hR⟩ := hR.app (m := 1) (c := 1) (news := [a2]) (ad := ⟨b9, 0, none⟩) rfl (by omega) (by have := QI.out.2.2.2; simp; omega) (by omega) (N := k + 2) (by have := QI.out.2.2.2; simp; omega) (hat_of (ints_one (hR.fixed (p := (b9, .cells #[.int .i64 a2] 3)) (by simp)))); refine step_append_runC (by rfl) _ _ _ (by rfl) (by rfl) (by rfl) hrun ?_
                    refine hK.out _ _ ?hs35 (fun hS35 => ?_)
                    case hs35 => ((try dsimp only); first | exact hR.cell Q0.out QI.out.2.1 | exact (hR.cell (p := ⟨gs, 0, none⟩) QI.out.2.1).trans Q0.out)
                    clear hK K hS34
                    refine wpAnyH_ready (rs := [11]) (by kernel_rfl) (by simp) ?_
                    refine AllReadyH.cons (o := { dst := some 126, op := Op.buildSlice 49 1 #[(0, Operand.tmp 125)], type := 49, pos := "law.go:187", after := #[{ on := 10, ground := Ground.data }], guard := none }) rfl (fun K hK => ?_) ?_
                    · go_simp; have hR := hR.alloc (.cells #[.slice (some ⟨g8, 0, none⟩) (k + 2) c8] 46); generalize WR.heap.size = b11 at *; generalize WR.alloc (.cells #[.slice (some ⟨g8, 0, none⟩) (k + 2) c8] 46) = WR at *
                      refine hK.out _ _ ?hs36 (fun hS36 => ?_)
                      case hs36 => ((try dsimp only); first | exact hR.cell Q0.out QI.out.2.1 | exact (hR.cell (p := ⟨gs, 0, none⟩) QI.out.2.1).trans Q0.out)
                      clear hK K hS35
                      refine wpAnyH_ready (rs := [12]) (by kernel_rfl) (by simp) ?_
                      refine AllReadyH.cons (o := { dst := some 127, op := Op.call { callee := Callee.value (Operand.func 20), args := #[Operand.tmp 117, Operand.tmp 126], argTypes := #[49, 49] }, type := 3, pos := "law.go:187", after := #[{ on := 2, ground := Ground.data }, { on := 11, ground := Ground.data }, { on := 10, ground := Ground.chain }], guard := none }) rfl (fun K hK => ?_) ?_
                      · go_simp; refine (hR.cmp_b (b11 := b11) (by have := QI.out.2.2.2; simp; omega) (by omega) (by simp)).mono ?_; rintro e WC ⟨rfl, hbc⟩; have hR := Rg.onward hR hbc; go_simp
                        refine hK.out _ _ ?hs37 (fun hS37 => ?_)
                        case hs37 => ((try dsimp only); first | exact hR.cell Q0.out QI.out.2.1 | exact (hR.cell (p := ⟨gs, 0, none⟩) QI.out.2.1).trans Q0.out)
                        clear hK K hS36
                        refine wpAnyH_take (i := 13) (oi := { dst := some 128, op := Op.binOp BinOp.eql 3 (Operand.tmp 127) (Operand.const (Value.int IntKind.i64 0)) 3, type := 4, pos := "law.go:187", after := #[{ on := 12, ground := Ground.data }], guard := none }) (v := ?_) rfl (by kernel_rfl) (by kernel_rfl) (by kernel_rfl) (fun _ _ _ h => h) (Or.inl ⟨by rfl, ?hy38⟩) hS37 ?_
                        case hy38 => (intro w hSw; (try dsimp only at hSw); go_simp; try with_reducible rfl)
                        try simp only [Act.put, List.setIfInBounds_toArray, List.set_cons_zero, List.set_cons_succ]
                        refine wpAnyH_take (i := 14) (oi := { dst := some 20, op := Op.assign (Operand.tmp 128), type := 4, pos := "law.go:187", after := #[{ on := 13, ground := Ground.data }, { on := 12, ground := Ground.chain }, { on := 0, ground := Ground.phase }, { on := 1, ground := Ground.phase }, { on := 2, ground := Ground.phase }, { on := 3, ground := Ground.phase }, { on := 4, ground := Ground.phase }, { on := 5, ground := Ground.phase }, { on := 6, ground := Ground.phase }, { on := 7, ground := Ground.phase }, { on := 8, ground := Ground.phase }, { on := 9, ground := Ground.phase }, { on := 10, ground := Ground.phase }, { on := 11, ground := Ground.phase }, { on := 12, ground := Ground.phase }, { on := 13, ground := Ground.phase }], guard := none }) (v := ?_) rfl (by kernel_rfl) (by kernel_rfl) (by kernel_rfl) (fun _ _ _ h => h) (Or.inl ⟨by rfl, ?hy39⟩) hS37 ?_
                        case hy39 => (intro w hSw; (try dsimp only at hSw); go_simp; try with_reducible rfl)
                        try simp only [Act.put, List.setIfInBounds_toArray, List.set_cons_zero, List.set_cons_succ]
                        refine wpAnyH_done (by kernel_rfl) ?_ _
                        go_wp2_with fail
                        go_meet
                        case rel => exact ⟨rfl, hR⟩
                      exact AllReadyH.nil
                    exact AllReadyH.nil
                  exact AllReadyH.nil
                exact AllReadyH.nil
              refine AllReadyH.cons (o := { dst := some 124, op := Op.buildSlice 46 1 #[(0, Operand.tmp 123)], type := 46, pos := "law.go:187", after := #[{ on := 8, ground := Ground.data }], guard := none }) rfl (fun K hK => ?_) ?_
              · go_simp; have hR := hR.alloc (.cells #[.int .i64 a2] 3); generalize WR.heap.size = b9 at *; generalize WR.alloc (.cells #[.int .i64 a2] 3) = WR at *
                refine hK.out _ _ ?hs40 (fun hS40 => ?_)
                case hs40 => ((try dsimp only); first | exact hR.cell Q0.out QI.out.2.1 | exact (hR.cell (p := ⟨gs, 0, none⟩) QI.out.2.1).trans Q0.out)
                clear hK K hS32
                refine wpAnyH_ready (rs := [7]) (by kernel_rfl) (by simp) ?_
                refine AllReadyH.cons (o := { dst := some 122, op := Op.call { callee := Callee.builtin Builtin.append, args := #[Operand.tmp 118, Operand.tmp 121], argTypes := #[46, 46] }, type := 46, pos := "law.go:187", after := #[{ on := 3, ground := Ground.data }, { on := 6, ground := Ground.data }, { on := 2, ground := Ground.chain }], guard := none }) rfl (fun K hK => ?_) ?_
                · obtain ⟨g7, c7, WR, hrun, hR⟩ := hR.app QI.out.2.2.2 (by omega) (by simp) (by omega) (N := k + 1) (by simp) (hat_of (ints_at_keep QI5.out hR.b)); refine step_append_runC (by rfl) _ _ _ (by rfl) (by rfl) (by rfl) hrun ?_
                  refine hK.out _ _ ?hs41 (fun hS41 => ?_)
                  case hs41 => ((try dsimp only); first | exact hR.cell Q0.out QI.out.2.1 | exact (hR.cell (p := ⟨gs, 0, none⟩) QI.out.2.1).trans Q0.out)
                  clear hK K hS40
                  refine wpAnyH_ready (rs := [10]) (by kernel_rfl) (by simp) ?_
                  refine AllReadyH.cons (o := { dst := some 125, op := Op.call { callee := Callee.builtin Builtin.append, args := #[Operand.tmp 122, Operand.tmp 124], argTypes := #[46, 46] }, type := 46, pos := "law.go:187", after := #[{ on := 7, ground := Ground.data }, { on := 9, ground := Ground.data }, { on := 7, ground := Ground.chain }], guard := none }) rfl (fun K hK => ?_) ?_
                  · obtain ⟨g8, c8, WR, hrun, hR⟩ := hR.app (m := 1) (c := 1) (news := [a2]) (ad := ⟨b9, 0, none⟩) rfl (by omega) (by have := QI.out.2.2.2; simp; omega) (by omega) (N := k + 2) (by have := QI.out.2.2.2; simp; omega) (hat_of (ints_one (hR.fixed (p := (b9, .cells #[.int .i64 a2] 3)) (by simp)))); refine step_append_runC (by rfl) _ _ _ (by rfl) (by rfl) (by rfl) hrun ?_
                    refine hK.out _ _ ?hs42 (fun hS42 => ?_)
                    case hs42 => ((try dsimp only); first | exact hR.cell Q0.out QI.out.2.1 | exact (hR.cell (p := ⟨gs, 0, none⟩) QI.out.2.1).trans Q0.out)
                    clear hK K hS41
                    refine wpAnyH_ready (rs := [11]) (by kernel_rfl) (by simp) ?_
                    refine AllReadyH.cons (o := { dst := some 126, op := Op.buildSlice 49 1 #[(0, Operand.tmp 125)], type := 49, pos := "law.go:187", after := #[{ on := 10, ground := Ground.data }], guard := none }) rfl (fun K hK => ?_) ?_
                    · go_simp; have hR := hR.alloc (.cells #[.slice (some ⟨g8, 0, none⟩) (k + 2) c8] 46); generalize WR.heap.size = b11 at *; generalize WR.alloc (.cells #[.slice (some ⟨g8, 0, none⟩) (k + 2) c8] 46) = WR at *
                      refine hK.out _ _ ?hs43 (fun hS43 => ?_)
                      case hs43 => ((try dsimp only); first | exact hR.cell Q0.out QI.out.2.1 | exact (hR.cell (p := ⟨gs, 0, none⟩) QI.out.2.1).trans Q0.out)
                      clear hK K hS42
                      refine wpAnyH_ready (rs := [12]) (by kernel_rfl) (by simp) ?_
                      refine AllReadyH.cons (o := { dst := some 127, op := Op.call { callee := Callee.value (Operand.func 20), args := #[Operand.tmp 117, Operand.tmp 126], argTypes := #[49, 49] }, type := 3, pos := "law.go:187", after := #[{ on := 2, ground := Ground.data }, { on := 11, ground := Ground.data }, { on := 10, ground := Ground.chain }], guard := none }) rfl (fun K hK => ?_) ?_
                      · go_simp; refine (hR.cmp_b (b11 := b11) (by have := QI.out.2.2.2; simp; omega) (by omega) (by simp)).mono ?_; rintro e WC ⟨rfl, hbc⟩; have hR := Rg.onward hR hbc; go_simp
                        refine hK.out _ _ ?hs44 (fun hS44 => ?_)
                        case hs44 => ((try dsimp only); first | exact hR.cell Q0.out QI.out.2.1 | exact (hR.cell (p := ⟨gs, 0, none⟩) QI.out.2.1).trans Q0.out)
                        clear hK K hS43
                        refine wpAnyH_take (i := 13) (oi := { dst := some 128, op := Op.binOp BinOp.eql 3 (Operand.tmp 127) (Operand.const (Value.int IntKind.i64 0)) 3, type := 4, pos := "law.go:187", after := #[{ on := 12, ground := Ground.data }], guard := none }) (v := ?_) rfl (by kernel_rfl) (by kernel_rfl) (by kernel_rfl) (fun _ _ _ h => h) (Or.inl ⟨by rfl, ?hy45⟩) hS44 ?_
                        case hy45 => (intro w hSw; (try dsimp only at hSw); go_simp; try with_reducible rfl)
                        try simp only [Act.put, List.setIfInBounds_toArray, List.set_cons_zero, List.set_cons_succ]
                        refine wpAnyH_take (i := 14) (oi := { dst := some 20, op := Op.assign (Operand.tmp 128), type := 4, pos := "law.go:187", after := #[{ on := 13, ground := Ground.data }, { on := 12, ground := Ground.chain }, { on := 0, ground := Ground.phase }, { on := 1, ground := Ground.phase }, { on := 2, ground := Ground.phase }, { on := 3, ground := Ground.phase }, { on := 4, ground := Ground.phase }, { on := 5, ground := Ground.phase }, { on := 6, ground := Ground.phase }, { on := 7, ground := Ground.phase }, { on := 8, ground := Ground.phase }, { on := 9, ground := Ground.phase }, { on := 10, ground := Ground.phase }, { on := 11, ground := Ground.phase }, { on := 12, ground := Ground.phase }, { on := 13, ground := Ground.phase }], guard := none }) (v := ?_) rfl (by kernel_rfl) (by kernel_rfl) (by kernel_rfl) (fun _ _ _ h => h) (Or.inl ⟨by rfl, ?hy46⟩) hS44 ?_
                        case hy46 => (intro w hSw; (try dsimp only at hSw); go_simp; try with_reducible rfl)
                        try simp only [Act.put, List.setIfInBounds_toArray, List.set_cons_zero, List.set_cons_succ]
                        refine wpAnyH_done (by kernel_rfl) ?_ _
                        go_wp2_with fail
                        go_meet
                        case rel => exact ⟨rfl, hR⟩
                      exact AllReadyH.nil
                    exact AllReadyH.nil
                  exact AllReadyH.nil
                exact AllReadyH.nil
              exact AllReadyH.nil
            refine AllReadyH.cons (o := { dst := some 124, op := Op.buildSlice 46 1 #[(0, Operand.tmp 123)], type := 46, pos := "law.go:187", after := #[{ on := 8, ground := Ground.data }], guard := none }) rfl (fun K hK => ?_) ?_
            · go_simp; have hR := hR.alloc (.cells #[.int .i64 a2] 3); generalize WR.heap.size = b9 at *; generalize WR.alloc (.cells #[.int .i64 a2] 3) = WR at *
              refine hK.out _ _ ?hs47 (fun hS47 => ?_)
              case hs47 => ((try dsimp only); first | exact hR.cell Q0.out QI.out.2.1 | exact (hR.cell (p := ⟨gs, 0, none⟩) QI.out.2.1).trans Q0.out)
              clear hK K hS31
              refine wpAnyH_ready (rs := [2]) (by kernel_rfl) (by simp) ?_
              refine AllReadyH.cons (o := { dst := some 117, op := Op.call { callee := Callee.value (Operand.func 19), args := #[Operand.tmp 115, Operand.tmp 116], argTypes := #[24, 3] }, type := 49, pos := "law.go:187", after := #[{ on := 0, ground := Ground.data }, { on := 1, ground := Ground.data }], guard := none }) rfl (fun K hK => ?_) ?_
              · go_simp; refine (hR.sets rfl (SB5.out _ hR.b)).mono ?_; rintro e WR ⟨ad9, cap9, rfl, hR⟩; go_simp
                refine hK.out _ _ ?hs48 (fun hS48 => ?_)
                case hs48 => ((try dsimp only); first | exact hR.cell Q0.out QI.out.2.1 | exact (hR.cell (p := ⟨gs, 0, none⟩) QI.out.2.1).trans Q0.out)
                clear hK K hS47
                refine wpAnyH_ready (rs := [7]) (by kernel_rfl) (by simp) ?_
                refine AllReadyH.cons (o := { dst := some 122, op := Op.call { callee := Callee.builtin Builtin.append, args := #[Operand.tmp 118, Operand.tmp 121], argTypes := #[46, 46] }, type := 46, pos := "law.go:187", after := #[{ on := 3, ground := Ground.data }, { on := 6, ground := Ground.data }, { on := 2, ground := Ground.chain }], guard := none }) rfl (fun K hK => ?_) ?_
                · obtain ⟨g7, c7, WR, hrun, hR⟩ := hR.app QI.out.2.2.2 (by omega) (by simp) (by omega) (N := k + 1) (by simp) (hat_of (ints_at_keep QI5.out hR.b)); refine step_append_runC (by rfl) _ _ _ (by rfl) (by rfl) (by rfl) hrun ?_
                  refine hK.out _ _ ?hs49 (fun hS49 => ?_)
                  case hs49 => ((try dsimp only); first | exact hR.cell Q0.out QI.out.2.1 | exact (hR.cell (p := ⟨gs, 0, none⟩) QI.out.2.1).trans Q0.out)
                  clear hK K hS48
                  refine wpAnyH_ready (rs := [10]) (by kernel_rfl) (by simp) ?_
                  refine AllReadyH.cons (o := { dst := some 125, op := Op.call { callee := Callee.builtin Builtin.append, args := #[Operand.tmp 122, Operand.tmp 124], argTypes := #[46, 46] }, type := 46, pos := "law.go:187", after := #[{ on := 7, ground := Ground.data }, { on := 9, ground := Ground.data }, { on := 7, ground := Ground.chain }], guard := none }) rfl (fun K hK => ?_) ?_
                  · obtain ⟨g8, c8, WR, hrun, hR⟩ := hR.app (m := 1) (c := 1) (news := [a2]) (ad := ⟨b9, 0, none⟩) rfl (by omega) (by have := QI.out.2.2.2; simp; omega) (by omega) (N := k + 2) (by have := QI.out.2.2.2; simp; omega) (hat_of (ints_one (hR.fixed (p := (b9, .cells #[.int .i64 a2] 3)) (by simp)))); refine step_append_runC (by rfl) _ _ _ (by rfl) (by rfl) (by rfl) hrun ?_
                    refine hK.out _ _ ?hs50 (fun hS50 => ?_)
                    case hs50 => ((try dsimp only); first | exact hR.cell Q0.out QI.out.2.1 | exact (hR.cell (p := ⟨gs, 0, none⟩) QI.out.2.1).trans Q0.out)
                    clear hK K hS49
                    refine wpAnyH_ready (rs := [11]) (by kernel_rfl) (by simp) ?_
                    refine AllReadyH.cons (o := { dst := some 126, op := Op.buildSlice 49 1 #[(0, Operand.tmp 125)], type := 49, pos := "law.go:187", after := #[{ on := 10, ground := Ground.data }], guard := none }) rfl (fun K hK => ?_) ?_
                    · go_simp; have hR := hR.alloc (.cells #[.slice (some ⟨g8, 0, none⟩) (k + 2) c8] 46); generalize WR.heap.size = b11 at *; generalize WR.alloc (.cells #[.slice (some ⟨g8, 0, none⟩) (k + 2) c8] 46) = WR at *
                      refine hK.out _ _ ?hs51 (fun hS51 => ?_)
                      case hs51 => ((try dsimp only); first | exact hR.cell Q0.out QI.out.2.1 | exact (hR.cell (p := ⟨gs, 0, none⟩) QI.out.2.1).trans Q0.out)
                      clear hK K hS50
                      refine wpAnyH_ready (rs := [12]) (by kernel_rfl) (by simp) ?_
                      refine AllReadyH.cons (o := { dst := some 127, op := Op.call { callee := Callee.value (Operand.func 20), args := #[Operand.tmp 117, Operand.tmp 126], argTypes := #[49, 49] }, type := 3, pos := "law.go:187", after := #[{ on := 2, ground := Ground.data }, { on := 11, ground := Ground.data }, { on := 10, ground := Ground.chain }], guard := none }) rfl (fun K hK => ?_) ?_
                      · go_simp; refine (hR.cmp_b (b11 := b11) (by have := QI.out.2.2.2; simp; omega) (by omega) (by simp)).mono ?_; rintro e WC ⟨rfl, hbc⟩; have hR := Rg.onward hR hbc; go_simp
                        refine hK.out _ _ ?hs52 (fun hS52 => ?_)
                        case hs52 => ((try dsimp only); first | exact hR.cell Q0.out QI.out.2.1 | exact (hR.cell (p := ⟨gs, 0, none⟩) QI.out.2.1).trans Q0.out)
                        clear hK K hS51
                        refine wpAnyH_take (i := 13) (oi := { dst := some 128, op := Op.binOp BinOp.eql 3 (Operand.tmp 127) (Operand.const (Value.int IntKind.i64 0)) 3, type := 4, pos := "law.go:187", after := #[{ on := 12, ground := Ground.data }], guard := none }) (v := ?_) rfl (by kernel_rfl) (by kernel_rfl) (by kernel_rfl) (fun _ _ _ h => h) (Or.inl ⟨by rfl, ?hy53⟩) hS52 ?_
                        case hy53 => (intro w hSw; (try dsimp only at hSw); go_simp; try with_reducible rfl)
                        try simp only [Act.put, List.setIfInBounds_toArray, List.set_cons_zero, List.set_cons_succ]
                        refine wpAnyH_take (i := 14) (oi := { dst := some 20, op := Op.assign (Operand.tmp 128), type := 4, pos := "law.go:187", after := #[{ on := 13, ground := Ground.data }, { on := 12, ground := Ground.chain }, { on := 0, ground := Ground.phase }, { on := 1, ground := Ground.phase }, { on := 2, ground := Ground.phase }, { on := 3, ground := Ground.phase }, { on := 4, ground := Ground.phase }, { on := 5, ground := Ground.phase }, { on := 6, ground := Ground.phase }, { on := 7, ground := Ground.phase }, { on := 8, ground := Ground.phase }, { on := 9, ground := Ground.phase }, { on := 10, ground := Ground.phase }, { on := 11, ground := Ground.phase }, { on := 12, ground := Ground.phase }, { on := 13, ground := Ground.phase }], guard := none }) (v := ?_) rfl (by kernel_rfl) (by kernel_rfl) (by kernel_rfl) (fun _ _ _ h => h) (Or.inl ⟨by rfl, ?hy54⟩) hS52 ?_
                        case hy54 => (intro w hSw; (try dsimp only at hSw); go_simp; try with_reducible rfl)
                        try simp only [Act.put, List.setIfInBounds_toArray, List.set_cons_zero, List.set_cons_succ]
                        refine wpAnyH_done (by kernel_rfl) ?_ _
                        go_wp2_with fail
                        go_meet
                        case rel => exact ⟨rfl, hR⟩
                      exact AllReadyH.nil
                    exact AllReadyH.nil
                  exact AllReadyH.nil
                exact AllReadyH.nil
              exact AllReadyH.nil
            exact AllReadyH.nil
          refine AllReadyH.cons (o := { dst := some 124, op := Op.buildSlice 46 1 #[(0, Operand.tmp 123)], type := 46, pos := "law.go:187", after := #[{ on := 8, ground := Ground.data }], guard := none }) rfl (fun K hK => ?_) ?_
          · go_simp; have hR := hR.alloc (.cells #[.int .i64 a2] 3); generalize WR.heap.size = b9 at *; generalize WR.alloc (.cells #[.int .i64 a2] 3) = WR at *
            refine hK.out _ _ ?hs55 (fun hS55 => ?_)
            case hs55 => ((try dsimp only); first | exact hR.cell Q0.out QI.out.2.1 | exact (hR.cell (p := ⟨gs, 0, none⟩) QI.out.2.1).trans Q0.out)
            clear hK K hS0
            refine wpAnyH_ready (rs := [2, 3]) (by kernel_rfl) (by simp) ?_
            refine AllReadyH.cons (o := { dst := some 117, op := Op.call { callee := Callee.value (Operand.func 19), args := #[Operand.tmp 115, Operand.tmp 116], argTypes := #[24, 3] }, type := 49, pos := "law.go:187", after := #[{ on := 0, ground := Ground.data }, { on := 1, ground := Ground.data }], guard := none }) rfl (fun K hK => ?_) ?_
            · go_simp; refine (hR.sets rfl (SB5.out _ hR.b)).mono ?_; rintro e WR ⟨ad9, cap9, rfl, hR⟩; go_simp
              refine hK.out _ _ ?hs56 (fun hS56 => ?_)
              case hs56 => ((try dsimp only); first | exact hR.cell Q0.out QI.out.2.1 | exact (hR.cell (p := ⟨gs, 0, none⟩) QI.out.2.1).trans Q0.out)
              clear hK K hS55
              refine wpAnyH_ready (rs := [3]) (by kernel_rfl) (by simp) ?_
              refine AllReadyH.cons (o := { dst := some 118, op := Op.buildSlice 46 0 #[], type := 46, pos := "law.go:187", after := #[], guard := none }) rfl (fun K hK => ?_) ?_
              · go_simp; have hR := hR.row; generalize WR.heap.size = b3 at *; generalize WR.alloc (.cells #[] 3) = WR at *
                refine hK.out _ _ ?hs57 (fun hS57 => ?_)
                case hs57 => ((try dsimp only); first | exact hR.cell Q0.out QI.out.2.1 | exact (hR.cell (p := ⟨gs, 0, none⟩) QI.out.2.1).trans Q0.out)
                clear hK K hS56
                refine wpAnyH_ready (rs := [7]) (by kernel_rfl) (by simp) ?_
                refine AllReadyH.cons (o := { dst := some 122, op := Op.call { callee := Callee.builtin Builtin.append, args := #[Operand.tmp 118, Operand.tmp 121], argTypes := #[46, 46] }, type := 46, pos := "law.go:187", after := #[{ on := 3, ground := Ground.data }, { on := 6, ground := Ground.data }, { on := 2, ground := Ground.chain }], guard := none }) rfl (fun K hK => ?_) ?_
                · obtain ⟨g7, c7, WR, hrun, hR⟩ := hR.app QI.out.2.2.2 (by omega) (by simp) (by omega) (N := k + 1) (by simp) (hat_of (ints_at_keep QI5.out hR.b)); refine step_append_runC (by rfl) _ _ _ (by rfl) (by rfl) (by rfl) hrun ?_
                  refine hK.out _ _ ?hs58 (fun hS58 => ?_)
                  case hs58 => ((try dsimp only); first | exact hR.cell Q0.out QI.out.2.1 | exact (hR.cell (p := ⟨gs, 0, none⟩) QI.out.2.1).trans Q0.out)
                  clear hK K hS57
                  refine wpAnyH_ready (rs := [10]) (by kernel_rfl) (by simp) ?_
                  refine AllReadyH.cons (o := { dst := some 125, op := Op.call { callee := Callee.builtin Builtin.append, args := #[Operand.tmp 122, Operand.tmp 124], argTypes := #[46, 46] }, type := 46, pos := "law.go:187", after := #[{ on := 7, ground := Ground.data }, { on := 9, ground := Ground.data }, { on := 7, ground := Ground.chain }], guard := none }) rfl (fun K hK => ?_) ?_
                  · obtain ⟨g8, c8, WR, hrun, hR⟩ := hR.app (m := 1) (c := 1) (news := [a2]) (ad := ⟨b9, 0, none⟩) rfl (by omega) (by have := QI.out.2.2.2; simp; omega) (by omega) (N := k + 2) (by have := QI.out.2.2.2; simp; omega) (hat_of (ints_one (hR.fixed (p := (b9, .cells #[.int .i64 a2] 3)) (by simp)))); refine step_append_runC (by rfl) _ _ _ (by rfl) (by rfl) (by rfl) hrun ?_
                    refine hK.out _ _ ?hs59 (fun hS59 => ?_)
                    case hs59 => ((try dsimp only); first | exact hR.cell Q0.out QI.out.2.1 | exact (hR.cell (p := ⟨gs, 0, none⟩) QI.out.2.1).trans Q0.out)
                    clear hK K hS58
                    refine wpAnyH_ready (rs := [11]) (by kernel_rfl) (by simp) ?_
                    refine AllReadyH.cons (o := { dst := some 126, op := Op.buildSlice 49 1 #[(0, Operand.tmp 125)], type := 49, pos := "law.go:187", after := #[{ on := 10, ground := Ground.data }], guard := none }) rfl (fun K hK => ?_) ?_
                    · go_simp; have hR := hR.alloc (.cells #[.slice (some ⟨g8, 0, none⟩) (k + 2) c8] 46); generalize WR.heap.size = b11 at *; generalize WR.alloc (.cells #[.slice (some ⟨g8, 0, none⟩) (k + 2) c8] 46) = WR at *
                      refine hK.out _ _ ?hs60 (fun hS60 => ?_)
                      case hs60 => ((try dsimp only); first | exact hR.cell Q0.out QI.out.2.1 | exact (hR.cell (p := ⟨gs, 0, none⟩) QI.out.2.1).trans Q0.out)
                      clear hK K hS59
                      refine wpAnyH_ready (rs := [12]) (by kernel_rfl) (by simp) ?_
                      refine AllReadyH.cons (o := { dst := some 127, op := Op.call { callee := Callee.value (Operand.func 20), args := #[Operand.tmp 117, Operand.tmp 126], argTypes := #[49, 49] }, type := 3, pos := "law.go:187", after := #[{ on := 2, ground := Ground.data }, { on := 11, ground := Ground.data }, { on := 10, ground := Ground.chain }], guard := none }) rfl (fun K hK => ?_) ?_
                      · go_simp; refine (hR.cmp_b (b11 := b11) (by have := QI.out.2.2.2; simp; omega) (by omega) (by simp)).mono ?_; rintro e WC ⟨rfl, hbc⟩; have hR := Rg.onward hR hbc; go_simp
                        refine hK.out _ _ ?hs61 (fun hS61 => ?_)
                        case hs61 => ((try dsimp only); first | exact hR.cell Q0.out QI.out.2.1 | exact (hR.cell (p := ⟨gs, 0, none⟩) QI.out.2.1).trans Q0.out)
                        clear hK K hS60
                        refine wpAnyH_take (i := 13) (oi := { dst := some 128, op := Op.binOp BinOp.eql 3 (Operand.tmp 127) (Operand.const (Value.int IntKind.i64 0)) 3, type := 4, pos := "law.go:187", after := #[{ on := 12, ground := Ground.data }], guard := none }) (v := ?_) rfl (by kernel_rfl) (by kernel_rfl) (by kernel_rfl) (fun _ _ _ h => h) (Or.inl ⟨by rfl, ?hy62⟩) hS61 ?_
                        case hy62 => (intro w hSw; (try dsimp only at hSw); go_simp; try with_reducible rfl)
                        try simp only [Act.put, List.setIfInBounds_toArray, List.set_cons_zero, List.set_cons_succ]
                        refine wpAnyH_take (i := 14) (oi := { dst := some 20, op := Op.assign (Operand.tmp 128), type := 4, pos := "law.go:187", after := #[{ on := 13, ground := Ground.data }, { on := 12, ground := Ground.chain }, { on := 0, ground := Ground.phase }, { on := 1, ground := Ground.phase }, { on := 2, ground := Ground.phase }, { on := 3, ground := Ground.phase }, { on := 4, ground := Ground.phase }, { on := 5, ground := Ground.phase }, { on := 6, ground := Ground.phase }, { on := 7, ground := Ground.phase }, { on := 8, ground := Ground.phase }, { on := 9, ground := Ground.phase }, { on := 10, ground := Ground.phase }, { on := 11, ground := Ground.phase }, { on := 12, ground := Ground.phase }, { on := 13, ground := Ground.phase }], guard := none }) (v := ?_) rfl (by kernel_rfl) (by kernel_rfl) (by kernel_rfl) (fun _ _ _ h => h) (Or.inl ⟨by rfl, ?hy63⟩) hS61 ?_
                        case hy63 => (intro w hSw; (try dsimp only at hSw); go_simp; try with_reducible rfl)
                        try simp only [Act.put, List.setIfInBounds_toArray, List.set_cons_zero, List.set_cons_succ]
                        refine wpAnyH_done (by kernel_rfl) ?_ _
                        go_wp2_with fail
                        go_meet
                        case rel => exact ⟨rfl, hR⟩
                      exact AllReadyH.nil
                    exact AllReadyH.nil
                  exact AllReadyH.nil
                exact AllReadyH.nil
              exact AllReadyH.nil
            refine AllReadyH.cons (o := { dst := some 118, op := Op.buildSlice 46 0 #[], type := 46, pos := "law.go:187", after := #[], guard := none }) rfl (fun K hK => ?_) ?_
            · go_simp; have hR := hR.row; generalize WR.heap.size = b3 at *; generalize WR.alloc (.cells #[] 3) = WR at *
              refine hK.out _ _ ?hs64 (fun hS64 => ?_)
              case hs64 => ((try dsimp only); first | exact hR.cell Q0.out QI.out.2.1 | exact (hR.cell (p := ⟨gs, 0, none⟩) QI.out.2.1).trans Q0.out)
              clear hK K hS55
              refine wpAnyH_ready (rs := [2]) (by kernel_rfl) (by simp) ?_
              refine AllReadyH.cons (o := { dst := some 117, op := Op.call { callee := Callee.value (Operand.func 19), args := #[Operand.tmp 115, Operand.tmp 116], argTypes := #[24, 3] }, type := 49, pos := "law.go:187", after := #[{ on := 0, ground := Ground.data }, { on := 1, ground := Ground.data }], guard := none }) rfl (fun K hK => ?_) ?_
              · go_simp; refine (hR.sets rfl (SB5.out _ hR.b)).mono ?_; rintro e WR ⟨ad9, cap9, rfl, hR⟩; go_simp
                refine hK.out _ _ ?hs65 (fun hS65 => ?_)
                case hs65 => ((try dsimp only); first | exact hR.cell Q0.out QI.out.2.1 | exact (hR.cell (p := ⟨gs, 0, none⟩) QI.out.2.1).trans Q0.out)
                clear hK K hS64
                refine wpAnyH_ready (rs := [7]) (by kernel_rfl) (by simp) ?_
                refine AllReadyH.cons (o := { dst := some 122, op := Op.call { callee := Callee.builtin Builtin.append, args := #[Operand.tmp 118, Operand.tmp 121], argTypes := #[46, 46] }, type := 46, pos := "law.go:187", after := #[{ on := 3, ground := Ground.data }, { on := 6, ground := Ground.data }, { on := 2, ground := Ground.chain }], guard := none }) rfl (fun K hK => ?_) ?_
                · obtain ⟨g7, c7, WR, hrun, hR⟩ := hR.app QI.out.2.2.2 (by omega) (by simp) (by omega) (N := k + 1) (by simp) (hat_of (ints_at_keep QI5.out hR.b)); refine step_append_runC (by rfl) _ _ _ (by rfl) (by rfl) (by rfl) hrun ?_
                  refine hK.out _ _ ?hs66 (fun hS66 => ?_)
                  case hs66 => ((try dsimp only); first | exact hR.cell Q0.out QI.out.2.1 | exact (hR.cell (p := ⟨gs, 0, none⟩) QI.out.2.1).trans Q0.out)
                  clear hK K hS65
                  refine wpAnyH_ready (rs := [10]) (by kernel_rfl) (by simp) ?_
                  refine AllReadyH.cons (o := { dst := some 125, op := Op.call { callee := Callee.builtin Builtin.append, args := #[Operand.tmp 122, Operand.tmp 124], argTypes := #[46, 46] }, type := 46, pos := "law.go:187", after := #[{ on := 7, ground := Ground.data }, { on := 9, ground := Ground.data }, { on := 7, ground := Ground.chain }], guard := none }) rfl (fun K hK => ?_) ?_
                  · obtain ⟨g8, c8, WR, hrun, hR⟩ := hR.app (m := 1) (c := 1) (news := [a2]) (ad := ⟨b9, 0, none⟩) rfl (by omega) (by have := QI.out.2.2.2; simp; omega) (by omega) (N := k + 2) (by have := QI.out.2.2.2; simp; omega) (hat_of (ints_one (hR.fixed (p := (b9, .cells #[.int .i64 a2] 3)) (by simp)))); refine step_append_runC (by rfl) _ _ _ (by rfl) (by rfl) (by rfl) hrun ?_
                    refine hK.out _ _ ?hs67 (fun hS67 => ?_)
                    case hs67 => ((try dsimp only); first | exact hR.cell Q0.out QI.out.2.1 | exact (hR.cell (p := ⟨gs, 0, none⟩) QI.out.2.1).trans Q0.out)
                    clear hK K hS66
                    refine wpAnyH_ready (rs := [11]) (by kernel_rfl) (by simp) ?_
                    refine AllReadyH.cons (o := { dst := some 126, op := Op.buildSlice 49 1 #[(0, Operand.tmp 125)], type := 49, pos := "law.go:187", after := #[{ on := 10, ground := Ground.data }], guard := none }) rfl (fun K hK => ?_) ?_
                    · go_simp; have hR := hR.alloc (.cells #[.slice (some ⟨g8, 0, none⟩) (k + 2) c8] 46); generalize WR.heap.size = b11 at *; generalize WR.alloc (.cells #[.slice (some ⟨g8, 0, none⟩) (k + 2) c8] 46) = WR at *
                      refine hK.out _ _ ?hs68 (fun hS68 => ?_)
                      case hs68 => ((try dsimp only); first | exact hR.cell Q0.out QI.out.2.1 | exact (hR.cell (p := ⟨gs, 0, none⟩) QI.out.2.1).trans Q0.out)
                      clear hK K hS67
                      refine wpAnyH_ready (rs := [12]) (by kernel_rfl) (by simp) ?_
                      refine AllReadyH.cons (o := { dst := some 127, op := Op.call { callee := Callee.value (Operand.func 20), args := #[Operand.tmp 117, Operand.tmp 126], argTypes := #[49, 49] }, type := 3, pos := "law.go:187", after := #[{ on := 2, ground := Ground.data }, { on := 11, ground := Ground.data }, { on := 10, ground := Ground.chain }], guard := none }) rfl (fun K hK => ?_) ?_
                      · go_simp; refine (hR.cmp_b (b11 := b11) (by have := QI.out.2.2.2; simp; omega) (by omega) (by simp)).mono ?_; rintro e WC ⟨rfl, hbc⟩; have hR := Rg.onward hR hbc; go_simp
                        refine hK.out _ _ ?hs69 (fun hS69 => ?_)
                        case hs69 => ((try dsimp only); first | exact hR.cell Q0.out QI.out.2.1 | exact (hR.cell (p := ⟨gs, 0, none⟩) QI.out.2.1).trans Q0.out)
                        clear hK K hS68
                        refine wpAnyH_take (i := 13) (oi := { dst := some 128, op := Op.binOp BinOp.eql 3 (Operand.tmp 127) (Operand.const (Value.int IntKind.i64 0)) 3, type := 4, pos := "law.go:187", after := #[{ on := 12, ground := Ground.data }], guard := none }) (v := ?_) rfl (by kernel_rfl) (by kernel_rfl) (by kernel_rfl) (fun _ _ _ h => h) (Or.inl ⟨by rfl, ?hy70⟩) hS69 ?_
                        case hy70 => (intro w hSw; (try dsimp only at hSw); go_simp; try with_reducible rfl)
                        try simp only [Act.put, List.setIfInBounds_toArray, List.set_cons_zero, List.set_cons_succ]
                        refine wpAnyH_take (i := 14) (oi := { dst := some 20, op := Op.assign (Operand.tmp 128), type := 4, pos := "law.go:187", after := #[{ on := 13, ground := Ground.data }, { on := 12, ground := Ground.chain }, { on := 0, ground := Ground.phase }, { on := 1, ground := Ground.phase }, { on := 2, ground := Ground.phase }, { on := 3, ground := Ground.phase }, { on := 4, ground := Ground.phase }, { on := 5, ground := Ground.phase }, { on := 6, ground := Ground.phase }, { on := 7, ground := Ground.phase }, { on := 8, ground := Ground.phase }, { on := 9, ground := Ground.phase }, { on := 10, ground := Ground.phase }, { on := 11, ground := Ground.phase }, { on := 12, ground := Ground.phase }, { on := 13, ground := Ground.phase }], guard := none }) (v := ?_) rfl (by kernel_rfl) (by kernel_rfl) (by kernel_rfl) (fun _ _ _ h => h) (Or.inl ⟨by rfl, ?hy71⟩) hS69 ?_
                        case hy71 => (intro w hSw; (try dsimp only at hSw); go_simp; try with_reducible rfl)
                        try simp only [Act.put, List.setIfInBounds_toArray, List.set_cons_zero, List.set_cons_succ]
                        refine wpAnyH_done (by kernel_rfl) ?_ _
                        go_wp2_with fail
                        go_meet
                        case rel => exact ⟨rfl, hR⟩
                      exact AllReadyH.nil
                    exact AllReadyH.nil
                  exact AllReadyH.nil
                exact AllReadyH.nil
              exact AllReadyH.nil
            exact AllReadyH.nil
          exact AllReadyH.nil
        case rest =>
        obtain ⟨rfl, hb6⟩ := hcut
        have h6 := h35.out.below hb6
        have D := Lib.hid (h6.drop hk9 E.out.2)
        clear q0 Q0 QI QI5 h6 hb6 h35 SB5
        go_wp2_with fail
        refine D.out.mono ?_
        rintro e W7 ⟨g7, c7, rfl, y0, hg7, h7, n1, n2⟩
        have B := Lib.hid (h7.back hk9)
        have Y0 := Lib.hid (And.intro y0 (And.intro hg7 (And.intro h7 (And.intro n1 n2))))
        clear y0 hg7 h7 n1 n2 D
        go_wp2_with fail
        refine B.out.mono ?_
        rintro e W8 ⟨ad8, cap8, rfl, hb8⟩
        have h8 := Y0.out.2.2.1.below hb8
        have LV := Lib.hid h8.live
        have D8 := Lib.hid (h8.drop hk9 E.out.2)
        have e2 : ((k + 2 : Nat) : Int) = (k : Int) + 2 := by omega
        have e3 : (k : Int) + 1 + 1 = (k : Int) + 2 := by omega
        have Y8 := Lib.hid (show W8.cell? ⟨g7, 0, none⟩ = some (.int .i64 100) ∧ g7 < W8.heap.size from ⟨(hb8.cell (p := ⟨g7, 0, none⟩) Y0.out.2.1).trans Y0.out.1, by have := hb8.size; have := Y0.out.2.1; omega⟩)
        have t7 : ((k : Int) + 2 == (k : Int) + 2) = true := by simp
        clear hb8 h8
        go_wp2_with fail
        refine LV.out.mono ?_
        rintro e W8' ⟨rfl, rfl⟩
        go_wp2_with fail
        refine D8.out.mono ?_
        rintro e W9 ⟨ad9, cap9, rfl, ⟨nn, nx, G, hc9⟩, bt9, hb9⟩
        have y9 : W9.cell? ⟨g7, 0, none⟩ = some (.int .i64 100) := (World.cell?_of_block (a := ⟨g7, 0, none⟩) (bt9.block g7 Y8.out.2 Y0.out.2.2.2.1 Y0.out.2.2.2.2)).trans Y8.out.1
        have LV9 := Lib.hid (live_at hc9)
        have BE := Lib.hid hb9
        clear hc9 bt9 hb9 D8 LV
        go_wp2_with fail
        refine LV9.out.mono ?_
        rintro e W9' ⟨rfl, rfl⟩
        go_wp2_with fail
        go_ret
        exact ⟨rfl, BE.out⟩
theorem shares_any (a : Option Addr) (len cap : Nat) (a1 a2 : Int) (w : World) (h : IntArg w a len) :
    Calls Try.prog 5 #[.slice a len cap, .int .i64 a1, .int .i64 a2] w fun e w' => e = .returned (.bool true) ∧ Below w.heap.size w w' := by
  obtain ⟨b, off, X, h1, h2, h3, h4, _⟩ := h
  exact shares_walk a b off len cap h1 X a1 a2 w h2 h3 h4
end Go.Proofs.Ytakjpoapjokmbaa
