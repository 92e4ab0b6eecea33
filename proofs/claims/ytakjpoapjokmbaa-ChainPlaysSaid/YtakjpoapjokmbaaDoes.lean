/-
  What an act does to both chains.
-/
import Derived.Test.YtakjpoapjokmbaaJt
import Derived.Test.YtakjpoapjokmbaaAwake
import Derived.Deep.RegionHeld3
import Derived.Deep.DeepCutAuto
namespace Go.Proofs.Ytakjpoapjokmbaa
open Go.ChangeShapes Go.WideShapes Go.ChangeAt Go.RowKit
set_option linter.unusedVariables false

theorem rest_any (x n : Int) (hn : 1 ≤ n) (hb : n ≤ 1000000) : ∃ R : Int, 0 ≤ R ∧ R < n ∧ ∀ w, Calls Try.prog 12 #[.int .i64 x, .int .i64 n] w fun e w' => e = .returned (.int .i64 R) ∧ w = w' := by
  have t1 : -n < x.tmod n := Int.lt_tmod_of_pos x (by omega)
  have t2 : x.tmod n < n := Int.tmod_lt_of_pos x (by omega)
  obtain ⟨y, hy⟩ : ∃ y, x.tmod n = y := ⟨_, rfl⟩
  rw [hy] at t1 t2
  have e1 : wrap64 (y + n) = y + n := by unfold wrap64; omega
  have e2 : (y + n).tmod n = (y + n) % n := Int.tmod_eq_emod_of_nonneg (by omega)
  refine ⟨y % n, Int.emod_nonneg _ (by omega), Int.emod_lt_of_pos _ (by omega), fun w => ?_⟩
  have nz : (n == 0) = false := by simp; omega
  have nn : ¬ n = 0 := by omega
  clear hb hn
  go_enter Try.func12, Try.ntmps12
  go_wp2
  go_ret
  exact ⟨rfl, rfl⟩
theorem and_one (n : Int) : bits BinOp.and IntKind.i64 n 1 = n % 2 := by
  have h3 : (BitVec.ofInt 64 1).toNat = 2 ^ 1 - 1 := by decide
  have key : (BitVec.ofInt 64 n &&& BitVec.ofInt 64 1).toNat = (n % ((2 ^ 64 : Nat) : Int)).toNat % 2 ^ 1 := by
    rw [BitVec.toNat_and, BitVec.toNat_ofInt, h3, Nat.and_two_pow_sub_one_eq_mod]
  show IntKind.i64.wrap ((BitVec.ofInt 64 n &&& BitVec.ofInt 64 1).toNat : Nat) = n % 2
  rw [key, IntKind.wrap_i64]
  omega
theorem Jt.weak {w wr : World} {c mb rc base t : Nat} {l : List No} (h : Jt w c mb rc base t l wr) : Jt w c mb rc base (t + 1) l wr := by
  obtain ⟨nn, G, a1, a2, a3⟩ := h.ch
  exact ⟨⟨nn, G, by omega, a2, a3⟩, h.rf, by have := h.len; omega, fun k q hq => by have := h.kp k q hq; omega, h.sz, h.bel⟩
def DoesPost (w : World) (c mb rc base t : Nat) (e : Ending) (w' : World) : Prop := e = .returned (.bool true) ∧ ∃ l', Jt w c mb rc base (t + 1) l' w'
set_option maxRecDepth 100000 in
set_option maxHeartbeats 4000000 in
theorem does_at {w wr : World} {c mb rc base t : Nat} {l : List No} (h : Jt w c mb rc base t l wr) (ht : t ≤ 80) (cn : Cn w c mb rc base) (K A N : Int) :
    Calls Try.prog 10 #[.pointer (some ⟨c, 0, none⟩), .pointer (some ⟨rc, 0, none⟩), .agg #[.int .i64 K, .int .i64 A, .int .i64 N]] wr (DoesPost w c mb rc base t) := by
  have b0 : Below wr.heap.size wr (wr.alloc (.cells #[.int .i64 K, .int .i64 A, .int .i64 N] 32)) := (Below.refl _ wr).alloc (Nat.le_refl _) _
  have q0 := World.cell?_alloc_new wr #[.int .i64 K, .int .i64 A, .int .i64 N] 32 0
  have q1 := World.cell?_alloc_new wr #[.int .i64 K, .int .i64 A, .int .i64 N] 32 1
  have q2 := World.cell?_alloc_new wr #[.int .i64 K, .int .i64 A, .int .i64 N] 32 2
  simp only [List.getElem?_toArray, List.getElem?_cons_zero, List.getElem?_cons_succ] at q0 q1 q2
  have h1 := h.below b0
  obtain ⟨v, hv⟩ := h1.rf
  obtain ⟨ad, cap, rfl⟩ := hv.shape
  have c0 := hv.c0
  have hlen := h.len
  have hsb := h.sz
  have hzb : wr.heap.size < (wr.alloc (.cells #[.int .i64 K, .int .i64 A, .int .i64 N] 32)).heap.size := by rw [World.size_alloc]; omega
  obtain ⟨R1, r10, r11, HR1⟩ := rest_any A ((l.length : Int) + 2) (by omega) (by omega)
  obtain ⟨R2, r20, r21, HR2⟩ := rest_any K 6 (by decide) (by decide)
  have H1 := Lib.hid h1
  have ew1 : IntKind.i64.wrap ((l.length : Int) + 2) = (l.length : Int) + 2 := IntWalk.i64_in _ (by omega)
  have ew2 : IntKind.i64.wrap (R1 - 1) = R1 - 1 := IntWalk.i64_in _ (by omega)
  have HR2 := Lib.hid HR2
  clear h h1 hv b0
  go_enter Try.func10, Try.ntmps10
  go_wp2_with fail
  generalize wr.alloc (.cells #[.int .i64 K, .int .i64 A, .int .i64 N] 32) = W at *
  generalize wr.heap.size = sb at *
  have RQ := Lib.hid (fun d => show Calls Try.prog 12 #[.int .i64 A, .int .i64 ((l.length : Int) + 2)] (W.drewN d) (fun e w' => e = Ending.returned (.int .i64 R1) ∧ ∃ m, w' = W.drewN m) from (HR1 (W.drewN d)).mono fun e w' ⟨h1, h2⟩ => ⟨h1, d, h2.symm⟩)
  clear HR1
  go_quiet ((go_at_call 12; exact RQ.out _))
  have H2 := Lib.hid (H1.out.below (below_drewN W nq))
  have hzb : sb < (W.drewN nq).heap.size := hzb
  have q0 : (W.drewN nq).cell? ⟨sb, 0, none⟩ = _ := q0
  have q1 : (W.drewN nq).cell? ⟨sb, 1, none⟩ = _ := q1
  have q2 : (W.drewN nq).cell? ⟨sb, 2, none⟩ = _ := q2
  have c0 : (W.drewN nq).cell? ⟨rc, 0, none⟩ = _ := c0
  clear H1 RQ
  generalize W.drewN nq = W at *
  have hi1 : -1 ≤ R1 - 1 := by omega
  have hi2 : R1 - 1 ≤ 200 := by omega
  generalize R1 - 1 = id at *
  clear ew2 r10 r11
  go_wp2_with fail
  refine (HR2.out _).mono ?_
  rintro e W' ⟨rfl, rfl⟩
  clear HR2
  by_cases hk3 : R2 = 3
  · subst hk3
    obtain ⟨ok, l', P1, P2⟩ := H2.out.keep (by omega) cn hi1 hi2
    have P1 := Lib.hid P1
    have P2 := Lib.hid P2
    have t1 : (ok == ok) = true := by simp
    clear q0 q1 q2 c0 hsb hzb
    go_wp2_with fail
    refine P1.out.mono ?_
    rintro e W1 ⟨rfl, j1, b1⟩
    have P3 := Lib.hid (P2.out W1 j1)
    clear j1 b1
    go_wp2_with fail
    refine P3.out.mono ?_
    rintro e W2 ⟨rfl, j2⟩
    have J2 := Lib.hid j2
    clear j2
    go_wp2_with fail
    go_ret
    exact ⟨rfl, _, J2.out⟩
  · have t3 : (R2 == 3) = false := by simpa using hk3
    by_cases hk4 : R2 = 4 ∨ R2 = 5
    · obtain ⟨v, hv⟩ := H2.out.rf
      have I := Lib.hid (is_at hv id)
      have ev := hv.c0.symm.trans c0
      injection ev with ev
      subst ev
      have HV := Lib.hid hv
      clear q0 q1 q2 hsb hzb hv
      have hkk : R2 = 4 ∨ (R2 == 4) = false ∧ R2 = 5 := by
        rcases hk4 with e | e
        · exact .inl e
        · exact .inr ⟨by simp; omega, e⟩
      clear hk4 hk3 r20 r21
      go_upto_region 8 with fail
      all_goals
        go_wp2_with fail
        refine I.out.mono ?_
        rintro e W1 ⟨rfl, rfl⟩
        go_upto_region 9 with fail
        go_cut [9, 62] (fun v9 v62 wx => (∃ bb : Bool, v62 = .bool bb ∧ (bb = false → ∀ (k : Nat) (q : No), id = (k : Int) → l[k]? = some q → q.gone = false → 0 < q.kept)) ∧ wx = W)
        case first =>
          rcases alive_or (l := l) id with hi | ⟨k, q, rfl, hq, hg⟩
          · go_wp2_with fail
            go_meet
            case rel => exact ⟨⟨false, rfl, fun _ k q e hq hg => by rw [e, isL_at hq, hg] at hi; cases hi⟩, rfl⟩
          · have hi : isL l (k : Int) = true := by rw [isL_at hq, hg]; rfl
            obtain ⟨gb, rfl, hnl, hcc⟩ := HV.out.at hq
            have c5 : W.cell? ⟨gb, k * 7 + 4 + 1, none⟩ = some (.int .i64 q.kept) := hcc 5 (by decide)
            have c5' : W.cell? ⟨gb, k * 7 + 5, none⟩ = some (.int .i64 q.kept) := hcc 5 (by decide)
            have hkl : k < l.length := (List.getElem?_eq_some_iff.1 hq).1
            have hkn : (k : Int) < (l.length : Int) := by omega
            have hkp : 0 ≤ q.kept := by obtain ⟨_, _, _, _, h⟩ := H2.out.ch; exact (h.wf k q hq).1
            have HQ := Lib.hid hq
            clear hcc hnl hq hg
            generalize hkq : q.kept = kp at *
            have HKQ := Lib.hid hkq
            clear hkq
            by_cases hz : kp = 0
            · subst hz
              go_wp2_with fail
              go_meet
              case rel => exact ⟨⟨true, rfl, fun h => by cases h⟩, rfl⟩
            · have t6 : (kp == 0) = false := by simpa using hz
              go_wp2_with fail
              go_meet
              case rel => exact ⟨⟨false, rfl, fun _ k' q' e hq' hg' => by
                obtain rfl : k = k' := by omega
                rw [HQ.out] at hq'
                injection hq' with hq'
                subst hq'
                rw [HKQ.out]
                omega⟩, rfl⟩
        case rest =>
        obtain ⟨⟨bb, rfl, hbb⟩, rfl⟩ := hcut
        have HB := Lib.hid hbb
        clear hbb HV I
        cases bb with
        | true =>
          have J := Lib.hid H2.out.weak
          clear c0 H2
          go_wp2_with fail
          go_ret
          exact ⟨rfl, _, J.out⟩
        | false =>
          obtain ⟨ok, L, l', P1, P2, hL⟩ := H2.out.drop (by omega) cn hi1 hi2 (HB.out rfl)
          have P1 := Lib.hid P1
          have P2 := Lib.hid P2
          have t7 : (ok != ok) = false := by simp
          clear c0 H2 HB
          go_wp2_with fail
          refine P1.out.mono ?_
          rintro e W1 ⟨v1, rfl, r1, j1, z1⟩
          have P3 := Lib.hid (P2.out W1 v1 j1 r1 z1)
          obtain ⟨a1, c1, rfl, ha1⟩ := rrow_slice r1
          have HA1 := Lib.hid ha1
          clear P1 P2 r1 j1 z1 ha1
          go_wp2_with fail
          refine P3.out.mono ?_
          rintro e W2 ⟨v2, rfl, r2, r1, j2⟩
          obtain ⟨a2, c2, rfl, ha2⟩ := rrow_slice r2
          have F := Lib.hid (And.intro r1 (And.intro r2 (And.intro ha2 j2)))
          clear r2 r1 ha2 j2 P3
          go_wp2_with fail
          go_loopg [14] L.length (fun gh v14 wx => ∃ j : Nat, gh = L.length - j ∧ v14 = .int .i64 (j : Int) ∧ j ≤ L.length ∧ ∃ d, wx = W2.drewN d)
          case atStart => exact ⟨0, rfl, rfl, Nat.zero_le _, 0, rfl⟩
          case round =>
            obtain ⟨j, hgj, rfl, hj, d, rfl⟩ := hrel
            by_cases hjl : j < L.length
            · obtain ⟨g1, rfl⟩ := HA1.out (by omega)
              obtain ⟨g2, rfl⟩ := F.out.2.2.1 (by omega)
              obtain ⟨p, hp⟩ : ∃ p, L[j]? = some p := ⟨_, List.getElem?_eq_getElem hjl⟩
              obtain ⟨x1, x2⟩ := rcells_at L j p hp
              have t8 : decide ((j : Int) < (L.length : Int)) = true := by simp; omega
              have y1 : (W2.drewN d).cell? ⟨g1, j * 2, none⟩ = some (.int .i64 p.1) := (F.out.1.cellAt (j * 2) (by omega)).trans x1
              have y2 : (W2.drewN d).cell? ⟨g1, j * 2 + 1, none⟩ = some (.int .i64 p.2) := (F.out.1.cellAt (j * 2 + 1) (by omega)).trans x2
              have y3 : (W2.drewN d).cell? ⟨g2, j * 2, none⟩ = some (.int .i64 p.1) := (F.out.2.1.cellAt (j * 2) (by omega)).trans x1
              have y4 : (W2.drewN d).cell? ⟨g2, j * 2 + 1, none⟩ = some (.int .i64 p.2) := (F.out.2.1.cellAt (j * 2 + 1) (by omega)).trans x2
              have hjn : (j : Int) < (L.length : Int) := by omega
              have D := Lib.hid (drewC (W := W2) (wr := W2.drewN d) ⟨d, rfl⟩)
              clear x1 x2 hp
              generalize p.1 = p1 at *
              generalize p.2 = p2 at *
              go_wp2_with fail
              generalize W2.drewN d = W3 at *
              go_quiet (fail)
              go_wp2_with fail
              go_roundg (L.length - (j + 1))
              case measure => omega
              case rel => exact ⟨j + 1, rfl, by go_num, by omega, D.out _⟩
            · have t8 : decide ((j : Int) < (L.length : Int)) = false := by simp; omega
              have J := Lib.hid (F.out.2.2.2.below (below_drewN W2 d))
              clear F
              go_wp2_with fail
              go_ret
              exact ⟨rfl, _, J.out⟩
    · have t4 : (R2 == 4) = false := by simp; omega
      have t5 : (R2 == 5) = false := by simp; omega
      obtain ⟨v, hv⟩ := H2.out.rf
      have ev := hv.c0.symm.trans c0
      injection ev with ev
      subst ev
      obtain ⟨bi, hbi⟩ : ∃ b, isL l id = b := ⟨_, rfl⟩
      have I := is_at hv id
      rw [hbi] at I
      have I := Lib.hid I
      have HBI := Lib.hid hbi
      have HV := Lib.hid hv
      obtain ⟨B1, hB1⟩ : ∃ B1, bits BinOp.and IntKind.i64 N 1 = B1 := ⟨_, rfl⟩
      have hb01 : 0 ≤ B1 ∧ B1 ≤ 1 := by rw [← hB1, and_one]; omega
      have hb0 := hb01.1
      have hb1 := hb01.2
      clear hv hbi hb01 r20 r21 hk3 hk4
      go_wp2_with fail
      refine I.out.mono ?_
      rintro e W1 ⟨rfl, rfl⟩
      go_upto_if 106 with fail
      go_cut [15] (fun v15 wx => ∃ cell : Int, v15 = .int .i64 cell ∧ 0 ≤ cell ∧ cell ≤ 8 ∧ ∃ d, wx = W.drewN d)
      case first =>
        rcases alive_or (l := l) id with hi | ⟨k, q, rfl, hq, hg⟩
        · obtain rfl : bi = false := HBI.out.symm.trans hi
          clear hi
          go_wp2_with fail
          go_meet
          case rel => exact ⟨B1, by first | rfl | rw [hB1], by omega, by omega, 0, rfl⟩
        · obtain rfl : bi = true := HBI.out.symm.trans (by rw [isL_at hq, hg]; rfl)
          obtain ⟨gb, rfl, hnl, hcc⟩ := HV.out.at hq
          have c1 : W.cell? ⟨gb, k * 7 + 1, none⟩ = some (.int .i64 q.cell) := hcc 1 (by decide)
          have hkl : k < l.length := (List.getElem?_eq_some_iff.1 hq).1
          have hkn : (k : Int) < (l.length : Int) := by omega
          have hk0 : (0 : Int) ≤ (k : Int) := by omega
          have hw : 0 ≤ q.cell ∧ q.cell ≤ 5 := by obtain ⟨_, _, _, _, h⟩ := H2.out.ch; have := h.wf k q hq; omega
          have hw0 := hw.1
          have hw5 := hw.2
          clear hcc hnl hq hg hw
          generalize q.cell = qc at *
          have es : IntKind.i64.wrap (qc + B1) = qc + B1 := IntWalk.i64_in _ (by omega)
          go_wp2_with fail
          go_quiet (fail)
          go_wp2_with fail
          go_meet
          case rel => exact ⟨qc + B1, rfl, by omega, by omega, _, rfl⟩
      case rest =>
      obtain ⟨cell, rfl, hc0, hc8, d, rfl⟩ := hcut
      have H3 := Lib.hid (H2.out.below (below_drewN W d))
      have HV3 := Lib.hid (HV.out.below0 (below_drewN W d) H2.out.sz)
      have hzb : sb < (W.drewN d).heap.size := hzb
      have q2 : (W.drewN d).cell? ⟨sb, 2, none⟩ = _ := q2
      have c0 : (W.drewN d).cell? ⟨rc, 0, none⟩ = _ := c0
      clear H2 HV I HBI q0 q1 hB1 hb0 hb1
      generalize W.drewN d = W at *
      obtain ⟨T, hT⟩ : ∃ T, (bits BinOp.and IntKind.i64 N 12 == 12) = T := ⟨_, rfl⟩
      go_upto_if 122 with fail
      go_cut [15] (fun v15 wx => ∃ cell : Int, v15 = .int .i64 cell ∧ 0 ≤ cell ∧ cell ≤ 9 ∧ wx = W)
      case first =>
        cases T with
        | true =>
          go_wp2_with fail
          go_meet
          case rel => exact ⟨cell + 1, rfl, by omega, by omega, rfl⟩
        | false =>
          go_wp2_with fail
          go_meet
          case rel => exact ⟨cell, rfl, by omega, by omega, rfl⟩
      case rest =>
      obtain ⟨cell, rfl, hc0, hc9, rfl⟩ := hcut
      clear hT
      go_upto_region 27 with fail
      have hrc : rc < wc.heap.size := block_lt_of_cell c0
      have KD : wc.drew.cell? ⟨sb, 2, none⟩ = some (.int .i64 N) ∧ wc.drew.cell? ⟨rc, 0, none⟩ = some (.slice ad l.length cap) := ⟨q2, c0⟩
      have KA := And.intro ((World.cell?_alloc_lt wc (.cells #[.int .i64 0, .int .i64 0] 39) ⟨sb, 2, none⟩ hzb).trans q2) ((World.cell?_alloc_lt wc (.cells #[.int .i64 0, .int .i64 0] 39) ⟨rc, 0, none⟩ hrc).trans c0)
      have K2 := And.intro ((World.cell?_alloc_lt wc (.cells #[.int .i64 N, .int .i64 (l.length : Int)] 39) ⟨sb, 2, none⟩ hzb).trans q2) ((World.cell?_alloc_lt wc (.cells #[.int .i64 N, .int .i64 (l.length : Int)] 39) ⟨rc, 0, none⟩ hrc).trans c0)
      refine wp_region_held_drew (S := (fun w' => w'.cell? ⟨sb, 2, none⟩ = some (.int .i64 N) ∧ w'.cell? ⟨rc, 0, none⟩ = some (.slice ad l.length cap))) (by kernel_rfl) ?hs0 (fun hS0 => ?_)
      case hs0 => ((try dsimp only); first | with_reducible exact KD | with_reducible exact KA | with_reducible exact K2 | exact KD | exact KA | exact K2)
      refine wpAnyH_take (i := 0) (oi := { dst := some 125, op := Op.fieldAddr 32 (Operand.tmp 5) 2, type := 0, pos := "law.go:89", after := #[], guard := none }) (v := ?_) rfl (by kernel_rfl) (by kernel_rfl) (by kernel_rfl) (fun _ _ _ h => h) (Or.inl ⟨by rfl, ?hy1⟩) hS0 ?_
      case hy1 => (intro w hSw; (try dsimp only at hSw); go_simp; try with_reducible rfl)
      try simp only [Act.put, List.setIfInBounds_toArray, List.set_cons_zero, List.set_cons_succ]
      refine wpAnyH_take (i := 1) (oi := { dst := some 126, op := Op.load 3 (Operand.tmp 125), type := 3, pos := "law.go:89", after := #[{ on := 0, ground := Ground.data }], guard := none }) (v := ?_) rfl (by kernel_rfl) (by kernel_rfl) (by kernel_rfl) (fun _ _ _ h => h) (Or.inl ⟨by rfl, ?hy2⟩) hS0 ?_
      case hy2 => (intro w hSw; (try dsimp only at hSw); go_simp; try with_reducible rfl)
      try simp only [Act.put, List.setIfInBounds_toArray, List.set_cons_zero, List.set_cons_succ]
      refine wpAnyH_take (i := 2) (oi := { dst := some 127, op := Op.move (Operand.tmp 1), type := 26, pos := "law.go:89", after := #[], guard := none }) (v := ?_) rfl (by kernel_rfl) (by kernel_rfl) (by kernel_rfl) (fun _ _ _ h => h) (Or.inl ⟨by rfl, ?hy3⟩) hS0 ?_
      case hy3 => (intro w hSw; (try dsimp only at hSw); go_simp; try with_reducible rfl)
      try simp only [Act.put, List.setIfInBounds_toArray, List.set_cons_zero, List.set_cons_succ]
      refine wpAnyH_take (i := 3) (oi := { dst := some 128, op := Op.nilCheck (Operand.tmp 127), type := 0, pos := "law.go:89", after := #[{ on := 2, ground := Ground.data }], guard := none }) (v := ?_) rfl (by kernel_rfl) (by kernel_rfl) (by kernel_rfl) (fun _ _ _ h => h) (Or.inl ⟨by rfl, ?hy4⟩) hS0 ?_
      case hy4 => (intro w hSw; (try dsimp only at hSw); go_simp; try with_reducible rfl)
      try simp only [Act.put, List.setIfInBounds_toArray, List.set_cons_zero, List.set_cons_succ]
      refine wpAnyH_take (i := 4) (oi := { dst := some 129, op := Op.fieldAddr 29 (Operand.tmp 128) 0, type := 0, pos := "law.go:89", after := #[{ on := 3, ground := Ground.data }], guard := none }) (v := ?_) rfl (by kernel_rfl) (by kernel_rfl) (by kernel_rfl) (fun _ _ _ h => h) (Or.inl ⟨by rfl, ?hy5⟩) hS0 ?_
      case hy5 => (intro w hSw; (try dsimp only at hSw); go_simp; try with_reducible rfl)
      try simp only [Act.put, List.setIfInBounds_toArray, List.set_cons_zero, List.set_cons_succ]
      refine wpAnyH_take (i := 5) (oi := { dst := some 130, op := Op.load 27 (Operand.tmp 129), type := 27, pos := "law.go:89", after := #[{ on := 4, ground := Ground.data }], guard := none }) (v := ?_) rfl (by kernel_rfl) (by kernel_rfl) (by kernel_rfl) (fun _ _ _ h => h) (Or.inl ⟨by rfl, ?hy6⟩) hS0 ?_
      case hy6 => (intro w hSw; (try dsimp only at hSw); go_simp; try with_reducible rfl)
      try simp only [Act.put, List.setIfInBounds_toArray, List.set_cons_zero, List.set_cons_succ]
      refine wpAnyH_take (i := 6) (oi := { dst := some 131, op := Op.call { callee := Callee.builtin Builtin.len, args := #[Operand.tmp 130], argTypes := #[27] }, type := 3, pos := "law.go:89", after := #[{ on := 5, ground := Ground.data }], guard := none }) (v := ?_) rfl (by kernel_rfl) (by kernel_rfl) (by kernel_rfl) (fun _ _ _ h => h) (Or.inl ⟨by rfl, ?hy7⟩) hS0 ?_
      case hy7 => (intro w hSw; (try dsimp only at hSw); go_simp; try with_reducible rfl)
      try simp only [Act.put, List.setIfInBounds_toArray, List.set_cons_zero, List.set_cons_succ]
      refine wpAnyH_take (i := 7) (oi := { dst := some 132, op := Op.build 39 #[(0, Operand.tmp 126), (1, Operand.tmp 131)], type := 39, pos := "law.go:89", after := #[{ on := 1, ground := Ground.data }, { on := 6, ground := Ground.data }], guard := none }) (v := ?_) rfl (by kernel_rfl) (by kernel_rfl) (by kernel_rfl) (fun _ _ _ h => h) (Or.inl ⟨by rfl, ?hy8⟩) hS0 ?_
      case hy8 => (intro w hSw; (try dsimp only at hSw); go_simp; try with_reducible rfl)
      try simp only [Act.put, List.setIfInBounds_toArray, List.set_cons_zero, List.set_cons_succ]
      refine wpAnyH_ready (rs := [8]) (by kernel_rfl) (by simp) ?_
      refine AllReadyH.cons (o := { dst := some 17, op := Op.alloc 39, type := 0, pos := "law.go:89", after := #[], guard := none }) rfl (fun K hK => ?_) ?_
      · go_simp
        refine hK.out _ _ ?hs9 (fun hS9 => ?_)
        case hs9 => ((try dsimp only); first | with_reducible exact KD | with_reducible exact KA | with_reducible exact K2 | exact KD | exact KA | exact K2)
        clear hK K hS0
        refine wpAnyH_ready (rs := [9]) (by kernel_rfl) (by simp) ?_
        refine AllReadyH.cons (o := { dst := none, op := Op.store 39 (Operand.tmp 17) (Operand.tmp 132), type := 0, pos := "law.go:89", after := #[{ on := 8, ground := Ground.data }, { on := 7, ground := Ground.data }, { on := 0, ground := Ground.phase }, { on := 1, ground := Ground.phase }, { on := 2, ground := Ground.phase }, { on := 3, ground := Ground.phase }, { on := 4, ground := Ground.phase }, { on := 5, ground := Ground.phase }, { on := 6, ground := Ground.phase }, { on := 7, ground := Ground.phase }, { on := 8, ground := Ground.phase }], guard := none }) rfl (fun K hK => ?_) ?_
        · go_simp
          refine hK.out _ _ ?hs10 (fun hS10 => ?_)
          case hs10 => ((try dsimp only); first | with_reducible exact KD | with_reducible exact KA | with_reducible exact K2 | exact KD | exact KA | exact K2)
          clear hK K hS9
          refine wpAnyH_done (by kernel_rfl) ?_ _
          have bb5 : Below wc.heap.size wc (wc.alloc (.cells #[.int .i64 N, .int .i64 (l.length : Int)] 39)).drew := ((Below.refl _ wc).alloc (Nat.le_refl _) _).drew
          have H5 := Lib.hid (H3.out.below bb5)
          have z0 : (wc.alloc (.cells #[.int .i64 N, .int .i64 (l.length : Int)] 39)).drew.cell? ⟨wc.heap.size, 0, none⟩ = some (.int .i64 N) := World.cell?_alloc_new wc #[.int .i64 N, .int .i64 (l.length : Int)] 39 0
          have z1 : (wc.alloc (.cells #[.int .i64 N, .int .i64 (l.length : Int)] 39)).drew.cell? ⟨wc.heap.size, 1, none⟩ = some (.int .i64 (l.length : Int)) := World.cell?_alloc_new wc #[.int .i64 N, .int .i64 (l.length : Int)] 39 1
          have q5 : (wc.alloc (.cells #[.int .i64 N, .int .i64 (l.length : Int)] 39)).drew.cell? ⟨sb, 2, none⟩ = some (.int .i64 N) := (bb5.cell (p := ⟨sb, 2, none⟩) hzb).trans q2
          have hz5 : wc.heap.size < (wc.alloc (.cells #[.int .i64 N, .int .i64 (l.length : Int)] 39)).drew.heap.size := by show _ < (wc.alloc _).heap.size; rw [World.size_alloc]; omega
          have hsb5 : sb < (wc.alloc (.cells #[.int .i64 N, .int .i64 (l.length : Int)] 39)).drew.heap.size := Nat.lt_trans hzb hz5
          have hbw : base ≤ wc.heap.size := H3.out.sz
          clear KD KA K2 q2 c0 hrc bb5 H3 HV3
          generalize (wc.alloc (.cells #[.int .i64 N, .int .i64 (l.length : Int)] 39)).drew = W5 at *
          generalize wc.heap.size = rb at *
          obtain ⟨a, ok, l', P1, P2⟩ := H5.out.push (by omega) cn hi1 hi2 hc0 N N (l.length : Int)
          have P1 := Lib.hid P1
          have P2 := Lib.hid P2
          have hcb := cn.c1
          have hmb := cn.m1
          clear H5
          go_wp2_with fail
          refine P1.out.mono ?_
          rintro e W6 ⟨rfl, j6, b6⟩
          have z0 := (World.cell?_of_block (a := ⟨rb, 0, none⟩) (b6.block rb hz5 (by omega) (by omega))).trans z0
          have z1 := (World.cell?_of_block (a := ⟨rb, 1, none⟩) (b6.block rb hz5 (by omega) (by omega))).trans z1
          have q5 := (World.cell?_of_block (a := ⟨sb, 2, none⟩) (b6.block sb hsb5 (by omega) (by omega))).trans q5
          have P3 := Lib.hid (P2.out W6 j6)
          clear P1 P2 j6 b6
          go_wp2_with fail
          refine P3.out.mono ?_
          rintro e W7 ⟨rfl, j7⟩
          have J7 := Lib.hid j7
          have t8 : (a == a) = true := by simp
          have t9 : (ok == ok) = true := by simp
          clear j7 P3 z0 z1 q5
          go_wp2_with fail
          go_ret
          exact ⟨rfl, _, J7.out⟩
        exact AllReadyH.nil
      exact AllReadyH.nil
end Go.Proofs.Ytakjpoapjokmbaa
