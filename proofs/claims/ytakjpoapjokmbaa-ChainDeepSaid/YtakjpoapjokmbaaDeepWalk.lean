/-
  The walk of ChainDeep.
-/
import Derived.Test.YtakjpoapjokmbaaDeepEnd
import Derived.Test.YtakjpoapjokmbaaIArg
import Derived.Deep.RegionHeld3
import Derived.Deep.DeepCutAuto
namespace Go.Proofs.Ytakjpoapjokmbaa
open Go.ChangeShapes Go.WideShapes Go.ChangeAt Go.RowKit
set_option linter.unusedVariables false

def DpRel (w : World) (c mb n₀ n : Nat) (gh : Nat) (v7 v8 v9 v11 : Value) (wr : World) : Prop :=
  ∃ (i cell : Nat) (l : List Nd), AtV i v7 ∧ v8 = .int .i64 (cell : Int) ∧ v11 = .int .i64 (i : Int) ∧ i ≤ n ∧ gh = n - i ∧ DSt w c mb n₀ 0 i cell v9 l wr
def EpRel (w : World) (c mb n₀ n : Nat) (v9 : Value) (l : List Nd) (gh : Nat) (v14 : Value) (wr : World) : Prop :=
  ∃ d : Nat, v14 = .int .i64 (d : Int) ∧ d + 1 ≤ n ∧ gh = n - d ∧ ESt w c mb n₀ d n v9 l wr
set_option maxRecDepth 100000 in
set_option maxHeartbeats 4000000 in
theorem deep_walk (ad : Option Addr) (b off len cap : Nat) (had : len = 0 ∨ ad = some ⟨b, off, none⟩) (X : Nat → Int) (a1 : Int) (w : World) (hl : ∀ i, i < len → w.cell? ⟨b, off + i, none⟩ = some (.int .i64 (X i))) (hb : 0 < len → b < w.heap.size) (hlen : len ≤ 9223372036854775807) :
    Calls Try.prog 7 #[.slice ad len cap, .int .i64 a1] w fun e w' => e = .returned (.bool true) ∧ Below w.heap.size w w' := by
  have H0 := Lib.hid (chain_awake w)
  have N := Lib.hid (fun w => new_at w)
  obtain ⟨n, hn⟩ : ∃ n : Nat, min len 12 = n := ⟨_, rfl⟩
  have hn12 : n ≤ 12 := by omega
  have hnl : n ≤ len := by omega
  have emin : min (len : Int) 12 = (n : Int) := by omega
  have HN := Lib.hid hn
  have AD := Lib.hid had
  clear hn had
  go_enter Try.func7, Try.ntmps7
  go_wp2_with fail
  refine H0.out.mono ?_
  rintro e w1 ⟨rfl, b1⟩
  go_wp2_with fail
  refine (N.out _).mono ?_
  rintro e w2 ⟨rfl, h2, b2⟩
  obtain ⟨c, hc⟩ : ∃ c, w1.heap.size + 1 = c := ⟨_, rfl⟩
  obtain ⟨mb, hmb⟩ : ∃ mb, w1.heap.size = mb := ⟨_, rfl⟩
  rw [hc] at h2 ⊢
  rw [hmb] at h2
  have hlc := h2.lt.1
  have hlm := h2.lt.2
  have z1 := b1.size
  have E := Lib.hid (show w.heap.size ≤ c ∧ w.heap.size ≤ mb ∧ c < w2.heap.size ∧ mb < w2.heap.size ∧ w.heap.size ≤ w2.heap.size from ⟨by omega, by omega, hlc, hlm, by omega⟩)
  have R0 : DpRel w c mb w2.heap.size n n (.int .i64 (-1)) (.int .i64 0) (.slice (some ⟨w2.heap.size, 0, none⟩) 1 1) (.int .i64 0) (w2.alloc (.cells #[.slice none 0 0] 46)) :=
    ⟨0, 0, [], .inl ⟨rfl, rfl⟩, rfl, rfl, Nat.zero_le _, rfl, DSt.start (h2.alloc _) (sts_one w2) ((b1.trans (b2.mono b1.size)).alloc (by omega) _)⟩
  clear b1 b2 h2 hc hmb hlc hlm z1 H0 emin hn12 hnl
  go_upto_region 6 with fail
  go_cut [10] (fun v10 wx => v10 = .int .i64 (n : Int) ∧ wx = w2.alloc (.cells #[.slice none 0 0] 46))
  case first =>
    by_cases hle : (len : Int) ≤ 12
    all_goals
      go_wp2_with fail
      go_meet
      case rel => exact ⟨by have := HN.out; congr 1; omega, rfl⟩
  case rest =>
  obtain ⟨rfl, rfl⟩ := hcut
  have hn12 : n ≤ 12 := by have := HN.out; omega
  have hnl : n ≤ len := by have := HN.out; omega
  go_wp2_with fail
  generalize w2.heap.size = n₀ at *
  go_loopg [7, 8, 9, 11] n (fun gh v7 v8 v9 v11 wr => DpRel w c mb n₀ n gh v7 v8 v9 v11 wr)
  case atStart => exact R0
  case round =>
    clear R0
    have HI := Lib.hid hn12
    obtain ⟨i, cell, l, hat, rfl, rfl, hi, hg, hst⟩ := hrel
    by_cases hin : i < n
    · have S := Lib.hid (And.intro hst (And.intro hat hg))
      clear hst hat hg
      go_upto_region 10 with fail
      go_cut [46] (fun v46 wx => (∃ t : Bool, v46 = .bool t ∧ (t = true → 0 < i ∧ cell < 5)) ∧ wx = wr)
      case first =>
        by_cases hi0 : i = 0
        · subst hi0
          go_wp2_with fail
          go_meet
          case rel => exact ⟨⟨false, rfl, fun h => by cases h⟩, rfl⟩
        · have t0 : decide ((0 : Int) < (i : Int)) = true := by simp; omega
          have hi64 : (i : Int) < 64 := by omega
          by_cases hT : (bits BinOp.and IntKind.i64 (a1 / 2 ^ i) 1 == 1) = true
          · by_cases hc5 : cell < 5
            · have t5 : decide ((cell : Int) < 5) = true := by simp; omega
              go_wp2_with fail
              go_meet
              case rel => exact ⟨⟨true, rfl, fun _ => ⟨by omega, hc5⟩⟩, rfl⟩
            · have t5 : decide ((cell : Int) < 5) = false := by simp; omega
              go_wp2_with fail
              go_meet
              case rel => exact ⟨⟨false, rfl, fun h => by cases h⟩, rfl⟩
          · have hT : (bits BinOp.and IntKind.i64 (a1 / 2 ^ i) 1 == 1) = false := by simpa using hT
            go_wp2_with fail
            go_meet
            case rel => exact ⟨⟨false, rfl, fun h => by cases h⟩, rfl⟩
      case rest =>
      obtain ⟨⟨t, rfl, ht⟩, rfl⟩ := hcut
      go_upto_if 46 with fail
      go_cut [8, 9] (fun v8 v9 wx => ∃ cell' : Nat, v8 = .int .i64 (cell' : Int) ∧ DSt w c mb n₀ 1 i cell' v9 l wx)
      case first =>
        cases t with
        | false =>
          go_wp2_with fail
          go_meet
          case rel => exact ⟨cell, rfl, S.out.1.weaken⟩
        | true =>
          obtain ⟨hi0, hc5⟩ := ht rfl
          have hs := S.out.1
          obtain ⟨v', wa, hrun, hsts, hbe⟩ := sts_more hs.sts (by rw [hs.sl]; omega) (hs.sts.base (by rw [hs.sl]; omega))
          have RUN := Lib.hid hrun
          have FIN := Lib.hid (hs.more hi0 hc5 hsts hbe E.out.2.2.1 E.out.2.2.2.1 E.out.2.2.2.2)
          clear hrun hsts hbe hs ht
          go_wp2_with (refine wpList_append_runC (by rfl) _ _ _ (by rfl) (by rfl) (by rfl) RUN.out ?_)
          go_meet
          case rel => exact ⟨cell + 1, by go_num, FIN.out⟩
      case rest =>
      obtain ⟨cell', rfl, hd⟩ := hcut
      obtain rfl := AD.out.resolve_left (by omega)
      obtain ⟨x, hx⟩ : ∃ x, X i = x := ⟨_, rfl⟩
      have hbw := hb (by omega)
      have x0 : wc.cell? ⟨b, off + i, none⟩ = some (.int .i64 x) := by
        rw [← hx]
        exact (hd.bel.cell (p := ⟨b, off + i, none⟩) hbw).trans (hl i (by omega))
      have P := Lib.hid (hd.push (by omega) S.out.2.1 x E.out.2.2.1 E.out.2.2.2.1 E.out.1 E.out.2.1)
      have hil : i < len := by omega
      have HX := Lib.hid hx
      clear hd hx ht
      go_wp2_with fail
      refine P.out.mono ?_
      rintro e W1 ⟨rfl, q, hw⟩
      have t3 : ((i : Int) != (i : Int)) = false := by simp
      have hsl := hw.sl
      obtain ⟨g, vc, e9, hg1, hg2⟩ := hw.sts.lies (by omega)
      rw [hsl] at e9
      subst e9
      have hsts := hw.sts
      obtain ⟨r, hr⟩ : ∃ r, (padL (setsL l) cell')[cell']? = some r := ⟨_, List.getElem?_eq_getElem (by omega)⟩
      have hr9 : r.length ≤ 900 := padL_rows (fun j r h => by have := setsL_rows l j r h; have := hw.len; omega) cell' r hr
      obtain ⟨ad2, cap2, g2, cap3, w2', q1, q2, _, hrun, q3, q4, q5, q6, q7⟩ := sts_put (by rw [hsl]; exact hsts) hr hr9 (by omega) x
      have x0 := (hw.bel.cell (p := ⟨b, off + i, none⟩) hbw).trans (hl i hil)
      rw [HX.out] at x0
      have hbn : b < n₀ := by have := E.out.2.2.2.2; omega
      have KD : W1.drew.cell? ⟨b, off + i, none⟩ = some (.int .i64 x) := x0
      have KA : (W1.drew.alloc (.cells #[.int .i64 x] 3)).cell? ⟨b, off + i, none⟩ = some (.int .i64 x) := (World.cell?_alloc_lt W1.drew _ ⟨b, off + i, none⟩ (show b < W1.heap.size by omega)).trans x0
      have K1 := (q5.cell (p := ⟨b, off + i, none⟩) hbn).trans x0
      have K2 := (q7.cell (p := ⟨b, off + i, none⟩) hbn).trans x0
      have qd : W1.drew.cell? ⟨g, cell', none⟩ = some (.slice ad2 r.length cap2) := q1
      have qa := (World.cell?_alloc_lt W1.drew (.cells #[.int .i64 x] 3) ⟨g, cell', none⟩ hg2).trans qd
      have RUN := Lib.hid hrun
      have FIN := Lib.hid (hw.put hr q6 q7 E.out.2.2.1 E.out.2.2.2.1 E.out.2.2.2.2)
      rw [hsl] at FIN
      have hlt : (cell' : Int) < ((cell' + 1 : Nat) : Int) := by omega
      have hlt2 : (cell' : Int) < (cell' : Int) + 1 := by omega
      have hc0 : (0 : Int) ≤ (cell' : Int) := by omega
      have hi0 : (0 : Int) ≤ (i : Int) := by omega
      have hil' : (i : Int) < (len : Int) := by omega
      clear hrun q6 q7 q5 hsts hr hr9 hw hsl x0 P
      go_wp2_with fail
      refine wp_region_held_drew (S := (fun w' => w'.cell? ⟨b, off + i, none⟩ = some (.int .i64 x))) (by kernel_rfl) ?hs0 (fun hS0 => ?_)
      case hs0 => ((try dsimp only); first | with_reducible exact KD | with_reducible exact KA | with_reducible exact K1 | with_reducible exact K2 | exact KD | exact KA | exact K1 | exact K2)
      refine wpAnyH_take (i := 0) (oi := { dst := some 72, op := Op.move (Operand.tmp 9), type := 49, pos := "law.go:246", after := #[], guard := none }) (v := ?_) rfl (by kernel_rfl) (by kernel_rfl) (by kernel_rfl) (fun _ _ _ h => h) (Or.inl ⟨by rfl, ?hy1⟩) hS0 ?_
      case hy1 => (intro w hSw; (try dsimp only at hSw); go_simp; try with_reducible rfl)
      try simp only [Act.put, List.setIfInBounds_toArray, List.set_cons_zero, List.set_cons_succ]
      refine wpAnyH_take (i := 1) (oi := { dst := some 73, op := Op.move (Operand.tmp 8), type := 3, pos := "law.go:246", after := #[], guard := none }) (v := ?_) rfl (by kernel_rfl) (by kernel_rfl) (by kernel_rfl) (fun _ _ _ h => h) (Or.inl ⟨by rfl, ?hy2⟩) hS0 ?_
      case hy2 => (intro w hSw; (try dsimp only at hSw); go_simp; try with_reducible rfl)
      try simp only [Act.put, List.setIfInBounds_toArray, List.set_cons_zero, List.set_cons_succ]
      refine wpAnyH_take (i := 2) (oi := { dst := some 74, op := Op.move (Operand.tmp 9), type := 49, pos := "law.go:246", after := #[], guard := none }) (v := ?_) rfl (by kernel_rfl) (by kernel_rfl) (by kernel_rfl) (fun _ _ _ h => h) (Or.inl ⟨by rfl, ?hy3⟩) hS0 ?_
      case hy3 => (intro w hSw; (try dsimp only at hSw); go_simp; try with_reducible rfl)
      try simp only [Act.put, List.setIfInBounds_toArray, List.set_cons_zero, List.set_cons_succ]
      refine wpAnyH_take (i := 3) (oi := { dst := some 75, op := Op.move (Operand.tmp 8), type := 3, pos := "law.go:246", after := #[], guard := none }) (v := ?_) rfl (by kernel_rfl) (by kernel_rfl) (by kernel_rfl) (fun _ _ _ h => h) (Or.inl ⟨by rfl, ?hy4⟩) hS0 ?_
      case hy4 => (intro w hSw; (try dsimp only at hSw); go_simp; try with_reducible rfl)
      try simp only [Act.put, List.setIfInBounds_toArray, List.set_cons_zero, List.set_cons_succ]
      refine wpAnyH_take (i := 4) (oi := { dst := some 76, op := Op.indexAddr 49 (Operand.tmp 74) (Operand.tmp 75), type := 0, pos := "law.go:246", after := #[{ on := 2, ground := Ground.data }, { on := 3, ground := Ground.data }], guard := none }) (v := ?_) rfl (by kernel_rfl) (by kernel_rfl) (by kernel_rfl) (fun _ _ _ h => h) (Or.inl ⟨by rfl, ?hy5⟩) hS0 ?_
      case hy5 => (intro w hSw; (try dsimp only at hSw); go_simp; try with_reducible rfl)
      try simp only [Act.put, List.setIfInBounds_toArray, List.set_cons_zero, List.set_cons_succ]
      refine wpAnyH_take (i := 6) (oi := { dst := some 78, op := Op.move (Operand.tmp 0), type := 46, pos := "law.go:246", after := #[], guard := none }) (v := ?_) rfl (by kernel_rfl) (by kernel_rfl) (by kernel_rfl) (fun _ _ _ h => h) (Or.inl ⟨by rfl, ?hy6⟩) hS0 ?_
      case hy6 => (intro w hSw; (try dsimp only at hSw); go_simp; try with_reducible rfl)
      try simp only [Act.put, List.setIfInBounds_toArray, List.set_cons_zero, List.set_cons_succ]
      refine wpAnyH_take (i := 7) (oi := { dst := some 79, op := Op.move (Operand.tmp 11), type := 3, pos := "law.go:246", after := #[], guard := none }) (v := ?_) rfl (by kernel_rfl) (by kernel_rfl) (by kernel_rfl) (fun _ _ _ h => h) (Or.inl ⟨by rfl, ?hy7⟩) hS0 ?_
      case hy7 => (intro w hSw; (try dsimp only at hSw); go_simp; try with_reducible rfl)
      try simp only [Act.put, List.setIfInBounds_toArray, List.set_cons_zero, List.set_cons_succ]
      refine wpAnyH_take (i := 8) (oi := { dst := some 80, op := Op.indexAddr 46 (Operand.tmp 78) (Operand.tmp 79), type := 0, pos := "law.go:246", after := #[{ on := 6, ground := Ground.data }, { on := 7, ground := Ground.data }], guard := none }) (v := ?_) rfl (by kernel_rfl) (by kernel_rfl) (by kernel_rfl) (fun _ _ _ h => h) (Or.inl ⟨by rfl, ?hy8⟩) hS0 ?_
      case hy8 => (intro w hSw; (try dsimp only at hSw); go_simp; try with_reducible rfl)
      try simp only [Act.put, List.setIfInBounds_toArray, List.set_cons_zero, List.set_cons_succ]
      refine wpAnyH_take (i := 9) (oi := { dst := some 81, op := Op.load 3 (Operand.tmp 80), type := 3, pos := "law.go:246", after := #[{ on := 8, ground := Ground.data }], guard := none }) (v := ?_) rfl (by kernel_rfl) (by kernel_rfl) (by kernel_rfl) (fun _ _ _ h => h) (Or.inl ⟨by rfl, ?hy9⟩) hS0 ?_
      case hy9 => (intro w hSw; (try dsimp only at hSw); go_simp; try with_reducible rfl)
      try simp only [Act.put, List.setIfInBounds_toArray, List.set_cons_zero, List.set_cons_succ]
      refine wpAnyH_ready (rs := [5, 10]) (by kernel_rfl) (by simp) ?_
      refine AllReadyH.cons (o := { dst := some 77, op := Op.load 46 (Operand.tmp 76), type := 46, pos := "law.go:246", after := #[{ on := 4, ground := Ground.data }], guard := none }) rfl (fun K hK => ?_) ?_
      · go_simp
        refine hK.out _ _ ?hs10 (fun hS10 => ?_)
        case hs10 => ((try dsimp only); first | with_reducible exact KD | with_reducible exact KA | with_reducible exact K1 | with_reducible exact K2 | exact KD | exact KA | exact K1 | exact K2)
        clear hK K hS0
        refine wpAnyH_ready (rs := [10]) (by kernel_rfl) (by simp) ?_
        refine AllReadyH.cons (o := { dst := some 82, op := Op.buildSlice 46 1 #[(0, Operand.tmp 81)], type := 46, pos := "law.go:246", after := #[{ on := 9, ground := Ground.data }], guard := none }) rfl (fun K hK => ?_) ?_
        · go_simp
          refine hK.out _ _ ?hs11 (fun hS11 => ?_)
          case hs11 => ((try dsimp only); first | with_reducible exact KD | with_reducible exact KA | with_reducible exact K1 | with_reducible exact K2 | exact KD | exact KA | exact K1 | exact K2)
          clear hK K hS10
          refine wpAnyH_ready (rs := [11]) (by kernel_rfl) (by simp) ?_
          refine AllReadyH.cons (o := { dst := some 83, op := Op.call { callee := Callee.builtin Builtin.append, args := #[Operand.tmp 77, Operand.tmp 82], argTypes := #[46, 46] }, type := 46, pos := "law.go:246", after := #[{ on := 5, ground := Ground.data }, { on := 10, ground := Ground.data }], guard := none }) rfl (fun K hK => ?_) ?_
          · refine step_append_runC (by rfl) _ _ _ (by rfl) (by rfl) (by rfl) RUN.out ?_
            refine hK.out _ _ ?hs12 (fun hS12 => ?_)
            case hs12 => ((try dsimp only); first | with_reducible exact KD | with_reducible exact KA | with_reducible exact K1 | with_reducible exact K2 | exact KD | exact KA | exact K1 | exact K2)
            clear hK K hS11
            refine wpAnyH_take (i := 12) (oi := { dst := some 84, op := Op.indexAddr 49 (Operand.tmp 72) (Operand.tmp 73), type := 0, pos := "law.go:246", after := #[{ on := 0, ground := Ground.data }, { on := 1, ground := Ground.data }, { on := 0, ground := Ground.phase }, { on := 1, ground := Ground.phase }, { on := 2, ground := Ground.phase }, { on := 3, ground := Ground.phase }, { on := 4, ground := Ground.phase }, { on := 5, ground := Ground.phase }, { on := 6, ground := Ground.phase }, { on := 7, ground := Ground.phase }, { on := 8, ground := Ground.phase }, { on := 9, ground := Ground.phase }, { on := 10, ground := Ground.phase }, { on := 11, ground := Ground.phase }], guard := none }) (v := ?_) rfl (by kernel_rfl) (by kernel_rfl) (by kernel_rfl) (fun _ _ _ h => h) (Or.inl ⟨by rfl, ?hy13⟩) hS12 ?_
            case hy13 => (intro w hSw; (try dsimp only at hSw); go_simp; try with_reducible rfl)
            try simp only [Act.put, List.setIfInBounds_toArray, List.set_cons_zero, List.set_cons_succ]
            refine wpAnyH_ready (rs := [13]) (by kernel_rfl) (by simp) ?_
            refine AllReadyH.cons (o := { dst := none, op := Op.store 46 (Operand.tmp 84) (Operand.tmp 83), type := 0, pos := "law.go:246", after := #[{ on := 12, ground := Ground.data }, { on := 11, ground := Ground.data }, { on := 11, ground := Ground.chain }, { on := 0, ground := Ground.phase }, { on := 1, ground := Ground.phase }, { on := 2, ground := Ground.phase }, { on := 3, ground := Ground.phase }, { on := 4, ground := Ground.phase }, { on := 5, ground := Ground.phase }, { on := 6, ground := Ground.phase }, { on := 7, ground := Ground.phase }, { on := 8, ground := Ground.phase }, { on := 9, ground := Ground.phase }, { on := 10, ground := Ground.phase }, { on := 11, ground := Ground.phase }], guard := none }) rfl (fun K hK => ?_) ?_
            · go_simp
              refine hK.out _ _ ?hs14 (fun hS14 => ?_)
              case hs14 => ((try dsimp only); first | with_reducible exact KD | with_reducible exact KA | with_reducible exact K1 | with_reducible exact K2 | exact KD | exact KA | exact K1 | exact K2)
              clear hK K hS12
              refine wpAnyH_done (by kernel_rfl) ?_ _
              go_wp2_with fail
              go_roundg (n - (i + 1))
              case measure => have := S.out.2.2; omega
              case rel => exact ⟨i + 1, cell', l ++ [q], .inr ⟨i, rfl, rfl⟩, rfl, by go_num, by have := hin; omega, rfl, FIN.out⟩
            exact AllReadyH.nil
          exact AllReadyH.nil
        exact AllReadyH.nil
      refine AllReadyH.cons (o := { dst := some 82, op := Op.buildSlice 46 1 #[(0, Operand.tmp 81)], type := 46, pos := "law.go:246", after := #[{ on := 9, ground := Ground.data }], guard := none }) rfl (fun K hK => ?_) ?_
      · go_simp
        refine hK.out _ _ ?hs15 (fun hS15 => ?_)
        case hs15 => ((try dsimp only); first | with_reducible exact KD | with_reducible exact KA | with_reducible exact K1 | with_reducible exact K2 | exact KD | exact KA | exact K1 | exact K2)
        clear hK K hS0
        refine wpAnyH_ready (rs := [5]) (by kernel_rfl) (by simp) ?_
        refine AllReadyH.cons (o := { dst := some 77, op := Op.load 46 (Operand.tmp 76), type := 46, pos := "law.go:246", after := #[{ on := 4, ground := Ground.data }], guard := none }) rfl (fun K hK => ?_) ?_
        · go_simp
          refine hK.out _ _ ?hs16 (fun hS16 => ?_)
          case hs16 => ((try dsimp only); first | with_reducible exact KD | with_reducible exact KA | with_reducible exact K1 | with_reducible exact K2 | exact KD | exact KA | exact K1 | exact K2)
          clear hK K hS15
          refine wpAnyH_ready (rs := [11]) (by kernel_rfl) (by simp) ?_
          refine AllReadyH.cons (o := { dst := some 83, op := Op.call { callee := Callee.builtin Builtin.append, args := #[Operand.tmp 77, Operand.tmp 82], argTypes := #[46, 46] }, type := 46, pos := "law.go:246", after := #[{ on := 5, ground := Ground.data }, { on := 10, ground := Ground.data }], guard := none }) rfl (fun K hK => ?_) ?_
          · refine step_append_runC (by rfl) _ _ _ (by rfl) (by rfl) (by rfl) RUN.out ?_
            refine hK.out _ _ ?hs17 (fun hS17 => ?_)
            case hs17 => ((try dsimp only); first | with_reducible exact KD | with_reducible exact KA | with_reducible exact K1 | with_reducible exact K2 | exact KD | exact KA | exact K1 | exact K2)
            clear hK K hS16
            refine wpAnyH_take (i := 12) (oi := { dst := some 84, op := Op.indexAddr 49 (Operand.tmp 72) (Operand.tmp 73), type := 0, pos := "law.go:246", after := #[{ on := 0, ground := Ground.data }, { on := 1, ground := Ground.data }, { on := 0, ground := Ground.phase }, { on := 1, ground := Ground.phase }, { on := 2, ground := Ground.phase }, { on := 3, ground := Ground.phase }, { on := 4, ground := Ground.phase }, { on := 5, ground := Ground.phase }, { on := 6, ground := Ground.phase }, { on := 7, ground := Ground.phase }, { on := 8, ground := Ground.phase }, { on := 9, ground := Ground.phase }, { on := 10, ground := Ground.phase }, { on := 11, ground := Ground.phase }], guard := none }) (v := ?_) rfl (by kernel_rfl) (by kernel_rfl) (by kernel_rfl) (fun _ _ _ h => h) (Or.inl ⟨by rfl, ?hy18⟩) hS17 ?_
            case hy18 => (intro w hSw; (try dsimp only at hSw); go_simp; try with_reducible rfl)
            try simp only [Act.put, List.setIfInBounds_toArray, List.set_cons_zero, List.set_cons_succ]
            refine wpAnyH_ready (rs := [13]) (by kernel_rfl) (by simp) ?_
            refine AllReadyH.cons (o := { dst := none, op := Op.store 46 (Operand.tmp 84) (Operand.tmp 83), type := 0, pos := "law.go:246", after := #[{ on := 12, ground := Ground.data }, { on := 11, ground := Ground.data }, { on := 11, ground := Ground.chain }, { on := 0, ground := Ground.phase }, { on := 1, ground := Ground.phase }, { on := 2, ground := Ground.phase }, { on := 3, ground := Ground.phase }, { on := 4, ground := Ground.phase }, { on := 5, ground := Ground.phase }, { on := 6, ground := Ground.phase }, { on := 7, ground := Ground.phase }, { on := 8, ground := Ground.phase }, { on := 9, ground := Ground.phase }, { on := 10, ground := Ground.phase }, { on := 11, ground := Ground.phase }], guard := none }) rfl (fun K hK => ?_) ?_
            · go_simp
              refine hK.out _ _ ?hs19 (fun hS19 => ?_)
              case hs19 => ((try dsimp only); first | with_reducible exact KD | with_reducible exact KA | with_reducible exact K1 | with_reducible exact K2 | exact KD | exact KA | exact K1 | exact K2)
              clear hK K hS17
              refine wpAnyH_done (by kernel_rfl) ?_ _
              go_wp2_with fail
              go_roundg (n - (i + 1))
              case measure => have := S.out.2.2; omega
              case rel => exact ⟨i + 1, cell', l ++ [q], .inr ⟨i, rfl, rfl⟩, rfl, by go_num, by have := hin; omega, rfl, FIN.out⟩
            exact AllReadyH.nil
          exact AllReadyH.nil
        exact AllReadyH.nil
      exact AllReadyH.nil
    · have E2 := Lib.hid hst
      have hie : i = n := by omega
      subst hie
      have AT := Lib.hid hat
      clear hst hat hg hl hb hnl hn12 N HN AD hi
      by_cases hn0 : i = 0
      · subst hn0
        have FIN := Lib.hid E2.out.bel
        go_wp2_with fail
        go_ret
        exact ⟨rfl, FIN.out⟩
      · obtain ⟨k, hk, hv7⟩ := AT.out.resolve_left (fun h => hn0 h.1)
        subst hv7
        have t0 : ((i : Int) == 0) = false := by simp; omega
        have hi12 := Lib.hid (show i ≤ 12 from HI.out)
        have hi12' : i ≤ 12 := HI.out
        have hi1 : 1 ≤ i := by omega
        have R1 : EpRel w c mb n₀ i u9 l i (.int .i64 0) wr := ⟨0, rfl, by omega, rfl, E2.out.done (by omega)⟩
        have K := Lib.hid hk
        clear hk AT E2
        go_wp2_with fail
        go_loopg [14] i (fun gh v14 wr => EpRel w c mb n₀ i u9 l gh v14 wr)
        case atStart => exact R1
        case round =>
          clear R1
          obtain ⟨d, rfl, hdn, hg, hst⟩ := hrel
          by_cases hlt : d + 1 < i
          · have t1 : decide ((d : Int) < (i : Int) - 1) = true := by simp; omega
            have hd12 : (d : Int) ≤ 12 := by omega
            have P := Lib.hid (hst.drop hlt hi12.out E.out.2.2.1 E.out.2.2.2.1 E.out.1 E.out.2.1)
            clear hst
            go_wp2_with fail
            refine P.out.mono ?_
            rintro e W1 ⟨ad, vc, rfl, hst⟩
            have hst := Lib.hid hst
            go_wp2_with fail
            go_roundg (i - (d + 1))
            case measure => omega
            case rel => exact ⟨d + 1, by go_num, by omega, rfl, hst.out⟩
          · have t1 : decide ((d : Int) < (i : Int) - 1) = false := by simp; omega
            have P := Lib.hid (hst.sets K.out (by have := K.out; omega) hi12.out)
            have hst := Lib.hid hst
            have hdk := Lib.hid (show k ≤ d ∧ d ≤ 12 by have := K.out; omega)
            clear hdn hg hlt
            go_wp2_with fail
            refine P.out.mono ?_
            rintro e W1 ⟨v, rfl, hs, hb1⟩
            obtain ⟨a1', c1', rfl⟩ := hs.shape
            have h1 := hst.out.below hb1
            obtain ⟨a2', c2', hv9⟩ := h1.sts.shape
            subst hv9
            have hlen := h1.len
            have sl := setsL_rows' l (by rw [hlen]; omega)
            have s100 : (setsL l).length ≤ 100000 := by have := h1.few; omega
            have CM := Lib.hid (compare_at (c1 := c1') (c2 := c2') (grid_of hs sl) (grid_of h1.sts sl) rfl rfl s100 s100)
            have h1 := Lib.hid h1
            clear hs hb1 hst sl s100 hlen P
            go_wp2_with fail
            refine CM.out.mono ?_
            rintro e W2 ⟨rfl, dd, rfl⟩
            rw [cmpM_self]
            have h2 := h1.out.below (below_drewN W1 dd)
            obtain ⟨nn, G, _, hc2, _⟩ := h2.ch
            have LV := Lib.hid (live_at hc2)
            have h2 := Lib.hid h2
            clear hc2 CM h1
            generalize W1.drewN dd = W2 at *
            go_wp2_with fail
            refine LV.out.mono ?_
            rintro e W3 ⟨rfl, rfl⟩
            have LL := Lib.hid (h2.out.last K.out hdk.out.1 hi12.out hdk.out.2 E.out.2.1)
            go_wp2_with fail
            refine LL.out.mono ?_
            rintro e W4 ⟨g, vc, rfl, hcells, ⟨nn2, G2, hc4⟩, hbel⟩
            have CE := Lib.hid hcells
            have LV4 := Lib.hid (live_at hc4)
            have BE := Lib.hid hbel
            clear hcells hc4 hbel LL LV h2
            go_wp2_with fail
            go_loopg [21] i (fun gh v21 wr => ∃ j : Nat, gh = i - j ∧ v21 = .int .i64 (j : Int) ∧ j ≤ i ∧ wr = W4)
            case atStart => exact ⟨0, by omega, rfl, by omega, rfl⟩
            case round =>
              obtain ⟨j, hgj, rfl, hji, rfl⟩ := hrel
              by_cases hj : j < i
              · have x0 := CE.out j hj
                have t5 : (((i : Int) - 1 - (j : Int)) != ((i : Int) - 1 - (j : Int))) = false := by simp
                go_wp2_with fail
                go_roundg (i - (j + 1))
                case measure => omega
                case rel => exact ⟨j + 1, rfl, by go_num, by omega, rfl⟩
              · go_wp2_with fail
                refine LV4.out.mono ?_
                rintro e W5 ⟨rfl, rfl⟩
                go_wp2_with fail
                go_ret
                exact ⟨rfl, BE.out⟩
theorem deep_any (a : Option Addr) (len cap : Nat) (a1 : Int) (w : World) (h : IntArg w a len) :
    Calls Try.prog 7 #[.slice a len cap, .int .i64 a1] w fun e w' => e = .returned (.bool true) ∧ Below w.heap.size w w' := by
  obtain ⟨b, off, X, h1, h2, h3, h4, _⟩ := h
  exact deep_walk a b off len cap h1 X a1 w h2 h3 h4
end Go.Proofs.Ytakjpoapjokmbaa
