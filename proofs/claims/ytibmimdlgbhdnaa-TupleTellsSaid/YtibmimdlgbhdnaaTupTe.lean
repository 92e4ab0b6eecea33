/-
  The walk of TupleTells.
-/
import Derived.Test.YtibmimdlgbhdnaaTupRs
import Derived.Test.YtibmimdlgbhdnaaTupTu
namespace Go.Proofs.Ytibmimdlgbhdnaa
open Go.ChangeShapes Go.WideShapes Go.ChangeAt Go.RowKit
set_option linter.unusedVariables false

theorem same_flat {w1 wa wb : World} {M : Mat} {v1 v2 : Value} (h1 : wa.ownsRow w1.heap.size 3 1 v1 (flatN M).length (intsV (flatN M))) (h2 : wb.ownsRow wa.heap.size 3 1 v2 (flatN M).length (intsV (flatN M))) (t : Turn (fun _ => False) wa wb) (hM : M.length ≤ 12 ∧ ∀ x ∈ M, x.length ≤ 4) :
    Calls Try.prog 17 #[v1, v2] wb fun e w' => e = .returned (.bool true) ∧ Turn (fun _ => False) wb w' := by
  have hl : (flatN M).length ≤ 48 := by
    have := flat_len hM M.length
    rwa [List.take_length] at this
  refine (same_row ((rowAt_own h1).turn t) (rowAt_own h2) (by omega) (by omega)).mono fun e w' ⟨he, d, hd⟩ => ⟨?_, by rw [hd]; exact (Turn.refl _ wb).drewN d⟩
  rw [he, ord_int.list.self]
  rfl
set_option maxRecDepth 100000 in
set_option maxHeartbeats 4000000 in
theorem tells_walk {w : World} {v : Value} {L : Mat} (h : RowsAt w v L) (hL : L.length ≤ 9223372036854775807) (hR : ∀ x ∈ L, x.length ≤ 9223372036854775807) :
    Calls Try.prog 3 #[v] w fun e w' => e = .returned (.bool true) ∧ Below w.heap.size w w' := by
  have AW := Lib.hid (tuple_awake w)
  have IN := Lib.hid h
  have LEN := Lib.hid (And.intro hL hR)
  clear h hL hR
  go_enter Try.func3, Try.ntmps3
  go_wp2_with fail
  with_reducible refine AW.out.mono ?_
  rintro e w1 ⟨rfl, b1⟩
  have T1 := Lib.hid (Turn.of_below (S := fun _ => False) b1)
  clear b1 AW
  have F := Lib.hid (matches_is (IN.out.turn T1.out) LEN.out.1 LEN.out.2)
  go_wp2_with fail
  with_reducible refine F.out.mono ?_
  rintro e w2 ⟨v2, rfl, MS, xs, B, hm, h12, hsm, ho, hr, t2⟩
  have T2 := Lib.hid (T1.out.trans t2)
  clear t2 F T1 IN LEN ho hr
  obtain ⟨ma, mb, mo, mc, rfl, hm4⟩ := mats_in hm
  have MI := Lib.hid (And.intro hm4 (And.intro hm hsm))
  have R0 : TuI w2 MS.length MS.length (.int .i64 0) w2 := ⟨0, rfl, Nat.zero_le _, rfl, Turn.refl _ _⟩
  clear hm hm4 hsm
  go_wp2_with fail
  go_loopg [5] MS.length (fun gh v5 wr => TuI w2 MS.length gh v5 wr)
  case atStart => exact R0
  case round =>
    clear R0
    obtain ⟨i, rfl, hi, hg, T⟩ := hrel
    by_cases hil : i < MS.length
    · obtain ⟨X, hX⟩ : ∃ X, MS[i]? = some X := ⟨_, List.getElem?_eq_getElem hil⟩
      have hXs := MI.out.2.2 X (List.mem_of_getElem? hX)
      obtain ⟨px, cx, z1, q1⟩ := MI.out.1.at_ i X hX
      have had := MI.out.1.ad.resolve_left (fun e => by rw [e] at hil; simp at hil)
      subst had
      have y1 := T.cell id z1
      have t1 : decide ((i : Int) < (MS.length : Int)) = true := by simp; omega
      have hi1 : (i : Int) < (MS.length : Int) := by omega
      have hi0 : (0 : Int) ≤ (i : Int) := by omega
      have FL := Lib.hid (fun (W : World) (t : Turn (fun _ => False) wr W) => flat_is (q1.turn (T.trans t)) hXs)
      have RF := Lib.hid (fun (W : World) (t : Turn (fun _ => False) wr W) => rflat_is (q1.turn (T.trans t)) hXs)
      have NX := Lib.hid (fun (W : World) (t : Turn (fun _ => False) wr W) => show TuI w2 MS.length (MS.length - (i + 1)) (.int .i64 ((i + 1 : Nat) : Int)) W from ⟨i + 1, rfl, by omega, rfl, T.trans t⟩)
      have QX := Lib.hid (fun (W : World) (t : Turn (fun _ => False) wr W) => q1.turn (T.trans t))
      have TT := Lib.hid T
      have G := Lib.hid hg
      clear hX z1 q1 T hg
      unfold FlatPost at FL RF
      go_upto_region 6 with fail
      refine wp_region_held_drew (S := (fun w' => w'.cell? ⟨mb, mo + i, none⟩ = some (.slice px X.length cx))) (by kernel_rfl) ?hs0 (fun hS0 => ?_)
      case hs0 => ((try dsimp only); first | with_reducible exact y1 | with_reducible exact k1 | exact y1 | exact k1 | exact k2 | exact k3)
      refine wpAnyH_take (i := 0) (oi := { dst := some 18, op := Op.move (Operand.tmp 4), type := 24, pos := "law.go:52", after := #[], guard := none }) (v := ?_) rfl (by kernel_rfl) (by kernel_rfl) (by kernel_rfl) (fun _ _ _ h => h) (Or.inl ⟨by rfl, ?hy1⟩) hS0 ?_
      case hy1 => (intro w hSw; (try dsimp only at hSw); go_simp; try with_reducible rfl)
      try simp only [Act.put, List.setIfInBounds_toArray, List.set_cons_zero, List.set_cons_succ]
      refine wpAnyH_take (i := 1) (oi := { dst := some 19, op := Op.move (Operand.tmp 5), type := 3, pos := "law.go:52", after := #[], guard := none }) (v := ?_) rfl (by kernel_rfl) (by kernel_rfl) (by kernel_rfl) (fun _ _ _ h => h) (Or.inl ⟨by rfl, ?hy2⟩) hS0 ?_
      case hy2 => (intro w hSw; (try dsimp only at hSw); go_simp; try with_reducible rfl)
      try simp only [Act.put, List.setIfInBounds_toArray, List.set_cons_zero, List.set_cons_succ]
      refine wpAnyH_take (i := 2) (oi := { dst := some 20, op := Op.indexAddr 24 (Operand.tmp 18) (Operand.tmp 19), type := 0, pos := "law.go:52", after := #[{ on := 0, ground := Ground.data }, { on := 1, ground := Ground.data }], guard := none }) (v := ?_) rfl (by kernel_rfl) (by kernel_rfl) (by kernel_rfl) (fun _ _ _ h => h) (Or.inl ⟨by rfl, ?hy3⟩) hS0 ?_
      case hy3 => (intro w hSw; (try dsimp only at hSw); go_simp; try with_reducible rfl)
      try simp only [Act.put, List.setIfInBounds_toArray, List.set_cons_zero, List.set_cons_succ]
      refine wpAnyH_take (i := 3) (oi := { dst := some 21, op := Op.load 22 (Operand.tmp 20), type := 22, pos := "law.go:52", after := #[{ on := 2, ground := Ground.data }], guard := none }) (v := ?_) rfl (by kernel_rfl) (by kernel_rfl) (by kernel_rfl) (fun _ _ _ h => h) (Or.inl ⟨by rfl, ?hy4⟩) hS0 ?_
      case hy4 => (intro w hSw; (try dsimp only at hSw); go_simp; try with_reducible rfl)
      try simp only [Act.put, List.setIfInBounds_toArray, List.set_cons_zero, List.set_cons_succ]
      refine wpAnyH_take (i := 5) (oi := { dst := some 23, op := Op.move (Operand.tmp 4), type := 24, pos := "law.go:52", after := #[], guard := none }) (v := ?_) rfl (by kernel_rfl) (by kernel_rfl) (by kernel_rfl) (fun _ _ _ h => h) (Or.inl ⟨by rfl, ?hy5⟩) hS0 ?_
      case hy5 => (intro w hSw; (try dsimp only at hSw); go_simp; try with_reducible rfl)
      try simp only [Act.put, List.setIfInBounds_toArray, List.set_cons_zero, List.set_cons_succ]
      refine wpAnyH_take (i := 6) (oi := { dst := some 24, op := Op.move (Operand.tmp 5), type := 3, pos := "law.go:52", after := #[], guard := none }) (v := ?_) rfl (by kernel_rfl) (by kernel_rfl) (by kernel_rfl) (fun _ _ _ h => h) (Or.inl ⟨by rfl, ?hy6⟩) hS0 ?_
      case hy6 => (intro w hSw; (try dsimp only at hSw); go_simp; try with_reducible rfl)
      try simp only [Act.put, List.setIfInBounds_toArray, List.set_cons_zero, List.set_cons_succ]
      refine wpAnyH_take (i := 7) (oi := { dst := some 25, op := Op.indexAddr 24 (Operand.tmp 23) (Operand.tmp 24), type := 0, pos := "law.go:52", after := #[{ on := 5, ground := Ground.data }, { on := 6, ground := Ground.data }], guard := none }) (v := ?_) rfl (by kernel_rfl) (by kernel_rfl) (by kernel_rfl) (fun _ _ _ h => h) (Or.inl ⟨by rfl, ?hy7⟩) hS0 ?_
      case hy7 => (intro w hSw; (try dsimp only at hSw); go_simp; try with_reducible rfl)
      try simp only [Act.put, List.setIfInBounds_toArray, List.set_cons_zero, List.set_cons_succ]
      refine wpAnyH_take (i := 8) (oi := { dst := some 26, op := Op.load 22 (Operand.tmp 25), type := 22, pos := "law.go:52", after := #[{ on := 7, ground := Ground.data }], guard := none }) (v := ?_) rfl (by kernel_rfl) (by kernel_rfl) (by kernel_rfl) (fun _ _ _ h => h) (Or.inl ⟨by rfl, ?hy8⟩) hS0 ?_
      case hy8 => (intro w hSw; (try dsimp only at hSw); go_simp; try with_reducible rfl)
      try simp only [Act.put, List.setIfInBounds_toArray, List.set_cons_zero, List.set_cons_succ]
      refine wpAnyH_ready (rs := [4]) (by kernel_rfl) (by simp) ?_
      refine AllReadyH.cons (o := { dst := some 22, op := Op.call { callee := Callee.value (Operand.func 18), args := #[Operand.tmp 21], argTypes := #[22] }, type := 27, pos := "law.go:52", after := #[{ on := 3, ground := Ground.data }], guard := none }) rfl (fun K hK => ?_) ?_
      · go_simp; with_reducible refine (FL.out _ (show Turn (fun _ => False) wr wr.drew from (Turn.refl _ wr).drewN 1)).mono ?_; rintro e wx ⟨vf, rfl, ho1, tx⟩; have tx1 := (show Turn (fun _ => False) wr wr.drew from (Turn.refl _ wr).drewN 1).trans tx; have k1 := tx1.cell id y1; obtain ⟨pf, cf, rfl, _⟩ := own_slice ho1; have RL2 := Lib.hid (RF.out _ tx1); have O1 := Lib.hid (And.intro ho1 tx1); clear ho1 tx tx1; go_simp
        refine hK.out _ _ ?hs9 (fun hS9 => ?_)
        case hs9 => ((try dsimp only); first | with_reducible exact y1 | with_reducible exact k1 | exact y1 | exact k1 | exact k2 | exact k3)
        clear hK K hS0
        refine wpAnyH_ready (rs := [9]) (by kernel_rfl) (by simp) ?_
        refine AllReadyH.cons (o := { dst := some 27, op := Op.call { callee := Callee.value (Operand.func 19), args := #[Operand.tmp 26], argTypes := #[22] }, type := 27, pos := "law.go:52", after := #[{ on := 8, ground := Ground.data }, { on := 4, ground := Ground.chain }], guard := none }) rfl (fun K hK => ?_) ?_
        · go_simp; with_reducible refine RL2.out.mono ?_; rintro e wy ⟨vg, rfl, ho2, ty⟩; have k2 := ty.cell id k1; obtain ⟨pg, cg, rfl, _⟩ := own_slice ho2; have SR := Lib.hid (same_flat O1.out.1 ho2 ty hXs); have T2 := Lib.hid (O1.out.2.trans ty); clear ho2 ty; go_simp
          refine hK.out _ _ ?hs10 (fun hS10 => ?_)
          case hs10 => ((try dsimp only); first | with_reducible exact y1 | with_reducible exact k1 | exact y1 | exact k1 | exact k2 | exact k3)
          clear hK K hS9
          refine wpAnyH_ready (rs := [10]) (by kernel_rfl) (by simp) ?_
          refine AllReadyH.cons (o := { dst := some 28, op := Op.call { callee := Callee.value (Operand.func 17), args := #[Operand.tmp 22, Operand.tmp 27], argTypes := #[27, 27] }, type := 4, pos := "law.go:52", after := #[{ on := 4, ground := Ground.data }, { on := 9, ground := Ground.data }, { on := 9, ground := Ground.chain }], guard := none }) rfl (fun K hK => ?_) ?_
          · go_simp; with_reducible refine SR.out.mono ?_; rintro e wz ⟨rfl, tz⟩; have k3 := tz.cell id k2; have T3 := Lib.hid (T2.out.trans tz); clear tz; go_simp
            refine hK.out _ _ ?hs11 (fun hS11 => ?_)
            case hs11 => ((try dsimp only); first | with_reducible exact y1 | with_reducible exact k1 | exact y1 | exact k1 | exact k2 | exact k3)
            clear hK K hS10
            refine wpAnyH_take (i := 11) (oi := { dst := some 6, op := Op.assign (Operand.tmp 28), type := 4, pos := "law.go:52", after := #[{ on := 10, ground := Ground.data }, { on := 10, ground := Ground.chain }, { on := 0, ground := Ground.phase }, { on := 1, ground := Ground.phase }, { on := 2, ground := Ground.phase }, { on := 3, ground := Ground.phase }, { on := 4, ground := Ground.phase }, { on := 5, ground := Ground.phase }, { on := 6, ground := Ground.phase }, { on := 7, ground := Ground.phase }, { on := 8, ground := Ground.phase }, { on := 9, ground := Ground.phase }, { on := 10, ground := Ground.phase }], guard := none }) (v := ?_) rfl (by kernel_rfl) (by kernel_rfl) (by kernel_rfl) (fun _ _ _ h => h) (Or.inl ⟨by rfl, ?hy12⟩) hS11 ?_
            case hy12 => (intro w hSw; (try dsimp only at hSw); go_simp; try with_reducible rfl)
            try simp only [Act.put, List.setIfInBounds_toArray, List.set_cons_zero, List.set_cons_succ]
            refine wpAnyH_done (by kernel_rfl) ?_ _
            have K0 : SmRel wz MS.length MS.length (.int .i64 0) wz := ⟨0, 0, rfl, Nat.zero_le _, rfl, rfl⟩
            clear FL RF O1 RL2 SR T2 k1 k2
            go_wp2_with fail
            go_loopg [7] MS.length (fun gh v7 wr' => SmRel wz MS.length gh v7 wr')
            case atStart => exact K0
            case round =>
              clear K0
              obtain ⟨k, d, rfl, hk, hgk, hw⟩ := hrel
              by_cases hkl : k < MS.length
              · obtain ⟨Y, hY⟩ : ∃ Y, MS[k]? = some Y := ⟨_, List.getElem?_eq_getElem hkl⟩
                have hYs := MI.out.2.2 Y (List.mem_of_getElem? hY)
                obtain ⟨py, cy, z2, q2⟩ := MI.out.1.at_ k Y hY
                have y3 : wr.cell? ⟨mb, mo + i, none⟩ = some (.slice px X.length cx) := by rw [hw]; exact k3
                have y4 : wr.cell? ⟨mb, mo + k, none⟩ = some (.slice py Y.length cy) := by rw [hw]; exact (TT.out.trans T3.out).cell id z2
                have q1 := QX.out _ T3.out
                have q3 := q2.turn (TT.out.trans T3.out)
                have t2 : decide ((k : Int) < (MS.length : Int)) = true := by simp; omega
                have hk1 : (k : Int) < (MS.length : Int) := by omega
                have hk0 : (0 : Int) ≤ (k : Int) := by omega
                have C20 := Lib.hid (fun dd => (show Calls Try.prog 20 #[.slice px X.length cx, .slice py Y.length cy] (wr.drewN dd) (fun e w' => e = Ending.returned (.int .i64 (cmpM X Y)) ∧ ∃ q, w' = wr.drewN q) from by
                  rw [hw]
                  exact cmp_q q1 q3 hXs hYs d dd))
                have C21 := Lib.hid (fun dd => (show Calls Try.prog 21 #[.slice px X.length cx, .slice py Y.length cy] (wr.drewN dd) (fun e w' => e = Ending.returned (.int .i64 (cmpM X Y)) ∧ ∃ q, w' = wr.drewN q) from by
                  rw [hw]
                  exact (rcmp_is (w := (wz.drewN d).drewN dd) q1 q3 (by omega) (by omega) (fun x hx => by have := hXs.2 x hx; omega) (fun x hx => by have := hYs.2 x hx; omega)).mono fun e w' ⟨h1, q, h2⟩ => ⟨h1, dd + q, by rw [h2, World.drewN_drewN]⟩))
                have NK := Lib.hid (fun q => show SmRel wz MS.length (MS.length - (k + 1)) (.int .i64 ((k + 1 : Nat) : Int)) (wr.drewN q) from ⟨k + 1, d + q, rfl, by omega, rfl, by rw [hw, World.drewN_drewN]⟩)
                have GK := Lib.hid hgk
                clear hY hYs q2 q1 q3 z2 hw hgk
                generalize cmpM X Y = zz at *
                go_wp2_with fail
                go_quiet ((first | (go_at_call 20; exact C20.out _) | (go_at_call 21; exact C21.out _)))
                go_wp2_with fail
                go_roundg (MS.length - (k + 1))
                case measure => have := GK.out; omega
                case rel => exact NK.out _
              · have t2 : decide ((k : Int) < (MS.length : Int)) = false := by simp; omega
                have NN := Lib.hid (NX.out wr (by rw [hw]; exact T3.out.drewN d))
                clear hw hgk
                go_wp2_with fail
                go_roundg (MS.length - (i + 1))
                case measure => have := G.out; omega
                case rel => exact NN.out
          exact AllReadyH.nil
        exact AllReadyH.nil
      exact AllReadyH.nil
    · have hm3 := MI.out.2.1.turn T
      have SR := Lib.hid (sort_any hm3 h12 (fun M hM => by have := (MI.out.2.2 M hM).1; omega) (fun M hM x hx => by have := (MI.out.2.2 M hM).2 x hx; omega))
      have RS := Lib.hid (fun (W : World) (t : Turn (fun _ => False) wr W) => rsort_is (hm3.turn t) h12 MI.out.2.2)
      have T3 := Lib.hid (T2.out.trans T)
      have HS := Lib.hid MI.out.2.2
      have t1 : decide ((i : Int) < (MS.length : Int)) = false := by simp; omega
      clear hg hm3 T MI T2
      go_wp2_with fail
      with_reducible refine SR.out.mono ?_
      rintro e w4 ⟨E, g, cap, rfl, hp, hs, hpw, t4⟩
      have S4 := Lib.hid (And.intro hp (And.intro hs (And.intro hpw t4)))
      have RS4 := Lib.hid (RS.out _ t4)
      clear hp hs hpw t4 SR RS
      go_wp2_with fail
      with_reducible refine RS4.out.mono ?_
      rintro e w5 ⟨v5, E2, rfl, hm5, hp2, hpw2, t5⟩
      have eSS : E2.map Prod.snd = E.map Prod.snd := sorted_one _ _ (hp2.trans S4.out.1.symm) (List.pairwise_map.2 hpw2) (List.pairwise_map.2 S4.out.2.2.1)
      rw [eSS] at hm5
      obtain ⟨a5, b5, o5, c5, rfl, hin2⟩ := mats_in hm5
      have hin1 : MatsIn w5 (some ⟨g, 0, none⟩) g 0 cap (E.map Prod.snd) := (sort_in S4.out.2.1).turn t5
      have SM := Lib.hid (rsame_is hin1 hin2 (by have := S4.out.1.length_eq; omega) (fun M hM => HS.out M (S4.out.1.mem_iff.1 hM)))
      rw [List.length_map] at SM
      have T5 := Lib.hid (T3.out.trans (S4.out.2.2.2.trans t5))
      clear hm5 hp2 hpw2 t5 eSS hin1 hin2 S4 RS4 T3 HS
      rw [List.length_map]
      go_wp2_with fail
      with_reducible refine SM.out.mono ?_
      rintro e w6 ⟨rfl, d, rfl⟩
      go_wp2
      go_ret
      exact ⟨rfl, (T5.out.drewN d).below (fun k hk => ⟨hk, id⟩)⟩
def InRowsE (W : World) (v : Value) : Prop := ∃ LL, RowsAt W v LL ∧ LL.length ≤ 9223372036854775807 ∧ ∀ x ∈ LL, x.length ≤ 9223372036854775807
theorem tells_any (a0 : Option Addr) (l0 c0 : Nat) (w : World) (h0 : InRowsE w (.slice a0 l0 c0)) :
    Calls Try.prog 3 #[.slice a0 l0 c0] w fun e w' => e = .returned (.bool true) ∧ Below w.heap.size w w' := by
  obtain ⟨A, ha, la, ra⟩ := h0
  exact tells_walk ha la ra
end Go.Proofs.Ytibmimdlgbhdnaa
