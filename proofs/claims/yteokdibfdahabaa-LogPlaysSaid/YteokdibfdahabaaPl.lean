/-
  Both logs, side by side: any acts, done one after the other.
-/
import Derived.Test.YteokdibfdahabaaMi
namespace Go.Proofs.Yteokdibfdahabaa
open Go.ChangeShapes Go.WideShapes Go.ChangeAt Go.RowKit
set_option linter.unusedVariables false
set_option maxRecDepth 100000 in
set_option maxHeartbeats 16000000 in
theorem plays_walk (qa qb qc : Int) (a1 : Option Addr) (ab off len cap : Nat) (ha : len = 0 ∨ a1 = some ⟨ab, off, none⟩) (K A N : Nat → Int) (w : World) (hacts : Acts3 w ab off len K A N) (hb : 0 < len → ab < w.heap.size) (hlen : len ≤ 9223372036854775807) :
    Calls Try.prog 3 #[.agg #[.int .i64 qa, .int .i64 qb, .int .i64 qc], .slice a1 len cap] w fun e w' => e = .returned (.bool true) ∧ Below w.heap.size w w' := by
  obtain ⟨W, hW⟩ : ∃ W, W = w.alloc (.cells #[.int .i64 qa, .int .i64 qb, .int .i64 qc] 22) := ⟨_, rfl⟩
  have TW : Turn (fun _ => False) w W := by rw [hW]; exact (Turn.refl _ w).alloc _
  have BW : Blk W w.heap.size 22 := by rw [hW]; exact Blk.new w [.int .i64 qa, .int .i64 qb, .int .i64 qc] 22
  have RW : W.rangeAt w.heap.size 0 [.int .i64 qa, .int .i64 qb, .int .i64 qc] := by rw [hW]; exact range_new w [.int .i64 qa, .int .i64 qb, .int .i64 qc] 22
  have AW := Lib.hid (log_awake W)
  obtain ⟨hok, hc3, hc5, hc24⟩ := cfgOf_ok qa qb qc
  have CF := Lib.hid (fun W => config_of W qa qb qc)
  obtain ⟨c, hc⟩ : ∃ c, cfgOf qa qb qc = c := ⟨_, rfl⟩
  rw [hc] at hok hc3 hc5 hc24 CF
  have NW := Lib.hid (show ∀ W, Calls Try.prog 10 #[.agg (cfL c).toArray] W fun e w' => NewPost W w' c e from fun W => new_yes W hok)
  have RN := Lib.hid (show ∀ W, Calls Try.prog 12 #[.agg (cfL c).toArray] W fun e w' => ∃ R : RB, e = .returned (.pointer (some ⟨R.r, 0, none⟩)) ∧ R.base = W.heap.size ∧ RefAt w' R c LSt.zero ∧ Turn (fun _ => False) W w' from fun W => ref_new W hok.a0 hok.a1)
  have HOK := Lib.hid (And.intro hok (And.intro hc3 (And.intro hc5 hc24)))
  have ACT := Lib.hid (And.intro hacts hb)
  have HL := Lib.hid (And.intro ha hlen)
  have R0 := Lib.hid (And.intro TW (And.intro BW RW))
  have hsz := Lib.hid TW.size
  clear TW BW RW hok hc3 hc5 hc24 hc hacts hb ha hlen
  go_enter Try.func3, Try.ntmps3
  go_upto_region 1 with fail
  rw [← hW]
  clear hW
  generalize hb2 : w.heap.size = b2 at R0 ⊢
  have HB2 := Lib.hid hb2
  clear hb2
  go_wp2_with fail
  with_reducible refine AW.out.mono ?_
  rintro e W1 ⟨rfl, B1⟩
  have T1 : Turn (fun _ => False) w W1 := R0.out.1.trans (Turn.of_below B1)
  have BK1 := R0.out.2.1.turn (S := fun _ => False) (Turn.of_below B1) (fun f => f)
  have RG1 := range_turn (S := fun _ => False) R0.out.2.2 (Turn.of_below B1) (fun f => f)
  have x0 : W1.cell? ⟨b2, 0, none⟩ = some (.int .i64 qa) := RG1 0 _ rfl
  have x1 : W1.cell? ⟨b2, 1, none⟩ = some (.int .i64 qb) := RG1 1 _ rfl
  have x2 : W1.cell? ⟨b2, 2, none⟩ = some (.int .i64 qc) := RG1 2 _ rfl
  clear AW R0 B1
  go_wp2_with fail
  with_reducible refine (CF.out W1).mono ?_
  rintro e W2 ⟨rfl, T2⟩
  have T2 := Lib.hid (And.intro (T1.trans T2) (And.intro T1.size T2))
  clear T1
  go_wp2_with fail
  with_reducible refine (NW.out W2).mono ?_
  rintro e W3 ⟨B, rfl, L3, fo, T3⟩
  have T13 := T2.out.2.2.trans T3
  have x0 := T13.cell (fun f => f) x0
  have x1 := T13.cell (fun f => f) x1
  have x2 := T13.cell (fun f => f) x2
  have FO := Lib.hid (show ∀ b, B.foot c.sh b → w.heap.size ≤ b from fun b hb => Nat.le_trans T2.out.1.size (fo b hb))
  have BK3 := BK1.turn T13 (fun f => f)
  have RG3 := range_turn RG1 T13 (fun f => f)
  have T03 := Lib.hid (T2.out.1.trans T3)
  clear fo BK1 RG1 T13 T3 T2
  go_wp2_with fail
  with_reducible refine (CF.out W3).mono ?_
  rintro e W4 ⟨rfl, T4⟩
  have L4 := L3.keep T4
  have BK4 := BK3.turn T4 (fun f => f)
  have RG4 := range_turn RG3 T4 (fun f => f)
  have T04 := Lib.hid (T03.out.trans T4)
  clear x0 x1 x2 L3 BK3 RG3 T03 T4
  go_wp2_with fail
  with_reducible refine (RN.out W4).mono ?_
  rintro e W5 ⟨R, rfl, hbs, D5, T5⟩
  have M5 := Lib.hid (show MI w W5 B R c LSt.zero b2 22 [.int .i64 qa, .int .i64 qb, .int .i64 qc] from
    ⟨⟨L4.keep T5, D5, LInv.zero c (by have := HOK.out.1.g0; omega), HOK.out.2.1, HOK.out.2.2.1, HOK.out.2.2.2⟩, FO.out, by rw [hbs]; exact T04.out.size, (T04.out.trans T5).more (fun _ _ f => f.elim), BK4.turn T5 (fun f => f), range_turn RG4 T5 (fun f => f), by decide⟩)
  clear L4 D5 hbs T5 BK4 RG4 T04 FO NW RN hsz
  obtain ⟨r0, hr0⟩ : ∃ r, R.r = r := ⟨_, rfl⟩
  have HR0 := Lib.hid hr0
  rw [hr0]
  clear hr0
  go_wp2_with fail
  go_loopg [8] (min len 60) (fun gh v8 wr => ∃ (i : Nat) (s : LSt) (R : RB), v8 = .int .i64 (i : Int) ∧ i ≤ min len 60 ∧ gh = min len 60 - i ∧ R.r = r0 ∧ MI w wr B R c s b2 22 [.int .i64 qa, .int .i64 qb, .int .i64 qc])
  case atStart => exact ⟨0, LSt.zero, R, rfl, Nat.zero_le _, rfl, HR0.out, M5.out⟩
  case round =>
    clear M5
    obtain ⟨i, s, R, rfl, hi, hg, hr, M⟩ := hrel
    have NN := Lib.hid (show (i < min len 60 → i < len ∧ i < 60) ∧ (¬ i < min len 60 → len ≤ 60 → i = len) ∧ (¬ i < min len 60 → ¬ len ≤ 60 → i = 60 ∧ i < len) from ⟨fun h => by omega, fun h1 h2 => by omega, fun h1 h2 => by omega⟩)
    by_cases hin : i < min len 60
    · have u1 : decide ((i : Int) < (len : Int)) = true := decide_eq_true (by have := NN.out.1 hin; omega)
      have u2 : decide (i < len) = true := decide_eq_true (NN.out.1 hin).1
      have u3 : decide ((i : Int) < 60) = true := decide_eq_true (by have := NN.out.1 hin; omega)
      have u4 : decide (i < 60) = true := decide_eq_true (NN.out.1 hin).2
      obtain rfl : a1 = some ⟨ab, off, none⟩ := by
        rcases HL.out.1 with h | h
        · have := NN.out.1 hin
          omega
        · exact h
      obtain ⟨y0, y1, y2⟩ := M.act ACT.out.1 ACT.out.2 (NN.out.1 hin).1
      have A13 := Lib.hid (show Calls Try.prog 13 #[.pointer (some ⟨B.l, 0, none⟩), .pointer (some ⟨r0, 0, none⟩), .agg #[.int .i64 (K i), .int .i64 (A i), .int .i64 (N i)]] wr fun e w' => e = .returned (.bool true) ∧ Aft wr B R c (Stp c s (restN (K i) 10) (tailOf (A i) (N i) s.tail)) w' by rw [← hr]; exact M.two.does _ _ _)
      have GG := Lib.hid (And.intro hg hin)
      have m0 : (0 : Int) ≤ (i : Int) := by omega
      have m1 : (i : Int) < (len : Int) := by have := NN.out.1 hin; omega
      have H60 := Lib.hid (NN.out.1 hin).2
      have MM := Lib.hid (And.intro M hr)
      clear hg hi hin M hr NN
      go_wp2_with fail
      with_reducible refine A13.out.mono ?_
      rintro e W6 ⟨rfl, AF⟩
      obtain ⟨R', s', hr', M6, _⟩ := MM.out.1.step AF
      have HR := Lib.hid (show R'.r = r0 by rw [hr']; exact MM.out.2)
      have A14 := Lib.hid (show Calls Try.prog 14 #[.pointer (some ⟨B.l, 0, none⟩), .pointer (some ⟨r0, 0, none⟩)] W6 fun e w' => e = .returned (.bool true) ∧ Turn (fun _ => False) W6 w' by rw [← HR.out]; exact M6.two.looks)
      have M6 := Lib.hid M6
      clear AF hr' A13 y0 y1 y2 MM
      go_wp2_with fail
      with_reducible refine A14.out.mono ?_
      rintro e W7 ⟨rfl, T7⟩
      have M7 := Lib.hid (M6.out.keep T7)
      clear T7 M6 A14
      go_wp2_with fail
      go_roundg (min len 60 - (i + 1))
      case measure => have := GG.out; omega
      case rel => exact ⟨i + 1, s', R', by
        have := H60.out
        rw [show wrap64 ((i : Int) + 1) = ((i + 1 : Nat) : Int) by unfold wrap64; omega], by have := GG.out; omega, rfl, HR.out, M7.out⟩
    · by_cases hl6 : len ≤ 60
      · obtain rfl := NN.out.2.1 hin hl6
        have u1 : decide ((i : Int) < (i : Int)) = false := decide_eq_false (by omega)
        have u2 : decide (i < i) = false := decide_eq_false (by omega)
        clear hg hi hin NN hl6
        have K2 := Lib.hid (show ∀ W, Turn (fun _ => False) wr.drew W → W.cell? ⟨b2, 0, none⟩ = some (.int .i64 qa) ∧ W.cell? ⟨b2, 1, none⟩ = some (.int .i64 qb) ∧ W.cell? ⟨b2, 2, none⟩ = some (.int .i64 qc) from fun W T => by
          have M2 := M.keep (((Turn.refl (fun _ => False) wr).drewN 1).trans T)
          exact ⟨M2.rb 0 _ rfl, M2.rb 1 _ rfl, M2.rb 2 _ rfl⟩)
        have CI := Lib.hid (fun W (T : Turn (fun _ => False) wr.drew W) => (M.keep (((Turn.refl (fun _ => False) wr).drewN 1).trans T)).two.L.config_is)
        have T0 : Turn (fun _ => False) wr.drew wr.drew := Turn.refl _ _
        go_wp2_with fail
        go_upto_region 13 with fail
        refine wp_region_held_drew (S := (fun w' => w'.cell? ⟨b2, 0, none⟩ = some (.int .i64 qa) ∧ w'.cell? ⟨b2, 1, none⟩ = some (.int .i64 qb) ∧ w'.cell? ⟨b2, 2, none⟩ = some (.int .i64 qc))) (by kernel_rfl) ?hs0 (fun hS0 => ?_)
        case hs0 => ((try dsimp only); first | with_reducible exact K2.out _ T0 | with_reducible exact K2.out _ U1 | with_reducible exact K2.out _ U2 | exact K2.out _ T0 | exact K2.out _ U1 | exact K2.out _ U2)
        refine wpAnyH_take (i := 0) (oi := { dst := some 42, op := Op.move (Operand.tmp 5), type := 4, pos := "law.go:122", after := #[], guard := none }) (v := ?_) rfl (by kernel_rfl) (by kernel_rfl) (by kernel_rfl) (fun _ _ _ h => h) (Or.inl ⟨by rfl, ?hy1⟩) hS0 ?_
        case hy1 => (intro w hSw; (try dsimp only at hSw); go_simp; try with_reducible rfl)
        try simp only [Act.put, List.setIfInBounds_toArray, List.set_cons_zero, List.set_cons_succ]
        refine wpAnyH_take (i := 1) (oi := { dst := some 43, op := Op.move (Operand.tmp 42), type := 4, pos := "law.go:122", after := #[{ on := 0, ground := Ground.data }], guard := none }) (v := ?_) rfl (by kernel_rfl) (by kernel_rfl) (by kernel_rfl) (fun _ _ _ h => h) (Or.inl ⟨by rfl, ?hy2⟩) hS0 ?_
        case hy2 => (intro w hSw; (try dsimp only at hSw); go_simp; try with_reducible rfl)
        try simp only [Act.put, List.setIfInBounds_toArray, List.set_cons_zero, List.set_cons_succ]
        refine wpAnyH_take (i := 2) (oi := { dst := some 44, op := Op.move (Operand.tmp 6), type := 25, pos := "law.go:122", after := #[{ on := 1, ground := Ground.guard }], guard := some (1, true) }) (v := ?_) rfl (by kernel_rfl) (by kernel_rfl) (by kernel_rfl) (fun _ _ _ h => h) (Or.inl ⟨by rfl, ?hy3⟩) hS0 ?_
        case hy3 => (intro w hSw; (try dsimp only at hSw); go_simp; try with_reducible rfl)
        try simp only [Act.put, List.setIfInBounds_toArray, List.set_cons_zero, List.set_cons_succ]
        refine wpAnyH_take (i := 4) (oi := { dst := some 46, op := Op.load 22 (Operand.tmp 2), type := 22, pos := "law.go:122", after := #[{ on := 1, ground := Ground.guard }], guard := some (1, true) }) (v := ?_) rfl (by kernel_rfl) (by kernel_rfl) (by kernel_rfl) (fun _ _ _ h => h) (Or.inl ⟨by rfl, ?hy4⟩) hS0 ?_
        case hy4 => (intro w hSw; (try dsimp only at hSw); go_simp; try with_reducible rfl)
        try simp only [Act.put, List.setIfInBounds_toArray, List.set_cons_zero, List.set_cons_succ]
        refine wpAnyH_ready (rs := [3]) (by kernel_rfl) (by simp) ?_
        refine AllReadyH.cons (o := { dst := some 45, op := Op.call { callee := Callee.value (Operand.func 15), args := #[Operand.tmp 44], argTypes := #[25] }, type := 28, pos := "law.go:122", after := #[{ on := 2, ground := Ground.data }, { on := 1, ground := Ground.chain }, { on := 1, ground := Ground.guard }], guard := some (1, true) }) rfl (fun K hK => ?_) ?_
        · go_simp; with_reducible refine (CI.out _ T0).mono ?_; rintro en V1 ⟨rfl, U01⟩; have U1 := T0.trans U01; go_simp
          refine hK.out _ _ ?hs5 (fun hS5 => ?_)
          case hs5 => ((try dsimp only); first | with_reducible exact K2.out _ T0 | with_reducible exact K2.out _ U1 | with_reducible exact K2.out _ U2 | exact K2.out _ T0 | exact K2.out _ U1 | exact K2.out _ U2)
          clear hK K hS0
          refine wpAnyH_ready (rs := [5]) (by kernel_rfl) (by simp) ?_
          refine AllReadyH.cons (o := { dst := some 47, op := Op.call { callee := Callee.value (Operand.func 11), args := #[Operand.tmp 46], argTypes := #[22] }, type := 28, pos := "law.go:122", after := #[{ on := 4, ground := Ground.data }, { on := 3, ground := Ground.chain }, { on := 1, ground := Ground.guard }], guard := some (1, true) }) rfl (fun K hK => ?_) ?_
          · go_simp; with_reducible refine (CF.out _).mono ?_; rintro en V2 ⟨rfl, U12⟩; have U2 := U1.trans U12; go_simp
            refine hK.out _ _ ?hs6 (fun hS6 => ?_)
            case hs6 => ((try dsimp only); first | with_reducible exact K2.out _ T0 | with_reducible exact K2.out _ U1 | with_reducible exact K2.out _ U2 | exact K2.out _ T0 | exact K2.out _ U1 | exact K2.out _ U2)
            clear hK K hS5
            refine wpAnyH_take (i := 6) (oi := { dst := some 48, op := Op.binOp BinOp.eql 28 (Operand.tmp 45) (Operand.tmp 47) 28, type := 4, pos := "law.go:122", after := #[{ on := 3, ground := Ground.data }, { on := 5, ground := Ground.data }, { on := 1, ground := Ground.guard }], guard := some (1, true) }) (v := .bool true) rfl (by kernel_rfl) (by kernel_rfl) (by kernel_rfl) (fun _ _ _ h => h) (Or.inl ⟨by rfl, fun w hSw => (by unfold cfL; go_simp)⟩) hS6 ?_
            try simp only [Act.put, List.setIfInBounds_toArray, List.set_cons_zero, List.set_cons_succ]
            refine wpAnyH_take (i := 7) (oi := { dst := some 49, op := Op.pick (Operand.tmp 43) (Operand.tmp 48) (Operand.const (Value.bool false)), type := 4, pos := "law.go:122", after := #[{ on := 1, ground := Ground.data }, { on := 6, ground := Ground.data }], guard := none }) (v := ?_) rfl (by kernel_rfl) (by kernel_rfl) (by kernel_rfl) (fun _ _ _ h => h) (Or.inl ⟨by rfl, ?hy8⟩) hS6 ?_
            case hy8 => (intro w hSw; (try dsimp only at hSw); go_simp; try with_reducible rfl)
            try simp only [Act.put, List.setIfInBounds_toArray, List.set_cons_zero, List.set_cons_succ]
            refine wpAnyH_take (i := 8) (oi := { dst := some 4, op := Op.assign (Operand.tmp 49), type := 4, pos := "law.go:122", after := #[{ on := 7, ground := Ground.data }, { on := 5, ground := Ground.chain }, { on := 0, ground := Ground.phase }, { on := 1, ground := Ground.phase }, { on := 2, ground := Ground.phase }, { on := 3, ground := Ground.phase }, { on := 4, ground := Ground.phase }, { on := 5, ground := Ground.phase }, { on := 6, ground := Ground.phase }, { on := 7, ground := Ground.phase }], guard := none }) (v := ?_) rfl (by kernel_rfl) (by kernel_rfl) (by kernel_rfl) (fun _ _ _ h => h) (Or.inl ⟨by rfl, ?hy9⟩) hS6 ?_
            case hy9 => (intro w hSw; (try dsimp only at hSw); go_simp; try with_reducible rfl)
            try simp only [Act.put, List.setIfInBounds_toArray, List.set_cons_zero, List.set_cons_succ]
            refine wpAnyH_done (by kernel_rfl) ?_ _
            have MF := M.keep (((Turn.refl (fun _ => False) wr).drewN 1).trans U2)
            have BEL := Lib.hid (MF.T.below (B := w.heap.size) (fun k hk => ⟨hk, by omega⟩))
            clear M MF
            go_wp2_with fail
            go_ret
            exact ⟨by simp, BEL.out⟩
          exact AllReadyH.nil
        exact AllReadyH.nil
      · obtain ⟨rfl, hil⟩ := NN.out.2.2 hin hl6
        have u1 : decide (((60 : Nat) : Int) < (len : Int)) = true := decide_eq_true (by omega)
        have u2 : decide (60 < len) = true := decide_eq_true hil
        have u3 : decide ((60 : Int) < (len : Int)) = true := decide_eq_true (by omega)
        have u4 : (60 : Int) < (len : Int) := by omega
        clear hg hi hin NN hl6 hil
        have K2 := Lib.hid (show ∀ W, Turn (fun _ => False) wr.drew W → W.cell? ⟨b2, 0, none⟩ = some (.int .i64 qa) ∧ W.cell? ⟨b2, 1, none⟩ = some (.int .i64 qb) ∧ W.cell? ⟨b2, 2, none⟩ = some (.int .i64 qc) from fun W T => by
          have M2 := M.keep (((Turn.refl (fun _ => False) wr).drewN 1).trans T)
          exact ⟨M2.rb 0 _ rfl, M2.rb 1 _ rfl, M2.rb 2 _ rfl⟩)
        have CI := Lib.hid (fun W (T : Turn (fun _ => False) wr.drew W) => (M.keep (((Turn.refl (fun _ => False) wr).drewN 1).trans T)).two.L.config_is)
        have T0 : Turn (fun _ => False) wr.drew wr.drew := Turn.refl _ _
        go_wp2_with fail
        go_upto_region 13 with fail
        refine wp_region_held_drew (S := (fun w' => w'.cell? ⟨b2, 0, none⟩ = some (.int .i64 qa) ∧ w'.cell? ⟨b2, 1, none⟩ = some (.int .i64 qb) ∧ w'.cell? ⟨b2, 2, none⟩ = some (.int .i64 qc))) (by kernel_rfl) ?hs0 (fun hS0 => ?_)
        case hs0 => ((try dsimp only); first | with_reducible exact K2.out _ T0 | with_reducible exact K2.out _ U1 | with_reducible exact K2.out _ U2 | exact K2.out _ T0 | exact K2.out _ U1 | exact K2.out _ U2)
        refine wpAnyH_take (i := 0) (oi := { dst := some 42, op := Op.move (Operand.tmp 5), type := 4, pos := "law.go:122", after := #[], guard := none }) (v := ?_) rfl (by kernel_rfl) (by kernel_rfl) (by kernel_rfl) (fun _ _ _ h => h) (Or.inl ⟨by rfl, ?hy1⟩) hS0 ?_
        case hy1 => (intro w hSw; (try dsimp only at hSw); go_simp; try with_reducible rfl)
        try simp only [Act.put, List.setIfInBounds_toArray, List.set_cons_zero, List.set_cons_succ]
        refine wpAnyH_take (i := 1) (oi := { dst := some 43, op := Op.move (Operand.tmp 42), type := 4, pos := "law.go:122", after := #[{ on := 0, ground := Ground.data }], guard := none }) (v := ?_) rfl (by kernel_rfl) (by kernel_rfl) (by kernel_rfl) (fun _ _ _ h => h) (Or.inl ⟨by rfl, ?hy2⟩) hS0 ?_
        case hy2 => (intro w hSw; (try dsimp only at hSw); go_simp; try with_reducible rfl)
        try simp only [Act.put, List.setIfInBounds_toArray, List.set_cons_zero, List.set_cons_succ]
        refine wpAnyH_take (i := 2) (oi := { dst := some 44, op := Op.move (Operand.tmp 6), type := 25, pos := "law.go:122", after := #[{ on := 1, ground := Ground.guard }], guard := some (1, true) }) (v := ?_) rfl (by kernel_rfl) (by kernel_rfl) (by kernel_rfl) (fun _ _ _ h => h) (Or.inl ⟨by rfl, ?hy3⟩) hS0 ?_
        case hy3 => (intro w hSw; (try dsimp only at hSw); go_simp; try with_reducible rfl)
        try simp only [Act.put, List.setIfInBounds_toArray, List.set_cons_zero, List.set_cons_succ]
        refine wpAnyH_take (i := 4) (oi := { dst := some 46, op := Op.load 22 (Operand.tmp 2), type := 22, pos := "law.go:122", after := #[{ on := 1, ground := Ground.guard }], guard := some (1, true) }) (v := ?_) rfl (by kernel_rfl) (by kernel_rfl) (by kernel_rfl) (fun _ _ _ h => h) (Or.inl ⟨by rfl, ?hy4⟩) hS0 ?_
        case hy4 => (intro w hSw; (try dsimp only at hSw); go_simp; try with_reducible rfl)
        try simp only [Act.put, List.setIfInBounds_toArray, List.set_cons_zero, List.set_cons_succ]
        refine wpAnyH_ready (rs := [3]) (by kernel_rfl) (by simp) ?_
        refine AllReadyH.cons (o := { dst := some 45, op := Op.call { callee := Callee.value (Operand.func 15), args := #[Operand.tmp 44], argTypes := #[25] }, type := 28, pos := "law.go:122", after := #[{ on := 2, ground := Ground.data }, { on := 1, ground := Ground.chain }, { on := 1, ground := Ground.guard }], guard := some (1, true) }) rfl (fun K hK => ?_) ?_
        · go_simp; with_reducible refine (CI.out _ T0).mono ?_; rintro en V1 ⟨rfl, U01⟩; have U1 := T0.trans U01; go_simp
          refine hK.out _ _ ?hs5 (fun hS5 => ?_)
          case hs5 => ((try dsimp only); first | with_reducible exact K2.out _ T0 | with_reducible exact K2.out _ U1 | with_reducible exact K2.out _ U2 | exact K2.out _ T0 | exact K2.out _ U1 | exact K2.out _ U2)
          clear hK K hS0
          refine wpAnyH_ready (rs := [5]) (by kernel_rfl) (by simp) ?_
          refine AllReadyH.cons (o := { dst := some 47, op := Op.call { callee := Callee.value (Operand.func 11), args := #[Operand.tmp 46], argTypes := #[22] }, type := 28, pos := "law.go:122", after := #[{ on := 4, ground := Ground.data }, { on := 3, ground := Ground.chain }, { on := 1, ground := Ground.guard }], guard := some (1, true) }) rfl (fun K hK => ?_) ?_
          · go_simp; with_reducible refine (CF.out _).mono ?_; rintro en V2 ⟨rfl, U12⟩; have U2 := U1.trans U12; go_simp
            refine hK.out _ _ ?hs6 (fun hS6 => ?_)
            case hs6 => ((try dsimp only); first | with_reducible exact K2.out _ T0 | with_reducible exact K2.out _ U1 | with_reducible exact K2.out _ U2 | exact K2.out _ T0 | exact K2.out _ U1 | exact K2.out _ U2)
            clear hK K hS5
            refine wpAnyH_take (i := 6) (oi := { dst := some 48, op := Op.binOp BinOp.eql 28 (Operand.tmp 45) (Operand.tmp 47) 28, type := 4, pos := "law.go:122", after := #[{ on := 3, ground := Ground.data }, { on := 5, ground := Ground.data }, { on := 1, ground := Ground.guard }], guard := some (1, true) }) (v := .bool true) rfl (by kernel_rfl) (by kernel_rfl) (by kernel_rfl) (fun _ _ _ h => h) (Or.inl ⟨by rfl, fun w hSw => (by unfold cfL; go_simp)⟩) hS6 ?_
            try simp only [Act.put, List.setIfInBounds_toArray, List.set_cons_zero, List.set_cons_succ]
            refine wpAnyH_take (i := 7) (oi := { dst := some 49, op := Op.pick (Operand.tmp 43) (Operand.tmp 48) (Operand.const (Value.bool false)), type := 4, pos := "law.go:122", after := #[{ on := 1, ground := Ground.data }, { on := 6, ground := Ground.data }], guard := none }) (v := ?_) rfl (by kernel_rfl) (by kernel_rfl) (by kernel_rfl) (fun _ _ _ h => h) (Or.inl ⟨by rfl, ?hy8⟩) hS6 ?_
            case hy8 => (intro w hSw; (try dsimp only at hSw); go_simp; try with_reducible rfl)
            try simp only [Act.put, List.setIfInBounds_toArray, List.set_cons_zero, List.set_cons_succ]
            refine wpAnyH_take (i := 8) (oi := { dst := some 4, op := Op.assign (Operand.tmp 49), type := 4, pos := "law.go:122", after := #[{ on := 7, ground := Ground.data }, { on := 5, ground := Ground.chain }, { on := 0, ground := Ground.phase }, { on := 1, ground := Ground.phase }, { on := 2, ground := Ground.phase }, { on := 3, ground := Ground.phase }, { on := 4, ground := Ground.phase }, { on := 5, ground := Ground.phase }, { on := 6, ground := Ground.phase }, { on := 7, ground := Ground.phase }], guard := none }) (v := ?_) rfl (by kernel_rfl) (by kernel_rfl) (by kernel_rfl) (fun _ _ _ h => h) (Or.inl ⟨by rfl, ?hy9⟩) hS6 ?_
            case hy9 => (intro w hSw; (try dsimp only at hSw); go_simp; try with_reducible rfl)
            try simp only [Act.put, List.setIfInBounds_toArray, List.set_cons_zero, List.set_cons_succ]
            refine wpAnyH_done (by kernel_rfl) ?_ _
            have MF := M.keep (((Turn.refl (fun _ => False) wr).drewN 1).trans U2)
            have BEL := Lib.hid (MF.T.below (B := w.heap.size) (fun k hk => ⟨hk, by omega⟩))
            clear M MF
            go_wp2_with fail
            go_ret
            exact ⟨by simp, BEL.out⟩
          exact AllReadyH.nil
        exact AllReadyH.nil
end Go.Proofs.Yteokdibfdahabaa
