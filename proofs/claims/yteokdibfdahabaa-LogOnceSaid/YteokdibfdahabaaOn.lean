/-
  Both logs, side by side: each stamp is taken once, in order.
-/
import Derived.Test.YteokdibfdahabaaLk2
namespace Go.Proofs.Yteokdibfdahabaa
open Go.ChangeShapes Go.WideShapes Go.ChangeAt Go.RowKit
set_option linter.unusedVariables false
set_option maxRecDepth 100000 in
set_option maxHeartbeats 16000000 in
theorem once_walk (qa qb qc : Int) (a1 : Option Addr) (ab off len cap : Nat) (ha : len = 0 ∨ a1 = some ⟨ab, off, none⟩) (K A N : Nat → Int) (w : World) (hacts : Acts3 w ab off len K A N) (hb : 0 < len → ab < w.heap.size) (hlen : len ≤ 9223372036854775807) :
    Calls Try.prog 4 #[.agg #[.int .i64 qa, .int .i64 qb, .int .i64 qc], .slice a1 len cap] w fun e w' => e = .returned (.bool true) ∧ Below w.heap.size w w' := by
  obtain ⟨W, hW⟩ : ∃ W, W = w.alloc (.cells #[.int .i64 qa, .int .i64 qb, .int .i64 qc] 22) := ⟨_, rfl⟩
  have TW : Turn (fun _ => False) w W := by rw [hW]; exact (Turn.refl _ w).alloc _
  have BW : Blk W w.heap.size 22 := by rw [hW]; exact Blk.new w [.int .i64 qa, .int .i64 qb, .int .i64 qc] 22
  have RW : W.rangeAt w.heap.size 0 [.int .i64 qa, .int .i64 qb, .int .i64 qc] := by rw [hW]; exact range_new w [.int .i64 qa, .int .i64 qb, .int .i64 qc] 22
  have AW := Lib.hid (log_awake W)
  obtain ⟨hok, hc3, hc5, hc24⟩ := cfgOf_ok qa qb qc
  have CF := Lib.hid (show ∀ W, Calls Try.prog 11 #[.agg #[.int .i64 qa, .int .i64 qb, .int .i64 qc]] W fun e w' => e = .returned (.agg (cfL (cfgOf qa qb qc)).toArray) ∧ Turn (fun _ => False) W w' from fun W => config_of W qa qb qc)
  obtain ⟨c, hc⟩ : ∃ c, cfgOf qa qb qc = c := ⟨_, rfl⟩
  rw [hc] at hok hc3 hc5 hc24 CF
  have NW := Lib.hid (show ∀ W, Calls Try.prog 10 #[.agg #[.int .i64 (c.sh : Int), .int .i64 (c.ib : Int), .int .i64 c.sl, .int .i64 c.qu, .int .i64 c.ru, .int .i64 c.ou, .int .i64 c.st]] W fun e w' => NewPost W w' c e from fun W => new_yes W hok)
  have RN := Lib.hid (show ∀ W, Calls Try.prog 12 #[.agg #[.int .i64 (c.sh : Int), .int .i64 (c.ib : Int), .int .i64 c.sl, .int .i64 c.qu, .int .i64 c.ru, .int .i64 c.ou, .int .i64 c.st]] W fun e w' => ∃ R : RB, e = .returned (.pointer (some ⟨R.r, 0, none⟩)) ∧ R.base = W.heap.size ∧ RefAt w' R c LSt.zero ∧ Turn (fun _ => False) W w' from fun W => ref_new W hok.a0 hok.a1)
  have CF := Lib.hid (show ∀ W, Calls Try.prog 11 #[.agg #[.int .i64 qa, .int .i64 qb, .int .i64 qc]] W fun e w' => e = .returned (.agg #[.int .i64 (c.sh : Int), .int .i64 (c.ib : Int), .int .i64 c.sl, .int .i64 c.qu, .int .i64 c.ru, .int .i64 c.ou, .int .i64 c.st]) ∧ Turn (fun _ => False) W w' from CF.out)
  have HOK := Lib.hid (And.intro hok (And.intro hc3 (And.intro hc5 hc24)))
  have ACT := Lib.hid (And.intro hacts hb)
  have HL := Lib.hid (And.intro ha hlen)
  have R0 := Lib.hid (And.intro TW (And.intro BW RW))
  have hsz := Lib.hid TW.size
  clear TW BW RW hok hc3 hc5 hc24 hc hacts hb ha hlen
  go_enter Try.func4, Try.ntmps4
  go_upto_region 1 with fail
  rw [← hW]
  clear hW
  generalize hb2 : w.heap.size = b2 at R0 ⊢
  have HB2 := Lib.hid hb2
  clear hb2
  go_wp2_with fail
  with_reducible refine AW.out.mono ?_
  rintro e W1 ⟨rfl, B1⟩
  have T1 : Turn (fun _ => False) w W1 := R0.out.1.trans (Turn.of_below B1)
  have BK1 := R0.out.2.1.turn (S := fun _ => False) (Turn.of_below B1) (fun f => f)
  have RG1 := range_turn (S := fun _ => False) R0.out.2.2 (Turn.of_below B1) (fun f => f)
  have x0 : W1.cell? ⟨b2, 0, none⟩ = some (.int .i64 qa) := RG1 0 _ rfl
  have x1 : W1.cell? ⟨b2, 1, none⟩ = some (.int .i64 qb) := RG1 1 _ rfl
  have x2 : W1.cell? ⟨b2, 2, none⟩ = some (.int .i64 qc) := RG1 2 _ rfl
  clear AW R0 B1
  go_wp2_with fail
  with_reducible refine (CF.out W1).mono ?_
  rintro e W2 ⟨rfl, T2⟩
  have T2 := Lib.hid (And.intro (T1.trans T2) T1.size)
  clear T1 x0 x1 x2 BK1 RG1
  go_upto_region 3 with fail
  have T3 : Turn (fun _ => False) w (W2.alloc (.cells #[.int .i64 (c.sh : Int), .int .i64 (c.ib : Int), .int .i64 c.sl, .int .i64 c.qu, .int .i64 c.ru, .int .i64 c.ou, .int .i64 c.st] 28)) := T2.out.1.alloc _
  have BK3 : Blk (W2.alloc (.cells #[.int .i64 (c.sh : Int), .int .i64 (c.ib : Int), .int .i64 c.sl, .int .i64 c.qu, .int .i64 c.ru, .int .i64 c.ou, .int .i64 c.st] 28)) W2.heap.size 28 := Blk.new W2 (cfL c) 28
  have RG3 : (W2.alloc (.cells #[.int .i64 (c.sh : Int), .int .i64 (c.ib : Int), .int .i64 c.sl, .int .i64 c.qu, .int .i64 c.ru, .int .i64 c.ou, .int .i64 c.st] 28)).rangeAt W2.heap.size 0 (cfL c) := range_new W2 (cfL c) 28
  generalize W2.alloc (.cells #[.int .i64 (c.sh : Int), .int .i64 (c.ib : Int), .int .i64 c.sl, .int .i64 c.qu, .int .i64 c.ru, .int .i64 c.ou, .int .i64 c.st] 28) = W3 at *
  generalize W2.heap.size = b6 at *
  have z0 : W3.cell? ⟨b6, 0, none⟩ = some (.int .i64 (c.sh : Int)) := RG3 0 _ rfl
  have z1 : W3.cell? ⟨b6, 1, none⟩ = some (.int .i64 (c.ib : Int)) := RG3 1 _ rfl
  have z2 : W3.cell? ⟨b6, 2, none⟩ = some (.int .i64 c.sl) := RG3 2 _ rfl
  have z3 : W3.cell? ⟨b6, 3, none⟩ = some (.int .i64 c.qu) := RG3 3 _ rfl
  have z4 : W3.cell? ⟨b6, 4, none⟩ = some (.int .i64 c.ru) := RG3 4 _ rfl
  have z5 : W3.cell? ⟨b6, 5, none⟩ = some (.int .i64 c.ou) := RG3 5 _ rfl
  have z6 : W3.cell? ⟨b6, 6, none⟩ = some (.int .i64 c.st) := RG3 6 _ rfl
  have T3 := Lib.hid T3
  clear T2
  go_wp2_with fail
  with_reducible refine (NW.out W3).mono ?_
  rintro e W4 ⟨B, rfl, L4, fo, T4⟩
  have z0 := T4.cell (fun f => f) z0
  have z1 := T4.cell (fun f => f) z1
  have z2 := T4.cell (fun f => f) z2
  have z3 := T4.cell (fun f => f) z3
  have z4 := T4.cell (fun f => f) z4
  have z5 := T4.cell (fun f => f) z5
  have z6 := T4.cell (fun f => f) z6
  have FO := Lib.hid (show ∀ b, B.foot c.sh b → w.heap.size ≤ b from fun b hb => Nat.le_trans T3.out.size (fo b hb))
  have BK4 := BK3.turn T4 (fun f => f)
  have RG4 := range_turn RG3 T4 (fun f => f)
  have T04 := Lib.hid (T3.out.trans T4)
  clear fo BK3 RG3 T4 T3
  go_wp2_with fail
  with_reducible refine (RN.out W4).mono ?_
  rintro e W5 ⟨R, rfl, hbs, D5, T5⟩
  have M5 := Lib.hid (show MI w W5 B R c LSt.zero b6 28 (cfL c) from
    ⟨⟨L4.keep T5, D5, LInv.zero c (by have := HOK.out.1.g0; omega), HOK.out.2.1, HOK.out.2.2.1, HOK.out.2.2.2⟩, FO.out, by rw [hbs]; exact T04.out.size, (T04.out.trans T5).more (fun _ _ f => f.elim), BK4.turn T5 (fun f => f), range_turn RG4 T5 (fun f => f), by decide⟩)
  clear L4 D5 hbs T5 BK4 RG4 T04 FO NW RN hsz z0 z1 z2 z3 z4 z5 z6 CF
  obtain ⟨r0, hr0⟩ : ∃ r, R.r = r := ⟨_, rfl⟩
  have HR0 := Lib.hid hr0
  rw [hr0]
  clear hr0
  go_wp2_with fail
  go_loopg [9, 10] (min len 60) (fun gh v9 v10 wr => ∃ (i : Nat) (s : LSt) (R : RB), v9 = .int .i64 (s.tail : Int) ∧ v10 = .int .i64 (i : Int) ∧ i ≤ min len 60 ∧ gh = min len 60 - i ∧ R.r = r0 ∧ MI w wr B R c s b6 28 (cfL c))
  case atStart => exact ⟨0, LSt.zero, R, rfl, rfl, Nat.zero_le _, rfl, HR0.out, M5.out⟩
  case round =>
    clear M5
    obtain ⟨i, s, R, rfl, rfl, hi, hg, hr, M⟩ := hrel
    have NN := Lib.hid (show (i < min len 60 → i < len ∧ i < 60) ∧ (¬ i < min len 60 → len ≤ 60 → i = len) ∧ (¬ i < min len 60 → ¬ len ≤ 60 → i = 60 ∧ i < len) from ⟨fun h => by omega, fun h1 h2 => by omega, fun h1 h2 => by omega⟩)
    by_cases hin : i < min len 60
    · have u1 : decide ((i : Int) < (len : Int)) = true := decide_eq_true (by have := NN.out.1 hin; omega)
      have u2 : decide (i < len) = true := decide_eq_true (NN.out.1 hin).1
      have u3 : decide ((i : Int) < 60) = true := decide_eq_true (by have := NN.out.1 hin; omega)
      have u4 : decide (i < 60) = true := decide_eq_true (NN.out.1 hin).2
      obtain rfl : a1 = some ⟨ab, off, none⟩ := by
        rcases HL.out.1 with h | h
        · have := NN.out.1 hin
          omega
        · exact h
      have GG := Lib.hid (And.intro hg hin)
      have m0 : (0 : Int) ≤ (i : Int) := by omega
      have m1 : (i : Int) < (len : Int) := by have := NN.out.1 hin; omega
      have H60 := Lib.hid (NN.out.1 hin)
      have TI := Lib.hid M.two.L.tail_is
      have M := Lib.hid M
      have HR := Lib.hid hr
      clear hg hi hin hr NN
      go_wp2_with fail
      with_reducible refine TI.out.mono ?_
      rintro e W6 ⟨rfl, T6⟩
      have M6 := M.out.keep T6
      have LI := Lib.hid M6.two.L.low_is
      have M6 := Lib.hid M6
      clear TI T6 M
      dsimp only
      go_wp2_with fail
      with_reducible refine LI.out.mono ?_
      rintro e W7 ⟨rfl, rfl⟩
      go_wp2_with fail
      clear LI
      go_loopg [14, 15] c.sh (fun gh v14 v15 wr => ∃ k : Nat, v15 = .int .i64 (k : Int) ∧ k ≤ c.sh ∧ gh = c.sh - k ∧ v14 = .bool (seenB s k) ∧ Turn (fun _ => False) W6 wr)
      case atStart => exact ⟨0, rfl, Nat.zero_le _, rfl, rfl, Turn.refl _ _⟩
      case round =>
        obtain ⟨k, rfl, hk, hgk, rfl, T⟩ := hrel
        have M10 := M6.out.keep T
        have v0 : wr.cell? ⟨b6, 0, none⟩ = some (.int .i64 (c.sh : Int)) := M10.rb 0 _ rfl
        by_cases hkn : k < c.sh
        · have u7 : decide ((k : Int) < (c.sh : Int)) = true := decide_eq_true (by omega)
          have u8 : decide (k < c.sh) = true := decide_eq_true hkn
          have hsh3 := M10.two.sh
          have hnx : seenB s (k + 1) = (seenB s k && (s.left k || decide (s.low < s.cur k))) := rfl
          have GK := Lib.hid (And.intro hgk (And.intro hkn (And.intro T (And.intro hsh3 hnx))))
          obtain ⟨sk, hsk⟩ : ∃ q, seenB s k = q := ⟨_, rfl⟩
          have HSK := Lib.hid hsk
          rw [hsk]
          clear hsk hnx
          by_cases hl : s.left k = true
          · have CU := Lib.hid (M10.two.L.cursor_no (at_ := (k : Int)) (by
              rintro ⟨q, e, _, hq⟩
              obtain rfl : k = q := by omega
              rw [hl] at hq
              cases hq))
            have HLF := Lib.hid hl
            clear M10 hl hgk hkn hk T hsh3
            cases sk <;> (
              go_wp2_with fail
              with_reducible refine CU.out.mono ?_
              rintro e W12 ⟨rfl, rfl⟩
              go_wp2_with fail
              go_roundg (c.sh - (k + 1))
              case measure => have := GK.out; omega
              case rel => exact ⟨k + 1, by
                have := GK.out
                rw [show wrap64 ((k : Int) + 1) = ((k + 1 : Nat) : Int) by unfold wrap64; omega], by have := GK.out; omega, rfl, by rw [GK.out.2.2.2.2, HSK.out, HLF.out]; rfl, GK.out.2.2.1⟩)
          · have CU := Lib.hid (M10.two.L.cursor_yes hkn (by simpa using hl))
            have HLF := Lib.hid (show s.left k = false by simpa using hl)
            clear M10 hl hgk hkn hk T hsh3
            have d9 : decide ((s.cur k : Int) < 0) = false := decide_eq_false (by omega)
            by_cases hlc : s.low < s.cur k
            · have d7 : decide ((s.low : Int) < (s.cur k : Int)) = true := decide_eq_true (by omega)
              have d8 : decide (s.low < s.cur k) = true := decide_eq_true hlc
              have D8 := Lib.hid d8
              clear hlc
              cases sk <;> (
                go_wp2_with fail
                with_reducible refine CU.out.mono ?_
                rintro e W12 ⟨rfl, rfl⟩
                go_wp2_with fail
                go_roundg (c.sh - (k + 1))
                case measure => have := GK.out; omega
                case rel => exact ⟨k + 1, by
                  have := GK.out
                  rw [show wrap64 ((k : Int) + 1) = ((k + 1 : Nat) : Int) by unfold wrap64; omega], by have := GK.out; omega, rfl, by rw [GK.out.2.2.2.2, HSK.out, HLF.out, D8.out]; rfl, GK.out.2.2.1⟩)
            · have d7 : decide ((s.low : Int) < (s.cur k : Int)) = false := decide_eq_false (by omega)
              have d8 : decide (s.low < s.cur k) = false := decide_eq_false hlc
              have D8 := Lib.hid d8
              clear hlc
              cases sk <;> (
                go_wp2_with fail
                with_reducible refine CU.out.mono ?_
                rintro e W12 ⟨rfl, rfl⟩
                go_wp2_with fail
                go_roundg (c.sh - (k + 1))
                case measure => have := GK.out; omega
                case rel => exact ⟨k + 1, by
                  have := GK.out
                  rw [show wrap64 ((k : Int) + 1) = ((k + 1 : Nat) : Int) by unfold wrap64; omega], by have := GK.out; omega, rfl, by rw [GK.out.2.2.2.2, HSK.out, HLF.out, D8.out]; rfl, GK.out.2.2.1⟩)
        · obtain rfl : k = c.sh := by omega
          have u7 : decide ((c.sh : Int) < (c.sh : Int)) = false := decide_eq_false (by omega)
          have u8 : decide (c.sh < c.sh) = false := decide_eq_false (by omega)
          have h24 := M10.two.tail
          have hlt := M10.two.I.lt
          obtain ⟨x, y, LK⟩ := M10.two.L.look2 (a := (s.low : Int)) (by omega)
          have LK := Lib.hid (LK _ (Turn.refl _ _))
          have M10 := Lib.hid M10
          clear hgk hkn hk T h24 hlt
          go_wp2_with fail
          with_reducible refine LK.out.mono ?_
          rintro e W11 ⟨rfl, T11⟩
          dsimp only
          go_upto_region 18 with fail
          have M12 := M10.out.keep (T11.alloc (.cells #[.int .i64 x, .int .i64 0, .int .i64 y, .int .i64 0, .int .i64 0, .int .i64 0, .int .i64 0, .int .i64 0, .int .i64 0, .int .i64 0, .int .i64 0, .slice none 0 0, .int .i64 0, .bool false] 51))
          clear T11 LK v0 M10
          generalize W11.alloc (.cells #[.int .i64 x, .int .i64 0, .int .i64 y, .int .i64 0, .int .i64 0, .int .i64 0, .int .i64 0, .int .i64 0, .int .i64 0, .int .i64 0, .int .i64 0, .slice none 0 0, .int .i64 0, .bool false] 51) = W12 at *
          generalize W11.heap.size = b17 at *
          obtain ⟨y0, y1, y2⟩ := M12.act ACT.out.1 ACT.out.2 H60.out.1
          have A13 := Lib.hid (show Calls Try.prog 13 #[.pointer (some ⟨B.l, 0, none⟩), .pointer (some ⟨r0, 0, none⟩), .agg #[.int .i64 (K i), .int .i64 (A i), .int .i64 (N i)]] W12 fun e w' => e = .returned (.bool true) ∧ Aft W12 B R c (Stp c s (restN (K i) 10) (tailOf (A i) (N i) s.tail)) w' by rw [← HR.out]; exact M12.two.does _ _ _)
          have M12 := Lib.hid M12
          go_wp2_with fail
          with_reducible refine A13.out.mono ?_
          rintro e W13 ⟨rfl, AF⟩
          obtain ⟨R', s', hr', M13, ST⟩ := M12.out.step AF
          have HR' := Lib.hid (show R'.r = r0 by rw [hr']; exact HR.out)
          have TI := Lib.hid M13.two.L.tail_is
          have M13 := Lib.hid M13
          have ST := Lib.hid ST
          clear AF hr' A13 y0 y1 y2
          go_wp2_with fail
          with_reducible refine TI.out.mono ?_
          rintro e W14 ⟨rfl, T14⟩
          have M14 := M13.out.keep T14
          obtain ⟨y0, y1, y2⟩ := M14.act ACT.out.1 ACT.out.2 H60.out.1
          obtain ⟨kk, hkk⟩ : ∃ q, restN (K i) 10 = q := ⟨_, rfl⟩
          have AK := Lib.hid (show Calls Try.prog 20 #[.int .i64 (K i), .int .i64 10] W14 fun e w' => e = .returned (.int .i64 (kk : Int)) ∧ W14 = w' by rw [← hkk]; exact rest_is W14 (K i) (n := 10) (by decide) (by decide))
          rw [hkk] at ST
          have K14 := Lib.hid (And.intro y0 (And.intro y1 y2))
          have M14 := Lib.hid M14
          have LOW1 := Lib.hid M12.out.two
          clear T14 M13 TI hkk
          dsimp only
          go_wp2_with fail
          with_reducible refine AK.out.mono ?_
          rintro e W15 ⟨rfl, rfl⟩
          clear y0 y1 y2 AK
          go_upto_region 21 with fail
          have h24 := M14.out.two.tail
          have hlt := M14.out.two.I.lt
          have hlt0 := LOW1.out.I.lt
          have h240 := LOW1.out.tail
          have BD := Lib.hid (And.intro h24 (And.intro hlt (And.intro hlt0 h240)))
          have w1 : wrap64 ((s.tail : Int) + 1) = (s.tail : Int) + 1 := by unfold wrap64; omega
          have w1' : IntKind.i64.wrap ((s.tail : Int) + 1) = (s.tail : Int) + 1 := by rw [IntKind.wrap_i64]; omega
          have w2 : wrap64 ((s.low : Int) + 1) = (s.low : Int) + 1 := by unfold wrap64; omega
          have f1 : decide ((s.tail : Int) < (s.tail : Int)) = false := decide_eq_false (by omega)
          have f2 : decide (s.tail < s.tail) = false := decide_eq_false (by omega)
          have f3 : decide ((s.tail : Int) + 1 < (s.tail : Int)) = false := decide_eq_false (by omega)
          have f4 : decide ((s.tail : Int) + 1 < (s.tail : Int) + 1) = false := decide_eq_false (by omega)
          have f5 : decide ((s.tail : Int) < (s.tail : Int) + 1) = true := decide_eq_true (by omega)
          have g1 : decide ((s.low : Int) < (s.low : Int)) = false := decide_eq_false (by omega)
          have g2 : decide (s.low < s.low) = false := decide_eq_false (by omega)
          have g3 : decide ((s.low : Int) + 1 < (s.low : Int)) = false := decide_eq_false (by omega)
          have g4 : decide ((s.low : Int) + 1 < (s.low : Int) + 1) = false := decide_eq_false (by omega)
          have g5 : decide ((s.low : Int) < (s.low : Int) + 1) = true := decide_eq_true (by omega)
          clear h24 hlt hlt0 h240
          obtain ⟨cl0, hcl0⟩ : ∃ q, s.closed = q := ⟨_, rfl⟩
          obtain ⟨cl1, hcl1⟩ : ∃ q, s'.closed = q := ⟨_, rfl⟩
          have HCL := Lib.hid (show cl0 = true → cl1 = true by rw [← hcl0, ← hcl1]; exact ST.out.2.1)
          rw [hcl0, hcl1]
          clear hcl0 hcl1
          rcases ST.out with ⟨hA | ⟨hA, hk1, htl⟩, _, hB | ⟨hB, hrd, hk7⟩⟩
          · have f6 : decide ((s.tail : Int) < (s.low : Int)) = false := decide_eq_false (by have := BD.out; omega)
            have f7 : decide (s.tail < s.low) = false := decide_eq_false (by have := BD.out; omega)
            have w5 : wrap64 ((s.tail : Int)) = (s.tail : Int) := by have := BD.out; unfold wrap64; omega
            have w6 : wrap64 ((s.tail : Int) + (s.tail : Int)) = (s.tail : Int) + (s.tail : Int) := by have := BD.out; unfold wrap64; omega
            have w7 : wrap64 ((s.tail : Int) + (s.tail : Int) - (s.tail : Int)) = (s.tail : Int) := by have := BD.out; unfold wrap64; omega
            have HA := Lib.hid (show (s'.tail : Int) = (s.tail : Int) by omega)
            have HB := Lib.hid (show (s'.low : Int) = (s.low : Int) by omega)
            have LC := Lib.hid (show Calls Try.prog 17 #[.pointer (some ⟨B.l, 0, none⟩)] W14 fun e w' => e = .returned (.int .i64 ((s.low : Int))) ∧ W14 = w' by rw [← HB.out]; exact M14.out.two.L.low_is)
            have M20 := M14
            rw [HA.out]
            clear hA hB ST
            cases cl0 with
            | false =>
              go_wp2_with fail
              with_reducible refine LC.out.mono ?_
              rintro e wz ⟨rfl, rfl⟩
              go_wp2_with fail
              with_reducible refine LC.out.mono ?_
              rintro e wz ⟨rfl, rfl⟩
              go_wp2_with fail
              with_reducible refine LC.out.mono ?_
              rintro e wz ⟨rfl, rfl⟩
              go_wp2_with fail
              with_reducible refine LC.out.mono ?_
              rintro e wz ⟨rfl, rfl⟩
              go_wp2_with fail
              go_roundg (min len 60 - (i + 1))
              case measure => have := GG.out; omega
              case rel => exact ⟨i + 1, s', R', by
                have := BD.out
                have := HA.out
                congr 1
                (try unfold wrap64)
                omega, by
                have := H60.out
                rw [show wrap64 ((i : Int) + 1) = ((i + 1 : Nat) : Int) by unfold wrap64; omega], by have := GG.out; omega, rfl, HR'.out, M20.out⟩
            | true =>
              obtain rfl := HCL.out rfl
              go_wp2_with fail
              with_reducible refine LC.out.mono ?_
              rintro e wz ⟨rfl, rfl⟩
              go_wp2_with fail
              with_reducible refine LC.out.mono ?_
              rintro e wz ⟨rfl, rfl⟩
              go_wp2_with fail
              with_reducible refine LC.out.mono ?_
              rintro e wz ⟨rfl, rfl⟩
              go_wp2_with fail
              with_reducible refine LC.out.mono ?_
              rintro e wz ⟨rfl, rfl⟩
              go_wp2_with fail
              go_roundg (min len 60 - (i + 1))
              case measure => have := GG.out; omega
              case rel => exact ⟨i + 1, s', R', by
                have := BD.out
                have := HA.out
                congr 1
                (try unfold wrap64)
                omega, by
                have := H60.out
                rw [show wrap64 ((i : Int) + 1) = ((i + 1 : Nat) : Int) by unfold wrap64; omega], by have := GG.out; omega, rfl, HR'.out, M20.out⟩
          · have HA := Lib.hid (show (s'.tail : Int) = (s.tail : Int) by omega)
            have HB := Lib.hid (show (s'.low : Int) = (s.low : Int) + 1 by omega)
            have LC := Lib.hid (show Calls Try.prog 17 #[.pointer (some ⟨B.l, 0, none⟩)] W14 fun e w' => e = .returned (.int .i64 ((s.low : Int) + 1)) ∧ W14 = w' by rw [← HB.out]; exact M14.out.two.L.low_is)
            have M20 := M14
            rw [HA.out]
            have f6 : decide ((s.tail : Int) < (s.low : Int) + 1) = false := decide_eq_false (by have := BD.out; omega)
            have w5 : wrap64 ((s.tail : Int)) = (s.tail : Int) := by have := BD.out; unfold wrap64; omega
            have w6 : wrap64 ((s.tail : Int) + (s.tail : Int)) = (s.tail : Int) + (s.tail : Int) := by have := BD.out; unfold wrap64; omega
            have w7 : wrap64 ((s.tail : Int) + (s.tail : Int) - (s.tail : Int)) = (s.tail : Int) := by have := BD.out; unfold wrap64; omega
            rw [seenB_ready hrd, allTold_some hrd]
            clear hrd
            rcases hk7 with rfl | rfl
            · clear hA hB ST
              cases cl0 with
              | false =>
                go_wp2_with fail
                with_reducible refine LC.out.mono ?_
                rintro e wz ⟨rfl, rfl⟩
                go_wp2_with fail
                with_reducible refine LC.out.mono ?_
                rintro e wz ⟨rfl, rfl⟩
                go_wp2_with fail
                with_reducible refine LC.out.mono ?_
                rintro e wz ⟨rfl, rfl⟩
                go_wp2_with fail
                with_reducible refine LC.out.mono ?_
                rintro e wz ⟨rfl, rfl⟩
                go_wp2_with fail
                go_roundg (min len 60 - (i + 1))
                case measure => have := GG.out; omega
                case rel => exact ⟨i + 1, s', R', by
                  have := BD.out
                  have := HA.out
                  congr 1
                  (try unfold wrap64)
                  omega, by
                  have := H60.out
                  rw [show wrap64 ((i : Int) + 1) = ((i + 1 : Nat) : Int) by unfold wrap64; omega], by have := GG.out; omega, rfl, HR'.out, M20.out⟩
              | true =>
                obtain rfl := HCL.out rfl
                go_wp2_with fail
                with_reducible refine LC.out.mono ?_
                rintro e wz ⟨rfl, rfl⟩
                go_wp2_with fail
                with_reducible refine LC.out.mono ?_
                rintro e wz ⟨rfl, rfl⟩
                go_wp2_with fail
                with_reducible refine LC.out.mono ?_
                rintro e wz ⟨rfl, rfl⟩
                go_wp2_with fail
                with_reducible refine LC.out.mono ?_
                rintro e wz ⟨rfl, rfl⟩
                go_wp2_with fail
                go_roundg (min len 60 - (i + 1))
                case measure => have := GG.out; omega
                case rel => exact ⟨i + 1, s', R', by
                  have := BD.out
                  have := HA.out
                  congr 1
                  (try unfold wrap64)
                  omega, by
                  have := H60.out
                  rw [show wrap64 ((i : Int) + 1) = ((i + 1 : Nat) : Int) by unfold wrap64; omega], by have := GG.out; omega, rfl, HR'.out, M20.out⟩
            · clear hA hB ST
              cases cl0 with
              | false =>
                go_wp2_with fail
                with_reducible refine LC.out.mono ?_
                rintro e wz ⟨rfl, rfl⟩
                go_wp2_with fail
                with_reducible refine LC.out.mono ?_
                rintro e wz ⟨rfl, rfl⟩
                go_wp2_with fail
                with_reducible refine LC.out.mono ?_
                rintro e wz ⟨rfl, rfl⟩
                go_wp2_with fail
                with_reducible refine LC.out.mono ?_
                rintro e wz ⟨rfl, rfl⟩
                go_wp2_with fail
                go_roundg (min len 60 - (i + 1))
                case measure => have := GG.out; omega
                case rel => exact ⟨i + 1, s', R', by
                  have := BD.out
                  have := HA.out
                  congr 1
                  (try unfold wrap64)
                  omega, by
                  have := H60.out
                  rw [show wrap64 ((i : Int) + 1) = ((i + 1 : Nat) : Int) by unfold wrap64; omega], by have := GG.out; omega, rfl, HR'.out, M20.out⟩
              | true =>
                obtain rfl := HCL.out rfl
                go_wp2_with fail
                with_reducible refine LC.out.mono ?_
                rintro e wz ⟨rfl, rfl⟩
                go_wp2_with fail
                with_reducible refine LC.out.mono ?_
                rintro e wz ⟨rfl, rfl⟩
                go_wp2_with fail
                with_reducible refine LC.out.mono ?_
                rintro e wz ⟨rfl, rfl⟩
                go_wp2_with fail
                with_reducible refine LC.out.mono ?_
                rintro e wz ⟨rfl, rfl⟩
                go_wp2_with fail
                go_roundg (min len 60 - (i + 1))
                case measure => have := GG.out; omega
                case rel => exact ⟨i + 1, s', R', by
                  have := BD.out
                  have := HA.out
                  congr 1
                  (try unfold wrap64)
                  omega, by
                  have := H60.out
                  rw [show wrap64 ((i : Int) + 1) = ((i + 1 : Nat) : Int) by unfold wrap64; omega], by have := GG.out; omega, rfl, HR'.out, M20.out⟩
          · have A21 := Lib.hid (show ∀ w, Calls Try.prog 21 #[.agg #[.int .i64 (K i), .int .i64 (A i), .int .i64 (N i)], .int .i64 (s.tail : Int)] w fun e w' => e = .returned (.int .i64 (s.tail : Int)) ∧ Turn (fun _ => False) w w' from fun w => by have := tail_is w (K i) (A i) (N i) (t := s.tail) (by have := BD.out; omega); rw [htl] at this; exact this)
            have HA := Lib.hid (show (s'.tail : Int) = (s.tail : Int) + 1 by omega)
            have HB := Lib.hid (show (s'.low : Int) = (s.low : Int) by omega)
            have d9 : decide (1 < (kk : Int)) = false := decide_eq_false (by omega)
            have d9n : decide (1 < kk) = false := decide_eq_false (by omega)
            have f6 : decide ((s.tail : Int) + 1 < (s.low : Int)) = false := decide_eq_false (by have := BD.out; omega)
            have w5 : wrap64 ((s.tail : Int) + ((s.tail : Int) + 1)) = (s.tail : Int) + ((s.tail : Int) + 1) := by have := BD.out; unfold wrap64; omega
            have w6 : wrap64 ((s.tail : Int) + ((s.tail : Int) + 1) - (s.tail : Int)) = (s.tail : Int) + 1 := by have := BD.out; unfold wrap64; omega
            obtain ⟨y0, y1, y2⟩ := K14.out
            rw [HA.out]
            clear hA hB ST htl hk1
            cases cl0 with
            | false =>
              go_wp2_with fail
              with_reducible refine (A21.out _).mono ?_
              rintro en V1 ⟨rfl, U1⟩
              have M20 := M14.out.keep U1
              have LC := Lib.hid (show Calls Try.prog 17 #[.pointer (some ⟨B.l, 0, none⟩)] V1 fun e w' => e = .returned (.int .i64 (s.low : Int)) ∧ V1 = w' by rw [← HB.out]; exact M20.two.L.low_is)
              have M20 := Lib.hid M20
              clear U1 y0 y1 y2
              go_wp2_with fail
              with_reducible refine LC.out.mono ?_
              rintro e wz ⟨rfl, rfl⟩
              go_wp2_with fail
              with_reducible refine LC.out.mono ?_
              rintro e wz ⟨rfl, rfl⟩
              go_wp2_with fail
              with_reducible refine LC.out.mono ?_
              rintro e wz ⟨rfl, rfl⟩
              go_wp2_with fail
              with_reducible refine LC.out.mono ?_
              rintro e wz ⟨rfl, rfl⟩
              go_wp2_with fail
              go_roundg (min len 60 - (i + 1))
              case measure => have := GG.out; omega
              case rel => exact ⟨i + 1, s', R', by
                have := BD.out
                have := HA.out
                congr 1
                (try unfold wrap64)
                omega, by
                have := H60.out
                rw [show wrap64 ((i : Int) + 1) = ((i + 1 : Nat) : Int) by unfold wrap64; omega], by have := GG.out; omega, rfl, HR'.out, M20.out⟩
            | true =>
              obtain rfl := HCL.out rfl
              go_wp2_with fail
              with_reducible refine (A21.out _).mono ?_
              rintro en V1 ⟨rfl, U1⟩
              have M20 := M14.out.keep U1
              have LC := Lib.hid (show Calls Try.prog 17 #[.pointer (some ⟨B.l, 0, none⟩)] V1 fun e w' => e = .returned (.int .i64 (s.low : Int)) ∧ V1 = w' by rw [← HB.out]; exact M20.two.L.low_is)
              have M20 := Lib.hid M20
              clear U1 y0 y1 y2
              go_wp2_with fail
              with_reducible refine LC.out.mono ?_
              rintro e wz ⟨rfl, rfl⟩
              go_wp2_with fail
              with_reducible refine LC.out.mono ?_
              rintro e wz ⟨rfl, rfl⟩
              go_wp2_with fail
              with_reducible refine LC.out.mono ?_
              rintro e wz ⟨rfl, rfl⟩
              go_wp2_with fail
              with_reducible refine LC.out.mono ?_
              rintro e wz ⟨rfl, rfl⟩
              go_wp2_with fail
              go_roundg (min len 60 - (i + 1))
              case measure => have := GG.out; omega
              case rel => exact ⟨i + 1, s', R', by
                have := BD.out
                have := HA.out
                congr 1
                (try unfold wrap64)
                omega, by
                have := H60.out
                rw [show wrap64 ((i : Int) + 1) = ((i + 1 : Nat) : Int) by unfold wrap64; omega], by have := GG.out; omega, rfl, HR'.out, M20.out⟩
          · exfalso
            omega
    · have BEL := Lib.hid (M.T.below (B := w.heap.size) (fun k hk => ⟨hk, by omega⟩))
      have TI := Lib.hid M.two.L.tail_is
      have M := Lib.hid M
      by_cases hl6 : len ≤ 60
      · obtain rfl := NN.out.2.1 hin hl6
        have u1 : decide ((i : Int) < (i : Int)) = false := decide_eq_false (by omega)
        have u2 : decide (i < i) = false := decide_eq_false (by omega)
        clear hg hi hin NN hl6
        go_wp2_with fail
        with_reducible refine TI.out.mono ?_
        rintro e W6 ⟨rfl, T6⟩
        have BEL := Lib.hid ((M.out.keep T6).T.below (B := w.heap.size) (fun k hk => ⟨hk, by omega⟩))
        clear T6
        dsimp only
        go_wp2_with fail
        go_ret
        exact ⟨by simp, BEL.out⟩
      · obtain ⟨rfl, hil⟩ := NN.out.2.2 hin hl6
        have u1 : decide (((60 : Nat) : Int) < (len : Int)) = true := decide_eq_true (by omega)
        have u2 : decide (60 < len) = true := decide_eq_true hil
        have u3 : decide ((60 : Int) < (len : Int)) = true := decide_eq_true (by omega)
        have u4 : (60 : Int) < (len : Int) := by omega
        clear hg hi hin NN hl6 hil
        go_wp2_with fail
        with_reducible refine TI.out.mono ?_
        rintro e W6 ⟨rfl, T6⟩
        have BEL := Lib.hid ((M.out.keep T6).T.below (B := w.heap.size) (fun k hk => ⟨hk, by omega⟩))
        clear T6
        dsimp only
        go_wp2_with fail
        go_ret
        exact ⟨by simp, BEL.out⟩
end Go.Proofs.Yteokdibfdahabaa
