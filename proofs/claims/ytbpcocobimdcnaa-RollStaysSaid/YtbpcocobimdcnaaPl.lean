/-
  The walk of RollPlays, of layer 15.
-/
import Derived.Test.YtbpcocobimdcnaaOp
import Derived.Test.YtbpcocobimdcnaaActArg
import Derived.Lib.Builder
namespace Go.Proofs.Ytbpcocobimdcnaa
open Go.ChangeShapes Go.WideShapes Go.ChangeAt Go.RowKit
set_option linter.unusedVariables false

theorem info59n : (Try.prog.info? 59).map (fun i => (i.zero, i.size, i.bytes)) = some (some (.agg #[.slice none 0 0]), 1, 24) := by kernel_rfl
theorem ptr_neq (q : Nat) (W : World) : (binOp BinOp.neq 24 (.pointer (some ⟨q, 0, none⟩)) (.pointer (some ⟨q, 0, none⟩))).run Try.prog W = .ok (.bool false) W := by
  obtain ⟨i, hi, _⟩ := info_parts info59n
  exact Lib.run_neq_ptr_same W ⟨q, 0, none⟩ Try.underlying24 hi
def PlPost (w : World) (p : Option Addr) (L : List EV) (v : Value) (l : List EV) (i : Nat) (wx : World) : Prop := Pr wx p L v l ∧ L.length ≤ i + 1 ∧ Turn (fun _ => False) w wx
def PlRel (w : World) (n : Nat) (gh : Nat) (v6 v7 v8 : Value) (wr : World) : Prop :=
  ∃ (i : Nat) (p : Option Addr) (L l : List EV), v6 = .pointer p ∧ v8 = .int .i64 (i : Int) ∧ i ≤ n ∧ gh = n - i ∧ Pr wr p L v7 l ∧ L.length ≤ i ∧ Turn (fun _ => False) w wr
set_option maxRecDepth 100000 in
set_option maxHeartbeats 4000000 in
theorem plays_walk (a : Option Addr) (len cap : Nat) (at_ : Int) (w : World) (hA : IsActs w a len) : Calls Try.prog 3 #[.slice a len cap, .int .i64 at_] w fun e w' => e = .returned (.bool true) ∧ Below w.heap.size w w' := by
  have H0 := Lib.hid (roll_awake w)
  obtain ⟨n, hn⟩ : ∃ n : Nat, min len 30 = n := ⟨_, rfl⟩
  have hn30 : n ≤ 30 := by omega
  have hnl : n ≤ len := by omega
  have HN := Lib.hid hn
  have HA := Lib.hid hA
  clear hn hA
  go_enter Try.func3, Try.ntmps3
  go_wp2_with fail
  refine H0.out.mono ?_
  rintro e w1 ⟨rfl, b1⟩
  have T1 : Turn (fun _ => False) w w1 := Turn.of_below b1
  have R0 : PlRel w n n (.pointer none) (.slice none 0 0) (.int .i64 0) w1 :=
    ⟨0, none, [], [], rfl, rfl, Nat.zero_le _, rfl, ⟨rollS_nil _, ⟨World.ownsRow_nil _ _ _ _, by simp⟩, (fun e he => by cases he), rfl⟩, Nat.le_refl _, T1⟩
  clear b1 T1 H0
  go_wp2_with fail
  go_loopg [6, 7, 8] n (fun gh v6 v7 v8 wr => PlRel w n gh v6 v7 v8 wr)
  case atStart => exact R0
  case round =>
    clear R0
    obtain ⟨i, p, L, l, rfl, rfl, hi, hg, hP, hL, hT⟩ := hrel
    obtain ⟨va0, vc0, rfl, hva⟩ := own_slice hP.row.own
    have hll : l.length ≤ 1000 := hP.row.lt
    by_cases hin : i < n
    · have P7 := Lib.hid (And.intro hP (And.intro hL hT))
      have G := Lib.hid hg
      clear hP hL hT hg
      have t1 : decide ((i : Int) < (len : Int)) = true := decide_eq_true (by omega)
      have t2 : decide ((i : Int) < 30) = true := decide_eq_true (by omega)
      obtain ⟨b, off, E, N, X, A, rfl, _, hb, hacts⟩ := HA.out.resolve_left (by omega)
      obtain ⟨x0, x1, x2, x3⟩ := hacts i (by omega)
      have x0 := P7.out.2.2.cell (fun f => f) x0
      have x1 := P7.out.2.2.cell (fun f => f) x1
      have x2 := P7.out.2.2.cell (fun f => f) x2
      have x3 := P7.out.2.2.cell (fun f => f) x3
      generalize E i = ei at *
      generalize N i = ni at *
      generalize X i = xi at *
      generalize A i = ai at *
      have hi0 : (0 : Int) ≤ (i : Int) := by omega
      have hi1 : (i : Int) < (len : Int) := by omega
      clear hacts
      have TC : Turn (fun _ => False) wr (wr.alloc (.cells #[.bool ei, .bool ni, .int .i64 xi, .int .i64 ai] 27)) := (Turn.refl _ wr).alloc _
      have C := World.cell?_alloc_new wr #[.bool ei, .bool ni, .int .i64 xi, .int .i64 ai] 27
      obtain ⟨W7, hW7⟩ : ∃ W7, W7 = wr.alloc (.cells #[.bool ei, .bool ni, .int .i64 xi, .int .i64 ai] 27) := ⟨_, rfl⟩
      rw [← hW7] at C TC
      have C0 : W7.cell? ⟨wr.heap.size, 0, none⟩ = some (.bool ei) := C 0
      have C1 : W7.cell? ⟨wr.heap.size, 1, none⟩ = some (.bool ni) := C 1
      have C2 : W7.cell? ⟨wr.heap.size, 2, none⟩ = some (.int .i64 xi) := C 2
      have C3 : W7.cell? ⟨wr.heap.size, 3, none⟩ = some (.int .i64 ai) := C 3
      have NI := Lib.hid (numbers_is W7 ei ni xi ai)
      have P7 := Lib.hid (And.intro (P7.out.1.turn TC) (And.intro P7.out.2.1 (P7.out.2.2.trans TC)))
      clear C TC
      go_upto_region 8 with fail
      rw [← hW7]
      clear hW7 x0 x1 x2 x3
      generalize wr.heap.size = b7 at *
      go_wp2_with fail
      with_reducible refine NI.out.mono ?_
      rintro en w2 ⟨idn, tn, rfl, T2⟩
      have E9 := T2.cell (fun f => f) C0
      have P8 := Lib.hid (And.intro (P7.out.1.turn T2) (And.intro P7.out.2.1 (P7.out.2.2.trans T2)))
      clear NI T2 C0 C1 C2 C3 P7
      go_upto_if 40 with fail
      go_cut [6, 7] (fun v6 v7 wx => ∃ p' L' l', v6 = .pointer p' ∧ PlPost w p' L' v7 l' i wx)
      case first =>
       cases ei with
       | true =>
        clear E9
        have EO := Lib.hid (end_op (P8.out.1.rs) (by have := P8.out.2.1; omega) idn tn)
        go_wp2_with fail
        with_reducible refine EO.out.mono ?_
        rintro en w3 ⟨p3, ok, L3, rfl, RS3, sp3, hpp, T3⟩
        have P3 := Lib.hid (And.intro RS3 (And.intro sp3 (And.intro T3 hpp)))
        have RO := Lib.hid (rend_op (P8.out.1.row.turn T3) (P8.out.1.same.sorted P8.out.1.rs.srt) (P8.out.1.tabs.turn T3) idn tn)
        clear EO RS3 sp3 T3 hpp
        go_wp2_with fail
        with_reducible refine RO.out.mono ?_
        rintro en w4 ⟨v4, ok', l4, rfl, R4, tb4, sp4, T4⟩
        obtain ⟨rfl, SL4, hL4⟩ := end_same P8.out.1.same P8.out.1.rs.srt P3.out.2.1 sp4
        have hL4 : L3.length ≤ i + 1 := by have := P8.out.2.1; omega
        obtain ⟨va, vc, rfl, _⟩ := own_slice R4.own
        have TA : Turn (fun _ => False) w4 (w4.alloc (.cells #[.slice va l4.length vc, .bool ok] 33)) := (Turn.refl _ w4).alloc _
        have A := World.cell?_alloc_new w4 #[.slice va l4.length vc, .bool ok] 33
        obtain ⟨W4, hW4⟩ : ∃ W4, W4 = w4.alloc (.cells #[.slice va l4.length vc, .bool ok] 33) := ⟨_, rfl⟩
        rw [← hW4] at A TA
        have A0 : W4.cell? ⟨w4.heap.size, 0, none⟩ = some (.slice va l4.length vc) := A 0
        have A1 : W4.cell? ⟨w4.heap.size, 1, none⟩ = some (.bool ok) := A 1
        have F := Lib.hid (show PlPost w p3 L3 (.slice va l4.length vc) l4 i W4 from ⟨⟨P3.out.1.turn (T4.trans TA), R4.turn TA, tb4.turn TA, SL4⟩, hL4, ((P8.out.2.2.trans P3.out.2.2.1).trans T4).trans TA⟩)
        have PN := Lib.hid (And.intro P3.out.2.2.2 P8.out.1.rs.at_)
        clear A TA R4 tb4 sp4 T4 SL4 hL4 RO P3
        generalize l4.length = m4 at *
        go_upto_region 12 with fail
        rw [← hW4]
        clear hW4
        generalize w4.heap.size = b4 at *
        cases ok with
        | true =>
          have n1 : (true != true) = false := rfl
          go_wp2_with fail
          go_meet
          case rel => exact ⟨_, _, _, rfl, F.out⟩
        | false =>
          obtain rfl := PN.out.1 rfl
          rcases PN.out.2 with ⟨rfl, _⟩ | ⟨r, _, rfl, _⟩
          · go_wp2_with fail
            go_meet
            case rel => exact ⟨_, _, _, rfl, F.out⟩
          · have pe := fun W => ptr_neq r W
            go_wp2_with fail
            go_meet
            case rel => exact ⟨_, _, _, rfl, F.out⟩
       | false =>
        clear E9
        have KD := Lib.hid (kind_is w2 (i : Int))
        go_wp2_with fail
        with_reducible refine KD.out.mono ?_
        rintro en wa ⟨ca, rfl, hpa, Ta⟩
        have hpa := hpa.low (Nat.zero_le _)
        obtain ⟨ca0, ca1, ca2, rfl⟩ := plain_slice hpa
        have P8 := Lib.hid (And.intro (P8.out.1.turn Ta) (And.intro P8.out.2.1 (P8.out.2.2.trans Ta)))
        have EO := Lib.hid (add_op (P8.out.1.rs) (by have := P8.out.2.1; omega) idn hpa)
        clear KD hpa Ta
        go_wp2_with fail
        with_reducible refine EO.out.mono ?_
        rintro en w3 ⟨p3, ok, L3, rfl, RS3, sp3, hpp, T3⟩
        have P3 := Lib.hid (And.intro RS3 (And.intro sp3 (And.intro T3 hpp)))
        have KD := Lib.hid (kind_is w3 (i : Int))
        clear EO RS3 sp3 T3 hpp
        go_wp2_with fail
        with_reducible refine KD.out.mono ?_
        rintro en wb ⟨cb, rfl, hpb, Tb⟩
        have hpb := hpb.low (Nat.zero_le _)
        obtain ⟨cb0, cb1, cb2, rfl⟩ := plain_slice hpb
        have P3 := Lib.hid (And.intro (P3.out.1.turn Tb) (And.intro P3.out.2.1 (And.intro (P3.out.2.2.1.trans Tb) P3.out.2.2.2)))
        have RO := Lib.hid (radd_op (P8.out.1.row.turn P3.out.2.2.1) (P8.out.1.same.sorted P8.out.1.rs.srt) (P8.out.1.tabs.turn P3.out.2.2.1) (by have := P8.out.2.1; have := P8.out.1.same.len; omega) idn hpb)
        clear KD hpb Tb
        go_wp2_with fail
        with_reducible refine RO.out.mono ?_
        rintro en w4 ⟨v4, ok', l4, rfl, R4, tb4, sp4, T4⟩
        obtain ⟨rfl, SL4, hL4⟩ := add_same P8.out.1.same P3.out.2.1 sp4
        have hL4 : L3.length ≤ i + 1 := by have := P8.out.2.1; omega
        obtain ⟨va, vc, rfl, _⟩ := own_slice R4.own
        have TA : Turn (fun _ => False) w4 (w4.alloc (.cells #[.slice va l4.length vc, .bool ok] 33)) := (Turn.refl _ w4).alloc _
        have A := World.cell?_alloc_new w4 #[.slice va l4.length vc, .bool ok] 33
        obtain ⟨W4, hW4⟩ : ∃ W4, W4 = w4.alloc (.cells #[.slice va l4.length vc, .bool ok] 33) := ⟨_, rfl⟩
        rw [← hW4] at A TA
        have A0 : W4.cell? ⟨w4.heap.size, 0, none⟩ = some (.slice va l4.length vc) := A 0
        have A1 : W4.cell? ⟨w4.heap.size, 1, none⟩ = some (.bool ok) := A 1
        have F := Lib.hid (show PlPost w p3 L3 (.slice va l4.length vc) l4 i W4 from ⟨⟨P3.out.1.turn (T4.trans TA), R4.turn TA, tb4.turn TA, SL4⟩, hL4, ((P8.out.2.2.trans P3.out.2.2.1).trans T4).trans TA⟩)
        have PN := Lib.hid (And.intro P3.out.2.2.2 P8.out.1.rs.at_)
        clear A TA R4 tb4 sp4 T4 SL4 hL4 RO P3
        generalize l4.length = m4 at *
        go_upto_region 18 with fail
        rw [← hW4]
        clear hW4
        generalize w4.heap.size = b4 at *
        cases ok with
        | true =>
          have n1 : (true != true) = false := rfl
          go_wp2_with fail
          go_meet
          case rel => exact ⟨_, _, _, rfl, F.out⟩
        | false =>
          obtain rfl := PN.out.1 rfl
          rcases PN.out.2 with ⟨rfl, _⟩ | ⟨r, _, rfl, _⟩
          · go_wp2_with fail
            go_meet
            case rel => exact ⟨_, _, _, rfl, F.out⟩
          · have pe := fun W => ptr_neq r W
            go_wp2_with fail
            go_meet
            case rel => exact ⟨_, _, _, rfl, F.out⟩
      case rest =>
      obtain ⟨p', L', l', rfl, hP, hL, hT⟩ := hcut
      obtain ⟨va1, vc1, rfl, _⟩ := own_slice hP.row.own
      have TL := Lib.hid (tells_is hP at_)
      have P9 := Lib.hid (And.intro hP (And.intro hL hT))
      clear hP hL hT
      go_wp2_with fail
      with_reducible refine TL.out.mono ?_
      rintro en w5 ⟨rfl, T5⟩
      have F := Lib.hid (show PlRel w n (n - (i + 1)) (.pointer p') (.slice va1 l'.length vc1) (.int .i64 ((i + 1 : Nat) : Int)) w5 from ⟨i + 1, p', L', l', rfl, rfl, by omega, rfl, P9.out.1.turn T5, P9.out.2.1, P9.out.2.2.trans T5⟩)
      clear T5 TL
      go_wp2_with fail
      go_roundg (n - (i + 1))
      case measure => have := G.out; omega
      case rel => exact F.out
    · obtain rfl : i = n := by omega
      have F := Lib.hid hT
      have t1 : ¬ (i < len ∧ i < 30) := by have := HN.out; omega
      clear hP hL hT hg
      by_cases h3 : i < len
      · have t1 : decide ((i : Int) < (len : Int)) = true := decide_eq_true (by omega)
        have t2 : decide ((i : Int) < 30) = false := decide_eq_false (by omega)
        go_wp2
        go_ret
        exact ⟨rfl, F.out.below fun k hk => ⟨hk, id⟩⟩
      · have t1 : decide ((i : Int) < (len : Int)) = false := decide_eq_false (by omega)
        go_wp2
        go_ret
        exact ⟨rfl, F.out.below fun k hk => ⟨hk, id⟩⟩
end Go.Proofs.Ytbpcocobimdcnaa
