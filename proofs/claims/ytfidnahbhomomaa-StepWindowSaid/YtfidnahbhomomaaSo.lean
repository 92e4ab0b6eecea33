/-
  StepWindow's walk.
-/
import Derived.Test.YtfidnahbhomomaaSn
namespace Go.Proofs.Ytfidnahbhomomaa
open Go.ChangeShapes Go.WideShapes Go.ChangeAt Go.RowKit
set_option linter.unusedVariables false
set_option linter.unusedSimpArgs false
theorem and_bds (x : Int) (m : Nat) (hm : m < 1073741824) : 0 ≤ bits .and .i64 x (m : Int) ∧ bits .and .i64 x (m : Int) ≤ (m : Int) := by
  have h2 : (BitVec.ofInt 64 (m : Int)).toNat = m := by
    rw [BitVec.ofInt_natCast, BitVec.toNat_ofNat]
    exact Nat.mod_eq_of_lt (by omega)
  have e : bits .and .i64 x (m : Int) = IntKind.i64.wrap (((BitVec.ofInt 64 x).toNat &&& m : Nat) : Int) := by
    show IntKind.i64.wrap ((BitVec.ofInt 64 x &&& BitVec.ofInt 64 (m : Int)).toNat : Int) = _
    rw [BitVec.toNat_and, h2]
  have hl : (BitVec.ofInt 64 x).toNat &&& m ≤ m := Nat.and_le_right
  rw [e, IntKind.wrap_i64]
  omega
theorem wide_is (x : Int) : ∃ v : Int, wrap64 (1 + bits BinOp.and IntKind.i64 x 7) = v ∧ 1 ≤ v ∧ v ≤ 8 := by
  have h : 0 ≤ bits BinOp.and IntKind.i64 x 7 ∧ bits BinOp.and IntKind.i64 x 7 ≤ 7 := and_bds x 7 (by decide)
  refine ⟨_, rfl, ?_, ?_⟩ <;> (unfold wrap64; omega)
theorem far_is (y : Int) : ∃ m : Nat, wrap64 (1 + (wrap64 (y.tmod 12 + 12)).tmod 12) = (m : Int) ∧ 1 ≤ m ∧ m ≤ 12 := by
  have h1 := Int.tmod_lt_of_pos y (show (0 : Int) < 12 by decide)
  have h2 := Int.lt_tmod_of_pos y (show (0 : Int) < 12 by decide)
  generalize y.tmod 12 = a at *
  have e1 : wrap64 (a + 12) = a + 12 := by unfold wrap64; omega
  rw [e1]
  have h3 := Int.tmod_lt_of_pos (a + 12) (show (0 : Int) < 12 by decide)
  have h4 := Int.tmod_nonneg (a := a + 12) 12 (by omega)
  generalize (a + 12).tmod 12 = b at *
  have e2 : wrap64 (1 + b) = 1 + b := by unfold wrap64; omega
  rw [e2]
  exact ⟨(1 + b).toNat, by omega, by omega, by omega⟩
theorem wrapM {m : Nat} (h : m ≤ 12) : wrap64 ((m : Int) + 1) = ((m + 1 : Nat) : Int) := by unfold wrap64; omega
def wTab (v : Int) : Tab := ⟨[⟨0, false, []⟩, ⟨1, false, []⟩], v, false⟩
theorem window_none {v q : Int} {m : Nat} (h : v ≤ (m : Int)) : stepR (wTab v) 0 m [[0]] false ⟨0, false, []⟩ ⟨q, 0, 0, 0, 0, 0⟩ = [] := by
  unfold stepR
  have e : (flatI [[(0 : Int)]]).getD 0 0 = 0 := rfl
  rw [e, if_pos (by show v ≤ (m : Int) - 0; omega)]
theorem window_step {v q : Int} {m : Nat} (h : ¬ v ≤ (m : Int)) : stepR (wTab v) 0 m [[0]] false ⟨0, false, []⟩ ⟨q, 0, 0, 0, 0, 0⟩ = ⟨0, [[0]], false⟩ :: (if (q == 1) = true then [⟨1, putN [[0]] 1 (m : Int), false⟩] else []) := by
  unfold stepR
  have e : (flatI [[(0 : Int)]]).getD 0 0 = 0 := rfl
  rw [e, if_neg (by show ¬ v ≤ (m : Int) - 0; omega)]
  rfl
theorem window_call {W4 W6 : World} {a : Addr} {v q : Int} {m mn : Nat} (hb : Nat) (hm : mn = m + 1) (m1 : 1 ≤ m) (m12 : m ≤ 12) (hv : 1 ≤ v ∧ v ≤ 8) (C : CellsAt W4 (.slice (some a) 2 2) [⟨0, false, []⟩, ⟨1, false, []⟩]) (K : EvsAt W6 (.slice (some ⟨hb, 0, none⟩) mn mn) (kinds m q)) (T : Turn (fun _ => False) W4 W6) :
    Calls Try.prog 18 #[.agg #[.slice (some a) 2 2, .int .i64 v, .bool false], .slice (some ⟨hb, 0, none⟩) mn mn, .agg #[.int .i64 0, .slice (some ⟨W6.heap.size + 1, 0, none⟩) 1 1, .bool false]]
      ((W6.alloc (.cells #[.int .i64 0] 3)).alloc (.cells #[.slice (some ⟨W6.heap.size, 0, none⟩) 1 1] 22)) fun en w' => ∃ u B, en = .returned u ∧ RunsO B w' u (stepR (wTab v) 0 m [[0]] false ⟨0, false, []⟩ ⟨q, 0, 0, 0, 0, 0⟩) ∧ Turn (fun _ => False) W6 w' := by
  have TB : Turn (fun _ => False) W6 ((W6.alloc (.cells #[.int .i64 0] 3)).alloc (.cells #[.slice (some ⟨W6.heap.size, 0, none⟩) 1 1] 22)) := ((Turn.refl _ W6).alloc _).alloc _
  have hl : (kinds m q).length - 1 = m := by rw [kinds_len, Nat.add_sub_cancel]
  have S := step_is (T := wTab v) (H := kinds m q) (a := 0) (bl := false) (c := ⟨0, false, []⟩) (e := ⟨q, 0, 0, 0, 0, 0⟩) (C.turn (T.trans TB)) (tab2_ok rfl hv (by decide) (by decide) ⟨by decide, fun g h => by simp at h⟩) (K.turn TB (fun _ _ f => f)) (rows_new W6 0) (by rw [kinds_len]; omega) (run_first (by rw [hl]; exact m1) (by rw [hl]; omega) hv.1 (show 1 ≤ 2 from Nat.le_of_ble_eq_true rfl)) (fun x hx => by simp at hx; subst hx; decide) rfl (by rw [hl]; exact kinds_at)
  rw [hl] at S
  refine Calls.mono S ?_
  rintro en w' ⟨u, B, e1, e2, e3⟩
  exact ⟨u, B, e1, e2, TB.trans e3⟩
set_option maxRecDepth 100000 in
set_option maxHeartbeats 4000000 in
theorem window_walk (x y z : Int) (w : World) : Calls Try.prog 6 #[.int .i64 x, .int .i64 y, .int .i64 z] w fun e w' => e = .returned (.bool true) ∧ Turn (fun _ => False) w w' := by
  have AW := Lib.hid (step_awake w)
  obtain ⟨v, e8, v1, v8⟩ := wide_is x
  obtain ⟨m, e9, m1, m12⟩ := far_is y
  obtain ⟨q, hq⟩ : ∃ q, q = bits BinOp.and IntKind.i64 z 7 := ⟨_, rfl⟩
  have e7 := hq.symm
  have e10 := wrapM m12
  have MM := Lib.hid (And.intro m1 (And.intro m12 (And.intro v1 v8)))
  obtain ⟨mn, hmn⟩ : ∃ mn, mn = m + 1 := ⟨_, rfl⟩
  have HMN := Lib.hid hmn
  rw [← hmn] at e10
  clear hq hmn m1 m12
  go_enter Try.func6, Try.ntmps6
  go_wp2_with fail
  with_reducible refine AW.out.mono ?_
  rintro en Wa ⟨rfl, Ta⟩
  have HTa := Lib.hid Ta
  clear Ta AW
  go_upto_region 5 with fail
  rw [e8, e9]
  clear e8 e9
  obtain ⟨W4, hW4⟩ : ∃ W4, W4 = (Wa.alloc (.cells #[.int .i64 0, .bool false, .slice none 0 0, .slice none 0 0, .int .i64 1, .bool false, .slice none 0 0, .slice none 0 0] 59)).alloc (.cells #[.slice (some ⟨Wa.heap.size, 0, none⟩) 2 2, .int .i64 v, .bool false] 26) := ⟨_, rfl⟩
  have T4 : Turn (fun _ => False) Wa W4 := by rw [hW4]; exact ((Turn.refl _ Wa).alloc _).alloc _
  have C4 : CellsAt W4 (.slice (some ⟨Wa.heap.size, 0, none⟩) 2 2) [⟨0, false, []⟩, ⟨1, false, []⟩] := by
    rw [hW4]
    exact (cells_two Wa ⟨0, false, []⟩ ⟨1, false, []⟩ (.slice none 0 0) (.slice none 0 0) (guards_nil _) (guards_nil _)).turn ((Turn.refl (fun _ => False) _).alloc _)
  have R4 : W4.rangeAt (Wa.heap.size + 1) 0 [.slice (some ⟨Wa.heap.size, 0, none⟩) 2 2, .int .i64 v, .bool false] := by
    rw [hW4]
    have := range_new (Wa.alloc (.cells #[.int .i64 0, .bool false, .slice none 0 0, .slice none 0 0, .int .i64 1, .bool false, .slice none 0 0, .slice none 0 0] 59)) [.slice (some ⟨Wa.heap.size, 0, none⟩) 2 2, .int .i64 v, .bool false] 26
    rw [World.size_alloc] at this
    exact this
  rw [← hW4]
  obtain ⟨K6, TK6⟩ := kinds_made W4 m q
  have MK := make62 (n := mn) (by rw [HMN.out]; have := MM.out.2.1; omega) W4
  rw [← HMN.out] at K6 TK6
  obtain ⟨W5, hW5⟩ : ∃ W5, W5 = W4.alloc (.cells (madeCells zero6 (mn * 6)) 62) := ⟨_, rfl⟩
  rw [← hW5] at K6 TK6 MK
  have lt1 : m * 6 < mn * 6 := by rw [HMN.out]; omega
  have y0 : W5.cell? ⟨W4.heap.size, m * 6, none⟩ = some (.int .i64 0) := by
    rw [hW5]
    have h0 := range_new W4 (madeCells zero6 (mn * 6)).toList 62 (m * 6) _ (zero6_at lt1)
    rw [Array.toArray_toList, Nat.zero_add] at h0
    exact h0
  have f0 : W5.frozen? ⟨W4.heap.size, m * 6, none⟩ = false := by
    rw [hW5]
    have := Blk.new W4 (madeCells zero6 (mn * 6)).toList 62
    rw [Array.toArray_toList] at this
    exact this.fz _
  obtain ⟨W6, hW6⟩ : ∃ W6, W6 = W5.setCell ⟨W4.heap.size, m * 6, none⟩ (.int .i64 q) := ⟨_, rfl⟩
  rw [← hW6] at K6 TK6
  have R6 := range_turn R4 TK6 id
  have x0 := R6 0 _ rfl
  have x1 := R6 1 _ rfl
  have x2 := R6 2 _ rfl
  rw [Nat.zero_add] at x1 x2
  have c0 : (0 : Int) ≤ (m : Int) := Int.natCast_nonneg m
  have c1 : (m : Int) < (mn : Int) := by rw [HMN.out]; omega
  have HW6 := Lib.hid hW6
  have HK := Lib.hid (And.intro C4 (And.intro K6 (And.intro TK6 T4)))
  have HWa := Lib.hid (show W4.heap.size = Wa.heap.size + 1 + 1 by rw [hW4, World.size_alloc, World.size_alloc])
  have ST := Lib.hid (window_call W4.heap.size HMN.out MM.out.1 MM.out.2.1 MM.out.2.2 C4 K6 TK6)
  clear hW4 T4 C4 R4 K6 TK6 hW5 hW6 R6
  go_upto_region 7 with fail
  rw [← HW6.out]
  go_wp2_with fail
  with_reducible refine ST.out.mono ?_
  rintro en Wb ⟨u, B, rfl, RO, Tb⟩
  have FIN := Lib.hid (HTa.out.trans (HK.out.2.2.2.trans (HK.out.2.2.1.trans Tb)))
  clear Tb ST HK HTa x0 x1 x2 y0 f0 MK c0 c1 lt1 e10
  by_cases hv : v ≤ (m : Int)
  · have tv : decide (v ≤ (m : Int)) = true := decide_eq_true hv
    rw [window_none hv] at RO
    obtain ⟨ua, uc, rfl⟩ := RO.len
    clear RO
    go_wp2_with fail
    go_ret
    exact ⟨rfl, FIN.out⟩
  · have tv : decide (v ≤ (m : Int)) = false := decide_eq_false hv
    rw [window_step hv] at RO
    by_cases hq1 : q = 1
    · subst hq1
      have RO2 : RunsO B Wb u [⟨0, [[0]], false⟩, ⟨1, putN [[0]] 1 (m : Int), false⟩] := RO
      obtain ⟨g, gc, rfl, hg⟩ := RO2.read (Nat.le_add_left 1 _)
      obtain ⟨s1, z0, -, z2, -⟩ := hg 0 _ rfl
      have z0 : Wb.cell? ⟨g, 0, none⟩ = some (.int .i64 0) := z0
      have z2 : Wb.cell? ⟨g, 2, none⟩ = some (.bool false) := z2
      clear RO RO2 hg
      go_wp2_with fail
      go_ret
      exact ⟨rfl, FIN.out⟩
    · have tq : (q == 1) = false := beq_eq_false_iff_ne.2 hq1
      rw [tq] at RO
      have RO2 : RunsO B Wb u [⟨0, [[0]], false⟩] := RO
      obtain ⟨g, gc, rfl, hg⟩ := RO2.read (Nat.le_refl 1)
      obtain ⟨s1, z0, -, z2, -⟩ := hg 0 _ rfl
      have z0 : Wb.cell? ⟨g, 0, none⟩ = some (.int .i64 0) := z0
      have z2 : Wb.cell? ⟨g, 2, none⟩ = some (.bool false) := z2
      clear RO RO2 hg
      go_wp2_with fail
      go_ret
      exact ⟨rfl, FIN.out⟩
theorem window_below (x y z : Int) (w : World) : Calls Try.prog 6 #[.int .i64 x, .int .i64 y, .int .i64 z] w fun e w' => e = .returned (.bool true) ∧ Below w.heap.size w w' :=
  (window_walk x y z w).mono fun _ _ h => ⟨h.1, h.2.below (fun k hk => ⟨hk, id⟩)⟩
end Go.Proofs.Ytfidnahbhomomaa
