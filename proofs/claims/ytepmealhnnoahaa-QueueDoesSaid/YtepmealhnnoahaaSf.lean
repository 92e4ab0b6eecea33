/-
  What is asked of a query that is not there: the walk.
-/
import Derived.Test.YtepmealhnnoahaaSd
namespace Go.Proofs.Ytepmealhnnoahaa
open Go.ChangeShapes Go.WideShapes Go.ChangeAt Go.RowKit
set_option linter.unusedVariables false
def N1 : Int → Option (List Fnd × Bool) := updI noneS 5 (some ([], false))
def wantE (id : Int) : Int := if id = 5 then 0 else 15
theorem reg5 : regR 1 noneS 0 5 = ⟨N1, 1, 0, 5, [], []⟩ := rfl
theorem reg9 : regR 1 N1 1 9 = ⟨N1, 1, 16, 0, [], []⟩ := rfl
theorem pol5 {f : Int} (hf : f < 1) : polR N1 1 5 f = ⟨N1, 1, 1, 0, [], []⟩ := by
  unfold polR
  rw [if_pos hf]
theorem polI (id : Int) : polR N1 1 id 1 = ⟨N1, 1, wantE id, 0, [], []⟩ := by
  unfold polR wantE
  rw [if_neg (by decide)]
  by_cases h : id = 5
  · subst h
    rw [show N1 5 = some ([], false) from updI_at _ _ _, if_pos rfl]
    dsimp only
    rw [if_neg (by simp)]
    show (⟨updI N1 5 (some ([], false)), 1, 0, 0, [], []⟩ : Res) = _
    unfold N1
    rw [updI_updI]
  · rw [show N1 id = none from updI_off _ _ h, if_neg h]
theorem unrI (id : Int) : ∃ S' m', unrR N1 1 id = ⟨S', m', wantE id, 0, [], []⟩ := by
  unfold unrR wantE
  by_cases h : id = 5
  · subst h
    rw [show N1 5 = some ([], false) from updI_at _ _ _, if_pos rfl]
    exact ⟨_, _, rfl⟩
  · rw [show N1 id = none from updI_off _ _ h, if_neg h]
    exact ⟨_, _, rfl⟩
theorem noneHn : ∀ (i : Int) (l' : List Fnd) (lo : Bool), N1 i = some (l', lo) → (frefs l').length ≤ 1000000 ∧ l'.length ≤ 1000000 := fun i l' lo h => by
  unfold N1 at h
  by_cases e : i = 5
  · subst e
    rw [updI_at] at h
    cases h
    decide
  · rw [updI_off _ _ e] at h
    cases h
theorem wf_range {n : Int} (h : (Lit.int .i64 n).wf = true) : -9223372036854775808 ≤ n ∧ n ≤ 9223372036854775807 := by
  simp only [Lit.wf, Bool.and_eq_true, decide_eq_true_eq] at h
  exact h
theorem i64_and65535 (n : Int) : bits .and .i64 n 65535 = n % 65536 := by
  have h127 : (BitVec.ofInt 64 65535).toNat = 2 ^ 16 - 1 := by decide
  have key : (BitVec.ofInt 64 n &&& BitVec.ofInt 64 65535).toNat = (n % ((2 ^ 64 : Nat) : Int)).toNat % 2 ^ 16 := by
    rw [BitVec.toNat_and, BitVec.toNat_ofInt, h127, Nat.and_two_pow_sub_one_eq_mod]
  show IntKind.i64.wrap ((BitVec.ofInt 64 n &&& BitVec.ofInt 64 65535).toNat : Nat) = n % 65536
  rw [key, IntKind.wrap_i64]
  omega
set_option maxRecDepth 100000 in
set_option maxHeartbeats 8000000 in
theorem none_walk (id n kind : Int) (w : World) (hid : (Lit.int .i64 id).wf = true) (hnw : (Lit.int .i64 n).wf = true) : Calls Try.prog 6 #[.int .i64 id, .int .i64 n, .int .i64 kind] w fun e w' => e = .returned (.bool true) ∧ Below w.heap.size w w' := by
  have AN := i64_and65535 kind
  obtain ⟨q, hq⟩ : ∃ q, kind % 65536 = q := ⟨_, rfl⟩
  have q0 : 0 ≤ q := by omega
  have q1 : q < 65536 := by omega
  rw [hq] at AN
  clear hq
  go_enter Try.func6, Try.ntmps6
  go_wp2_with fail
  with_reducible refine (queue_awake w).mono ?_
  rintro en w0 ⟨rfl, T0⟩
  go_wp2_with fail
  with_reducible refine (new_d w0 0 0 0 0 0 (qu := 1) (ou := 1) (by decide) (by decide) (by decide) (by decide)).mono ?_
  rintro en w1 ⟨d, mb, P, rfl, hd, hPw, T1⟩
  have C := hd.do_reg (stamp := 5) (i := 0) (n := 0) (s := 0) (g := 0) (by decide) (by decide) (.slice none 0 0)
  rw [reg5] at C
  unfold cmdL at C
  have C := Lib.hid C
  have K := Lib.hid (And.intro (show ∀ k, P k → w.heap.size ≤ k from fun k p => by have := hPw k p; have := T0.size; omega) (T0.trans T1))
  clear hd hPw T0 T1
  go_wp2_with fail
  with_reducible refine C.out.mono ?_
  clear C
  rintro en w2 ⟨av, gv, rfl, P2, D⟩
  obtain ⟨aa, ac, rfl⟩ := D.ans.sl
  obtain ⟨ga, gc, rfl, _⟩ := own_slice D.gone
  obtain ⟨hPw, T1⟩ := K.out
  have hd := D.desk.more (cnt' := 10) (by decide)
  have K := Lib.hid (And.intro (show ∀ k, P2 k → w.heap.size ≤ k from fun k p => (D.own k p).elim (hPw k) (fun q => by have := T1.size; omega)) (And.intro (T1.comp D.turn (fun k hk p => by have := hPw k p; omega)) hd))
  clear hPw T1 D hd
  go_upto_if 29 with fail
  go_cut [9] from 21 (fun v9 wx => (∃ f : Int, v9 = .int .i64 f ∧ f < 1) ∧ wx = w2)
  case first =>
    by_cases hn : 0 < n
    · have e1 : decide (0 < n) = true := decide_eq_true hn
      have ng : wrap64 (-n) < 1 := by have := wf_range hnw; unfold wrap64; omega
      go_wp2_with fail
      go_meet
      case rel => exact ⟨⟨_, rfl, ng⟩, rfl⟩
    · have e1 : decide (0 < n) = false := decide_eq_false hn
      go_wp2_with fail
      go_meet
      case rel => exact ⟨⟨_, rfl, by omega⟩, rfl⟩
  case rest =>
  obtain ⟨⟨f, rfl, hf⟩, rfl⟩ := hcut
  obtain ⟨hPw, Tw, hd⟩ := K.out
  have C := hd.do_pol (stamp := 6) (i := 5) (n := f) (s := 0) (g := 0) (by decide) (by decide) (noneHn 5) (.slice none 0 0)
  try dsimp only at C
  rw [pol5 hf] at C
  unfold cmdL at C
  have C := Lib.hid C
  clear hPw Tw hd
  go_wp2_with fail
  with_reducible refine C.out.mono ?_
  clear C
  rintro en wv1 ⟨av, gv, rfl, Pv1, D⟩
  obtain ⟨aa1, ac1, rfl⟩ := D.ans.sl
  obtain ⟨ga1, gc1, rfl, _⟩ := own_slice D.gone
  obtain ⟨hPw, Tw, hd⟩ := K.out
  have TA : Turn (fun _ => False) wv1 (wv1.alloc (.cells #[.int .i64 1, .int .i64 0, .slice aa1 0 ac1] 53)) := (Turn.refl _ wv1).alloc _
  have BN : Blk (wv1.alloc (.cells #[.int .i64 1, .int .i64 0, .slice aa1 0 ac1] 53)) wv1.heap.size 53 := Blk.new wv1 [.int .i64 1, .int .i64 0, .slice aa1 0 ac1] 53
  have RN : (wv1.alloc (.cells #[.int .i64 1, .int .i64 0, .slice aa1 0 ac1] 53)).cell? ⟨wv1.heap.size, 0, none⟩ = some (.int .i64 1) := range_new wv1 [.int .i64 1, .int .i64 0, .slice aa1 0 ac1] 53 0 _ rfl
  have hPw2 : ∀ k, Pv1 k → w.heap.size ≤ k := fun k p => (D.own k p).elim (hPw k) (fun q => by have := Tw.size; omega)
  have Tw2 := (Tw.comp D.turn (fun k hk p => by have := hPw k p; omega)).trans TA
  have hd2 := (D.desk.more (cnt' := 11) (by decide)).turn TA (fun _ _ q => q)
  have K := Lib.hid (And.intro hPw2 (And.intro Tw2 (And.intro hd2 (And.intro BN RN))))
  clear TA BN RN hPw2 Tw2 hd2 hPw Tw hd D
  go_upto_region 8 with fail
  generalize (wv1.alloc (.cells #[.int .i64 1, .int .i64 0, .slice aa1 0 ac1] 53)) = wv1A at *
  generalize wv1.heap.size = b0 at *
  obtain ⟨hPw, Tw, hd, ⟨B0, c0⟩⟩ := K.out
  have C := hd.do_pol (stamp := 7) (i := id) (n := 1) (s := 0) (g := 0) hid (by decide) (noneHn id) (.slice none 0 0)
  try dsimp only at C
  rw [polI] at C
  unfold cmdL at C
  have C := Lib.hid C
  have n0 := hd.no B0 (by decide)
  have NO := Lib.hid (show ¬ Pv1 b0 from n0)
  clear hPw Tw hd B0 c0 n0
  go_wp2_with fail
  with_reducible refine C.out.mono ?_
  clear C
  rintro en wv2 ⟨av, gv, rfl, Pv2, D⟩
  obtain ⟨aa2, ac2, rfl⟩ := D.ans.sl
  obtain ⟨ga2, gc2, rfl, _⟩ := own_slice D.gone
  obtain ⟨hPw, Tw, hd, ⟨B0, c0⟩⟩ := K.out
  obtain n0 := NO.out
  have TA : Turn (fun _ => False) wv2 (wv2.alloc (.cells #[.int .i64 (wantE id), .int .i64 0, .slice aa2 0 ac2] 53)) := (Turn.refl _ wv2).alloc _
  have BN : Blk (wv2.alloc (.cells #[.int .i64 (wantE id), .int .i64 0, .slice aa2 0 ac2] 53)) wv2.heap.size 53 := Blk.new wv2 [.int .i64 (wantE id), .int .i64 0, .slice aa2 0 ac2] 53
  have RN : (wv2.alloc (.cells #[.int .i64 (wantE id), .int .i64 0, .slice aa2 0 ac2] 53)).cell? ⟨wv2.heap.size, 0, none⟩ = some (.int .i64 (wantE id)) := range_new wv2 [.int .i64 (wantE id), .int .i64 0, .slice aa2 0 ac2] 53 0 _ rfl
  have hPw2 : ∀ k, Pv2 k → w.heap.size ≤ k := fun k p => (D.own k p).elim (hPw k) (fun q => by have := Tw.size; omega)
  have Tw2 := (Tw.comp D.turn (fun k hk p => by have := hPw k p; omega)).trans TA
  have hd2 := (D.desk.more (cnt' := 12) (by decide)).turn TA (fun _ _ q => q)
  have B0 := (B0.turn D.turn n0).turn TA (fun f => f)
  have c0 := TA.cell (fun f => f) (D.turn.cell n0 c0)
  have K := Lib.hid (And.intro hPw2 (And.intro Tw2 (And.intro hd2 (And.intro (And.intro B0 c0) (And.intro BN RN)))))
  clear TA BN RN hPw2 Tw2 hd2 hPw Tw hd D NO B0 c0 n0
  go_upto_region 9 with fail
  generalize (wv2.alloc (.cells #[.int .i64 (wantE id), .int .i64 0, .slice aa2 0 ac2] 53)) = wv2A at *
  generalize wv2.heap.size = b1 at *
  obtain ⟨hPw, Tw, hd, ⟨B0, c0⟩, ⟨B1, c1⟩⟩ := K.out
  have C := hd.do_else (stamp := 8) (k := 6 + q) (i := 0) (n := 0) (s := 0) (g := 0) ⟨by omega, by omega, by omega, by omega, by omega⟩ (.slice none 0 0)
  try dsimp only at C
  unfold cmdL at C
  have C := Lib.hid C
  have n0 := hd.no B0 (by decide)
  have n1 := hd.no B1 (by decide)
  have NO := Lib.hid (show ¬ Pv2 b0 ∧ ¬ Pv2 b1 from ⟨n0, n1⟩)
  clear hPw Tw hd B0 c0 n0 B1 c1 n1
  go_wp2_with fail
  with_reducible refine C.out.mono ?_
  clear C
  rintro en wv3 ⟨av, gv, rfl, Pv3, D⟩
  obtain ⟨aa3, ac3, rfl⟩ := D.ans.sl
  obtain ⟨ga3, gc3, rfl, _⟩ := own_slice D.gone
  obtain ⟨hPw, Tw, hd, ⟨B0, c0⟩, ⟨B1, c1⟩⟩ := K.out
  obtain ⟨n0, n1⟩ := NO.out
  have TA : Turn (fun _ => False) wv3 (wv3.alloc (.cells #[.int .i64 1, .int .i64 0, .slice aa3 0 ac3] 53)) := (Turn.refl _ wv3).alloc _
  have BN : Blk (wv3.alloc (.cells #[.int .i64 1, .int .i64 0, .slice aa3 0 ac3] 53)) wv3.heap.size 53 := Blk.new wv3 [.int .i64 1, .int .i64 0, .slice aa3 0 ac3] 53
  have RN : (wv3.alloc (.cells #[.int .i64 1, .int .i64 0, .slice aa3 0 ac3] 53)).cell? ⟨wv3.heap.size, 0, none⟩ = some (.int .i64 1) := range_new wv3 [.int .i64 1, .int .i64 0, .slice aa3 0 ac3] 53 0 _ rfl
  have hPw2 : ∀ k, Pv3 k → w.heap.size ≤ k := fun k p => (D.own k p).elim (hPw k) (fun q => by have := Tw.size; omega)
  have Tw2 := (Tw.comp D.turn (fun k hk p => by have := hPw k p; omega)).trans TA
  have hd2 := (D.desk.more (cnt' := 13) (by decide)).turn TA (fun _ _ q => q)
  have B0 := (B0.turn D.turn n0).turn TA (fun f => f)
  have c0 := TA.cell (fun f => f) (D.turn.cell n0 c0)
  have B1 := (B1.turn D.turn n1).turn TA (fun f => f)
  have c1 := TA.cell (fun f => f) (D.turn.cell n1 c1)
  have K := Lib.hid (And.intro hPw2 (And.intro Tw2 (And.intro hd2 (And.intro (And.intro B0 c0) (And.intro (And.intro B1 c1) (And.intro BN RN))))))
  clear TA BN RN hPw2 Tw2 hd2 hPw Tw hd D NO B0 c0 n0 B1 c1 n1
  go_upto_region 10 with fail
  generalize (wv3.alloc (.cells #[.int .i64 1, .int .i64 0, .slice aa3 0 ac3] 53)) = wv3A at *
  generalize wv3.heap.size = b2 at *
  obtain ⟨hPw, Tw, hd, ⟨B0, c0⟩, ⟨B1, c1⟩, ⟨B2, c2⟩⟩ := K.out
  have C := hd.do_reg (stamp := 9) (i := 0) (n := 0) (s := 0) (g := 0) (by decide) (by decide) (.slice none 0 0)
  try dsimp only at C
  rw [reg9] at C
  unfold cmdL at C
  have C := Lib.hid C
  have n0 := hd.no B0 (by decide)
  have n1 := hd.no B1 (by decide)
  have n2 := hd.no B2 (by decide)
  have NO := Lib.hid (show ¬ Pv3 b0 ∧ ¬ Pv3 b1 ∧ ¬ Pv3 b2 from ⟨n0, n1, n2⟩)
  clear hPw Tw hd B0 c0 n0 B1 c1 n1 B2 c2 n2
  go_wp2_with fail
  with_reducible refine C.out.mono ?_
  clear C
  rintro en wv4 ⟨av, gv, rfl, Pv4, D⟩
  obtain ⟨aa4, ac4, rfl⟩ := D.ans.sl
  obtain ⟨ga4, gc4, rfl, _⟩ := own_slice D.gone
  obtain ⟨hPw, Tw, hd, ⟨B0, c0⟩, ⟨B1, c1⟩, ⟨B2, c2⟩⟩ := K.out
  obtain ⟨n0, n1, n2⟩ := NO.out
  have TA : Turn (fun _ => False) wv4 (wv4.alloc (.cells #[.int .i64 16, .int .i64 0, .slice aa4 0 ac4] 53)) := (Turn.refl _ wv4).alloc _
  have BN : Blk (wv4.alloc (.cells #[.int .i64 16, .int .i64 0, .slice aa4 0 ac4] 53)) wv4.heap.size 53 := Blk.new wv4 [.int .i64 16, .int .i64 0, .slice aa4 0 ac4] 53
  have RN : (wv4.alloc (.cells #[.int .i64 16, .int .i64 0, .slice aa4 0 ac4] 53)).cell? ⟨wv4.heap.size, 0, none⟩ = some (.int .i64 16) := range_new wv4 [.int .i64 16, .int .i64 0, .slice aa4 0 ac4] 53 0 _ rfl
  have hPw2 : ∀ k, Pv4 k → w.heap.size ≤ k := fun k p => (D.own k p).elim (hPw k) (fun q => by have := Tw.size; omega)
  have Tw2 := (Tw.comp D.turn (fun k hk p => by have := hPw k p; omega)).trans TA
  have hd2 := (D.desk.more (cnt' := 14) (by decide)).turn TA (fun _ _ q => q)
  have B0 := (B0.turn D.turn n0).turn TA (fun f => f)
  have c0 := TA.cell (fun f => f) (D.turn.cell n0 c0)
  have B1 := (B1.turn D.turn n1).turn TA (fun f => f)
  have c1 := TA.cell (fun f => f) (D.turn.cell n1 c1)
  have B2 := (B2.turn D.turn n2).turn TA (fun f => f)
  have c2 := TA.cell (fun f => f) (D.turn.cell n2 c2)
  have K := Lib.hid (And.intro hPw2 (And.intro Tw2 (And.intro hd2 (And.intro (And.intro B0 c0) (And.intro (And.intro B1 c1) (And.intro (And.intro B2 c2) (And.intro BN RN)))))))
  clear TA BN RN hPw2 Tw2 hd2 hPw Tw hd D NO B0 c0 n0 B1 c1 n1 B2 c2 n2
  go_upto_region 11 with fail
  generalize (wv4.alloc (.cells #[.int .i64 16, .int .i64 0, .slice aa4 0 ac4] 53)) = wv4A at *
  generalize wv4.heap.size = b3 at *
  obtain ⟨hPw, Tw, hd, ⟨B0, c0⟩, ⟨B1, c1⟩, ⟨B2, c2⟩, ⟨B3, c3⟩⟩ := K.out
  obtain ⟨S', m', hU⟩ := unrI id
  have C := hd.do_unr (stamp := 10) (i := id) (n := 0) (s := 0) (g := 0) hid (noneHn id) (.slice none 0 0)
  try dsimp only at C
  rw [hU] at C
  unfold cmdL at C
  have C := Lib.hid C
  have n0 := hd.no B0 (by decide)
  have n1 := hd.no B1 (by decide)
  have n2 := hd.no B2 (by decide)
  have n3 := hd.no B3 (by decide)
  have NO := Lib.hid (show ¬ Pv4 b0 ∧ ¬ Pv4 b1 ∧ ¬ Pv4 b2 ∧ ¬ Pv4 b3 from ⟨n0, n1, n2, n3⟩)
  clear hPw Tw hd B0 c0 n0 B1 c1 n1 B2 c2 n2 B3 c3 n3
  go_wp2_with fail
  with_reducible refine C.out.mono ?_
  clear C
  rintro en wv5 ⟨av, gv, rfl, Pv5, D⟩
  obtain ⟨aa5, ac5, rfl⟩ := D.ans.sl
  obtain ⟨ga5, gc5, rfl, _⟩ := own_slice D.gone
  obtain ⟨hPw, Tw, hd, ⟨B0, c0⟩, ⟨B1, c1⟩, ⟨B2, c2⟩, ⟨B3, c3⟩⟩ := K.out
  obtain ⟨n0, n1, n2, n3⟩ := NO.out
  have TA : Turn (fun _ => False) wv5 (wv5.alloc (.cells #[.int .i64 (wantE id), .int .i64 0, .slice aa5 0 ac5] 53)) := (Turn.refl _ wv5).alloc _
  have BN : Blk (wv5.alloc (.cells #[.int .i64 (wantE id), .int .i64 0, .slice aa5 0 ac5] 53)) wv5.heap.size 53 := Blk.new wv5 [.int .i64 (wantE id), .int .i64 0, .slice aa5 0 ac5] 53
  have RN : (wv5.alloc (.cells #[.int .i64 (wantE id), .int .i64 0, .slice aa5 0 ac5] 53)).cell? ⟨wv5.heap.size, 0, none⟩ = some (.int .i64 (wantE id)) := range_new wv5 [.int .i64 (wantE id), .int .i64 0, .slice aa5 0 ac5] 53 0 _ rfl
  have hPw2 : ∀ k, Pv5 k → w.heap.size ≤ k := fun k p => (D.own k p).elim (hPw k) (fun q => by have := Tw.size; omega)
  have Tw2 := (Tw.comp D.turn (fun k hk p => by have := hPw k p; omega)).trans TA
  have hd2 := (D.desk.more (cnt' := 15) (by decide)).turn TA (fun _ _ q => q)
  have B0 := (B0.turn D.turn n0).turn TA (fun f => f)
  have c0 := TA.cell (fun f => f) (D.turn.cell n0 c0)
  have B1 := (B1.turn D.turn n1).turn TA (fun f => f)
  have c1 := TA.cell (fun f => f) (D.turn.cell n1 c1)
  have B2 := (B2.turn D.turn n2).turn TA (fun f => f)
  have c2 := TA.cell (fun f => f) (D.turn.cell n2 c2)
  have B3 := (B3.turn D.turn n3).turn TA (fun f => f)
  have c3 := TA.cell (fun f => f) (D.turn.cell n3 c3)
  have K := Lib.hid (And.intro hPw2 (And.intro Tw2 (And.intro hd2 (And.intro (And.intro B0 c0) (And.intro (And.intro B1 c1) (And.intro (And.intro B2 c2) (And.intro (And.intro B3 c3) (And.intro BN RN))))))))
  clear TA BN RN hPw2 Tw2 hd2 hPw Tw hd D NO B0 c0 n0 B1 c1 n1 B2 c2 n2 B3 c3 n3
  go_upto_region 12 with fail
  generalize (wv5.alloc (.cells #[.int .i64 (wantE id), .int .i64 0, .slice aa5 0 ac5] 53)) = wv5A at *
  generalize wv5.heap.size = b4 at *
  obtain ⟨hPw, Tw, hd, ⟨B0, c0⟩, ⟨B1, c1⟩, ⟨B2, c2⟩, ⟨B3, c3⟩, B4, c4⟩ := K.out
  have F := Lib.hid Tw
  clear hPw Tw hd B0 B1 B2 B3 B4 K
  by_cases h5 : id = 5
  · subst h5
    have e5 : wantE 5 = 0 := rfl
    rw [e5] at c1 c4
    go_wp2
    go_ret
    exact ⟨rfl, F.out.below (fun k hk => ⟨hk, fun f => f⟩)⟩
  · have e5 : wantE id = 15 := if_neg h5
    rw [e5] at c1 c4
    have i5 : (id == 5) = false := by simpa using h5
    go_wp2
    go_ret
    exact ⟨rfl, F.out.below (fun k hk => ⟨hk, fun f => f⟩)⟩
end Go.Proofs.Ytepmealhnnoahaa
