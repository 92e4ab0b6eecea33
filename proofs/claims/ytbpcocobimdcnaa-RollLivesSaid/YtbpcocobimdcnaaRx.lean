/-
  RollLives: the walk.
-/
import Derived.Test.YtbpcocobimdcnaaRz
import Derived.Test.YtbpcocobimdcnaaRen
import Derived.Test.YtbpcocobimdcnaaRw
import Derived.LaidEqlPtr
import Derived.WalkKit
import Derived.ProofKit
import Derived.OpenShut
import Derived.Deep.RegionHeld3
import Derived.Deep.DeepCutAuto
namespace Go.Proofs.Ytbpcocobimdcnaa
open Go.ChangeShapes Go.WideShapes Go.ChangeAt Go.RowKit
set_option linter.unusedVariables false

theorem and_30 (x : Int) : 0 ≤ bits BinOp.and IntKind.i64 x 1073741823 ∧ bits BinOp.and IntKind.i64 x 1073741823 ≤ 1073741823 := by
  have h3 : (BitVec.ofInt 64 1073741823).toNat = 2 ^ 30 - 1 := by decide
  have key : (BitVec.ofInt 64 x &&& BitVec.ofInt 64 1073741823).toNat = (BitVec.ofInt 64 x).toNat % 2 ^ 30 := by
    rw [BitVec.toNat_and, h3, Nat.and_two_pow_sub_one_eq_mod]
  show 0 ≤ IntKind.i64.wrap ((BitVec.ofInt 64 x &&& BitVec.ofInt 64 1073741823).toNat : Nat) ∧ IntKind.i64.wrap ((BitVec.ofInt 64 x &&& BitVec.ofInt 64 1073741823).toNat : Nat) ≤ 1073741823
  rw [key, IntKind.wrap_i64]
  omega
theorem info59 : (Try.prog.info? 59).map (fun i => (i.zero, i.size, i.bytes)) = some (some (.agg #[.slice none 0 0]), 1, 24) := by kernel_rfl
theorem ptr_same (q : Nat) (W : World) : (binOp BinOp.eql 24 (.pointer (some ⟨q, 0, none⟩)) (.pointer (some ⟨q, 0, none⟩))).run Try.prog W = .ok (.bool true) W := by
  obtain ⟨i, hi, _⟩ := info_parts info59
  exact run_eql_ptr_same W ⟨q, 0, none⟩ Try.underlying24 hi
set_option maxRecDepth 100000 in
set_option maxHeartbeats 4000000 in
theorem lives_walk (id long at_ : Int) (w : World) : Calls Try.prog 5 #[.int .i64 id, .int .i64 long, .int .i64 at_] w fun e w' => e = .returned (.bool true) ∧ Below w.heap.size w w' := by
  have H0 := Lib.hid (roll_awake w)
  obtain ⟨a, ha⟩ : ∃ a, bits BinOp.and IntKind.i64 id 1073741823 = a := ⟨_, rfl⟩
  obtain ⟨m, hm⟩ : ∃ m, bits BinOp.and IntKind.i64 long 1073741823 = m := ⟨_, rfl⟩
  have ba := and_30 id
  have bm := and_30 long
  rw [ha] at ba
  rw [hm] at bm
  obtain ⟨a0, a1⟩ := ba
  obtain ⟨m0, m1⟩ := bm
  have KD := Lib.hid (fun w => kind_is w 3)
  go_enter Try.func5, Try.ntmps5
  go_wp2_with fail
  refine H0.out.mono ?_
  rintro e w1 ⟨rfl, b1⟩
  have T1 := Lib.hid (show Turn (fun _ => False) w w1 from Turn.of_below b1)
  have K1 := Lib.hid (KD.out w1)
  clear b1 H0
  go_wp2_with fail
  with_reducible refine K1.out.mono ?_
  rintro e w2 ⟨cs, rfl, hp, T2⟩
  have hp := hp.low (Nat.zero_le _)
  obtain ⟨ca, cn, cc, rfl⟩ := plain_slice hp
  have A1 := Lib.hid (add_yes (x := a) (win := 3) (rollS_nil w2) (by simp) a0 (fun e he => by cases he) hp)
  have T2' := Lib.hid (T1.out.trans T2)
  clear hp T2 K1 T1
  go_wp2_with fail
  with_reducible refine A1.out.mono ?_
  rintro e w3 ⟨r, rfl, c1, S3, T3, _⟩
  simp only [List.nil_append] at S3
  clear A1
  have E1 := Lib.hid (end_yes (i := 0) (at_ := a + (1 + m)) S3 (by simp) rfl rfl (show a < a + (1 + m) by omega))
  have S3' := Lib.hid (And.intro S3 (T2'.out.trans T3))
  clear S3 T3 T2'
  go_wp2_with fail
  with_reducible refine E1.out.mono ?_
  rintro e w4 ⟨r4, rfl, S4, T4⟩
  simp only [List.set_cons_zero] at S4
  have E2 := Lib.hid (end_no (x := a) (at_ := a + (1 + m) + 1) S4 (.inr ⟨_, List.mem_singleton.2 rfl, rfl, .inl (show a + (1 + m) ≠ -1 by omega)⟩))
  have S4' := Lib.hid (And.intro S4 (S3'.out.2.trans T4))
  have S3a := Lib.hid (S3'.out.1.turn T4)
  clear S4 T4 E1 S3'
  go_wp2_with fail
  with_reducible refine E2.out.mono ?_
  rintro e w5 ⟨rfl, T5⟩
  have S4a := Lib.hid (And.intro (S4'.out.1.turn T5) (S4'.out.2.trans T5))
  have S3b := Lib.hid (S3a.out.turn T5)
  have E3 := Lib.hid (end_no (x := a) (at_ := a) S3b.out (.inr ⟨_, List.mem_singleton.2 rfl, rfl, .inr (Int.le_refl _)⟩))
  clear T5 S4' S3a E2
  go_wp2_with fail
  with_reducible refine E3.out.mono ?_
  rintro e w6 ⟨rfl, T6⟩
  have S4b := Lib.hid (And.intro (S4a.out.1.turn T6) (S4a.out.2.trans T6))
  have S3c := Lib.hid (S3b.out.turn T6)
  clear T6 S4a S3b E3
  have F := Lib.hid (find_is S4b.out.1 a)
  by_cases h1 : a < at_
  · by_cases h2 : at_ ≤ a + (1 + m)
    · have t1 : decide (a < at_) = true := by simpa using h1
      have t2 : decide (at_ ≤ a + (1 + m)) = true := by simpa using h2
      have hne : ¬ (a + (1 + m) = -1) := by omega
      have pe : ∀ (q : Nat) (W : World), (binOp BinOp.eql 24 (.pointer (some ⟨q, 0, none⟩)) (.pointer (some ⟨q, 0, none⟩))).run Try.prog W = .ok (.bool true) W := ptr_same
      have cy : (List.filter (livesAt at_) [EV.mk a (a + (1 + m)) c1 3 (some 3)]).length = 1 := by simp [List.filter_cons, livesAt, h1, h2, hne]
      have cx : (List.filter (livesAt at_) [EV.mk a (-1) c1 3 (some 3)]).length = 1 := by simp [List.filter_cons, livesAt, h1]
      have LY := Lib.hid (fun (W : World) (T : Turn (fun _ => False) w6 W) => len_any (S4b.out.1.turn T) at_)
      have LX := Lib.hid (fun (W : World) (T : Turn (fun _ => False) w6 W) => len_any (S3c.out.turn T) at_)
      have LV := Lib.hid (fun (W : World) (T : Turn (fun _ => False) w6 W) => live_any (S4b.out.1.turn T) at_)
      go_wp2_with fail
      with_reducible refine F.out.mono ?_
      rintro e w7 ⟨T7, ⟨rfl, hno⟩ | ⟨e1, cs1, hm1, hid1, rfl, hp⟩⟩
      · exact absurd rfl (hno _ (List.mem_singleton.2 rfl))
      · obtain rfl := List.mem_singleton.1 hm1
        obtain ⟨da, dn, dc, e3⟩ := plain_slice hp
        try dsimp only at e3
        subst e3
        unfold EV.val
        try dsimp only
        have z1 : (w7.alloc (.cells #[.int .i64 a, .int .i64 (a + (1 + m)), .slice da dn dc, .int .i64 3, .bool false] 48)).cell? ⟨w7.heap.size, 1, none⟩ = some (.int .i64 (a + (1 + m))) := World.cell?_alloc_new w7 #[.int .i64 a, .int .i64 (a + (1 + m)), .slice da dn dc, .int .i64 3, .bool false] 48 1
        have T8 := Lib.hid (T7.alloc (.cells #[.int .i64 a, .int .i64 (a + (1 + m)), .slice da dn dc, .int .i64 3, .bool false] 48))
        clear hp T7 F
        go_wp2_with fail
        generalize w7.alloc (.cells #[.int .i64 a, .int .i64 (a + (1 + m)), .slice da dn dc, .int .i64 3, .bool false] 48) = W8 at *
        generalize w7.heap.size = eb at *
        refine (LY.out _ T8.out).mono ?_
        rintro e w9 ⟨rfl, b9⟩
        rw [cy]
        have z1 := (Turn.of_below (S := fun _ => False) b9).cell (fun f => f) z1
        have T9 := Lib.hid (T8.out.trans (Turn.of_below b9))
        clear b9 T8
        go_wp2_with fail
        refine (LV.out _ T9.out).mono ?_
        rintro e w10 ⟨v, ys, rfl, hs, ho, b10⟩
        have hy : ys.length = 1 := by have := congrArg List.length hs; simp only [List.length_map] at this; rw [this, cy]
        rw [hy] at ho
        obtain ⟨va, vc, rfl, _⟩ := own_slice ho
        have z1 := (Turn.of_below (S := fun _ => False) b10).cell (fun f => f) z1
        have T10 := Lib.hid (T9.out.trans (Turn.of_below b10))
        clear b10 T9 ho hs hy
        go_wp2_with fail
        refine (LY.out _ T10.out).mono ?_
        rintro e w11 ⟨rfl, b11⟩
        rw [cy]
        have z1 := (Turn.of_below (S := fun _ => False) b11).cell (fun f => f) z1
        have T11 := Lib.hid (T10.out.trans (Turn.of_below b11))
        clear b11 T10
        go_wp2_with fail
        refine (LX.out _ T11.out).mono ?_
        rintro e w12 ⟨rfl, b12⟩
        rw [cx]
        have z1 := (Turn.of_below (S := fun _ => False) b12).cell (fun f => f) z1
        have T12 := Lib.hid (T11.out.trans (Turn.of_below b12))
        clear b12 T11
        go_wp2_with fail
        go_ret
        exact ⟨rfl, (S4b.out.2.trans T12.out).below fun k hk => ⟨hk, fun f => f⟩⟩
    · have t1 : decide (a < at_) = true := by simpa using h1
      have t2 : decide (at_ ≤ a + (1 + m)) = false := by simpa using h2
      have hne : ¬ (a + (1 + m) = -1) := by omega
      have pe : ∀ (q : Nat) (W : World), (binOp BinOp.eql 24 (.pointer (some ⟨q, 0, none⟩)) (.pointer (some ⟨q, 0, none⟩))).run Try.prog W = .ok (.bool true) W := ptr_same
      have cy : (List.filter (livesAt at_) [EV.mk a (a + (1 + m)) c1 3 (some 3)]).length = 0 := by simp [List.filter_cons, livesAt, h1, h2, hne]
      have cx : (List.filter (livesAt at_) [EV.mk a (-1) c1 3 (some 3)]).length = 1 := by simp [List.filter_cons, livesAt, h1]
      have LY := Lib.hid (fun (W : World) (T : Turn (fun _ => False) w6 W) => len_any (S4b.out.1.turn T) at_)
      have LX := Lib.hid (fun (W : World) (T : Turn (fun _ => False) w6 W) => len_any (S3c.out.turn T) at_)
      have LV := Lib.hid (fun (W : World) (T : Turn (fun _ => False) w6 W) => live_any (S4b.out.1.turn T) at_)
      go_wp2_with fail
      with_reducible refine F.out.mono ?_
      rintro e w7 ⟨T7, ⟨rfl, hno⟩ | ⟨e1, cs1, hm1, hid1, rfl, hp⟩⟩
      · exact absurd rfl (hno _ (List.mem_singleton.2 rfl))
      · obtain rfl := List.mem_singleton.1 hm1
        obtain ⟨da, dn, dc, e3⟩ := plain_slice hp
        try dsimp only at e3
        subst e3
        unfold EV.val
        try dsimp only
        have z1 : (w7.alloc (.cells #[.int .i64 a, .int .i64 (a + (1 + m)), .slice da dn dc, .int .i64 3, .bool false] 48)).cell? ⟨w7.heap.size, 1, none⟩ = some (.int .i64 (a + (1 + m))) := World.cell?_alloc_new w7 #[.int .i64 a, .int .i64 (a + (1 + m)), .slice da dn dc, .int .i64 3, .bool false] 48 1
        have T8 := Lib.hid (T7.alloc (.cells #[.int .i64 a, .int .i64 (a + (1 + m)), .slice da dn dc, .int .i64 3, .bool false] 48))
        clear hp T7 F
        go_wp2_with fail
        generalize w7.alloc (.cells #[.int .i64 a, .int .i64 (a + (1 + m)), .slice da dn dc, .int .i64 3, .bool false] 48) = W8 at *
        generalize w7.heap.size = eb at *
        refine (LY.out _ T8.out).mono ?_
        rintro e w9 ⟨rfl, b9⟩
        rw [cy]
        have z1 := (Turn.of_below (S := fun _ => False) b9).cell (fun f => f) z1
        have T9 := Lib.hid (T8.out.trans (Turn.of_below b9))
        clear b9 T8
        go_wp2_with fail
        refine (LV.out _ T9.out).mono ?_
        rintro e w10 ⟨v, ys, rfl, hs, ho, b10⟩
        have hy : ys.length = 0 := by have := congrArg List.length hs; simp only [List.length_map] at this; rw [this, cy]
        rw [hy] at ho
        obtain ⟨va, vc, rfl, _⟩ := own_slice ho
        have z1 := (Turn.of_below (S := fun _ => False) b10).cell (fun f => f) z1
        have T10 := Lib.hid (T9.out.trans (Turn.of_below b10))
        clear b10 T9 ho hs hy
        go_wp2_with fail
        refine (LY.out _ T10.out).mono ?_
        rintro e w11 ⟨rfl, b11⟩
        rw [cy]
        have z1 := (Turn.of_below (S := fun _ => False) b11).cell (fun f => f) z1
        have T11 := Lib.hid (T10.out.trans (Turn.of_below b11))
        clear b11 T10
        go_wp2_with fail
        refine (LX.out _ T11.out).mono ?_
        rintro e w12 ⟨rfl, b12⟩
        rw [cx]
        have z1 := (Turn.of_below (S := fun _ => False) b12).cell (fun f => f) z1
        have T12 := Lib.hid (T11.out.trans (Turn.of_below b12))
        clear b12 T11
        go_wp2_with fail
        go_ret
        exact ⟨rfl, (S4b.out.2.trans T12.out).below fun k hk => ⟨hk, fun f => f⟩⟩
  · have h2 : True := trivial
    have t1 : decide (a < at_) = false := by simpa using h1
    have hne : ¬ (a + (1 + m) = -1) := by omega
    have pe : ∀ (q : Nat) (W : World), (binOp BinOp.eql 24 (.pointer (some ⟨q, 0, none⟩)) (.pointer (some ⟨q, 0, none⟩))).run Try.prog W = .ok (.bool true) W := ptr_same
    have cy : (List.filter (livesAt at_) [EV.mk a (a + (1 + m)) c1 3 (some 3)]).length = 0 := by simp [List.filter_cons, livesAt, h1, h2, hne]
    have cx : (List.filter (livesAt at_) [EV.mk a (-1) c1 3 (some 3)]).length = 0 := by simp [List.filter_cons, livesAt, h1]
    have LY := Lib.hid (fun (W : World) (T : Turn (fun _ => False) w6 W) => len_any (S4b.out.1.turn T) at_)
    have LX := Lib.hid (fun (W : World) (T : Turn (fun _ => False) w6 W) => len_any (S3c.out.turn T) at_)
    have LV := Lib.hid (fun (W : World) (T : Turn (fun _ => False) w6 W) => live_any (S4b.out.1.turn T) at_)
    go_wp2_with fail
    with_reducible refine F.out.mono ?_
    rintro e w7 ⟨T7, ⟨rfl, hno⟩ | ⟨e1, cs1, hm1, hid1, rfl, hp⟩⟩
    · exact absurd rfl (hno _ (List.mem_singleton.2 rfl))
    · obtain rfl := List.mem_singleton.1 hm1
      obtain ⟨da, dn, dc, e3⟩ := plain_slice hp
      try dsimp only at e3
      subst e3
      unfold EV.val
      try dsimp only
      have z1 : (w7.alloc (.cells #[.int .i64 a, .int .i64 (a + (1 + m)), .slice da dn dc, .int .i64 3, .bool false] 48)).cell? ⟨w7.heap.size, 1, none⟩ = some (.int .i64 (a + (1 + m))) := World.cell?_alloc_new w7 #[.int .i64 a, .int .i64 (a + (1 + m)), .slice da dn dc, .int .i64 3, .bool false] 48 1
      have T8 := Lib.hid (T7.alloc (.cells #[.int .i64 a, .int .i64 (a + (1 + m)), .slice da dn dc, .int .i64 3, .bool false] 48))
      clear hp T7 F
      go_wp2_with fail
      generalize w7.alloc (.cells #[.int .i64 a, .int .i64 (a + (1 + m)), .slice da dn dc, .int .i64 3, .bool false] 48) = W8 at *
      generalize w7.heap.size = eb at *
      refine (LY.out _ T8.out).mono ?_
      rintro e w9 ⟨rfl, b9⟩
      rw [cy]
      have z1 := (Turn.of_below (S := fun _ => False) b9).cell (fun f => f) z1
      have T9 := Lib.hid (T8.out.trans (Turn.of_below b9))
      clear b9 T8
      go_wp2_with fail
      refine (LV.out _ T9.out).mono ?_
      rintro e w10 ⟨v, ys, rfl, hs, ho, b10⟩
      have hy : ys.length = 0 := by have := congrArg List.length hs; simp only [List.length_map] at this; rw [this, cy]
      rw [hy] at ho
      obtain ⟨va, vc, rfl, _⟩ := own_slice ho
      have z1 := (Turn.of_below (S := fun _ => False) b10).cell (fun f => f) z1
      have T10 := Lib.hid (T9.out.trans (Turn.of_below b10))
      clear b10 T9 ho hs hy
      go_wp2_with fail
      refine (LY.out _ T10.out).mono ?_
      rintro e w11 ⟨rfl, b11⟩
      rw [cy]
      have z1 := (Turn.of_below (S := fun _ => False) b11).cell (fun f => f) z1
      have T11 := Lib.hid (T10.out.trans (Turn.of_below b11))
      clear b11 T10
      go_wp2_with fail
      refine (LX.out _ T11.out).mono ?_
      rintro e w12 ⟨rfl, b12⟩
      rw [cx]
      have z1 := (Turn.of_below (S := fun _ => False) b12).cell (fun f => f) z1
      have T12 := Lib.hid (T11.out.trans (Turn.of_below b12))
      clear b12 T11
      go_wp2_with fail
      go_ret
      exact ⟨rfl, (S4b.out.2.trans T12.out).below fun k hk => ⟨hk, fun f => f⟩⟩
end Go.Proofs.Ytbpcocobimdcnaa
