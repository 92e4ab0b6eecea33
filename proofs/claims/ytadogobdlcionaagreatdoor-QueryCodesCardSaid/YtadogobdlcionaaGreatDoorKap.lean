/-
  An element is printed.
  A stack of parts: what is taken off, and what is put on.
  A part is put on a stack.
-/
import Derived.Test.YtadogobdlcionaaGreatDoorKao
set_option linter.unusedSimpArgs false
namespace Go.Proofs.YtadogobdlcionaaGreatDoor
open Go.ChangeShapes Go.WideShapes Go.ChangeAt Go.RowKit Go.Shelf
set_option linter.unusedVariables false
set_option maxRecDepth 100000 in
theorem ahead_is (w : World) (i : Nat) (a b : ByteArray) : Calls Tryz.prog 26 #[.int .i64 (i : Int), .string a, .string b] w fun y w' => y = .returned (.string (if i = 0 then a else b)) ∧ w' = w := by
  by_cases h : i = 0
  · subst h
    go_enter Tryz.func26, Tryz.ntmps26
    go_wp2_with fail
    go_ret
    exact ⟨rfl, rfl⟩
  · have u : ((i : Int) == 0) = false := beq_no (by omega)
    rw [if_neg h]
    clear h
    go_enter Tryz.func26, Tryz.ntmps26
    go_wp2_with fail
    go_ret
    exact ⟨rfl, rfl⟩
def elOk (e : EL) : Bool := decide (e.type < 8) && nameT e.var
def elT (e : EL) : List UInt8 := (if e.not then [33] else []) ++ [UInt8.ofNat (65 + e.type)] ++ (if e.plus then [43] else []) ++ [32] ++ e.var.data.toList
theorem bu_one {B b : Nat} {l m : List UInt8} {W : World} (h : Bu B b l W) (e : l = m) : Bu B b m W := e ▸ h
set_option maxRecDepth 100000 in
set_option maxHeartbeats 4000000 in
theorem pel_is (w : World) {B b : Nat} {bs : List UInt8} (e : EL) (hB : Bu B b bs w) (hBw : B ≤ w.heap.size) (hs : e.var.size ≤ 1000000) (hlen : bs.length ≤ 100000000000000) (hE : ErrAt w) :
    Calls Tryz.prog 27 #[.pointer (some ⟨b, 0, none⟩), .agg e.cells.toArray] w fun y w' => y = .returned (.bool (elOk e)) ∧ Bu B b (if elOk e then bs ++ elT e else bs) w' ∧ KP B b w w' := by
  obtain ⟨ty, v, pl, nt⟩ := e
  unfold EL.cells elL
  dsimp only at hs ⊢
  obtain ⟨W, hW⟩ : ∃ W, W = w.alloc (.cells #[.int .i64 (ty : Int), .string v, .bool pl, .bool nt] 43) := ⟨_, rfl⟩
  have T0 : Turn (fun _ => False) w W := by rw [hW]; exact (Turn.refl _ _).alloc _
  have R : W.rangeAt w.heap.size 0 [.int .i64 (ty : Int), .string v, .bool pl, .bool nt] := by rw [hW]; exact range_new w [.int .i64 (ty : Int), .string v, .bool pl, .bool nt] 43
  have BX : Blk W w.heap.size 43 := by rw [hW]; exact Blk.new w [.int .i64 (ty : Int), .string v, .bool pl, .bool nt] 43
  have d0 : W.cell? ⟨w.heap.size, 0, none⟩ = some (.int .i64 (ty : Int)) := R 0 _ rfl
  have d1 : W.cell? ⟨w.heap.size, 1, none⟩ = some (.string v) := R 1 _ rfl
  have d2 : W.cell? ⟨w.heap.size, 2, none⟩ = some (.bool pl) := R 2 _ rfl
  have d3 : W.cell? ⟨w.heap.size, 3, none⟩ = some (.bool nt) := R 3 _ rfl
  have NM := Lib.hid (name_is W v (Nat.le_trans hs (by omega)) (hE.turn T0 id))
  have B0 := hB.quiet T0
  have nb : w.heap.size ≠ b := by have := hB.blk.1.lt; omega
  have HH := Lib.hid (And.intro T0 (And.intro B0 (And.intro BX (And.intro nb (And.intro hs (And.intro hlen hBw))))))
  have HW := Lib.hid hW
  obtain ⟨r, hr⟩ : ∃ r, r = elOk ⟨ty, v, pl, nt⟩ := ⟨_, rfl⟩
  rw [← hr]
  have HR := Lib.hid hr
  have n0 : decide ((ty : Int) < 0) = false := decide_eq_false (by omega)
  clear R T0 hW hr hB hBw hlen hE hs B0 BX nb
  by_cases h8 : ty < 8
  · have u1 : decide ((ty : Int) ≥ 8) = false := decide_eq_false (by omega)
    have u2 : decide (8 ≤ (ty : Int)) = false := decide_eq_false (by omega)
    have H8 := Lib.hid h8
    clear h8
    go_enter Tryz.func27, Tryz.ntmps27
    go_upto_region 1 with fail
    rw [← HW.out]
    clear HW
    go_wp2_with fail
    with_reducible refine NM.out.mono ?_
    rintro y w1 ⟨rfl, T1⟩
    obtain ⟨nm, hnm⟩ : ∃ n, n = nameT v := ⟨_, rfl⟩
    rw [← hnm]
    have hr : r = nm := by rw [HR.out, hnm]; unfold elOk; dsimp only; rw [decide_eq_true H8.out]; rfl
    subst hr
    replace d0 := T1.cell id d0
    replace d1 := T1.cell id d1
    replace d2 := T1.cell id d2
    replace d3 := T1.cell id d3
    have F1 := Lib.hid (And.intro (HH.out.1.trans T1) (And.intro (HH.out.2.1.quiet T1) (HH.out.2.2.1.turn T1 id)))
    clear T1 hnm HR
    cases r with
    | false =>
      go_wp2_with fail
      go_ret
      exact ⟨rfl, F1.out.2.1, KP.quiet F1.out.1⟩
    | true =>
      have wz : wrap64 (65 + (ty : Int)) = 65 + (ty : Int) := by have := H8.out; unfold wrap64; omega
      obtain ⟨tz, htz⟩ : ∃ z : Int, z = 65 + (ty : Int) := ⟨_, rfl⟩
      have wz2 : wrap64 (65 + (ty : Int)) = tz := wz.trans htz.symm
      have wu : IntKind.u8.wrap tz = tz := by
        have := H8.out
        have e : ty = 0 ∨ ty = 1 ∨ ty = 2 ∨ ty = 3 ∨ ty = 4 ∨ ty = 5 ∨ ty = 6 ∨ ty = 7 := by omega
        rw [htz]
        rcases e with rfl | rfl | rfl | rfl | rfl | rfl | rfl | rfl <;> decide
      have HTZ := Lib.hid (show tz = ((UInt8.ofNat (65 + ty)).toNat : Int) by
        have := H8.out
        have e : ty = 0 ∨ ty = 1 ∨ ty = 2 ∨ ty = 3 ∨ ty = 4 ∨ ty = 5 ∨ ty = 6 ∨ ty = 7 := by omega
        rw [htz]
        rcases e with rfl | rfl | rfl | rfl | rfl | rfl | rfl | rfl <;> rfl)
      clear wz htz
      cases nt with
      | true =>
        cases pl with
        | true =>
          have F2 := Lib.hid (show Bu B b bs w1 ∧ KP B b w w1 ∧ Blk w1 w.heap.size 43 from ⟨F1.out.2.1, KP.quiet F1.out.1, F1.out.2.2⟩)
          have X3 := Lib.hid (show Calls Tryz.prog 45 #[.pointer (some ⟨b, 0, none⟩), .int .u8 33] w1 _ from wb_is 33 F2.out.1 (by have := HH.out.2.2.2.2.2.1; have := HH.out.2.2.2.2.1; (try simp only [List.length_append, List.length_cons, List.length_nil]); omega) (Nat.le_trans HH.out.2.2.2.2.2.2 F2.out.2.1.size))
          go_wp2_with fail
          with_reducible refine X3.out.mono ?_
          rintro y w3 ⟨rfl, B3, K3⟩
          have n3 := F2.out.2.2
          have b3 : Blk w3 w.heap.size 43 := Blk.turn n3 (show Turn _ _ _ from K3) (K3.off n3 (by decide) HH.out.2.2.2.1)
          replace d0 := K3.cell n3 (by decide) HH.out.2.2.2.1 d0
          replace d1 := K3.cell n3 (by decide) HH.out.2.2.2.1 d1
          replace d2 := K3.cell n3 (by decide) HH.out.2.2.2.1 d2
          replace d3 := K3.cell n3 (by decide) HH.out.2.2.2.1 d3
          have F3 := Lib.hid (show Bu B b (bs ++ [33]) w3 ∧ KP B b w w3 ∧ Blk w3 w.heap.size 43 from ⟨B3, F2.out.2.1.trans K3, b3⟩)
          clear B3 K3 b3 n3 X3
          have X4 := Lib.hid (show Calls Tryz.prog 45 #[.pointer (some ⟨b, 0, none⟩), .int .u8 tz] w3 _ from by rw [HTZ.out]; exact wb_is (UInt8.ofNat (65 + ty)) F3.out.1 (by have := HH.out.2.2.2.2.2.1; have := HH.out.2.2.2.2.1; (try simp only [List.length_append, List.length_cons, List.length_nil]); omega) (Nat.le_trans HH.out.2.2.2.2.2.2 F3.out.2.1.size))
          go_wp2_with fail
          with_reducible refine X4.out.mono ?_
          rintro y w4 ⟨rfl, B4, K4⟩
          have n4 := F3.out.2.2
          have b4 : Blk w4 w.heap.size 43 := Blk.turn n4 (show Turn _ _ _ from K4) (K4.off n4 (by decide) HH.out.2.2.2.1)
          replace d0 := K4.cell n4 (by decide) HH.out.2.2.2.1 d0
          replace d1 := K4.cell n4 (by decide) HH.out.2.2.2.1 d1
          replace d2 := K4.cell n4 (by decide) HH.out.2.2.2.1 d2
          replace d3 := K4.cell n4 (by decide) HH.out.2.2.2.1 d3
          have F4 := Lib.hid (show Bu B b (bs ++ [33] ++ [UInt8.ofNat (65 + ty)]) w4 ∧ KP B b w w4 ∧ Blk w4 w.heap.size 43 from ⟨B4, F3.out.2.1.trans K4, b4⟩)
          clear B4 K4 b4 n4 X4
          have X5 := Lib.hid (show Calls Tryz.prog 45 #[.pointer (some ⟨b, 0, none⟩), .int .u8 43] w4 _ from wb_is 43 F4.out.1 (by have := HH.out.2.2.2.2.2.1; have := HH.out.2.2.2.2.1; (try simp only [List.length_append, List.length_cons, List.length_nil]); omega) (Nat.le_trans HH.out.2.2.2.2.2.2 F4.out.2.1.size))
          go_wp2_with fail
          with_reducible refine X5.out.mono ?_
          rintro y w5 ⟨rfl, B5, K5⟩
          have n5 := F4.out.2.2
          have b5 : Blk w5 w.heap.size 43 := Blk.turn n5 (show Turn _ _ _ from K5) (K5.off n5 (by decide) HH.out.2.2.2.1)
          replace d0 := K5.cell n5 (by decide) HH.out.2.2.2.1 d0
          replace d1 := K5.cell n5 (by decide) HH.out.2.2.2.1 d1
          replace d2 := K5.cell n5 (by decide) HH.out.2.2.2.1 d2
          replace d3 := K5.cell n5 (by decide) HH.out.2.2.2.1 d3
          have F5 := Lib.hid (show Bu B b (bs ++ [33] ++ [UInt8.ofNat (65 + ty)] ++ [43]) w5 ∧ KP B b w w5 ∧ Blk w5 w.heap.size 43 from ⟨B5, F4.out.2.1.trans K5, b5⟩)
          clear B5 K5 b5 n5 X5
          have X6 := Lib.hid (show Calls Tryz.prog 45 #[.pointer (some ⟨b, 0, none⟩), .int .u8 32] w5 _ from wb_is 32 F5.out.1 (by have := HH.out.2.2.2.2.2.1; have := HH.out.2.2.2.2.1; (try simp only [List.length_append, List.length_cons, List.length_nil]); omega) (Nat.le_trans HH.out.2.2.2.2.2.2 F5.out.2.1.size))
          go_wp2_with fail
          with_reducible refine X6.out.mono ?_
          rintro y w6 ⟨rfl, B6, K6⟩
          have n6 := F5.out.2.2
          have b6 : Blk w6 w.heap.size 43 := Blk.turn n6 (show Turn _ _ _ from K6) (K6.off n6 (by decide) HH.out.2.2.2.1)
          replace d0 := K6.cell n6 (by decide) HH.out.2.2.2.1 d0
          replace d1 := K6.cell n6 (by decide) HH.out.2.2.2.1 d1
          replace d2 := K6.cell n6 (by decide) HH.out.2.2.2.1 d2
          replace d3 := K6.cell n6 (by decide) HH.out.2.2.2.1 d3
          have F6 := Lib.hid (show Bu B b (bs ++ [33] ++ [UInt8.ofNat (65 + ty)] ++ [43] ++ [32]) w6 ∧ KP B b w w6 ∧ Blk w6 w.heap.size 43 from ⟨B6, F5.out.2.1.trans K6, b6⟩)
          clear B6 K6 b6 n6 X6
          have X7 := Lib.hid (ws_is v F6.out.1 (by have := HH.out.2.2.2.2.2.1; have := HH.out.2.2.2.2.1; (try simp only [List.length_append, List.length_cons, List.length_nil]); omega) (Nat.le_trans HH.out.2.2.2.2.2.2 F6.out.2.1.size))
          go_wp2_with fail
          with_reducible refine X7.out.mono ?_
          rintro y w7 ⟨rfl, B7, K7⟩
          have n7 := F6.out.2.2
          have b7 : Blk w7 w.heap.size 43 := Blk.turn n7 (show Turn _ _ _ from K7) (K7.off n7 (by decide) HH.out.2.2.2.1)
          replace d0 := K7.cell n7 (by decide) HH.out.2.2.2.1 d0
          replace d1 := K7.cell n7 (by decide) HH.out.2.2.2.1 d1
          replace d2 := K7.cell n7 (by decide) HH.out.2.2.2.1 d2
          replace d3 := K7.cell n7 (by decide) HH.out.2.2.2.1 d3
          have F7 := Lib.hid (show Bu B b (bs ++ [33] ++ [UInt8.ofNat (65 + ty)] ++ [43] ++ [32] ++ v.data.toList) w7 ∧ KP B b w w7 ∧ Blk w7 w.heap.size 43 from ⟨B7, F6.out.2.1.trans K7, b7⟩)
          clear B7 K7 b7 n7 X7
          go_wp2_with fail
          go_ret
          refine ⟨rfl, bu_one F7.out.1 ?_, F7.out.2.1⟩
          simp [elT]

        | false =>
          have F2 := Lib.hid (show Bu B b bs w1 ∧ KP B b w w1 ∧ Blk w1 w.heap.size 43 from ⟨F1.out.2.1, KP.quiet F1.out.1, F1.out.2.2⟩)
          have X3 := Lib.hid (show Calls Tryz.prog 45 #[.pointer (some ⟨b, 0, none⟩), .int .u8 33] w1 _ from wb_is 33 F2.out.1 (by have := HH.out.2.2.2.2.2.1; have := HH.out.2.2.2.2.1; (try simp only [List.length_append, List.length_cons, List.length_nil]); omega) (Nat.le_trans HH.out.2.2.2.2.2.2 F2.out.2.1.size))
          go_wp2_with fail
          with_reducible refine X3.out.mono ?_
          rintro y w3 ⟨rfl, B3, K3⟩
          have n3 := F2.out.2.2
          have b3 : Blk w3 w.heap.size 43 := Blk.turn n3 (show Turn _ _ _ from K3) (K3.off n3 (by decide) HH.out.2.2.2.1)
          replace d0 := K3.cell n3 (by decide) HH.out.2.2.2.1 d0
          replace d1 := K3.cell n3 (by decide) HH.out.2.2.2.1 d1
          replace d2 := K3.cell n3 (by decide) HH.out.2.2.2.1 d2
          replace d3 := K3.cell n3 (by decide) HH.out.2.2.2.1 d3
          have F3 := Lib.hid (show Bu B b (bs ++ [33]) w3 ∧ KP B b w w3 ∧ Blk w3 w.heap.size 43 from ⟨B3, F2.out.2.1.trans K3, b3⟩)
          clear B3 K3 b3 n3 X3
          have X4 := Lib.hid (show Calls Tryz.prog 45 #[.pointer (some ⟨b, 0, none⟩), .int .u8 tz] w3 _ from by rw [HTZ.out]; exact wb_is (UInt8.ofNat (65 + ty)) F3.out.1 (by have := HH.out.2.2.2.2.2.1; have := HH.out.2.2.2.2.1; (try simp only [List.length_append, List.length_cons, List.length_nil]); omega) (Nat.le_trans HH.out.2.2.2.2.2.2 F3.out.2.1.size))
          go_wp2_with fail
          with_reducible refine X4.out.mono ?_
          rintro y w4 ⟨rfl, B4, K4⟩
          have n4 := F3.out.2.2
          have b4 : Blk w4 w.heap.size 43 := Blk.turn n4 (show Turn _ _ _ from K4) (K4.off n4 (by decide) HH.out.2.2.2.1)
          replace d0 := K4.cell n4 (by decide) HH.out.2.2.2.1 d0
          replace d1 := K4.cell n4 (by decide) HH.out.2.2.2.1 d1
          replace d2 := K4.cell n4 (by decide) HH.out.2.2.2.1 d2
          replace d3 := K4.cell n4 (by decide) HH.out.2.2.2.1 d3
          have F4 := Lib.hid (show Bu B b (bs ++ [33] ++ [UInt8.ofNat (65 + ty)]) w4 ∧ KP B b w w4 ∧ Blk w4 w.heap.size 43 from ⟨B4, F3.out.2.1.trans K4, b4⟩)
          clear B4 K4 b4 n4 X4
          have X5 := Lib.hid (show Calls Tryz.prog 45 #[.pointer (some ⟨b, 0, none⟩), .int .u8 32] w4 _ from wb_is 32 F4.out.1 (by have := HH.out.2.2.2.2.2.1; have := HH.out.2.2.2.2.1; (try simp only [List.length_append, List.length_cons, List.length_nil]); omega) (Nat.le_trans HH.out.2.2.2.2.2.2 F4.out.2.1.size))
          go_wp2_with fail
          with_reducible refine X5.out.mono ?_
          rintro y w5 ⟨rfl, B5, K5⟩
          have n5 := F4.out.2.2
          have b5 : Blk w5 w.heap.size 43 := Blk.turn n5 (show Turn _ _ _ from K5) (K5.off n5 (by decide) HH.out.2.2.2.1)
          replace d0 := K5.cell n5 (by decide) HH.out.2.2.2.1 d0
          replace d1 := K5.cell n5 (by decide) HH.out.2.2.2.1 d1
          replace d2 := K5.cell n5 (by decide) HH.out.2.2.2.1 d2
          replace d3 := K5.cell n5 (by decide) HH.out.2.2.2.1 d3
          have F5 := Lib.hid (show Bu B b (bs ++ [33] ++ [UInt8.ofNat (65 + ty)] ++ [32]) w5 ∧ KP B b w w5 ∧ Blk w5 w.heap.size 43 from ⟨B5, F4.out.2.1.trans K5, b5⟩)
          clear B5 K5 b5 n5 X5
          have X6 := Lib.hid (ws_is v F5.out.1 (by have := HH.out.2.2.2.2.2.1; have := HH.out.2.2.2.2.1; (try simp only [List.length_append, List.length_cons, List.length_nil]); omega) (Nat.le_trans HH.out.2.2.2.2.2.2 F5.out.2.1.size))
          go_wp2_with fail
          with_reducible refine X6.out.mono ?_
          rintro y w6 ⟨rfl, B6, K6⟩
          have n6 := F5.out.2.2
          have b6 : Blk w6 w.heap.size 43 := Blk.turn n6 (show Turn _ _ _ from K6) (K6.off n6 (by decide) HH.out.2.2.2.1)
          replace d0 := K6.cell n6 (by decide) HH.out.2.2.2.1 d0
          replace d1 := K6.cell n6 (by decide) HH.out.2.2.2.1 d1
          replace d2 := K6.cell n6 (by decide) HH.out.2.2.2.1 d2
          replace d3 := K6.cell n6 (by decide) HH.out.2.2.2.1 d3
          have F6 := Lib.hid (show Bu B b (bs ++ [33] ++ [UInt8.ofNat (65 + ty)] ++ [32] ++ v.data.toList) w6 ∧ KP B b w w6 ∧ Blk w6 w.heap.size 43 from ⟨B6, F5.out.2.1.trans K6, b6⟩)
          clear B6 K6 b6 n6 X6
          go_wp2_with fail
          go_ret
          refine ⟨rfl, bu_one F6.out.1 ?_, F6.out.2.1⟩
          simp [elT]

      | false =>
        cases pl with
        | true =>
          have F2 := Lib.hid (show Bu B b bs w1 ∧ KP B b w w1 ∧ Blk w1 w.heap.size 43 from ⟨F1.out.2.1, KP.quiet F1.out.1, F1.out.2.2⟩)
          have X3 := Lib.hid (show Calls Tryz.prog 45 #[.pointer (some ⟨b, 0, none⟩), .int .u8 tz] w1 _ from by rw [HTZ.out]; exact wb_is (UInt8.ofNat (65 + ty)) F2.out.1 (by have := HH.out.2.2.2.2.2.1; have := HH.out.2.2.2.2.1; (try simp only [List.length_append, List.length_cons, List.length_nil]); omega) (Nat.le_trans HH.out.2.2.2.2.2.2 F2.out.2.1.size))
          go_wp2_with fail
          with_reducible refine X3.out.mono ?_
          rintro y w3 ⟨rfl, B3, K3⟩
          have n3 := F2.out.2.2
          have b3 : Blk w3 w.heap.size 43 := Blk.turn n3 (show Turn _ _ _ from K3) (K3.off n3 (by decide) HH.out.2.2.2.1)
          replace d0 := K3.cell n3 (by decide) HH.out.2.2.2.1 d0
          replace d1 := K3.cell n3 (by decide) HH.out.2.2.2.1 d1
          replace d2 := K3.cell n3 (by decide) HH.out.2.2.2.1 d2
          replace d3 := K3.cell n3 (by decide) HH.out.2.2.2.1 d3
          have F3 := Lib.hid (show Bu B b (bs ++ [UInt8.ofNat (65 + ty)]) w3 ∧ KP B b w w3 ∧ Blk w3 w.heap.size 43 from ⟨B3, F2.out.2.1.trans K3, b3⟩)
          clear B3 K3 b3 n3 X3
          have X4 := Lib.hid (show Calls Tryz.prog 45 #[.pointer (some ⟨b, 0, none⟩), .int .u8 43] w3 _ from wb_is 43 F3.out.1 (by have := HH.out.2.2.2.2.2.1; have := HH.out.2.2.2.2.1; (try simp only [List.length_append, List.length_cons, List.length_nil]); omega) (Nat.le_trans HH.out.2.2.2.2.2.2 F3.out.2.1.size))
          go_wp2_with fail
          with_reducible refine X4.out.mono ?_
          rintro y w4 ⟨rfl, B4, K4⟩
          have n4 := F3.out.2.2
          have b4 : Blk w4 w.heap.size 43 := Blk.turn n4 (show Turn _ _ _ from K4) (K4.off n4 (by decide) HH.out.2.2.2.1)
          replace d0 := K4.cell n4 (by decide) HH.out.2.2.2.1 d0
          replace d1 := K4.cell n4 (by decide) HH.out.2.2.2.1 d1
          replace d2 := K4.cell n4 (by decide) HH.out.2.2.2.1 d2
          replace d3 := K4.cell n4 (by decide) HH.out.2.2.2.1 d3
          have F4 := Lib.hid (show Bu B b (bs ++ [UInt8.ofNat (65 + ty)] ++ [43]) w4 ∧ KP B b w w4 ∧ Blk w4 w.heap.size 43 from ⟨B4, F3.out.2.1.trans K4, b4⟩)
          clear B4 K4 b4 n4 X4
          have X5 := Lib.hid (show Calls Tryz.prog 45 #[.pointer (some ⟨b, 0, none⟩), .int .u8 32] w4 _ from wb_is 32 F4.out.1 (by have := HH.out.2.2.2.2.2.1; have := HH.out.2.2.2.2.1; (try simp only [List.length_append, List.length_cons, List.length_nil]); omega) (Nat.le_trans HH.out.2.2.2.2.2.2 F4.out.2.1.size))
          go_wp2_with fail
          with_reducible refine X5.out.mono ?_
          rintro y w5 ⟨rfl, B5, K5⟩
          have n5 := F4.out.2.2
          have b5 : Blk w5 w.heap.size 43 := Blk.turn n5 (show Turn _ _ _ from K5) (K5.off n5 (by decide) HH.out.2.2.2.1)
          replace d0 := K5.cell n5 (by decide) HH.out.2.2.2.1 d0
          replace d1 := K5.cell n5 (by decide) HH.out.2.2.2.1 d1
          replace d2 := K5.cell n5 (by decide) HH.out.2.2.2.1 d2
          replace d3 := K5.cell n5 (by decide) HH.out.2.2.2.1 d3
          have F5 := Lib.hid (show Bu B b (bs ++ [UInt8.ofNat (65 + ty)] ++ [43] ++ [32]) w5 ∧ KP B b w w5 ∧ Blk w5 w.heap.size 43 from ⟨B5, F4.out.2.1.trans K5, b5⟩)
          clear B5 K5 b5 n5 X5
          have X6 := Lib.hid (ws_is v F5.out.1 (by have := HH.out.2.2.2.2.2.1; have := HH.out.2.2.2.2.1; (try simp only [List.length_append, List.length_cons, List.length_nil]); omega) (Nat.le_trans HH.out.2.2.2.2.2.2 F5.out.2.1.size))
          go_wp2_with fail
          with_reducible refine X6.out.mono ?_
          rintro y w6 ⟨rfl, B6, K6⟩
          have n6 := F5.out.2.2
          have b6 : Blk w6 w.heap.size 43 := Blk.turn n6 (show Turn _ _ _ from K6) (K6.off n6 (by decide) HH.out.2.2.2.1)
          replace d0 := K6.cell n6 (by decide) HH.out.2.2.2.1 d0
          replace d1 := K6.cell n6 (by decide) HH.out.2.2.2.1 d1
          replace d2 := K6.cell n6 (by decide) HH.out.2.2.2.1 d2
          replace d3 := K6.cell n6 (by decide) HH.out.2.2.2.1 d3
          have F6 := Lib.hid (show Bu B b (bs ++ [UInt8.ofNat (65 + ty)] ++ [43] ++ [32] ++ v.data.toList) w6 ∧ KP B b w w6 ∧ Blk w6 w.heap.size 43 from ⟨B6, F5.out.2.1.trans K6, b6⟩)
          clear B6 K6 b6 n6 X6
          go_wp2_with fail
          go_ret
          refine ⟨rfl, bu_one F6.out.1 ?_, F6.out.2.1⟩
          simp [elT]

        | false =>
          have F2 := Lib.hid (show Bu B b bs w1 ∧ KP B b w w1 ∧ Blk w1 w.heap.size 43 from ⟨F1.out.2.1, KP.quiet F1.out.1, F1.out.2.2⟩)
          have X3 := Lib.hid (show Calls Tryz.prog 45 #[.pointer (some ⟨b, 0, none⟩), .int .u8 tz] w1 _ from by rw [HTZ.out]; exact wb_is (UInt8.ofNat (65 + ty)) F2.out.1 (by have := HH.out.2.2.2.2.2.1; have := HH.out.2.2.2.2.1; (try simp only [List.length_append, List.length_cons, List.length_nil]); omega) (Nat.le_trans HH.out.2.2.2.2.2.2 F2.out.2.1.size))
          go_wp2_with fail
          with_reducible refine X3.out.mono ?_
          rintro y w3 ⟨rfl, B3, K3⟩
          have n3 := F2.out.2.2
          have b3 : Blk w3 w.heap.size 43 := Blk.turn n3 (show Turn _ _ _ from K3) (K3.off n3 (by decide) HH.out.2.2.2.1)
          replace d0 := K3.cell n3 (by decide) HH.out.2.2.2.1 d0
          replace d1 := K3.cell n3 (by decide) HH.out.2.2.2.1 d1
          replace d2 := K3.cell n3 (by decide) HH.out.2.2.2.1 d2
          replace d3 := K3.cell n3 (by decide) HH.out.2.2.2.1 d3
          have F3 := Lib.hid (show Bu B b (bs ++ [UInt8.ofNat (65 + ty)]) w3 ∧ KP B b w w3 ∧ Blk w3 w.heap.size 43 from ⟨B3, F2.out.2.1.trans K3, b3⟩)
          clear B3 K3 b3 n3 X3
          have X4 := Lib.hid (show Calls Tryz.prog 45 #[.pointer (some ⟨b, 0, none⟩), .int .u8 32] w3 _ from wb_is 32 F3.out.1 (by have := HH.out.2.2.2.2.2.1; have := HH.out.2.2.2.2.1; (try simp only [List.length_append, List.length_cons, List.length_nil]); omega) (Nat.le_trans HH.out.2.2.2.2.2.2 F3.out.2.1.size))
          go_wp2_with fail
          with_reducible refine X4.out.mono ?_
          rintro y w4 ⟨rfl, B4, K4⟩
          have n4 := F3.out.2.2
          have b4 : Blk w4 w.heap.size 43 := Blk.turn n4 (show Turn _ _ _ from K4) (K4.off n4 (by decide) HH.out.2.2.2.1)
          replace d0 := K4.cell n4 (by decide) HH.out.2.2.2.1 d0
          replace d1 := K4.cell n4 (by decide) HH.out.2.2.2.1 d1
          replace d2 := K4.cell n4 (by decide) HH.out.2.2.2.1 d2
          replace d3 := K4.cell n4 (by decide) HH.out.2.2.2.1 d3
          have F4 := Lib.hid (show Bu B b (bs ++ [UInt8.ofNat (65 + ty)] ++ [32]) w4 ∧ KP B b w w4 ∧ Blk w4 w.heap.size 43 from ⟨B4, F3.out.2.1.trans K4, b4⟩)
          clear B4 K4 b4 n4 X4
          have X5 := Lib.hid (ws_is v F4.out.1 (by have := HH.out.2.2.2.2.2.1; have := HH.out.2.2.2.2.1; (try simp only [List.length_append, List.length_cons, List.length_nil]); omega) (Nat.le_trans HH.out.2.2.2.2.2.2 F4.out.2.1.size))
          go_wp2_with fail
          with_reducible refine X5.out.mono ?_
          rintro y w5 ⟨rfl, B5, K5⟩
          have n5 := F4.out.2.2
          have b5 : Blk w5 w.heap.size 43 := Blk.turn n5 (show Turn _ _ _ from K5) (K5.off n5 (by decide) HH.out.2.2.2.1)
          replace d0 := K5.cell n5 (by decide) HH.out.2.2.2.1 d0
          replace d1 := K5.cell n5 (by decide) HH.out.2.2.2.1 d1
          replace d2 := K5.cell n5 (by decide) HH.out.2.2.2.1 d2
          replace d3 := K5.cell n5 (by decide) HH.out.2.2.2.1 d3
          have F5 := Lib.hid (show Bu B b (bs ++ [UInt8.ofNat (65 + ty)] ++ [32] ++ v.data.toList) w5 ∧ KP B b w w5 ∧ Blk w5 w.heap.size 43 from ⟨B5, F4.out.2.1.trans K5, b5⟩)
          clear B5 K5 b5 n5 X5
          go_wp2_with fail
          go_ret
          refine ⟨rfl, bu_one F5.out.1 ?_, F5.out.2.1⟩
          simp [elT]
  · have u1 : decide ((ty : Int) ≥ 8) = true := decide_eq_true (by omega)
    have u2 : decide (8 ≤ (ty : Int)) = true := decide_eq_true (by omega)
    have hr : r = false := by rw [HR.out]; unfold elOk; dsimp only; rw [decide_eq_false h8]; rfl
    subst hr
    clear h8
    go_enter Tryz.func27, Tryz.ntmps27
    go_upto_region 1 with fail
    rw [← HW.out]
    clear HW
    go_wp2_with fail
    go_ret
    exact ⟨rfl, HH.out.2.1, KP.quiet HH.out.1⟩
end Go.Proofs.YtadogobdlcionaaGreatDoor
namespace Go.Proofs.YtadogobdlcionaaGreatDoor
open Go.ChangeShapes Go.WideShapes Go.ChangeAt Go.RowKit Go.Shelf
set_option linter.unusedVariables false
def fstA (P : Pcs) : Option Addr := P.head?.map fun x => ⟨x.1, 0, none⟩
def lstA (P : Pcs) : Option Addr := P.getLast?.map fun x => ⟨x.1, 0, none⟩
def partV (p : Pcs × Int) : Value := .agg #[.pointer (fstA p.1), .pointer (lstA p.1), .int .i64 p.2]
def partC (p : Pcs × Int) : List Value := ptL (fstA p.1) (lstA p.1) p.2
theorem PartAt.val {W : World} {P : Pcs} {h : Int} {v : Value} (hp : PartAt W P h v) : v = partV (P, h) := by
  obtain ⟨Q, x, a, rfl, rfl, c, n⟩ := hp
  have h1 : fstA (Q ++ [x]) = some a := by
    cases Q with
    | nil => exact c.1.symm
    | cons y Q => exact c.1.symm
  have h2 : lstA (Q ++ [x]) = some ⟨x.1, 0, none⟩ := by unfold lstA; simp
  unfold partV
  rw [h1, h2]
theorem PartAt.some {W : World} {P : Pcs} {h : Int} {v : Value} (hp : PartAt W P h v) : ∃ a b, fstA P = some a ∧ lstA P = some b := by
  obtain ⟨Q, x, a, rfl, rfl, c, n⟩ := hp
  refine ⟨a, ⟨x.1, 0, none⟩, ?_, by unfold lstA; simp⟩
  cases Q with
  | nil => exact c.1.symm
  | cons y Q => exact c.1.symm
def stkC (S : List (Pcs × Int)) : List Value := (S.map partC).flatten
theorem stkC_snoc (S : List (Pcs × Int)) (p : Pcs × Int) : stkC (S ++ [p]) = stkC S ++ partC p := by simp [stkC]
theorem stkC_len (S : List (Pcs × Int)) : (stkC S).length = S.length * 3 := by
  induction S with
  | nil => rfl
  | cons p S ih =>
    have : stkC (p :: S) = partC p ++ stkC S := by simp [stkC]
    rw [this, List.length_append, ih, List.length_cons]
    show 3 + _ = _
    omega
/-- All blocks of all parts. -/
def stkB (S : List (Pcs × Int)) : List Nat := (S.map fun p => blP p.1).flatten
theorem stkB_snoc (S : List (Pcs × Int)) (p : Pcs × Int) : stkB (S ++ [p]) = stkB S ++ blP p.1 := by simp [stkB]
structure StkAt (W : World) (sb base : Nat) (S : List (Pcs × Int)) (v : Value) : Prop where
  bl : Blk W sb 126
  c : W.cell? ⟨sb, 0, none⟩ = some v
  own : W.ownsRow base 129 3 v S.length (stkC S)
  pt : ∀ p ∈ S, PartAt W p.1 p.2 (partV p)
  nd : (stkB S).Nodup
section
variable {W W' : World} {sb base : Nat} {S : List (Pcs × Int)} {v : Value} {p : Pcs × Int}
theorem StkAt.blk (h : StkAt W sb base S v) : ∀ k ∈ stkB S, Blk W k 138 := by
  intro k hk
  simp only [stkB, List.mem_flatten, List.mem_map] at hk
  obtain ⟨l, ⟨p, hp, rfl⟩, hk⟩ := hk
  exact (h.pt p hp).blk k hk
theorem Blk.turn' {b c i : Nat} {t : TypeId} {x : Value} (h : Blk W b t) (e : W' = W.setCell ⟨c, i, none⟩ x) : Blk W' b t := by rw [e]; exact h.set _ _
theorem mem_stkB (hp : p ∈ S) {k : Nat} (hk : k ∈ blP p.1) : k ∈ stkB S := by
  simp only [stkB, List.mem_flatten, List.mem_map]
  exact ⟨_, ⟨p, hp, rfl⟩, hk⟩
theorem StkAt.turn {T' : Nat → Prop} (h : StkAt W sb base S v) (T : Turn T' W W') (h1 : ¬ T' sb) (h2 : ∀ k, v.ownBlock = some k → ¬ T' k) (h3 : ∀ k ∈ stkB S, ¬ T' k) : StkAt W' sb base S v :=
  ⟨h.bl.turn T h1, T.cell h1 h.c, own_turn h.own T h2, fun p hp => (h.pt p hp).turn T (fun k hk => h3 k (mem_stkB hp hk)), h.nd⟩
theorem StkAt.quiet (h : StkAt W sb base S v) (T : Turn (fun _ => False) W W') : StkAt W' sb base S v := h.turn T id (fun _ _ => id) (fun _ _ => id)
end
set_option maxRecDepth 100000 in
set_option maxHeartbeats 2000000 in
/-- The topmost part is taken off. -/
theorem pop_is (w : World) {sb base : Nat} {S : List (Pcs × Int)} {v : Value} {p : Pcs × Int} (h : StkAt w sb base (S ++ [p]) v) (hn : S.length ≤ 1000000) :
    Calls Tryz.prog 67 #[.pointer (some ⟨sb, 0, none⟩)] w fun y w' => y = .returned (partV p) ∧ ∃ v', StkAt w' sb base S v' ∧ v'.ownBlock = v.ownBlock ∧ Turn (fun k => k = sb) w w' := by
  obtain ⟨a, b, ha, hb⟩ := (h.pt p (by simp)).some
  have hl : (S ++ [p]).length = S.length + 1 := by simp
  have ho := h.own
  rw [hl, stkC_snoc] at ho
  obtain ⟨ad, cap, rfl, hg⟩ := own_slice ho
  obtain ⟨g, rfl⟩ := hg (by omega)
  obtain ⟨W, hW⟩ : ∃ W, W = w.alloc (.cells #[.pointer none, .pointer none, .int .i64 0] 129) := ⟨_, rfl⟩
  have T0 : Turn (fun _ => False) w W := by rw [hW]; exact (Turn.refl _ _).alloc _
  have R1 : W.rangeAt w.heap.size 0 zpt := by rw [hW]; exact range_new w zpt 129
  have B1 : Blk W w.heap.size 129 := by rw [hW]; exact Blk.new w zpt 129
  have H := h.quiet T0
  have cp : ∀ j x, (ptL (some a) (some b) p.2)[j]? = some x → W.cell? ⟨g, S.length * 3 + j, none⟩ = some x := fun j x hj => by
    have hj3 : j < 3 := (List.getElem?_eq_some_iff.1 hj).1
    refine T0.cell id ((ho.cellAt (S.length * 3 + j) (by omega)).trans ?_)
    rw [List.getElem?_append_right (by rw [stkC_len]; omega), stkC_len, show S.length * 3 + j - S.length * 3 = j by omega]
    unfold partC
    rw [ha, hb]
    exact hj
  have p0 := cp 0 _ rfl
  have p1 := cp 1 _ rfl
  have p2 := cp 2 _ rfl
  rw [Nat.add_zero] at p0
  have cs := T0.cell id h.c
  have fs := H.bl.fz
  have pop : W.ownsRow base 129 3 (.slice (some ⟨g, 0, none⟩) S.length cap) S.length (stkC S) := ownsRow_pop (stkC_len S) (own_turn ho T0 (fun _ _ => id))
  have hsb := h.bl.lt
  obtain ⟨W1, hW1⟩ : ∃ X, X = W.alloc (.cells #[.pointer (some a), .pointer (some b), .int .i64 p.2] 129) := ⟨_, rfl⟩
  have T1 : Turn (fun _ => False) W W1 := by rw [hW1]; exact (Turn.refl _ _).alloc _
  have R2 : W1.rangeAt W.heap.size 0 (ptL (some a) (some b) p.2) := by rw [hW1]; exact range_new W (ptL (some a) (some b) p.2) 129
  have sz : W.heap.size = w.heap.size + 1 := by rw [hW]; simp
  have TP := Turn.put W1 sb 0 (.slice (some ⟨g, 0, none⟩) S.length cap)
  have c1 := T1.cell id cs
  have f1 := (H.bl.turn T1 id).fz
  obtain ⟨W2, hW2⟩ : ∃ X, X = W1.setCell ⟨sb, 0, none⟩ (.slice (some ⟨g, 0, none⟩) S.length cap) := ⟨_, rfl⟩
  rw [← hW2] at TP
  have TQ : Turn (fun k => k = sb) w W2 := ((T0.trans T1).more (fun _ _ f => f.elim)).trans TP
  have R3 := range_turn R2 TP (by omega)
  have q0 := R3 0 _ rfl
  have q1 := R3 1 _ rfl
  have q2 := R3 2 _ rfl
  rw [sz] at q0 q1 q2
  have R4 := range_turn (range_turn R1 T1 id) TP (by omega)
  have B4 := (B1.turn T1 id).turn TP (by omega)
  have y0 := R4 0 _ rfl
  have y1 := R4 1 _ rfl
  have y2 := R4 2 _ rfl
  have fr := B4.fz
  have hgs : g ≠ sb := fun e => (own_blk ho (k := g) rfl).1.ne h.bl (by decide) e
  have hgl := (own_blk ho (k := g) rfl).1.lt
  have hSB : ∀ k ∈ stkB S, k ≠ sb ∧ k < w.heap.size := fun k hk => by
    have := h.blk k (by rw [stkB_snoc, List.mem_append]; exact .inl hk)
    exact ⟨fun e => this.ne h.bl (by decide) e, this.lt⟩
  have ST : StkAt W2 sb base S (.slice (some ⟨g, 0, none⟩) S.length cap) :=
    ⟨(H.bl.turn T1 id).turn' hW2, by rw [hW2]; exact World.cell?_setCell_same _ _ _ c1, own_turn (own_turn pop T1 (fun _ _ => id)) TP (fun k hk q => hgs ((show g = k by simpa [Value.ownBlock] using hk).trans q)),
      fun q hq => (((h.pt q (List.mem_append_left _ hq)).turn T0 (fun _ _ => id)).turn T1 (fun _ _ => id)).turn TP (fun k hk e => (hSB k (mem_stkB hq hk)).1 e),
      by have := h.nd; rw [stkB_snoc, List.nodup_append] at this; exact this.1⟩
  have F := Lib.hid (And.intro ST (And.intro TQ (And.intro R4 (And.intro B4 (And.intro hsb (And.intro hgl hSB))))))
  have HV := Lib.hid (show partV p = .agg #[.pointer (some a), .pointer (some b), .int .i64 p.2] by unfold partV; rw [ha, hb])
  have HW := Lib.hid hW
  have HW1 := Lib.hid hW1
  have HW2 := Lib.hid hW2
  have w1 : wrap64 (((S.length + 1 : Nat) : Int) - 1) = (S.length : Int) := by unfold wrap64; omega
  have w1' : wrap64 ((S.length : Int) + 1 - 1) = (S.length : Int) := by unfold wrap64; omega
  have i0 : (0 : Int) ≤ (S.length : Int) := Int.natCast_nonneg _
  have i1 : (S.length : Int) < ((S.length + 1 : Nat) : Int) := by omega
  have hcap : S.length + 1 ≤ cap := by
    rcases ho.2 with ⟨h0, -⟩ | ⟨g', cap', cur, hv, -, -, h3, -⟩
    · cases h0
    · injection hv with _ _ hv; subst hv; exact h3
  clear hW hW1 hW2 T0 T1 TP TQ ST R1 R2 R3 R4 B1 B4 H pop ho h cp hgs hgl hSB hsb hl hg ha hb
  generalize S.length = n at *
  go_enter Tryz.func67, Tryz.ntmps67
  go_upto_region 1 with fail
  rw [← HW.out]
  clear HW
  go_upto_region 2 with fail
  rw [← HW1.out]
  clear HW1
  go_upto_region 3 with fail
  rw [← HW2.out]
  clear HW2
  go_wp2_with fail
  refine part_end rfl F.out.2.2.1 rfl F.out.2.2.2.1 _ _ _ rfl rfl (fun W' T => ?_)
  have hh := F.out.2.2.2.2
  refine ⟨by rw [HV.out], _, F.out.1.turn T (by omega) (fun k hk e => ?_) (fun k hk e => by have := (hh.2.2 k hk).2; omega), rfl, F.out.2.1.comp T (fun k hk e => by omega)⟩
  have hk : g = k := by simpa [Value.ownBlock] using hk
  have := hh.2.1
  omega
end Go.Proofs.YtadogobdlcionaaGreatDoor
namespace Go.Proofs.YtadogobdlcionaaGreatDoor
open Go.ChangeShapes Go.WideShapes Go.ChangeAt Go.RowKit Go.Shelf
set_option linter.unusedVariables false
theorem info91 : (Tryz.prog.info? 129).map (fun i => (i.zero, i.size, i.bytes)) = some (some (.agg #[.pointer none, .pointer none, .int .i64 0]), 3, 24) := by kernel_rfl
theorem part_add {w : World} {base : Nat} {v : Value} {S : List (Pcs × Int)} (ho : w.ownsRow base 129 3 v S.length (stkC S)) (hn : S.length ≤ 1000000) (hb : base ≤ w.heap.size) (p : Pcs × Int) :
    ∃ v' w2, (Builtin.append_ #[126, 126] 126 #[v, .slice (some ⟨w.heap.size, 0, none⟩) 1 1]).run Tryz.prog (w.alloc (.cells (partC p).toArray 129)) = .ok v' w2 ∧ w2.ownsRow base 129 3 v' (S ++ [p]).length (stkC (S ++ [p])) ∧ Turn (fun k => v.ownBlock = some k) w w2 := by
  have T1 : Turn (fun _ => False) w (w.alloc (.cells (partC p).toArray 129)) := (Turn.refl _ w).alloc _
  have ho1 := own_turn ho T1 (fun _ _ q => q)
  obtain ⟨i3, j1, j2, j3, j4⟩ := info_parts info91
  obtain ⟨v', w2, hrun, ho2, hg, _, hbl⟩ := run_append_own_at (w.alloc (.cells (partC p).toArray 129)) base 126 126 129 i3 _ 3 24 Tryz.underlying126 j1 j2 j3 j4 rfl (by decide) _ _ _ ho1 ⟨w.heap.size, 0, none⟩ 1 1 (partC p) rfl
    (cells_new w (partC p) 129 _ rfl) (fun u hu => by
      simp only [partC, ptL, List.mem_cons, List.not_mem_nil, or_false] at hu
      rcases hu with rfl | rfl | rfl <;> rfl) (by unfold maxLen; omega) (by omega) (by rw [World.size_alloc]; omega)
  exact ⟨v', w2, hrun, by rw [List.length_append, stkC_snoc]; exact ho2, (T1.more (fun _ _ q => q.elim)).trans ((Turn.refl _ _).grown hg (fun k hk => .inl hk))⟩
set_option maxRecDepth 100000 in
set_option maxHeartbeats 2000000 in
theorem push_is (w : World) {sb base : Nat} {S : List (Pcs × Int)} {v : Value} {p : Pcs × Int} (h : StkAt w sb base S v) (hp : PartAt w p.1 p.2 (partV p)) (hd : ∀ k ∈ blP p.1, k ∉ stkB S) (hn : S.length ≤ 1000000) (hb : base ≤ w.heap.size) :
    Calls Tryz.prog 68 #[partV p, .pointer (some ⟨sb, 0, none⟩)] w fun y w' => y = .returned (.tuple #[]) ∧ ∃ v', StkAt w' sb base (S ++ [p]) v' ∧ Turn (fun k => k = sb ∨ v.ownBlock = some k) w w' := by
  obtain ⟨a, b, ha, hb2⟩ := hp.some
  have hpv : partV p = .agg #[.pointer (some a), .pointer (some b), .int .i64 p.2] := by unfold partV; rw [ha, hb2]
  have hpc : partC p = ptL (some a) (some b) p.2 := by unfold partC; rw [ha, hb2]
  obtain ⟨W, hW⟩ : ∃ W, W = w.alloc (.cells #[.pointer (some a), .pointer (some b), .int .i64 p.2] 129) := ⟨_, rfl⟩
  have T0 : Turn (fun _ => False) w W := by rw [hW]; exact (Turn.refl _ _).alloc _
  have R1 : W.rangeAt w.heap.size 0 (ptL (some a) (some b) p.2) := by rw [hW]; exact range_new w (ptL (some a) (some b) p.2) 129
  have H := h.quiet T0
  obtain ⟨v2, w2, hrun, ho2, T2⟩ := part_add H.own hn (Nat.le_trans hb T0.size) p
  rw [hpc] at hrun
  obtain ⟨a2, c2, rfl, -⟩ := own_slice ho2
  obtain ⟨av, cv, rfl, -⟩ := own_slice h.own
  have n1 : ¬ (Value.slice av S.length cv).ownBlock = some sb := fun q => (own_blk h.own q).1.ne h.bl (by decide) rfl
  have cs := H.c
  have cs2 := T2.cell n1 H.c
  have B2 := H.bl.turn T2 n1
  have f2 := B2.fz
  have TP := Turn.put w2 sb 0 (.slice a2 (S ++ [p]).length c2)
  have q0 : W.cell? ⟨w.heap.size, 0, none⟩ = some (.pointer (some a)) := R1 0 _ rfl
  have q1 : W.cell? ⟨w.heap.size, 1, none⟩ = some (.pointer (some b)) := R1 1 _ rfl
  have q2 : W.cell? ⟨w.heap.size, 2, none⟩ = some (.int .i64 p.2) := R1 2 _ rfl
  have off : ∀ k, Blk w k 138 → ¬ (Value.slice av S.length cv).ownBlock = some k := fun k hk q => (own_blk h.own q).1.ne hk (by decide) rfl
  have ST : StkAt (w2.setCell ⟨sb, 0, none⟩ (.slice a2 (S ++ [p]).length c2)) sb base (S ++ [p]) (.slice a2 (S ++ [p]).length c2) := by
    refine ⟨B2.set _ _, World.cell?_setCell_same _ _ _ cs2, own_turn ho2 TP (fun k hk q => (own_blk ho2 hk).1.ne (show Blk w2 k 126 by rw [q]; exact B2) (by decide) rfl), fun q hq => ?_, ?_⟩
    · rw [List.mem_append] at hq
      rcases hq with hq | hq
      · exact (((h.pt q hq).turn T0 (fun _ _ => id)).turn T2 (fun k hk => off k ((h.pt q hq).blk k hk))).turn TP (fun k hk e => ((h.pt q hq).blk k hk).ne h.bl (by decide) e)
      · simp only [List.mem_singleton] at hq
        subst hq
        exact ((hp.turn T0 (fun _ _ => id)).turn T2 (fun k hk => off k (hp.blk k hk))).turn TP (fun k hk e => (hp.blk k hk).ne h.bl (by decide) e)
    · rw [stkB_snoc, List.nodup_append]
      refine ⟨h.nd, ?_, fun x hx y hy e => hd y hy (e ▸ hx)⟩
      obtain ⟨_, _, _, _, _, _, n⟩ := hp
      exact n
  have TT : Turn (fun k => k = sb ∨ (Value.slice av S.length cv).ownBlock = some k) w (w2.setCell ⟨sb, 0, none⟩ (.slice a2 (S ++ [p]).length c2)) := (((T0.more (fun _ _ f => f.elim)).trans (T2.more (fun k _ q => .inr q)))).trans (TP.more (fun k _ q => .inl q))
  have F := Lib.hid (And.intro ST TT)
  have RUN := Lib.hid hrun
  have HW := Lib.hid hW
  rw [hpv]
  clear hW T0 R1 H ho2 T2 n1 B2 TP off ST TT hrun hpv hpc hp hd
  go_enter Tryz.func68, Tryz.ntmps68
  go_upto_region 1 with fail
  rw [← HW.out]
  clear HW
  go_wp2_with (refine rl_append_run (by rfl) _ _ _ (by rfl) (by rfl) (by rfl) RUN.out ?_)
  go_end0
  have FO := F.out
  have hll : (S ++ [p]).length = S.length + 1 := by simp
  simp only [hll] at FO
  exact ⟨rfl, _, FO⟩
end Go.Proofs.YtadogobdlcionaaGreatDoor
