/-
  An element is printed.
-/
import Derived.Test.YtadogobdlcionaaDoorSk
namespace Go.Proofs.YtadogobdlcionaaDoor
open Go.ChangeShapes Go.WideShapes Go.ChangeAt Go.RowKit Go.Shelf
set_option linter.unusedVariables false
set_option maxRecDepth 100000 in
theorem ahead_is (w : World) (i : Nat) (a b : ByteArray) : Calls Tryd.prog 11 #[.int .i64 (i : Int), .string a, .string b] w fun y w' => y = .returned (.string (if i = 0 then a else b)) ∧ w' = w := by
  by_cases h : i = 0
  · subst h
    go_enter Tryd.func11, Tryd.ntmps11
    go_wp2_with fail
    go_ret
    exact ⟨rfl, rfl⟩
  · have u : ((i : Int) == 0) = false := beq_no (by omega)
    rw [if_neg h]
    clear h
    go_enter Tryd.func11, Tryd.ntmps11
    go_wp2_with fail
    go_ret
    exact ⟨rfl, rfl⟩
def elOk (e : EL) : Bool := decide (e.type < 8) && nameT e.var
def elT (e : EL) : List UInt8 := (if e.not then [33] else []) ++ [UInt8.ofNat (65 + e.type)] ++ (if e.plus then [43] else []) ++ [32] ++ e.var.data.toList
theorem bu_one {B b : Nat} {l m : List UInt8} {W : World} (h : Bu B b l W) (e : l = m) : Bu B b m W := e ▸ h
set_option maxRecDepth 100000 in
set_option maxHeartbeats 4000000 in
theorem pel_is (w : World) {B b : Nat} {bs : List UInt8} (e : EL) (hB : Bu B b bs w) (hBw : B ≤ w.heap.size) (hs : e.var.size ≤ 1000000) (hlen : bs.length ≤ 100000000000000) (hE : ErrAt w) :
    Calls Tryd.prog 12 #[.pointer (some ⟨b, 0, none⟩), .agg e.cells.toArray] w fun y w' => y = .returned (.bool (elOk e)) ∧ Bu B b (if elOk e then bs ++ elT e else bs) w' ∧ KP B b w w' := by
  obtain ⟨ty, v, pl, nt⟩ := e
  unfold EL.cells elL
  dsimp only at hs ⊢
  obtain ⟨W, hW⟩ : ∃ W, W = w.alloc (.cells #[.int .i64 (ty : Int), .string v, .bool pl, .bool nt] 50) := ⟨_, rfl⟩
  have T0 : Turn (fun _ => False) w W := by rw [hW]; exact (Turn.refl _ _).alloc _
  have R : W.rangeAt w.heap.size 0 [.int .i64 (ty : Int), .string v, .bool pl, .bool nt] := by rw [hW]; exact range_new w [.int .i64 (ty : Int), .string v, .bool pl, .bool nt] 50
  have BX : Blk W w.heap.size 50 := by rw [hW]; exact Blk.new w [.int .i64 (ty : Int), .string v, .bool pl, .bool nt] 50
  have d0 : W.cell? ⟨w.heap.size, 0, none⟩ = some (.int .i64 (ty : Int)) := R 0 _ rfl
  have d1 : W.cell? ⟨w.heap.size, 1, none⟩ = some (.string v) := R 1 _ rfl
  have d2 : W.cell? ⟨w.heap.size, 2, none⟩ = some (.bool pl) := R 2 _ rfl
  have d3 : W.cell? ⟨w.heap.size, 3, none⟩ = some (.bool nt) := R 3 _ rfl
  have NM := Lib.hid (name_is W v (Nat.le_trans hs (by omega)) (hE.turn T0 id))
  have B0 := hB.quiet T0
  have nb : w.heap.size ≠ b := by have := hB.blk.1.lt; omega
  have HH := Lib.hid (And.intro T0 (And.intro B0 (And.intro BX (And.intro nb (And.intro hs (And.intro hlen hBw))))))
  have HW := Lib.hid hW
  obtain ⟨r, hr⟩ : ∃ r, r = elOk ⟨ty, v, pl, nt⟩ := ⟨_, rfl⟩
  rw [← hr]
  have HR := Lib.hid hr
  have n0 : decide ((ty : Int) < 0) = false := decide_eq_false (by omega)
  clear R T0 hW hr hB hBw hlen hE hs B0 BX nb
  by_cases h8 : ty < 8
  · have u1 : decide ((ty : Int) ≥ 8) = false := decide_eq_false (by omega)
    have u2 : decide (8 ≤ (ty : Int)) = false := decide_eq_false (by omega)
    have H8 := Lib.hid h8
    clear h8
    go_enter Tryd.func12, Tryd.ntmps12
    go_upto_region 1 with fail
    rw [← HW.out]
    clear HW
    go_wp2_with fail
    with_reducible refine NM.out.mono ?_
    rintro y w1 ⟨rfl, T1⟩
    obtain ⟨nm, hnm⟩ : ∃ n, n = nameT v := ⟨_, rfl⟩
    rw [← hnm]
    have hr : r = nm := by rw [HR.out, hnm]; unfold elOk; dsimp only; rw [decide_eq_true H8.out]; rfl
    subst hr
    replace d0 := T1.cell id d0
    replace d1 := T1.cell id d1
    replace d2 := T1.cell id d2
    replace d3 := T1.cell id d3
    have F1 := Lib.hid (And.intro (HH.out.1.trans T1) (And.intro (HH.out.2.1.quiet T1) (HH.out.2.2.1.turn T1 id)))
    clear T1 hnm HR
    cases r with
    | false =>
      go_wp2_with fail
      go_ret
      exact ⟨rfl, F1.out.2.1, KP.quiet F1.out.1⟩
    | true =>
      have wz : wrap64 (65 + (ty : Int)) = 65 + (ty : Int) := by have := H8.out; unfold wrap64; omega
      obtain ⟨tz, htz⟩ : ∃ z : Int, z = 65 + (ty : Int) := ⟨_, rfl⟩
      have wz2 : wrap64 (65 + (ty : Int)) = tz := wz.trans htz.symm
      have wu : IntKind.u8.wrap tz = tz := by
        have := H8.out
        have e : ty = 0 ∨ ty = 1 ∨ ty = 2 ∨ ty = 3 ∨ ty = 4 ∨ ty = 5 ∨ ty = 6 ∨ ty = 7 := by omega
        rw [htz]
        rcases e with rfl | rfl | rfl | rfl | rfl | rfl | rfl | rfl <;> decide
      have HTZ := Lib.hid (show tz = ((UInt8.ofNat (65 + ty)).toNat : Int) by
        have := H8.out
        have e : ty = 0 ∨ ty = 1 ∨ ty = 2 ∨ ty = 3 ∨ ty = 4 ∨ ty = 5 ∨ ty = 6 ∨ ty = 7 := by omega
        rw [htz]
        rcases e with rfl | rfl | rfl | rfl | rfl | rfl | rfl | rfl <;> rfl)
      clear wz htz
      cases nt with
      | true =>
        cases pl with
        | true =>
          have F2 := Lib.hid (show Bu B b bs w1 ∧ KP B b w w1 ∧ Blk w1 w.heap.size 50 from ⟨F1.out.2.1, KP.quiet F1.out.1, F1.out.2.2⟩)
          have X3 := Lib.hid (show Calls Tryd.prog 28 #[.pointer (some ⟨b, 0, none⟩), .int .u8 33] w1 _ from wb_is 33 F2.out.1 (by have := HH.out.2.2.2.2.2.1; have := HH.out.2.2.2.2.1; (try simp only [List.length_append, List.length_cons, List.length_nil]); omega) (Nat.le_trans HH.out.2.2.2.2.2.2 F2.out.2.1.size))
          go_wp2_with fail
          with_reducible refine X3.out.mono ?_
          rintro y w3 ⟨rfl, B3, K3⟩
          have n3 := F2.out.2.2
          have b3 : Blk w3 w.heap.size 50 := Blk.turn n3 (show Turn _ _ _ from K3) (K3.off n3 (by decide) HH.out.2.2.2.1)
          replace d0 := K3.cell n3 (by decide) HH.out.2.2.2.1 d0
          replace d1 := K3.cell n3 (by decide) HH.out.2.2.2.1 d1
          replace d2 := K3.cell n3 (by decide) HH.out.2.2.2.1 d2
          replace d3 := K3.cell n3 (by decide) HH.out.2.2.2.1 d3
          have F3 := Lib.hid (show Bu B b (bs ++ [33]) w3 ∧ KP B b w w3 ∧ Blk w3 w.heap.size 50 from ⟨B3, F2.out.2.1.trans K3, b3⟩)
          clear B3 K3 b3 n3 X3
          have X4 := Lib.hid (show Calls Tryd.prog 28 #[.pointer (some ⟨b, 0, none⟩), .int .u8 tz] w3 _ from by rw [HTZ.out]; exact wb_is (UInt8.ofNat (65 + ty)) F3.out.1 (by have := HH.out.2.2.2.2.2.1; have := HH.out.2.2.2.2.1; (try simp only [List.length_append, List.length_cons, List.length_nil]); omega) (Nat.le_trans HH.out.2.2.2.2.2.2 F3.out.2.1.size))
          go_wp2_with fail
          with_reducible refine X4.out.mono ?_
          rintro y w4 ⟨rfl, B4, K4⟩
          have n4 := F3.out.2.2
          have b4 : Blk w4 w.heap.size 50 := Blk.turn n4 (show Turn _ _ _ from K4) (K4.off n4 (by decide) HH.out.2.2.2.1)
          replace d0 := K4.cell n4 (by decide) HH.out.2.2.2.1 d0
          replace d1 := K4.cell n4 (by decide) HH.out.2.2.2.1 d1
          replace d2 := K4.cell n4 (by decide) HH.out.2.2.2.1 d2
          replace d3 := K4.cell n4 (by decide) HH.out.2.2.2.1 d3
          have F4 := Lib.hid (show Bu B b (bs ++ [33] ++ [UInt8.ofNat (65 + ty)]) w4 ∧ KP B b w w4 ∧ Blk w4 w.heap.size 50 from ⟨B4, F3.out.2.1.trans K4, b4⟩)
          clear B4 K4 b4 n4 X4
          have X5 := Lib.hid (show Calls Tryd.prog 28 #[.pointer (some ⟨b, 0, none⟩), .int .u8 43] w4 _ from wb_is 43 F4.out.1 (by have := HH.out.2.2.2.2.2.1; have := HH.out.2.2.2.2.1; (try simp only [List.length_append, List.length_cons, List.length_nil]); omega) (Nat.le_trans HH.out.2.2.2.2.2.2 F4.out.2.1.size))
          go_wp2_with fail
          with_reducible refine X5.out.mono ?_
          rintro y w5 ⟨rfl, B5, K5⟩
          have n5 := F4.out.2.2
          have b5 : Blk w5 w.heap.size 50 := Blk.turn n5 (show Turn _ _ _ from K5) (K5.off n5 (by decide) HH.out.2.2.2.1)
          replace d0 := K5.cell n5 (by decide) HH.out.2.2.2.1 d0
          replace d1 := K5.cell n5 (by decide) HH.out.2.2.2.1 d1
          replace d2 := K5.cell n5 (by decide) HH.out.2.2.2.1 d2
          replace d3 := K5.cell n5 (by decide) HH.out.2.2.2.1 d3
          have F5 := Lib.hid (show Bu B b (bs ++ [33] ++ [UInt8.ofNat (65 + ty)] ++ [43]) w5 ∧ KP B b w w5 ∧ Blk w5 w.heap.size 50 from ⟨B5, F4.out.2.1.trans K5, b5⟩)
          clear B5 K5 b5 n5 X5
          have X6 := Lib.hid (show Calls Tryd.prog 28 #[.pointer (some ⟨b, 0, none⟩), .int .u8 32] w5 _ from wb_is 32 F5.out.1 (by have := HH.out.2.2.2.2.2.1; have := HH.out.2.2.2.2.1; (try simp only [List.length_append, List.length_cons, List.length_nil]); omega) (Nat.le_trans HH.out.2.2.2.2.2.2 F5.out.2.1.size))
          go_wp2_with fail
          with_reducible refine X6.out.mono ?_
          rintro y w6 ⟨rfl, B6, K6⟩
          have n6 := F5.out.2.2
          have b6 : Blk w6 w.heap.size 50 := Blk.turn n6 (show Turn _ _ _ from K6) (K6.off n6 (by decide) HH.out.2.2.2.1)
          replace d0 := K6.cell n6 (by decide) HH.out.2.2.2.1 d0
          replace d1 := K6.cell n6 (by decide) HH.out.2.2.2.1 d1
          replace d2 := K6.cell n6 (by decide) HH.out.2.2.2.1 d2
          replace d3 := K6.cell n6 (by decide) HH.out.2.2.2.1 d3
          have F6 := Lib.hid (show Bu B b (bs ++ [33] ++ [UInt8.ofNat (65 + ty)] ++ [43] ++ [32]) w6 ∧ KP B b w w6 ∧ Blk w6 w.heap.size 50 from ⟨B6, F5.out.2.1.trans K6, b6⟩)
          clear B6 K6 b6 n6 X6
          have X7 := Lib.hid (ws_is v F6.out.1 (by have := HH.out.2.2.2.2.2.1; have := HH.out.2.2.2.2.1; (try simp only [List.length_append, List.length_cons, List.length_nil]); omega) (Nat.le_trans HH.out.2.2.2.2.2.2 F6.out.2.1.size))
          go_wp2_with fail
          with_reducible refine X7.out.mono ?_
          rintro y w7 ⟨rfl, B7, K7⟩
          have n7 := F6.out.2.2
          have b7 : Blk w7 w.heap.size 50 := Blk.turn n7 (show Turn _ _ _ from K7) (K7.off n7 (by decide) HH.out.2.2.2.1)
          replace d0 := K7.cell n7 (by decide) HH.out.2.2.2.1 d0
          replace d1 := K7.cell n7 (by decide) HH.out.2.2.2.1 d1
          replace d2 := K7.cell n7 (by decide) HH.out.2.2.2.1 d2
          replace d3 := K7.cell n7 (by decide) HH.out.2.2.2.1 d3
          have F7 := Lib.hid (show Bu B b (bs ++ [33] ++ [UInt8.ofNat (65 + ty)] ++ [43] ++ [32] ++ v.data.toList) w7 ∧ KP B b w w7 ∧ Blk w7 w.heap.size 50 from ⟨B7, F6.out.2.1.trans K7, b7⟩)
          clear B7 K7 b7 n7 X7
          go_wp2_with fail
          go_ret
          refine ⟨rfl, bu_one F7.out.1 ?_, F7.out.2.1⟩
          simp [elT]

        | false =>
          have F2 := Lib.hid (show Bu B b bs w1 ∧ KP B b w w1 ∧ Blk w1 w.heap.size 50 from ⟨F1.out.2.1, KP.quiet F1.out.1, F1.out.2.2⟩)
          have X3 := Lib.hid (show Calls Tryd.prog 28 #[.pointer (some ⟨b, 0, none⟩), .int .u8 33] w1 _ from wb_is 33 F2.out.1 (by have := HH.out.2.2.2.2.2.1; have := HH.out.2.2.2.2.1; (try simp only [List.length_append, List.length_cons, List.length_nil]); omega) (Nat.le_trans HH.out.2.2.2.2.2.2 F2.out.2.1.size))
          go_wp2_with fail
          with_reducible refine X3.out.mono ?_
          rintro y w3 ⟨rfl, B3, K3⟩
          have n3 := F2.out.2.2
          have b3 : Blk w3 w.heap.size 50 := Blk.turn n3 (show Turn _ _ _ from K3) (K3.off n3 (by decide) HH.out.2.2.2.1)
          replace d0 := K3.cell n3 (by decide) HH.out.2.2.2.1 d0
          replace d1 := K3.cell n3 (by decide) HH.out.2.2.2.1 d1
          replace d2 := K3.cell n3 (by decide) HH.out.2.2.2.1 d2
          replace d3 := K3.cell n3 (by decide) HH.out.2.2.2.1 d3
          have F3 := Lib.hid (show Bu B b (bs ++ [33]) w3 ∧ KP B b w w3 ∧ Blk w3 w.heap.size 50 from ⟨B3, F2.out.2.1.trans K3, b3⟩)
          clear B3 K3 b3 n3 X3
          have X4 := Lib.hid (show Calls Tryd.prog 28 #[.pointer (some ⟨b, 0, none⟩), .int .u8 tz] w3 _ from by rw [HTZ.out]; exact wb_is (UInt8.ofNat (65 + ty)) F3.out.1 (by have := HH.out.2.2.2.2.2.1; have := HH.out.2.2.2.2.1; (try simp only [List.length_append, List.length_cons, List.length_nil]); omega) (Nat.le_trans HH.out.2.2.2.2.2.2 F3.out.2.1.size))
          go_wp2_with fail
          with_reducible refine X4.out.mono ?_
          rintro y w4 ⟨rfl, B4, K4⟩
          have n4 := F3.out.2.2
          have b4 : Blk w4 w.heap.size 50 := Blk.turn n4 (show Turn _ _ _ from K4) (K4.off n4 (by decide) HH.out.2.2.2.1)
          replace d0 := K4.cell n4 (by decide) HH.out.2.2.2.1 d0
          replace d1 := K4.cell n4 (by decide) HH.out.2.2.2.1 d1
          replace d2 := K4.cell n4 (by decide) HH.out.2.2.2.1 d2
          replace d3 := K4.cell n4 (by decide) HH.out.2.2.2.1 d3
          have F4 := Lib.hid (show Bu B b (bs ++ [33] ++ [UInt8.ofNat (65 + ty)]) w4 ∧ KP B b w w4 ∧ Blk w4 w.heap.size 50 from ⟨B4, F3.out.2.1.trans K4, b4⟩)
          clear B4 K4 b4 n4 X4
          have X5 := Lib.hid (show Calls Tryd.prog 28 #[.pointer (some ⟨b, 0, none⟩), .int .u8 32] w4 _ from wb_is 32 F4.out.1 (by have := HH.out.2.2.2.2.2.1; have := HH.out.2.2.2.2.1; (try simp only [List.length_append, List.length_cons, List.length_nil]); omega) (Nat.le_trans HH.out.2.2.2.2.2.2 F4.out.2.1.size))
          go_wp2_with fail
          with_reducible refine X5.out.mono ?_
          rintro y w5 ⟨rfl, B5, K5⟩
          have n5 := F4.out.2.2
          have b5 : Blk w5 w.heap.size 50 := Blk.turn n5 (show Turn _ _ _ from K5) (K5.off n5 (by decide) HH.out.2.2.2.1)
          replace d0 := K5.cell n5 (by decide) HH.out.2.2.2.1 d0
          replace d1 := K5.cell n5 (by decide) HH.out.2.2.2.1 d1
          replace d2 := K5.cell n5 (by decide) HH.out.2.2.2.1 d2
          replace d3 := K5.cell n5 (by decide) HH.out.2.2.2.1 d3
          have F5 := Lib.hid (show Bu B b (bs ++ [33] ++ [UInt8.ofNat (65 + ty)] ++ [32]) w5 ∧ KP B b w w5 ∧ Blk w5 w.heap.size 50 from ⟨B5, F4.out.2.1.trans K5, b5⟩)
          clear B5 K5 b5 n5 X5
          have X6 := Lib.hid (ws_is v F5.out.1 (by have := HH.out.2.2.2.2.2.1; have := HH.out.2.2.2.2.1; (try simp only [List.length_append, List.length_cons, List.length_nil]); omega) (Nat.le_trans HH.out.2.2.2.2.2.2 F5.out.2.1.size))
          go_wp2_with fail
          with_reducible refine X6.out.mono ?_
          rintro y w6 ⟨rfl, B6, K6⟩
          have n6 := F5.out.2.2
          have b6 : Blk w6 w.heap.size 50 := Blk.turn n6 (show Turn _ _ _ from K6) (K6.off n6 (by decide) HH.out.2.2.2.1)
          replace d0 := K6.cell n6 (by decide) HH.out.2.2.2.1 d0
          replace d1 := K6.cell n6 (by decide) HH.out.2.2.2.1 d1
          replace d2 := K6.cell n6 (by decide) HH.out.2.2.2.1 d2
          replace d3 := K6.cell n6 (by decide) HH.out.2.2.2.1 d3
          have F6 := Lib.hid (show Bu B b (bs ++ [33] ++ [UInt8.ofNat (65 + ty)] ++ [32] ++ v.data.toList) w6 ∧ KP B b w w6 ∧ Blk w6 w.heap.size 50 from ⟨B6, F5.out.2.1.trans K6, b6⟩)
          clear B6 K6 b6 n6 X6
          go_wp2_with fail
          go_ret
          refine ⟨rfl, bu_one F6.out.1 ?_, F6.out.2.1⟩
          simp [elT]

      | false =>
        cases pl with
        | true =>
          have F2 := Lib.hid (show Bu B b bs w1 ∧ KP B b w w1 ∧ Blk w1 w.heap.size 50 from ⟨F1.out.2.1, KP.quiet F1.out.1, F1.out.2.2⟩)
          have X3 := Lib.hid (show Calls Tryd.prog 28 #[.pointer (some ⟨b, 0, none⟩), .int .u8 tz] w1 _ from by rw [HTZ.out]; exact wb_is (UInt8.ofNat (65 + ty)) F2.out.1 (by have := HH.out.2.2.2.2.2.1; have := HH.out.2.2.2.2.1; (try simp only [List.length_append, List.length_cons, List.length_nil]); omega) (Nat.le_trans HH.out.2.2.2.2.2.2 F2.out.2.1.size))
          go_wp2_with fail
          with_reducible refine X3.out.mono ?_
          rintro y w3 ⟨rfl, B3, K3⟩
          have n3 := F2.out.2.2
          have b3 : Blk w3 w.heap.size 50 := Blk.turn n3 (show Turn _ _ _ from K3) (K3.off n3 (by decide) HH.out.2.2.2.1)
          replace d0 := K3.cell n3 (by decide) HH.out.2.2.2.1 d0
          replace d1 := K3.cell n3 (by decide) HH.out.2.2.2.1 d1
          replace d2 := K3.cell n3 (by decide) HH.out.2.2.2.1 d2
          replace d3 := K3.cell n3 (by decide) HH.out.2.2.2.1 d3
          have F3 := Lib.hid (show Bu B b (bs ++ [UInt8.ofNat (65 + ty)]) w3 ∧ KP B b w w3 ∧ Blk w3 w.heap.size 50 from ⟨B3, F2.out.2.1.trans K3, b3⟩)
          clear B3 K3 b3 n3 X3
          have X4 := Lib.hid (show Calls Tryd.prog 28 #[.pointer (some ⟨b, 0, none⟩), .int .u8 43] w3 _ from wb_is 43 F3.out.1 (by have := HH.out.2.2.2.2.2.1; have := HH.out.2.2.2.2.1; (try simp only [List.length_append, List.length_cons, List.length_nil]); omega) (Nat.le_trans HH.out.2.2.2.2.2.2 F3.out.2.1.size))
          go_wp2_with fail
          with_reducible refine X4.out.mono ?_
          rintro y w4 ⟨rfl, B4, K4⟩
          have n4 := F3.out.2.2
          have b4 : Blk w4 w.heap.size 50 := Blk.turn n4 (show Turn _ _ _ from K4) (K4.off n4 (by decide) HH.out.2.2.2.1)
          replace d0 := K4.cell n4 (by decide) HH.out.2.2.2.1 d0
          replace d1 := K4.cell n4 (by decide) HH.out.2.2.2.1 d1
          replace d2 := K4.cell n4 (by decide) HH.out.2.2.2.1 d2
          replace d3 := K4.cell n4 (by decide) HH.out.2.2.2.1 d3
          have F4 := Lib.hid (show Bu B b (bs ++ [UInt8.ofNat (65 + ty)] ++ [43]) w4 ∧ KP B b w w4 ∧ Blk w4 w.heap.size 50 from ⟨B4, F3.out.2.1.trans K4, b4⟩)
          clear B4 K4 b4 n4 X4
          have X5 := Lib.hid (show Calls Tryd.prog 28 #[.pointer (some ⟨b, 0, none⟩), .int .u8 32] w4 _ from wb_is 32 F4.out.1 (by have := HH.out.2.2.2.2.2.1; have := HH.out.2.2.2.2.1; (try simp only [List.length_append, List.length_cons, List.length_nil]); omega) (Nat.le_trans HH.out.2.2.2.2.2.2 F4.out.2.1.size))
          go_wp2_with fail
          with_reducible refine X5.out.mono ?_
          rintro y w5 ⟨rfl, B5, K5⟩
          have n5 := F4.out.2.2
          have b5 : Blk w5 w.heap.size 50 := Blk.turn n5 (show Turn _ _ _ from K5) (K5.off n5 (by decide) HH.out.2.2.2.1)
          replace d0 := K5.cell n5 (by decide) HH.out.2.2.2.1 d0
          replace d1 := K5.cell n5 (by decide) HH.out.2.2.2.1 d1
          replace d2 := K5.cell n5 (by decide) HH.out.2.2.2.1 d2
          replace d3 := K5.cell n5 (by decide) HH.out.2.2.2.1 d3
          have F5 := Lib.hid (show Bu B b (bs ++ [UInt8.ofNat (65 + ty)] ++ [43] ++ [32]) w5 ∧ KP B b w w5 ∧ Blk w5 w.heap.size 50 from ⟨B5, F4.out.2.1.trans K5, b5⟩)
          clear B5 K5 b5 n5 X5
          have X6 := Lib.hid (ws_is v F5.out.1 (by have := HH.out.2.2.2.2.2.1; have := HH.out.2.2.2.2.1; (try simp only [List.length_append, List.length_cons, List.length_nil]); omega) (Nat.le_trans HH.out.2.2.2.2.2.2 F5.out.2.1.size))
          go_wp2_with fail
          with_reducible refine X6.out.mono ?_
          rintro y w6 ⟨rfl, B6, K6⟩
          have n6 := F5.out.2.2
          have b6 : Blk w6 w.heap.size 50 := Blk.turn n6 (show Turn _ _ _ from K6) (K6.off n6 (by decide) HH.out.2.2.2.1)
          replace d0 := K6.cell n6 (by decide) HH.out.2.2.2.1 d0
          replace d1 := K6.cell n6 (by decide) HH.out.2.2.2.1 d1
          replace d2 := K6.cell n6 (by decide) HH.out.2.2.2.1 d2
          replace d3 := K6.cell n6 (by decide) HH.out.2.2.2.1 d3
          have F6 := Lib.hid (show Bu B b (bs ++ [UInt8.ofNat (65 + ty)] ++ [43] ++ [32] ++ v.data.toList) w6 ∧ KP B b w w6 ∧ Blk w6 w.heap.size 50 from ⟨B6, F5.out.2.1.trans K6, b6⟩)
          clear B6 K6 b6 n6 X6
          go_wp2_with fail
          go_ret
          refine ⟨rfl, bu_one F6.out.1 ?_, F6.out.2.1⟩
          simp [elT]

        | false =>
          have F2 := Lib.hid (show Bu B b bs w1 ∧ KP B b w w1 ∧ Blk w1 w.heap.size 50 from ⟨F1.out.2.1, KP.quiet F1.out.1, F1.out.2.2⟩)
          have X3 := Lib.hid (show Calls Tryd.prog 28 #[.pointer (some ⟨b, 0, none⟩), .int .u8 tz] w1 _ from by rw [HTZ.out]; exact wb_is (UInt8.ofNat (65 + ty)) F2.out.1 (by have := HH.out.2.2.2.2.2.1; have := HH.out.2.2.2.2.1; (try simp only [List.length_append, List.length_cons, List.length_nil]); omega) (Nat.le_trans HH.out.2.2.2.2.2.2 F2.out.2.1.size))
          go_wp2_with fail
          with_reducible refine X3.out.mono ?_
          rintro y w3 ⟨rfl, B3, K3⟩
          have n3 := F2.out.2.2
          have b3 : Blk w3 w.heap.size 50 := Blk.turn n3 (show Turn _ _ _ from K3) (K3.off n3 (by decide) HH.out.2.2.2.1)
          replace d0 := K3.cell n3 (by decide) HH.out.2.2.2.1 d0
          replace d1 := K3.cell n3 (by decide) HH.out.2.2.2.1 d1
          replace d2 := K3.cell n3 (by decide) HH.out.2.2.2.1 d2
          replace d3 := K3.cell n3 (by decide) HH.out.2.2.2.1 d3
          have F3 := Lib.hid (show Bu B b (bs ++ [UInt8.ofNat (65 + ty)]) w3 ∧ KP B b w w3 ∧ Blk w3 w.heap.size 50 from ⟨B3, F2.out.2.1.trans K3, b3⟩)
          clear B3 K3 b3 n3 X3
          have X4 := Lib.hid (show Calls Tryd.prog 28 #[.pointer (some ⟨b, 0, none⟩), .int .u8 32] w3 _ from wb_is 32 F3.out.1 (by have := HH.out.2.2.2.2.2.1; have := HH.out.2.2.2.2.1; (try simp only [List.length_append, List.length_cons, List.length_nil]); omega) (Nat.le_trans HH.out.2.2.2.2.2.2 F3.out.2.1.size))
          go_wp2_with fail
          with_reducible refine X4.out.mono ?_
          rintro y w4 ⟨rfl, B4, K4⟩
          have n4 := F3.out.2.2
          have b4 : Blk w4 w.heap.size 50 := Blk.turn n4 (show Turn _ _ _ from K4) (K4.off n4 (by decide) HH.out.2.2.2.1)
          replace d0 := K4.cell n4 (by decide) HH.out.2.2.2.1 d0
          replace d1 := K4.cell n4 (by decide) HH.out.2.2.2.1 d1
          replace d2 := K4.cell n4 (by decide) HH.out.2.2.2.1 d2
          replace d3 := K4.cell n4 (by decide) HH.out.2.2.2.1 d3
          have F4 := Lib.hid (show Bu B b (bs ++ [UInt8.ofNat (65 + ty)] ++ [32]) w4 ∧ KP B b w w4 ∧ Blk w4 w.heap.size 50 from ⟨B4, F3.out.2.1.trans K4, b4⟩)
          clear B4 K4 b4 n4 X4
          have X5 := Lib.hid (ws_is v F4.out.1 (by have := HH.out.2.2.2.2.2.1; have := HH.out.2.2.2.2.1; (try simp only [List.length_append, List.length_cons, List.length_nil]); omega) (Nat.le_trans HH.out.2.2.2.2.2.2 F4.out.2.1.size))
          go_wp2_with fail
          with_reducible refine X5.out.mono ?_
          rintro y w5 ⟨rfl, B5, K5⟩
          have n5 := F4.out.2.2
          have b5 : Blk w5 w.heap.size 50 := Blk.turn n5 (show Turn _ _ _ from K5) (K5.off n5 (by decide) HH.out.2.2.2.1)
          replace d0 := K5.cell n5 (by decide) HH.out.2.2.2.1 d0
          replace d1 := K5.cell n5 (by decide) HH.out.2.2.2.1 d1
          replace d2 := K5.cell n5 (by decide) HH.out.2.2.2.1 d2
          replace d3 := K5.cell n5 (by decide) HH.out.2.2.2.1 d3
          have F5 := Lib.hid (show Bu B b (bs ++ [UInt8.ofNat (65 + ty)] ++ [32] ++ v.data.toList) w5 ∧ KP B b w w5 ∧ Blk w5 w.heap.size 50 from ⟨B5, F4.out.2.1.trans K5, b5⟩)
          clear B5 K5 b5 n5 X5
          go_wp2_with fail
          go_ret
          refine ⟨rfl, bu_one F5.out.1 ?_, F5.out.2.1⟩
          simp [elT]
  · have u1 : decide ((ty : Int) ≥ 8) = true := decide_eq_true (by omega)
    have u2 : decide (8 ≤ (ty : Int)) = true := decide_eq_true (by omega)
    have hr : r = false := by rw [HR.out]; unfold elOk; dsimp only; rw [decide_eq_false h8]; rfl
    subst hr
    clear h8
    go_enter Tryd.func12, Tryd.ntmps12
    go_upto_region 1 with fail
    rw [← HW.out]
    clear HW
    go_wp2_with fail
    go_ret
    exact ⟨rfl, HH.out.2.1, KP.quiet HH.out.1⟩
end Go.Proofs.YtadogobdlcionaaDoor
