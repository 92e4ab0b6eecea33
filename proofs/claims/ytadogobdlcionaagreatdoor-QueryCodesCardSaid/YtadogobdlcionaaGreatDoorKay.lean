/-
  What Codes makes.
-/
import Derived.Test.YtadogobdlcionaaGreatDoorKax
set_option linter.unusedSimpArgs false
namespace Go.Proofs.YtadogobdlcionaaGreatDoor.Mad
open Go.ChangeShapes Go.WideShapes Go.ChangeAt Go.RowKit
set_option linter.unusedVariables false
set_option linter.unusedSimpArgs false
/-- Codes under way. -/
def CSt (w : World) (rb : Nat) (N : List ByteArray) (B : Nat) (v : Value) (wr : World) : Prop :=
  ∃ l : List Qc, wr.ownsRow w.heap.size 45 5 v l.length (qcells l) ∧ l.length ≤ B ∧ depQ l 0 = some 1 ∧ (∀ c ∈ l, QcOk N c) ∧ RwAt wr rb ∧ Turn (fun q => q = rb) w wr
def CRel (w : World) (rb : Nat) (N : List ByteArray) (steps gh : Nat) (v7 v8 : Value) (wr : World) : Prop :=
  ∃ k : Nat, v8 = .int .i64 (k : Int) ∧ k ≤ steps ∧ gh = steps - k ∧ CSt w rb N (1 + 2 * k) v7 wr
def RSt (wr : World) (rb : Nat) (N : List ByteArray) (v9 : Value) (wx : World) : Prop :=
  ∃ r : Qc, wx.ownsRow wr.heap.size 45 5 v9 1 (qcells [r]) ∧ QcOk N r ∧ depQ [r] 0 = some 1 ∧ RwAt wx rb ∧ Turn (fun q => q = rb) wr wx
theorem cst_next {w wr W W' : World} {rb B : Nat} {N : List ByteArray} {v' : Value} {l' : List Qc} (hb : rb < w.heap.size) (Twr : Turn (fun q => q = rb) w wr) (T1 : Turn (fun q => q = rb) wr W) (R : RwAt W rb) (T' : Turn (fun q => w.heap.size ≤ q) W W') (ho' : W'.ownsRow w.heap.size 45 5 v' l'.length (qcells l')) (hl : l'.length ≤ B) (hd : depQ l' 0 = some 1) (hok : ∀ c ∈ l', QcOk N c) : CSt w rb N B v' W' :=
  ⟨l', ho', hl, hd, hok, R.turn (T'.more (fun q _ h => by omega)), (Twr.trans T1).comp T' (fun i hi h => absurd hi (Nat.not_lt.2 h))⟩
theorem dep_neg {l : List Qc} (h : depQ l 0 = some 1) : depQ (l ++ [⟨9, 0, ⟨#[]⟩, 0⟩]) 0 = some 1 := by
  rw [depQ_app, h]
  rfl
theorem dep_op {l m : List Qc} {x : Int} (hx : 1 ≤ x ∧ x ≤ 5) (h : depQ l 0 = some 1) (k : depQ m 0 = some 1) : depQ (l ++ m ++ [⟨x, 0, ⟨#[]⟩, 0⟩]) 0 = some 1 := by
  have k2 : depQ m 1 = some 2 := depQ_frame m 0 1 1 k
  have ht : takesQ ⟨x, 0, ⟨#[]⟩, 0⟩ = 2 := by
    unfold takesQ
    rw [if_neg (by show ¬ x = 9; omega), if_neg (by show ¬ (x = 6 ∨ x = 7 ∨ x = 8); omega)]
  rw [depQ_app, depQ_app, h]
  show ((depQ m 1).bind _) = _
  rw [k2]
  show depQ [_] 2 = _
  simp only [depQ, ht]
  rfl
theorem wrapQ5 {m : Nat} (h : m < 5) : wrap64 (1 + (m : Int)) = (m : Int) + 1 := by unfold wrap64; omega
theorem opBds {m : Nat} (h : m < 5) : (1 : Int) ≤ (m : Int) + 1 ∧ (m : Int) + 1 ≤ 5 := by omega
set_option maxRecDepth 100000 in
set_option maxHeartbeats 8000000 in
theorem codes_is {w : World} {rb steps : Nat} {nv : Value} {N : List ByteArray} (h : RwAt w rb) (hNm : NmsAt w nv N) (hN : 1 ≤ N.length ∧ N.length ≤ 10) (hs : steps ≤ 12) :
    Calls Tryz.prog 12 #[.pointer (some ⟨rb, 0, none⟩), nv, .int .i64 (steps : Int)] w fun e w' => ∃ v, e = .returned v ∧ CSt w rb N (1 + 2 * steps) v w' := by
  obtain ⟨nb, no, ncap, rfl, hnb, hnr⟩ := hNm
  have hrb : rb < w.heap.size := by
    obtain ⟨_, _, _, _, hb, _⟩ := h
    exact hb.lt
  have hne : nb ≠ rb := by
    obtain ⟨_, _, _, _, hb, _⟩ := h
    exact hnb.ne hb (by decide)
  have NR0 := Lib.hid (And.intro hnr hne)
  have HB0 := Lib.hid hrb
  clear hnr hnb hrb hne
  go_enter Tryz.func12, Tryz.ntmps12
  go_wp2_with fail
  with_reducible refine (next_x h (x := 4) (n := 4) rfl (by decide) (by decide)).mono ?_
  rintro en W1 ⟨m0, rfl, hm0, R1, T1⟩
  have HB := Lib.hid (show w.heap.size ≤ W1.heap.size from T1.size)
  have NR := Lib.hid (show W1.rangeAt nb no (N.map .string) ∧ ¬ (nb = rb) from ⟨range_turn NR0.out.1 T1 NR0.out.2, NR0.out.2⟩)
  obtain ⟨bz, hbz⟩ : ∃ b, b = decide (m0 = 0) := ⟨_, rfl⟩
  have tz : ((m0 : Int) == 0) = bz := by rw [hbz]; by_cases z : m0 = 0 <;> simp [z]
  clear hbz
  go_upto_block 0 with fail
  go_cut [7] from 13 to 30 (fun v7 wx => CSt w rb N 1 v7 wx)
  case first =>
    cases bz with
    | true =>
      go_wp2_with fail
      with_reducible refine (next_x R1 (x := 7) (n := 7) rfl (by decide) (by decide)).mono ?_
      rintro en W2 ⟨m7, rfl, hm7, R2, T2⟩
      have QN := q_new W2 ⟨6, (m7 : Int), ⟨#[]⟩, 0⟩ (base := w.heap.size) (Nat.le_trans T1.size T2.size)
      have TA : Turn (fun _ => False) W2 (W2.alloc (.cells #[.int .i64 6, .int .i64 (m7 : Int), .string ⟨#[]⟩, .int .i64 0, .int .i64 0] 45)) := (Turn.refl _ W2).alloc _
      have DONE := Lib.hid (show CSt w rb N 1 (.slice (some ⟨W2.heap.size, 0, none⟩) 1 1) (W2.alloc (.cells #[.int .i64 6, .int .i64 (m7 : Int), .string ⟨#[]⟩, .int .i64 0, .int .i64 0] 45)) from ⟨[⟨6, (m7 : Int), ⟨#[]⟩, 0⟩], QN, Nat.le_refl _, rfl, fun c hc => by simp at hc; rw [hc]; exact .inl ⟨rfl, ⟨Int.natCast_nonneg m7, by show (m7 : Int) < 7; omega, rfl⟩, rfl⟩, R2.turn (TA.more (fun _ _ f => f.elim)), T1.trans (T2.trans (TA.more (fun _ _ f => f.elim)))⟩)
      clear QN TA R2 T2 R1 T1
      go_wp2_with fail
      go_meet
      case rel => exact DONE.out
    | false =>
      go_upto_region 3 with fail
      have FF := Lib.hid (show ∀ U, Turn (fun q => q = rb) W1 U → U.rangeAt nb no (N.map .string) ∧ Turn (fun q => q = rb) W1 U from fun U TU => ⟨range_turn NR.out.1 TU NR.out.2, TU⟩)
      have sT : Turn (fun q => q = rb) W1 W1.drew := (Turn.refl _ W1).drewN 1
      have RD : RwAt W1.drew rb := R1.turn ((Turn.refl _ W1).drewN 1)
      have sD := FF.out _ sT
      refine wp_region_held_drew (S := fun w' => w'.rangeAt nb no (N.map .string) ∧ Turn (fun q => q = rb) W1 w') (by kernel_rfl) ?hs0 (fun hS0 => ?_)
      case hs0 => exact sD
      generalize W1.drew = DD at *
      refine wpAnyH_take (i := 0) (oi := { dst := some 13, op := Op.move (Operand.tmp 1), type := 41, pos := "ref.go:460", after := #[], guard := none }) (v := ?_) rfl (by kernel_rfl) (by kernel_rfl) (by kernel_rfl) (fun _ _ _ h => h) (Or.inl ⟨by rfl, ?hy1⟩) hS0 ?_
      case hy1 => (intro w hSw; (try dsimp only at hSw); go_simp; try with_reducible rfl)
      try simp only [Act.put, List.setIfInBounds_toArray, List.set_cons_zero, List.set_cons_succ]
      refine wpAnyH_take (i := 1) (oi := { dst := some 14, op := Op.move (Operand.tmp 0), type := 36, pos := "ref.go:460", after := #[], guard := none }) (v := ?_) rfl (by kernel_rfl) (by kernel_rfl) (by kernel_rfl) (fun _ _ _ h => h) (Or.inl ⟨by rfl, ?hy2⟩) hS0 ?_
      case hy2 => (intro w hSw; (try dsimp only at hSw); go_simp; try with_reducible rfl)
      try simp only [Act.put, List.setIfInBounds_toArray, List.set_cons_zero, List.set_cons_succ]
      refine wpAnyH_take (i := 2) (oi := { dst := some 15, op := Op.move (Operand.tmp 1), type := 41, pos := "ref.go:460", after := #[], guard := none }) (v := ?_) rfl (by kernel_rfl) (by kernel_rfl) (by kernel_rfl) (fun _ _ _ h => h) (Or.inl ⟨by rfl, ?hy3⟩) hS0 ?_
      case hy3 => (intro w hSw; (try dsimp only at hSw); go_simp; try with_reducible rfl)
      try simp only [Act.put, List.setIfInBounds_toArray, List.set_cons_zero, List.set_cons_succ]
      refine wpAnyH_take (i := 3) (oi := { dst := some 16, op := Op.call { callee := Callee.builtin Builtin.len, args := #[Operand.tmp 15], argTypes := #[41] }, type := 3, pos := "ref.go:460", after := #[{ on := 2, ground := Ground.data }], guard := none }) (v := ?_) rfl (by kernel_rfl) (by kernel_rfl) (by kernel_rfl) (fun _ _ _ h => h) (Or.inl ⟨by rfl, ?hy4⟩) hS0 ?_
      case hy4 => (intro w hSw; (try dsimp only at hSw); go_simp; try with_reducible rfl)
      try simp only [Act.put, List.setIfInBounds_toArray, List.set_cons_zero, List.set_cons_succ]
      refine wpAnyH_take (i := 7) (oi := { dst := some 20, op := Op.move (Operand.tmp 0), type := 36, pos := "ref.go:460", after := #[], guard := none }) (v := ?_) rfl (by kernel_rfl) (by kernel_rfl) (by kernel_rfl) (fun _ _ _ h => h) (Or.inl ⟨by rfl, ?hy5⟩) hS0 ?_
      case hy5 => (intro w hSw; (try dsimp only at hSw); go_simp; try with_reducible rfl)
      try simp only [Act.put, List.setIfInBounds_toArray, List.set_cons_zero, List.set_cons_succ]
      refine wpAnyH_ready (rs := [4]) (by kernel_rfl) (by simp) ?_
      refine AllReadyH.cons (o := { dst := some 17, op := Op.call { callee := Callee.value (Operand.func 22), args := #[Operand.tmp 14, Operand.tmp 16], argTypes := #[36, 3] }, type := 3, pos := "ref.go:460", after := #[{ on := 1, ground := Ground.data }, { on := 3, ground := Ground.data }], guard := none }) rfl (fun K hK => ?_) AllReadyH.nil
      go_simp
      with_reducible refine (next_is RD (n := N.length) hN.1 (Nat.le_trans hN.2 (by decide))).mono ?_
      rintro en Wn ⟨m1, rfl, hm1, RN, TN⟩
      go_simp
      refine hK.out _ _ ?hs6 (fun hS6 => ?_)
      case hs6 => exact FF.out _ (sT.trans TN)
      clear hK K hS0
      obtain ⟨sn, hsn⟩ : ∃ s, N[m1]? = some s := ⟨_, List.getElem?_eq_getElem hm1⟩
      have hsn2 : (N.map Value.string)[m1]? = some (.string sn) := by rw [List.getElem?_map, hsn]; rfl
      have j0 : (0 : Int) ≤ (m1 : Int) := Int.natCast_nonneg m1
      have j1 : (m1 : Int) < (N.length : Int) := Int.ofNat_lt.2 hm1
      refine wpAnyH_take (i := 5) (oi := { dst := some 18, op := Op.indexAddr 41 (Operand.tmp 13) (Operand.tmp 17), type := 0, pos := "ref.go:460", after := #[{ on := 0, ground := Ground.data }, { on := 4, ground := Ground.data }], guard := none }) (v := ?_) rfl (by kernel_rfl) (by kernel_rfl) (by kernel_rfl) (fun _ _ _ h => h) (Or.inl ⟨by rfl, ?hy7⟩) hS6 ?_
      case hy7 => (intro w hSw; (try dsimp only at hSw); go_simp; try with_reducible rfl)
      try simp only [Act.put, List.setIfInBounds_toArray, List.set_cons_zero, List.set_cons_succ]
      refine wpAnyH_take (i := 6) (oi := { dst := some 19, op := Op.load 9 (Operand.tmp 18), type := 9, pos := "ref.go:460", after := #[{ on := 5, ground := Ground.data }], guard := none }) (v := .string sn) rfl (by kernel_rfl) (by kernel_rfl) (by kernel_rfl) (fun _ _ _ h => h) (Or.inl ⟨by rfl, ?hyl⟩) hS6 ?_
      case hyl =>
        intro w hSw
        have hc := hSw.1 m1 _ hsn2
        clear hSw
        go_simp
        try with_reducible rfl
      try simp only [Act.put, List.setIfInBounds_toArray, List.set_cons_zero, List.set_cons_succ]
      refine wpAnyH_ready (rs := [8]) (by kernel_rfl) (by simp) ?_
      refine AllReadyH.cons (o := { dst := some 21, op := Op.call { callee := Callee.value (Operand.func 22), args := #[Operand.tmp 20, Operand.const (Value.int IntKind.i64 2)], argTypes := #[36, 3] }, type := 3, pos := "ref.go:460", after := #[{ on := 7, ground := Ground.data }, { on := 4, ground := Ground.chain }], guard := none }) rfl (fun K hK => ?_) AllReadyH.nil
      go_simp
      with_reducible refine (next_x RN (x := 2) (n := 2) rfl (by decide) (by decide)).mono ?_
      rintro en Wp ⟨m2, rfl, hm2, RP, TP⟩
      go_simp
      refine hK.out _ _ ?hs8 (fun hS8 => ?_)
      case hs8 => exact FF.out _ ((sT.trans TN).trans TP)
      clear hK K hS6
      refine wpAnyH_take (i := 9) (oi := { dst := some 22, op := Op.build 45 #[(0, Operand.const (Value.int IntKind.i64 7)), (2, Operand.tmp 19), (3, Operand.tmp 21)], type := 45, pos := "ref.go:460", after := #[{ on := 6, ground := Ground.data }, { on := 8, ground := Ground.data }], guard := none }) (v := ?_) rfl (by kernel_rfl) (by kernel_rfl) (by kernel_rfl) (fun _ _ _ h => h) (Or.inl ⟨by rfl, ?hy9⟩) hS8 ?_
      case hy9 => (intro w hSw; (try dsimp only at hSw); go_simp; try with_reducible rfl)
      try simp only [Act.put, List.setIfInBounds_toArray, List.set_cons_zero, List.set_cons_succ]
      have TQ := (sT.trans TN).trans TP
      have QN := q_new Wp ⟨7, 0, sn, (m2 : Int)⟩ (base := w.heap.size) (Nat.le_trans HB.out TQ.size)
      have TA : Turn (fun _ => False) Wp (Wp.alloc (.cells [.int .i64 7, .int .i64 0, .string sn, .int .i64 (m2 : Int), .int .i64 0].toArray 45)) := (Turn.refl _ Wp).alloc _
      have RA := RP.turn (TA.more (fun _ _ f => f.elim))
      have OKC : QcOk N ⟨7, 0, sn, (m2 : Int)⟩ := .inr (.inl ⟨rfl, ⟨List.mem_of_getElem? hsn, rfl⟩, Int.natCast_nonneg m2, by show (m2 : Int) < 4; omega⟩)
      clear hsn hsn2
      refine wpAnyH_ready (rs := [10]) (by kernel_rfl) (by simp) ?_
      refine AllReadyH.cons (o := { dst := some 23, op := Op.buildSlice 39 1 #[(0, Operand.tmp 22)], type := 39, pos := "ref.go:460", after := #[{ on := 9, ground := Ground.data }], guard := none }) rfl (fun K hK => ?_) AllReadyH.nil
      go_simp
      refine hK.out _ _ ?hs10 (fun hS10 => ?_)
      case hs10 => exact FF.out _ (TQ.alloc _)
      clear hK K hS8
      refine wpAnyH_take (i := 11) (oi := { dst := some 7, op := Op.assign (Operand.tmp 23), type := 39, pos := "ref.go:460", after := #[{ on := 10, ground := Ground.data }, { on := 8, ground := Ground.chain }, { on := 0, ground := Ground.phase }, { on := 1, ground := Ground.phase }, { on := 2, ground := Ground.phase }, { on := 3, ground := Ground.phase }, { on := 4, ground := Ground.phase }, { on := 5, ground := Ground.phase }, { on := 6, ground := Ground.phase }, { on := 7, ground := Ground.phase }, { on := 8, ground := Ground.phase }, { on := 9, ground := Ground.phase }, { on := 10, ground := Ground.phase }], guard := none }) (v := ?_) rfl (by kernel_rfl) (by kernel_rfl) (by kernel_rfl) (fun _ _ _ h => h) (Or.inl ⟨by rfl, ?hy11⟩) hS10 ?_
      case hy11 => (intro w hSw; (try dsimp only at hSw); go_simp; try with_reducible rfl)
      try simp only [Act.put, List.setIfInBounds_toArray, List.set_cons_zero, List.set_cons_succ]
      refine wpAnyH_done (by kernel_rfl) ?_ _
      have DONE := Lib.hid (show CSt w rb N 1 _ _ from ⟨[⟨7, 0, sn, (m2 : Int)⟩], QN, Nat.le_refl _, rfl, fun c hc => by simp at hc; rw [hc]; exact OKC, RA, T1.trans (TQ.trans (TA.more (fun _ _ f => f.elim)))⟩)
      clear QN RA OKC TA TQ sD sT FF
      go_wp2_with fail
      go_meet
      case rel => exact DONE.out
  case rest =>
  rename World => Wc
  obtain ⟨l0, ho0, hl0, hd0, hok0, R0, T0⟩ := hcut
  obtain ⟨a0, c0, rfl, -⟩ := own_slice ho0
  have C0 : CRel w rb N steps steps (.slice a0 l0.length c0) (.int .i64 0) Wc := ⟨0, rfl, Nat.zero_le _, rfl, l0, ho0, hl0, hd0, hok0, R0, T0⟩
  clear HB NR R1 T1 ho0 hl0 hd0 hok0 R0 T0
  go_wp2_with fail
  go_loopg [7, 8, 9, 10] steps (fun gh v7 v8 v9 v10 wr => CRel w rb N steps gh v7 v8 wr)
  case atStart => exact C0
  case round =>
    clear C0
    obtain ⟨k, rfl, hk, hg, l, ho, hl, hd, hok, R, T⟩ := hrel
    rename World => wr
    obtain ⟨a7, c7, rfl, ha7⟩ := own_slice ho
    have FIN := Lib.hid (show ∀ U, RwAt U rb → Turn (fun q => q = rb) wr U → CSt w rb N (1 + 2 * steps) (.slice a7 l.length c7) U from fun U RU TU => ⟨l, own_turn ho TU (fun q hq e => by have := (ho.lt q hq).1; have := HB0.out; omega), by omega, hd, hok, RU, T.trans TU⟩)
    by_cases hks : k < steps
    · have u1 : decide ((k : Int) < (steps : Int)) = true := decide_eq_true (Int.ofNat_lt.2 hks)
      have u2 : decide (k < steps) = true := decide_eq_true hks
      have ek : wrap64 ((k : Int) + 1) = (k : Int) + 1 := wrapR hks (Nat.le_trans hs (by decide))
      have NEXT := Lib.hid (show ∀ (W : World), Turn (fun q => q = rb) wr W → RwAt W rb → ∀ (l' : List Qc) (V2 : World) (v2 : Value), Turn (fun q => w.heap.size ≤ q) W V2 → V2.ownsRow w.heap.size 45 5 v2 l'.length (qcells l') → l'.length ≤ l.length + 2 → depQ l' 0 = some 1 → (∀ c ∈ l', QcOk N c) → CRel w rb N steps (steps - (k + 1)) v2 (.int .i64 ((k : Int) + 1)) V2 from fun W T1 RW l' V2 v2 TZ O3 hl3 hd3 hok3 => ⟨k + 1, congrArg (Value.int .i64) (Int.natCast_succ k).symm, hks, rfl, cst_next HB0.out T T1 RW TZ O3 (by omega) hd3 hok3⟩)
      have HO := Lib.hid (And.intro ho T)
      have HD := Lib.hid hd
      have HOK := Lib.hid hok
      have HLB := Lib.hid (show l.length ≤ 40 by omega)
      have HL := Lib.hid (show 1 ≤ l.length by
        rcases Nat.eq_zero_or_pos l.length with hz | hp
        · have := List.eq_nil_of_length_eq_zero hz
          rw [this] at hd
          simp [depQ] at hd
        · exact hp)
      have G := Lib.hid (And.intro hg hks)
      clear ho hd hok hl hk hg hks T
      go_wp2_with fail
      with_reducible refine (next_x R (x := 3) (n := 3) rfl (by decide) (by decide)).mono ?_
      rintro en W3 ⟨m3, rfl, hm3, R3, T3⟩
      obtain ⟨b3, hb3⟩ : ∃ b, b = decide (m3 = 0) := ⟨_, rfl⟩
      have t3 : ((m3 : Int) == 0) = b3 := by rw [hb3]; by_cases z : m3 = 0 <;> simp [z]
      clear hb3
      cases b3 with
      | false =>
        have DONE := Lib.hid (FIN.out _ R3 T3)
        clear R3 T3
        go_wp2_with fail
        go_ret
        exact ⟨_, rfl, DONE.out⟩
      | true =>
        clear FIN
        go_wp2_with fail
        with_reducible refine (next_x R3 (x := 5) (n := 5) rfl (by decide) (by decide)).mono ?_
        rintro en W5 ⟨m5, rfl, hm5, R5, T5⟩
        obtain ⟨b5, hb5⟩ : ∃ b, b = decide (m5 = 0) := ⟨_, rfl⟩
        have t5 : ((m5 : Int) == 0) = b5 := by rw [hb5]; by_cases z : m5 = 0 <;> simp [z]
        clear hb5
        cases b5 with
        | true =>
          have T35 := T3.trans T5
          have O5 := own_turn HO.out.1 T35 (fun q hq e => by have := (HO.out.1.lt q hq).1; have := HB0.out; omega)
          have TA : Turn (fun _ => False) W5 (W5.alloc (.cells #[.int .i64 9, .int .i64 0, .string ⟨#[]⟩, .int .i64 0, .int .i64 0] 45)) := (Turn.refl _ W5).alloc _
          have RX := range_new W5 (qcells [⟨9, 0, ⟨#[]⟩, 0⟩]) 45
          obtain ⟨v2, V2, RUNh, O2, T2, -⟩ := app_q (l := [⟨9, 0, ⟨#[]⟩, 0⟩]) (c := 1) (own_turn O5 TA (fun _ _ f => f)) (Nat.le_trans (Nat.le_trans HO.out.2.size T35.size) TA.size) (show l.length ≤ 1000 ∧ 1 ≤ 1000 by have := HLB.out; omega) rfl RX
          have O3 : V2.ownsRow w.heap.size 45 5 v2 (l ++ [⟨9, 0, ⟨#[]⟩, 0⟩] : List Qc).length (qcells (l ++ [⟨9, 0, ⟨#[]⟩, 0⟩])) := by
            rw [qcells_app, List.length_append]
            exact O2
          have ST := Lib.hid (NEXT.out W5 T35 R5 (l ++ [⟨9, 0, ⟨#[]⟩, 0⟩]) V2 v2 ((TA.more (fun _ _ f => f.elim)).trans (T2.more (fun q _ h => (O5.lt q h).1))) O3 (by simp) (dep_neg HD.out) (fun c hc => by
            simp only [List.mem_append, List.mem_singleton] at hc
            rcases hc with hc | hc
            · exact HOK.out c hc
            · rw [hc]; exact .inr (.inr ⟨.inr rfl, rfl, rfl, rfl⟩)))
          have RUN := Lib.hid RUNh
          clear RUNh O2 O3 T2 TA RX O5 T35 R3 T3 R5 T5
          go_wp2_with (refine rl_append_run (by rfl) _ _ _ (by rfl) (by rfl) (by rfl) RUN.out ?_)
          go_roundg (steps - (k + 1))
          case measure => have := G.out.1; have := G.out.2; omega
          case rel => first | exact ST.out | (rw [ek]; exact ST.out)
        | false =>
          go_wp2_with fail
          with_reducible refine (next_x R5 (x := 4) (n := 4) rfl (by decide) (by decide)).mono ?_
          rintro en W6 ⟨m6, rfl, hm6, R6, T6⟩
          have Q6 := q_new W6 ⟨6, (m6 : Int), ⟨#[]⟩, 0⟩ (base := wr.heap.size) (Nat.le_trans T3.size (Nat.le_trans T5.size T6.size))
          obtain ⟨W7, hW7⟩ : ∃ W7, W7 = W6.alloc (.cells #[.int .i64 6, .int .i64 (m6 : Int), .string ⟨#[]⟩, .int .i64 0, .int .i64 0] 45) := ⟨_, rfl⟩
          have T7 : Turn (fun _ => False) W6 W7 := by rw [hW7]; exact (Turn.refl _ W6).alloc _
          have Q6 : W7.ownsRow wr.heap.size 45 5 (.slice (some ⟨W6.heap.size, 0, none⟩) 1 1) 1 (qcells [⟨6, (m6 : Int), ⟨#[]⟩, 0⟩]) := by rw [hW7]; exact Q6
          have R7 := R6.turn (T7.more (fun _ _ f => f.elim))
          have T37 := (T3.trans (T5.trans T6)).trans (T7.more (fun q _ (f : False) => f.elim))
          have HW7 := Lib.hid hW7
          clear hW7 R3 R5 R6
          go_upto_region 12 with fail
          rw [← HW7.out]
          clear HW7
          generalize W6.heap.size = gg at *
          go_wp2_with fail
          with_reducible refine (next_x R7 (x := 2) (n := 2) rfl (by decide) (by decide)).mono ?_
          rintro en W8 ⟨m8, rfl, hm8, R8, T8⟩
          have T38 := T37.trans T8
          have HRB := Lib.hid (show ∀ (q : Nat), wr.heap.size ≤ q → q ≠ rb from fun q h e => by have := HB0.out; have := HO.out.2.size; omega)
          have Q8 := own_turn Q6 T8 (fun q hq e => HRB.out q (Q6.lt q hq).1 e)
          clear Q6 T7 T37 T3 T5 T6
          have HB := Lib.hid (show w.heap.size ≤ W8.heap.size from Nat.le_trans HO.out.2.size T38.size)
          have NR := Lib.hid (show W8.rangeAt nb no (N.map .string) ∧ ¬ (nb = rb) from ⟨range_turn NR0.out.1 (HO.out.2.trans T38) NR0.out.2, NR0.out.2⟩)
          obtain ⟨b8, hb8⟩ : ∃ b, b = decide (m8 = 0) := ⟨_, rfl⟩
          have t8 : ((m8 : Int) == 0) = b8 := by rw [hb8]; by_cases z : m8 = 0 <;> simp [z]
          clear hb8
          go_upto_if 53 with fail
          go_cut [9] from 54 to 65 (fun v9 wx => RSt wr rb N v9 wx)
          case first =>
            cases b8 with
            | false =>
              have DONE := Lib.hid (show RSt wr rb N _ _ from ⟨(⟨6, (m6 : Int), ⟨#[]⟩, 0⟩ : Qc), Q8, .inl ⟨rfl, ⟨Int.natCast_nonneg m6, by show (m6 : Int) < 7; omega, rfl⟩, rfl⟩, rfl, R8, T38⟩)
              clear Q8 R8 T38
              go_wp2_with fail
              go_meet
              case rel => exact DONE.out
            | true =>
              clear Q8
              go_upto_region 13 with fail
              have FF := Lib.hid (show ∀ U, Turn (fun q => q = rb) W8 U → U.rangeAt nb no (N.map .string) ∧ Turn (fun q => q = rb) W8 U from fun U TU => ⟨range_turn NR.out.1 TU NR.out.2, TU⟩)
              have sT : Turn (fun q => q = rb) W8 W8.drew := (Turn.refl _ W8).drewN 1
              have RD : RwAt W8.drew rb := R8.turn ((Turn.refl _ W8).drewN 1)
              have sD := FF.out _ sT
              refine wp_region_held_drew (S := fun w' => w'.rangeAt nb no (N.map .string) ∧ Turn (fun q => q = rb) W8 w') (by kernel_rfl) ?hs0 (fun hS0 => ?_)
              case hs0 => exact sD
              generalize W8.drew = DD at *
              refine wpAnyH_take (i := 0) (oi := { dst := some 54, op := Op.move (Operand.tmp 1), type := 41, pos := "ref.go:469", after := #[], guard := none }) (v := ?_) rfl (by kernel_rfl) (by kernel_rfl) (by kernel_rfl) (fun _ _ _ h => h) (Or.inl ⟨by rfl, ?hy1⟩) hS0 ?_
              case hy1 => (intro w hSw; (try dsimp only at hSw); go_simp; try with_reducible rfl)
              try simp only [Act.put, List.setIfInBounds_toArray, List.set_cons_zero, List.set_cons_succ]
              refine wpAnyH_take (i := 1) (oi := { dst := some 55, op := Op.move (Operand.tmp 0), type := 36, pos := "ref.go:469", after := #[], guard := none }) (v := ?_) rfl (by kernel_rfl) (by kernel_rfl) (by kernel_rfl) (fun _ _ _ h => h) (Or.inl ⟨by rfl, ?hy2⟩) hS0 ?_
              case hy2 => (intro w hSw; (try dsimp only at hSw); go_simp; try with_reducible rfl)
              try simp only [Act.put, List.setIfInBounds_toArray, List.set_cons_zero, List.set_cons_succ]
              refine wpAnyH_take (i := 2) (oi := { dst := some 56, op := Op.move (Operand.tmp 1), type := 41, pos := "ref.go:469", after := #[], guard := none }) (v := ?_) rfl (by kernel_rfl) (by kernel_rfl) (by kernel_rfl) (fun _ _ _ h => h) (Or.inl ⟨by rfl, ?hy3⟩) hS0 ?_
              case hy3 => (intro w hSw; (try dsimp only at hSw); go_simp; try with_reducible rfl)
              try simp only [Act.put, List.setIfInBounds_toArray, List.set_cons_zero, List.set_cons_succ]
              refine wpAnyH_take (i := 3) (oi := { dst := some 57, op := Op.call { callee := Callee.builtin Builtin.len, args := #[Operand.tmp 56], argTypes := #[41] }, type := 3, pos := "ref.go:469", after := #[{ on := 2, ground := Ground.data }], guard := none }) (v := ?_) rfl (by kernel_rfl) (by kernel_rfl) (by kernel_rfl) (fun _ _ _ h => h) (Or.inl ⟨by rfl, ?hy4⟩) hS0 ?_
              case hy4 => (intro w hSw; (try dsimp only at hSw); go_simp; try with_reducible rfl)
              try simp only [Act.put, List.setIfInBounds_toArray, List.set_cons_zero, List.set_cons_succ]
              refine wpAnyH_take (i := 7) (oi := { dst := some 61, op := Op.move (Operand.tmp 0), type := 36, pos := "ref.go:469", after := #[], guard := none }) (v := ?_) rfl (by kernel_rfl) (by kernel_rfl) (by kernel_rfl) (fun _ _ _ h => h) (Or.inl ⟨by rfl, ?hy5⟩) hS0 ?_
              case hy5 => (intro w hSw; (try dsimp only at hSw); go_simp; try with_reducible rfl)
              try simp only [Act.put, List.setIfInBounds_toArray, List.set_cons_zero, List.set_cons_succ]
              refine wpAnyH_ready (rs := [4]) (by kernel_rfl) (by simp) ?_
              refine AllReadyH.cons (o := { dst := some 58, op := Op.call { callee := Callee.value (Operand.func 22), args := #[Operand.tmp 55, Operand.tmp 57], argTypes := #[36, 3] }, type := 3, pos := "ref.go:469", after := #[{ on := 1, ground := Ground.data }, { on := 3, ground := Ground.data }], guard := none }) rfl (fun K hK => ?_) AllReadyH.nil
              go_simp
              with_reducible refine (next_is RD (n := N.length) hN.1 (Nat.le_trans hN.2 (by decide))).mono ?_
              rintro en Wn ⟨m1, rfl, hm1, RN, TN⟩
              go_simp
              refine hK.out _ _ ?hs6 (fun hS6 => ?_)
              case hs6 => exact FF.out _ (sT.trans TN)
              clear hK K hS0
              obtain ⟨sn, hsn⟩ : ∃ s, N[m1]? = some s := ⟨_, List.getElem?_eq_getElem hm1⟩
              have hsn2 : (N.map Value.string)[m1]? = some (.string sn) := by rw [List.getElem?_map, hsn]; rfl
              have j0 : (0 : Int) ≤ (m1 : Int) := Int.natCast_nonneg m1
              have j1 : (m1 : Int) < (N.length : Int) := Int.ofNat_lt.2 hm1
              refine wpAnyH_take (i := 5) (oi := { dst := some 59, op := Op.indexAddr 41 (Operand.tmp 54) (Operand.tmp 58), type := 0, pos := "ref.go:469", after := #[{ on := 0, ground := Ground.data }, { on := 4, ground := Ground.data }], guard := none }) (v := ?_) rfl (by kernel_rfl) (by kernel_rfl) (by kernel_rfl) (fun _ _ _ h => h) (Or.inl ⟨by rfl, ?hy7⟩) hS6 ?_
              case hy7 => (intro w hSw; (try dsimp only at hSw); go_simp; try with_reducible rfl)
              try simp only [Act.put, List.setIfInBounds_toArray, List.set_cons_zero, List.set_cons_succ]
              refine wpAnyH_take (i := 6) (oi := { dst := some 60, op := Op.load 9 (Operand.tmp 59), type := 9, pos := "ref.go:469", after := #[{ on := 5, ground := Ground.data }], guard := none }) (v := .string sn) rfl (by kernel_rfl) (by kernel_rfl) (by kernel_rfl) (fun _ _ _ h => h) (Or.inl ⟨by rfl, ?hyl⟩) hS6 ?_
              case hyl =>
                intro w hSw
                have hc := hSw.1 m1 _ hsn2
                clear hSw
                go_simp
                try with_reducible rfl
              try simp only [Act.put, List.setIfInBounds_toArray, List.set_cons_zero, List.set_cons_succ]
              refine wpAnyH_ready (rs := [8]) (by kernel_rfl) (by simp) ?_
              refine AllReadyH.cons (o := { dst := some 62, op := Op.call { callee := Callee.value (Operand.func 22), args := #[Operand.tmp 61, Operand.const (Value.int IntKind.i64 2)], argTypes := #[36, 3] }, type := 3, pos := "ref.go:469", after := #[{ on := 7, ground := Ground.data }, { on := 4, ground := Ground.chain }], guard := none }) rfl (fun K hK => ?_) AllReadyH.nil
              go_simp
              with_reducible refine (next_x RN (x := 2) (n := 2) rfl (by decide) (by decide)).mono ?_
              rintro en Wp ⟨m2, rfl, hm2, RP, TP⟩
              go_simp
              refine hK.out _ _ ?hs8 (fun hS8 => ?_)
              case hs8 => exact FF.out _ ((sT.trans TN).trans TP)
              clear hK K hS6
              refine wpAnyH_take (i := 9) (oi := { dst := some 63, op := Op.build 45 #[(0, Operand.const (Value.int IntKind.i64 7)), (2, Operand.tmp 60), (3, Operand.tmp 62)], type := 45, pos := "ref.go:469", after := #[{ on := 6, ground := Ground.data }, { on := 8, ground := Ground.data }], guard := none }) (v := ?_) rfl (by kernel_rfl) (by kernel_rfl) (by kernel_rfl) (fun _ _ _ h => h) (Or.inl ⟨by rfl, ?hy9⟩) hS8 ?_
              case hy9 => (intro w hSw; (try dsimp only at hSw); go_simp; try with_reducible rfl)
              try simp only [Act.put, List.setIfInBounds_toArray, List.set_cons_zero, List.set_cons_succ]
              have TQ := (sT.trans TN).trans TP
              have QN := q_new Wp ⟨7, 0, sn, (m2 : Int)⟩ (base := w.heap.size) (Nat.le_trans HB.out TQ.size)
              have QN9 := q_new Wp ⟨7, 0, sn, (m2 : Int)⟩ (base := wr.heap.size) (Nat.le_trans T38.size TQ.size)
              have TA : Turn (fun _ => False) Wp (Wp.alloc (.cells [.int .i64 7, .int .i64 0, .string sn, .int .i64 (m2 : Int), .int .i64 0].toArray 45)) := (Turn.refl _ Wp).alloc _
              have RA := RP.turn (TA.more (fun _ _ f => f.elim))
              have OKC : QcOk N ⟨7, 0, sn, (m2 : Int)⟩ := .inr (.inl ⟨rfl, ⟨List.mem_of_getElem? hsn, rfl⟩, Int.natCast_nonneg m2, by show (m2 : Int) < 4; omega⟩)
              clear hsn hsn2
              refine wpAnyH_ready (rs := [10]) (by kernel_rfl) (by simp) ?_
              refine AllReadyH.cons (o := { dst := some 64, op := Op.buildSlice 39 1 #[(0, Operand.tmp 63)], type := 39, pos := "ref.go:469", after := #[{ on := 9, ground := Ground.data }], guard := none }) rfl (fun K hK => ?_) AllReadyH.nil
              go_simp
              refine hK.out _ _ ?hs10 (fun hS10 => ?_)
              case hs10 => exact FF.out _ (TQ.alloc _)
              clear hK K hS8
              refine wpAnyH_take (i := 11) (oi := { dst := some 9, op := Op.assign (Operand.tmp 64), type := 39, pos := "ref.go:469", after := #[{ on := 10, ground := Ground.data }, { on := 8, ground := Ground.chain }, { on := 0, ground := Ground.phase }, { on := 1, ground := Ground.phase }, { on := 2, ground := Ground.phase }, { on := 3, ground := Ground.phase }, { on := 4, ground := Ground.phase }, { on := 5, ground := Ground.phase }, { on := 6, ground := Ground.phase }, { on := 7, ground := Ground.phase }, { on := 8, ground := Ground.phase }, { on := 9, ground := Ground.phase }, { on := 10, ground := Ground.phase }], guard := none }) (v := ?_) rfl (by kernel_rfl) (by kernel_rfl) (by kernel_rfl) (fun _ _ _ h => h) (Or.inl ⟨by rfl, ?hy11⟩) hS10 ?_
              case hy11 => (intro w hSw; (try dsimp only at hSw); go_simp; try with_reducible rfl)
              try simp only [Act.put, List.setIfInBounds_toArray, List.set_cons_zero, List.set_cons_succ]
              refine wpAnyH_done (by kernel_rfl) ?_ _
              have DONE := Lib.hid (show RSt wr rb N _ _ from ⟨(⟨7, 0, sn, (m2 : Int)⟩ : Qc), QN9, OKC, rfl, RA, T38.trans (TQ.trans (TA.more (fun _ _ f => f.elim)))⟩)
              clear QN QN9 RA OKC TA TQ sD sT FF
              go_wp2_with fail
              go_meet
              case rel => exact DONE.out
          case rest =>
          obtain ⟨r, Q8, hrk, hdr, R8, T38⟩ := hcut
          rename World => Wy
          have HRK := Lib.hid hrk
          have HDR := Lib.hid hdr
          obtain ⟨a9, c9, rfl, ha9⟩ := own_slice Q8
          obtain ⟨g9, rfl⟩ := ha9 (by decide)
          clear hrk hdr ha9 NR HB
          go_wp2_with fail
          with_reducible refine (next_x R8 (x := 5) (n := 5) rfl (by decide) (by decide)).mono ?_
          rintro en W9 ⟨m9, rfl, hm9, R9, T9⟩
          have HOP := Lib.hid (opBds hm9)
          have E9 := Lib.hid (wrapQ5 hm9)
          obtain ⟨xb, hxb⟩ : ∃ xb, xb = W9.heap.size := ⟨_, rfl⟩
          obtain ⟨WA, hWA⟩ : ∃ WA, WA = W9.alloc (.cells #[.int .i64 ((m9 : Int) + 1), .int .i64 0, .string ⟨#[]⟩, .int .i64 0, .int .i64 0] 45) := ⟨_, rfl⟩
          have TA : Turn (fun _ => False) W9 WA := by rw [hWA]; exact (Turn.refl _ W9).alloc _
          have XR : WA.rangeAt xb 0 [.int .i64 ((m9 : Int) + 1), .int .i64 0, .string ⟨#[]⟩, .int .i64 0, .int .i64 0] := by rw [hWA, hxb]; exact range_new W9 [.int .i64 ((m9 : Int) + 1), .int .i64 0, .string ⟨#[]⟩, .int .i64 0, .int .i64 0] 45
          have sA : WA.heap.size = xb + 1 := by rw [hWA, World.size_alloc, hxb]
          have RA := R9.turn (TA.more (fun _ _ f => f.elim))
          have HWA := Lib.hid hWA
          have HXB := Lib.hid hxb
          clear hWA hxb R8 R9
          have e9 := E9.out
          go_upto_region 15 with fail
          rw [← HWA.out, ← HXB.out]
          clear HWA e9 E9
          go_wp2_with fail
          with_reducible refine (next_x RA (x := 2) (n := 2) rfl (by decide) (by decide)).mono ?_
          rintro en W10 ⟨m10, rfl, hm10, R10, T10⟩
          have TX : Turn (fun q => q = rb) Wy W10 := T9.trans ((TA.more (fun q _ (f : False) => f.elim)).trans T10)
          have TW : Turn (fun q => q = rb) wr W10 := T38.trans TX
          have hxr : xb ≠ rb := fun e => by have := HB0.out; have := HO.out.2.size; have := T38.size; have := T9.size; have := HXB.out; omega
          have OL0 := Lib.hid (own_turn HO.out.1 TW (fun q hq e => by have := (HO.out.1.lt q hq).1; have := HB0.out; omega))
          have OR0 := Lib.hid (own_turn Q8 TX (fun q hq e => HRB.out q (Q8.lt q hq).1 e))
          have XR := Lib.hid (range_turn XR T10 hxr)
          have LTX0 := Lib.hid (show xb < W10.heap.size by have := T10.size; omega)
          have HBD0 := Lib.hid (show w.heap.size ≤ W10.heap.size from Nat.le_trans HO.out.2.size TW.size)
          have HWR := Lib.hid (show w.heap.size ≤ wr.heap.size from HO.out.2.size)
          have LT7 := Lib.hid (show ∀ q, (Value.slice a7 l.length c7).ownBlock = some q → q < xb from fun q hq => by have := (HO.out.1.lt q hq).2; have := T38.size; have := T9.size; have := HXB.out; omega)
          have LT9 := Lib.hid (show ∀ q, (Value.slice (some ⟨g9, 0, none⟩) 1 c9).ownBlock = some q → q < xb from fun q hq => by have := (Q8.lt q hq).2; have := T9.size; have := HXB.out; omega)
          have NEXT := Lib.hid (NEXT.out W10 TW R10)
          obtain ⟨b10, hb10⟩ : ∃ b, b = decide (m10 = 0) := ⟨_, rfl⟩
          have t10 : ((m10 : Int) == 0) = b10 := by rw [hb10]; by_cases z : m10 = 0 <;> simp [z]
          clear hb10 T9 TA T10 TX TW Q8 T38 RA R10 sA hxr
          cases b10 with
          | true =>
            have FF := Lib.hid (show ∀ U, Turn (fun q => ¬ q = xb) W10 U → U.rangeAt xb 0 [.int .i64 ((m9 : Int) + 1), .int .i64 0, .string ⟨#[]⟩, .int .i64 0, .int .i64 0] from fun U TU => range_turn XR.out TU (fun h => h rfl))
            have sT : Turn (fun q => ¬ q = xb) W10 W10.drew := (Turn.refl _ W10).drewN 1
            have sTw : Turn (fun q => w.heap.size ≤ q) W10 W10.drew := (Turn.refl _ W10).drewN 1
            have sD := FF.out _ sT
            have OL : W10.drew.ownsRow w.heap.size 45 5 (.slice a7 l.length c7) l.length (qcells l) := OL0.out
            have OR : W10.drew.ownsRow wr.heap.size 45 5 (.slice (some ⟨g9, 0, none⟩) 1 c9) 1 (qcells [r]) := OR0.out
            have LTX := Lib.hid (show xb < W10.drew.heap.size from LTX0.out)
            have HBD := Lib.hid (show w.heap.size ≤ W10.drew.heap.size from HBD0.out)
            obtain ⟨g7, rfl⟩ := ha7 (by have := HL.out; omega)
            have RR := q_range OR
            have LTA := Lib.hid LT7.out
            have HN5 := Lib.hid (show l.length ≤ 1000 ∧ 1 ≤ 1000 by have := HLB.out; omega)
            have HN6 := Lib.hid (show l.length + 1 ≤ 1000 ∧ 1 ≤ 1000 by have := HLB.out; omega)
            have STX := Lib.hid (show ∀ V2 v2, Turn (fun q => w.heap.size ≤ q) W10 V2 → V2.ownsRow w.heap.size 45 5 v2 (l ++ [r] ++ [⟨((m9 : Int) + 1), 0, ⟨#[]⟩, 0⟩] : List Qc).length (qcells (l ++ [r] ++ [⟨((m9 : Int) + 1), 0, ⟨#[]⟩, 0⟩])) → CRel w rb N steps (steps - (k + 1)) v2 (.int .i64 ((k : Int) + 1)) V2 from fun V2 v2 TZ O3 => NEXT.out (l ++ [r] ++ [⟨((m9 : Int) + 1), 0, ⟨#[]⟩, 0⟩]) V2 v2 TZ O3 (by simp <;> omega) (dep_op HOP.out HD.out HDR.out) (fun c hc => by
              simp only [List.mem_append, List.mem_singleton] at hc
              rcases hc with (hc | hc) | hc
              · exact HOK.out c hc
              · rw [hc]; exact HRK.out
              · rw [hc]; exact .inr (.inr ⟨.inl HOP.out, rfl, rfl, rfl⟩)))
            go_upto_region 16 with fail
            refine wp_region_held_drew (S := fun w' => w'.rangeAt xb 0 [.int .i64 ((m9 : Int) + 1), .int .i64 0, .string ⟨#[]⟩, .int .i64 0, .int .i64 0]) (by kernel_rfl) ?hs0 (fun hS0 => ?_)
            case hs0 => exact sD
            generalize W10.drew = DD at *
            refine wpAnyH_take (i := 3) (oi := { dst := some 75, op := Op.load 45 (Operand.tmp 10), type := 45, pos := "ref.go:473", after := #[], guard := none }) (v := .agg #[.int .i64 ((m9 : Int) + 1), .int .i64 0, .string ⟨#[]⟩, .int .i64 0, .int .i64 0]) rfl (by kernel_rfl) (by kernel_rfl) (by kernel_rfl) (fun _ _ _ h => h) (yieldsIf_load_mid rfl 45 _ rfl xb 0 rfl [.int .i64 ((m9 : Int) + 1), .int .i64 0, .string ⟨#[]⟩, .int .i64 0, .int .i64 0] _ (fun _ hSw => hSw) Tryz.underlying45 rfl size65) hS0 ?_
            try simp only [Act.put, List.setIfInBounds_toArray, List.set_cons_zero, List.set_cons_succ]
            refine wpAnyH_take (i := 0) (oi := { dst := some 72, op := Op.move (Operand.tmp 7), type := 39, pos := "ref.go:473", after := #[], guard := none }) (v := ?_) rfl (by kernel_rfl) (by kernel_rfl) (by kernel_rfl) (fun _ _ _ h => h) (Or.inl ⟨by rfl, ?hy2⟩) hS0 ?_
            case hy2 => (intro w hSw; (try dsimp only at hSw); go_simp; try with_reducible rfl)
            try simp only [Act.put, List.setIfInBounds_toArray, List.set_cons_zero, List.set_cons_succ]
            refine wpAnyH_take (i := 1) (oi := { dst := some 73, op := Op.move (Operand.tmp 9), type := 39, pos := "ref.go:473", after := #[], guard := none }) (v := ?_) rfl (by kernel_rfl) (by kernel_rfl) (by kernel_rfl) (fun _ _ _ h => h) (Or.inl ⟨by rfl, ?hy3⟩) hS0 ?_
            case hy3 => (intro w hSw; (try dsimp only at hSw); go_simp; try with_reducible rfl)
            try simp only [Act.put, List.setIfInBounds_toArray, List.set_cons_zero, List.set_cons_succ]
            refine wpAnyH_ready (rs := [2, 4]) (by kernel_rfl) (by simp) ?_
            refine AllReadyH.cons (o := { dst := some 74, op := Op.call { callee := Callee.builtin Builtin.append, args := #[Operand.tmp 72, Operand.tmp 73], argTypes := #[39, 39] }, type := 39, pos := "ref.go:473", after := #[{ on := 0, ground := Ground.data }, { on := 1, ground := Ground.data }], guard := none }) rfl (fun K hK => ?_) ?_
            · skip
              obtain ⟨v1, V, RUNh, O1, T1, hob⟩ := app_q (l := [r]) OL HBD.out HN5.out rfl RR
              have TV : Turn (fun q => ¬ q = xb) DD V := T1.more (fun q _ h e => absurd (LTA.out q h) (by omega))
              have TVw : Turn (fun q => w.heap.size ≤ q) DD V := T1.more (fun q _ h => (OL.lt q h).1)
              have RUN1 := Lib.hid RUNh
              clear RUNh
              refine rs_append_run (by rfl) _ _ _ (by rfl) (by rfl) (by rfl) RUN1.out ?_
              refine hK.out _ _ ?hs4 (fun hS4 => ?_)
              case hs4 => exact FF.out _ (sT.trans TV)
              clear hK K hS0
              refine wpAnyH_ready (rs := [4]) (by kernel_rfl) (by simp) ?_
              refine AllReadyH.cons (o := { dst := some 76, op := Op.buildSlice 39 1 #[(0, Operand.tmp 75)], type := 39, pos := "ref.go:473", after := #[{ on := 3, ground := Ground.data }], guard := none }) rfl (fun K hK => ?_) AllReadyH.nil
              go_simp
              refine hK.out _ _ ?hs5 (fun hS5 => ?_)
              case hs5 => exact FF.out _ ((sT.trans TV).alloc _)
              clear hK K hS4
              have TA : Turn (fun _ => False) V (V.alloc (.cells #[.int .i64 ((m9 : Int) + 1), .int .i64 0, .string ⟨#[]⟩, .int .i64 0, .int .i64 0] 45)) := (Turn.refl _ V).alloc _
              have RX := range_new V [.int .i64 ((m9 : Int) + 1), .int .i64 0, .string ⟨#[]⟩, .int .i64 0, .int .i64 0] 45
              refine wpAnyH_ready (rs := [5]) (by kernel_rfl) (by simp) ?_
              refine AllReadyH.cons (o := { dst := some 77, op := Op.call { callee := Callee.builtin Builtin.append, args := #[Operand.tmp 74, Operand.tmp 76], argTypes := #[39, 39] }, type := 39, pos := "ref.go:473", after := #[{ on := 2, ground := Ground.data }, { on := 4, ground := Ground.data }, { on := 2, ground := Ground.chain }], guard := none }) rfl (fun K hK => ?_) AllReadyH.nil
              obtain ⟨v2, V2, RUNh, O2, T2, -⟩ := app_q (l := [⟨((m9 : Int) + 1), 0, ⟨#[]⟩, 0⟩]) (c := 1) (own_turn O1 TA (fun _ _ f => f)) (Nat.le_trans HBD.out (Nat.le_trans TVw.size TA.size)) HN6.out rfl RX
              have TZ : Turn (fun q => w.heap.size ≤ q) W10 V2 := (sTw.trans TVw).trans ((TA.more (fun _ _ f => f.elim)).trans (T2.more (fun q _ h => (O1.lt q h).1)))
              have TS : Turn (fun q => ¬ q = xb) W10 V2 := (sT.trans TV).trans ((TA.more (fun _ _ f => f.elim)).trans (T2.more (fun q _ h e => by
                rcases hob with ho1 | ho1
                · exact absurd (LTA.out q (ho1 ▸ h)) (by omega)
                · rw [ho1] at h; injection h with h; have := LTX.out; omega)))
              have RUN2 := Lib.hid RUNh
              clear RUNh
              refine rs_append_run (by rfl) _ _ _ (by rfl) (by rfl) (by rfl) RUN2.out ?_
              refine hK.out _ _ ?hs6 (fun hS6 => ?_)
              case hs6 => exact FF.out _ TS
              clear hK K hS5
              refine wpAnyH_take (i := 6) (oi := { dst := some 7, op := Op.assign (Operand.tmp 77), type := 39, pos := "ref.go:473", after := #[{ on := 5, ground := Ground.data }, { on := 5, ground := Ground.chain }, { on := 0, ground := Ground.phase }, { on := 1, ground := Ground.phase }, { on := 2, ground := Ground.phase }, { on := 3, ground := Ground.phase }, { on := 4, ground := Ground.phase }, { on := 5, ground := Ground.phase }], guard := none }) (v := ?_) rfl (by kernel_rfl) (by kernel_rfl) (by kernel_rfl) (fun _ _ _ h => h) (Or.inl ⟨by rfl, ?hy7⟩) hS6 ?_
              case hy7 => (intro w hSw; (try dsimp only at hSw); go_simp; try with_reducible rfl)
              try simp only [Act.put, List.setIfInBounds_toArray, List.set_cons_zero, List.set_cons_succ]
              refine wpAnyH_done (by kernel_rfl) ?_ _
              have O3 : V2.ownsRow w.heap.size 45 5 v2 (l ++ [r] ++ [⟨((m9 : Int) + 1), 0, ⟨#[]⟩, 0⟩] : List Qc).length (qcells (l ++ [r] ++ [⟨((m9 : Int) + 1), 0, ⟨#[]⟩, 0⟩])) := by
                rw [qcells_app, qcells_app, List.length_append, List.length_append]
                exact O2
              have ST := Lib.hid (STX.out V2 v2 TZ O3)
              clear O2 O3 T2 TZ
              go_wp2_with fail
              go_roundg (steps - (k + 1))
              case measure => have := G.out.1; have := G.out.2; omega
              case rel => first | exact ST.out | (rw [ek]; exact ST.out)
            refine AllReadyH.cons (o := { dst := some 76, op := Op.buildSlice 39 1 #[(0, Operand.tmp 75)], type := 39, pos := "ref.go:473", after := #[{ on := 3, ground := Ground.data }], guard := none }) rfl (fun K hK => ?_) ?_
            · skip
              go_simp
              refine hK.out _ _ ?hs8 (fun hS8 => ?_)
              case hs8 => exact FF.out _ (sT.alloc _)
              clear hK K hS0
              have TA : Turn (fun _ => False) DD (DD.alloc (.cells #[.int .i64 ((m9 : Int) + 1), .int .i64 0, .string ⟨#[]⟩, .int .i64 0, .int .i64 0] 45)) := (Turn.refl _ DD).alloc _
              have RX := range_new DD [.int .i64 ((m9 : Int) + 1), .int .i64 0, .string ⟨#[]⟩, .int .i64 0, .int .i64 0] 45
              have OA4 := own_turn OL TA (fun _ _ f => f)
              have RB4 := range_turn RR TA id
              refine wpAnyH_ready (rs := [2]) (by kernel_rfl) (by simp) ?_
              refine AllReadyH.cons (o := { dst := some 74, op := Op.call { callee := Callee.builtin Builtin.append, args := #[Operand.tmp 72, Operand.tmp 73], argTypes := #[39, 39] }, type := 39, pos := "ref.go:473", after := #[{ on := 0, ground := Ground.data }, { on := 1, ground := Ground.data }], guard := none }) rfl (fun K hK => ?_) AllReadyH.nil
              obtain ⟨v1, V, RUNh, O1, T1, hob⟩ := app_q (l := [r]) OA4 (Nat.le_trans HBD.out TA.size) HN5.out rfl RB4
              have TV : Turn (fun q => ¬ q = xb) DD V := (TA.more (fun _ _ f => f.elim)).trans (T1.more (fun q _ h e => absurd (LTA.out q h) (by omega)))
              have TVw : Turn (fun q => w.heap.size ≤ q) DD V := (TA.more (fun _ _ f => f.elim)).trans (T1.more (fun q _ h => (OA4.lt q h).1))
              have RX := range_turn RX T1 (fun h => absurd (LTA.out _ h) (by have := LTX.out; omega))
              have RUN1 := Lib.hid RUNh
              clear RUNh
              refine rs_append_run (by rfl) _ _ _ (by rfl) (by rfl) (by rfl) RUN1.out ?_
              refine hK.out _ _ ?hs9 (fun hS9 => ?_)
              case hs9 => exact FF.out _ (sT.trans TV)
              clear hK K hS8
              refine wpAnyH_ready (rs := [5]) (by kernel_rfl) (by simp) ?_
              refine AllReadyH.cons (o := { dst := some 77, op := Op.call { callee := Callee.builtin Builtin.append, args := #[Operand.tmp 74, Operand.tmp 76], argTypes := #[39, 39] }, type := 39, pos := "ref.go:473", after := #[{ on := 2, ground := Ground.data }, { on := 4, ground := Ground.data }, { on := 2, ground := Ground.chain }], guard := none }) rfl (fun K hK => ?_) AllReadyH.nil
              obtain ⟨v2, V2, RUNh, O2, T2, -⟩ := app_q (l := [⟨((m9 : Int) + 1), 0, ⟨#[]⟩, 0⟩]) (c := 1) O1 (Nat.le_trans HBD.out TVw.size) HN6.out rfl RX
              have TZ : Turn (fun q => w.heap.size ≤ q) W10 V2 := (sTw.trans TVw).trans (T2.more (fun q _ h => (O1.lt q h).1))
              have TS : Turn (fun q => ¬ q = xb) W10 V2 := (sT.trans TV).trans (T2.more (fun q _ h e => by
                rcases hob with ho1 | ho1
                · exact absurd (LTA.out q (ho1 ▸ h)) (by omega)
                · rw [ho1, World.size_alloc] at h; injection h with h; have := LTX.out; omega))
              have RUN2 := Lib.hid RUNh
              clear RUNh
              refine rs_append_run (by rfl) _ _ _ (by rfl) (by rfl) (by rfl) RUN2.out ?_
              refine hK.out _ _ ?hs10 (fun hS10 => ?_)
              case hs10 => exact FF.out _ TS
              clear hK K hS9
              refine wpAnyH_take (i := 6) (oi := { dst := some 7, op := Op.assign (Operand.tmp 77), type := 39, pos := "ref.go:473", after := #[{ on := 5, ground := Ground.data }, { on := 5, ground := Ground.chain }, { on := 0, ground := Ground.phase }, { on := 1, ground := Ground.phase }, { on := 2, ground := Ground.phase }, { on := 3, ground := Ground.phase }, { on := 4, ground := Ground.phase }, { on := 5, ground := Ground.phase }], guard := none }) (v := ?_) rfl (by kernel_rfl) (by kernel_rfl) (by kernel_rfl) (fun _ _ _ h => h) (Or.inl ⟨by rfl, ?hy11⟩) hS10 ?_
              case hy11 => (intro w hSw; (try dsimp only at hSw); go_simp; try with_reducible rfl)
              try simp only [Act.put, List.setIfInBounds_toArray, List.set_cons_zero, List.set_cons_succ]
              refine wpAnyH_done (by kernel_rfl) ?_ _
              have O3 : V2.ownsRow w.heap.size 45 5 v2 (l ++ [r] ++ [⟨((m9 : Int) + 1), 0, ⟨#[]⟩, 0⟩] : List Qc).length (qcells (l ++ [r] ++ [⟨((m9 : Int) + 1), 0, ⟨#[]⟩, 0⟩])) := by
                rw [qcells_app, qcells_app, List.length_append, List.length_append]
                exact O2
              have ST := Lib.hid (STX.out V2 v2 TZ O3)
              clear O2 O3 T2 TZ
              go_wp2_with fail
              go_roundg (steps - (k + 1))
              case measure => have := G.out.1; have := G.out.2; omega
              case rel => first | exact ST.out | (rw [ek]; exact ST.out)
            exact AllReadyH.nil
          | false =>
            have FF := Lib.hid (show ∀ U, Turn (fun q => ¬ q = xb) W10 U → U.rangeAt xb 0 [.int .i64 ((m9 : Int) + 1), .int .i64 0, .string ⟨#[]⟩, .int .i64 0, .int .i64 0] from fun U TU => range_turn XR.out TU (fun h => h rfl))
            have sT : Turn (fun q => ¬ q = xb) W10 W10.drew := (Turn.refl _ W10).drewN 1
            have sTw : Turn (fun q => w.heap.size ≤ q) W10 W10.drew := (Turn.refl _ W10).drewN 1
            have sD := FF.out _ sT
            have OL : W10.drew.ownsRow w.heap.size 45 5 (.slice a7 l.length c7) l.length (qcells l) := OL0.out
            have OR : W10.drew.ownsRow wr.heap.size 45 5 (.slice (some ⟨g9, 0, none⟩) 1 c9) 1 (qcells [r]) := OR0.out
            have LTX := Lib.hid (show xb < W10.drew.heap.size from LTX0.out)
            have HBD := Lib.hid (show w.heap.size ≤ W10.drew.heap.size from HBD0.out)
            obtain ⟨g7, rfl⟩ := ha7 (by have := HL.out; omega)
            have RR := q_range OL
            have OA := own_base2 OR (show w.heap.size ≤ wr.heap.size from HWR.out)
            have LTA := Lib.hid LT9.out
            have HN5 := Lib.hid (show 1 ≤ 1000 ∧ l.length ≤ 1000 by have := HLB.out; omega)
            have HN6 := Lib.hid (show 1 + l.length ≤ 1000 ∧ 1 ≤ 1000 by have := HLB.out; omega)
            have STX := Lib.hid (show ∀ V2 v2, Turn (fun q => w.heap.size ≤ q) W10 V2 → V2.ownsRow w.heap.size 45 5 v2 ([r] ++ l ++ [⟨((m9 : Int) + 1), 0, ⟨#[]⟩, 0⟩] : List Qc).length (qcells ([r] ++ l ++ [⟨((m9 : Int) + 1), 0, ⟨#[]⟩, 0⟩])) → CRel w rb N steps (steps - (k + 1)) v2 (.int .i64 ((k : Int) + 1)) V2 from fun V2 v2 TZ O3 => NEXT.out ([r] ++ l ++ [⟨((m9 : Int) + 1), 0, ⟨#[]⟩, 0⟩]) V2 v2 TZ O3 (by simp <;> omega) (dep_op HOP.out HDR.out HD.out) (fun c hc => by
              simp only [List.mem_append, List.mem_singleton] at hc
              rcases hc with (hc | hc) | hc
              · rw [hc]; exact HRK.out
              · exact HOK.out c hc
              · rw [hc]; exact .inr (.inr ⟨.inl HOP.out, rfl, rfl, rfl⟩)))
            go_upto_region 17 with fail
            refine wp_region_held_drew (S := fun w' => w'.rangeAt xb 0 [.int .i64 ((m9 : Int) + 1), .int .i64 0, .string ⟨#[]⟩, .int .i64 0, .int .i64 0]) (by kernel_rfl) ?hs0 (fun hS0 => ?_)
            case hs0 => exact sD
            generalize W10.drew = DD at *
            refine wpAnyH_take (i := 3) (oi := { dst := some 81, op := Op.load 45 (Operand.tmp 10), type := 45, pos := "ref.go:475", after := #[], guard := none }) (v := .agg #[.int .i64 ((m9 : Int) + 1), .int .i64 0, .string ⟨#[]⟩, .int .i64 0, .int .i64 0]) rfl (by kernel_rfl) (by kernel_rfl) (by kernel_rfl) (fun _ _ _ h => h) (yieldsIf_load_mid rfl 45 _ rfl xb 0 rfl [.int .i64 ((m9 : Int) + 1), .int .i64 0, .string ⟨#[]⟩, .int .i64 0, .int .i64 0] _ (fun _ hSw => hSw) Tryz.underlying45 rfl size65) hS0 ?_
            try simp only [Act.put, List.setIfInBounds_toArray, List.set_cons_zero, List.set_cons_succ]
            refine wpAnyH_take (i := 0) (oi := { dst := some 78, op := Op.move (Operand.tmp 9), type := 39, pos := "ref.go:475", after := #[], guard := none }) (v := ?_) rfl (by kernel_rfl) (by kernel_rfl) (by kernel_rfl) (fun _ _ _ h => h) (Or.inl ⟨by rfl, ?hy2⟩) hS0 ?_
            case hy2 => (intro w hSw; (try dsimp only at hSw); go_simp; try with_reducible rfl)
            try simp only [Act.put, List.setIfInBounds_toArray, List.set_cons_zero, List.set_cons_succ]
            refine wpAnyH_take (i := 1) (oi := { dst := some 79, op := Op.move (Operand.tmp 7), type := 39, pos := "ref.go:475", after := #[], guard := none }) (v := ?_) rfl (by kernel_rfl) (by kernel_rfl) (by kernel_rfl) (fun _ _ _ h => h) (Or.inl ⟨by rfl, ?hy3⟩) hS0 ?_
            case hy3 => (intro w hSw; (try dsimp only at hSw); go_simp; try with_reducible rfl)
            try simp only [Act.put, List.setIfInBounds_toArray, List.set_cons_zero, List.set_cons_succ]
            refine wpAnyH_ready (rs := [2, 4]) (by kernel_rfl) (by simp) ?_
            refine AllReadyH.cons (o := { dst := some 80, op := Op.call { callee := Callee.builtin Builtin.append, args := #[Operand.tmp 78, Operand.tmp 79], argTypes := #[39, 39] }, type := 39, pos := "ref.go:475", after := #[{ on := 0, ground := Ground.data }, { on := 1, ground := Ground.data }], guard := none }) rfl (fun K hK => ?_) ?_
            · skip
              obtain ⟨v1, V, RUNh, O1, T1, hob⟩ := app_q (l := l) OA HBD.out HN5.out rfl RR
              have TV : Turn (fun q => ¬ q = xb) DD V := T1.more (fun q _ h e => absurd (LTA.out q h) (by omega))
              have TVw : Turn (fun q => w.heap.size ≤ q) DD V := T1.more (fun q _ h => (OA.lt q h).1)
              have RUN1 := Lib.hid RUNh
              clear RUNh
              refine rs_append_run (by rfl) _ _ _ (by rfl) (by rfl) (by rfl) RUN1.out ?_
              refine hK.out _ _ ?hs4 (fun hS4 => ?_)
              case hs4 => exact FF.out _ (sT.trans TV)
              clear hK K hS0
              refine wpAnyH_ready (rs := [4]) (by kernel_rfl) (by simp) ?_
              refine AllReadyH.cons (o := { dst := some 82, op := Op.buildSlice 39 1 #[(0, Operand.tmp 81)], type := 39, pos := "ref.go:475", after := #[{ on := 3, ground := Ground.data }], guard := none }) rfl (fun K hK => ?_) AllReadyH.nil
              go_simp
              refine hK.out _ _ ?hs5 (fun hS5 => ?_)
              case hs5 => exact FF.out _ ((sT.trans TV).alloc _)
              clear hK K hS4
              have TA : Turn (fun _ => False) V (V.alloc (.cells #[.int .i64 ((m9 : Int) + 1), .int .i64 0, .string ⟨#[]⟩, .int .i64 0, .int .i64 0] 45)) := (Turn.refl _ V).alloc _
              have RX := range_new V [.int .i64 ((m9 : Int) + 1), .int .i64 0, .string ⟨#[]⟩, .int .i64 0, .int .i64 0] 45
              refine wpAnyH_ready (rs := [5]) (by kernel_rfl) (by simp) ?_
              refine AllReadyH.cons (o := { dst := some 83, op := Op.call { callee := Callee.builtin Builtin.append, args := #[Operand.tmp 80, Operand.tmp 82], argTypes := #[39, 39] }, type := 39, pos := "ref.go:475", after := #[{ on := 2, ground := Ground.data }, { on := 4, ground := Ground.data }, { on := 2, ground := Ground.chain }], guard := none }) rfl (fun K hK => ?_) AllReadyH.nil
              obtain ⟨v2, V2, RUNh, O2, T2, -⟩ := app_q (l := [⟨((m9 : Int) + 1), 0, ⟨#[]⟩, 0⟩]) (c := 1) (own_turn O1 TA (fun _ _ f => f)) (Nat.le_trans HBD.out (Nat.le_trans TVw.size TA.size)) HN6.out rfl RX
              have TZ : Turn (fun q => w.heap.size ≤ q) W10 V2 := (sTw.trans TVw).trans ((TA.more (fun _ _ f => f.elim)).trans (T2.more (fun q _ h => (O1.lt q h).1)))
              have TS : Turn (fun q => ¬ q = xb) W10 V2 := (sT.trans TV).trans ((TA.more (fun _ _ f => f.elim)).trans (T2.more (fun q _ h e => by
                rcases hob with ho1 | ho1
                · exact absurd (LTA.out q (ho1 ▸ h)) (by omega)
                · rw [ho1] at h; injection h with h; have := LTX.out; omega)))
              have RUN2 := Lib.hid RUNh
              clear RUNh
              refine rs_append_run (by rfl) _ _ _ (by rfl) (by rfl) (by rfl) RUN2.out ?_
              refine hK.out _ _ ?hs6 (fun hS6 => ?_)
              case hs6 => exact FF.out _ TS
              clear hK K hS5
              refine wpAnyH_take (i := 6) (oi := { dst := some 7, op := Op.assign (Operand.tmp 83), type := 39, pos := "ref.go:475", after := #[{ on := 5, ground := Ground.data }, { on := 5, ground := Ground.chain }, { on := 0, ground := Ground.phase }, { on := 1, ground := Ground.phase }, { on := 2, ground := Ground.phase }, { on := 3, ground := Ground.phase }, { on := 4, ground := Ground.phase }, { on := 5, ground := Ground.phase }], guard := none }) (v := ?_) rfl (by kernel_rfl) (by kernel_rfl) (by kernel_rfl) (fun _ _ _ h => h) (Or.inl ⟨by rfl, ?hy7⟩) hS6 ?_
              case hy7 => (intro w hSw; (try dsimp only at hSw); go_simp; try with_reducible rfl)
              try simp only [Act.put, List.setIfInBounds_toArray, List.set_cons_zero, List.set_cons_succ]
              refine wpAnyH_done (by kernel_rfl) ?_ _
              have O3 : V2.ownsRow w.heap.size 45 5 v2 ([r] ++ l ++ [⟨((m9 : Int) + 1), 0, ⟨#[]⟩, 0⟩] : List Qc).length (qcells ([r] ++ l ++ [⟨((m9 : Int) + 1), 0, ⟨#[]⟩, 0⟩])) := by
                rw [qcells_app, qcells_app, List.length_append, List.length_append]
                exact O2
              have ST := Lib.hid (STX.out V2 v2 TZ O3)
              clear O2 O3 T2 TZ
              go_wp2_with fail
              go_roundg (steps - (k + 1))
              case measure => have := G.out.1; have := G.out.2; omega
              case rel => first | exact ST.out | (rw [ek]; exact ST.out)
            refine AllReadyH.cons (o := { dst := some 82, op := Op.buildSlice 39 1 #[(0, Operand.tmp 81)], type := 39, pos := "ref.go:475", after := #[{ on := 3, ground := Ground.data }], guard := none }) rfl (fun K hK => ?_) ?_
            · skip
              go_simp
              refine hK.out _ _ ?hs8 (fun hS8 => ?_)
              case hs8 => exact FF.out _ (sT.alloc _)
              clear hK K hS0
              have TA : Turn (fun _ => False) DD (DD.alloc (.cells #[.int .i64 ((m9 : Int) + 1), .int .i64 0, .string ⟨#[]⟩, .int .i64 0, .int .i64 0] 45)) := (Turn.refl _ DD).alloc _
              have RX := range_new DD [.int .i64 ((m9 : Int) + 1), .int .i64 0, .string ⟨#[]⟩, .int .i64 0, .int .i64 0] 45
              have OA4 := own_turn OA TA (fun _ _ f => f)
              have RB4 := range_turn RR TA id
              refine wpAnyH_ready (rs := [2]) (by kernel_rfl) (by simp) ?_
              refine AllReadyH.cons (o := { dst := some 80, op := Op.call { callee := Callee.builtin Builtin.append, args := #[Operand.tmp 78, Operand.tmp 79], argTypes := #[39, 39] }, type := 39, pos := "ref.go:475", after := #[{ on := 0, ground := Ground.data }, { on := 1, ground := Ground.data }], guard := none }) rfl (fun K hK => ?_) AllReadyH.nil
              obtain ⟨v1, V, RUNh, O1, T1, hob⟩ := app_q (l := l) OA4 (Nat.le_trans HBD.out TA.size) HN5.out rfl RB4
              have TV : Turn (fun q => ¬ q = xb) DD V := (TA.more (fun _ _ f => f.elim)).trans (T1.more (fun q _ h e => absurd (LTA.out q h) (by omega)))
              have TVw : Turn (fun q => w.heap.size ≤ q) DD V := (TA.more (fun _ _ f => f.elim)).trans (T1.more (fun q _ h => (OA4.lt q h).1))
              have RX := range_turn RX T1 (fun h => absurd (LTA.out _ h) (by have := LTX.out; omega))
              have RUN1 := Lib.hid RUNh
              clear RUNh
              refine rs_append_run (by rfl) _ _ _ (by rfl) (by rfl) (by rfl) RUN1.out ?_
              refine hK.out _ _ ?hs9 (fun hS9 => ?_)
              case hs9 => exact FF.out _ (sT.trans TV)
              clear hK K hS8
              refine wpAnyH_ready (rs := [5]) (by kernel_rfl) (by simp) ?_
              refine AllReadyH.cons (o := { dst := some 83, op := Op.call { callee := Callee.builtin Builtin.append, args := #[Operand.tmp 80, Operand.tmp 82], argTypes := #[39, 39] }, type := 39, pos := "ref.go:475", after := #[{ on := 2, ground := Ground.data }, { on := 4, ground := Ground.data }, { on := 2, ground := Ground.chain }], guard := none }) rfl (fun K hK => ?_) AllReadyH.nil
              obtain ⟨v2, V2, RUNh, O2, T2, -⟩ := app_q (l := [⟨((m9 : Int) + 1), 0, ⟨#[]⟩, 0⟩]) (c := 1) O1 (Nat.le_trans HBD.out TVw.size) HN6.out rfl RX
              have TZ : Turn (fun q => w.heap.size ≤ q) W10 V2 := (sTw.trans TVw).trans (T2.more (fun q _ h => (O1.lt q h).1))
              have TS : Turn (fun q => ¬ q = xb) W10 V2 := (sT.trans TV).trans (T2.more (fun q _ h e => by
                rcases hob with ho1 | ho1
                · exact absurd (LTA.out q (ho1 ▸ h)) (by omega)
                · rw [ho1, World.size_alloc] at h; injection h with h; have := LTX.out; omega))
              have RUN2 := Lib.hid RUNh
              clear RUNh
              refine rs_append_run (by rfl) _ _ _ (by rfl) (by rfl) (by rfl) RUN2.out ?_
              refine hK.out _ _ ?hs10 (fun hS10 => ?_)
              case hs10 => exact FF.out _ TS
              clear hK K hS9
              refine wpAnyH_take (i := 6) (oi := { dst := some 7, op := Op.assign (Operand.tmp 83), type := 39, pos := "ref.go:475", after := #[{ on := 5, ground := Ground.data }, { on := 5, ground := Ground.chain }, { on := 0, ground := Ground.phase }, { on := 1, ground := Ground.phase }, { on := 2, ground := Ground.phase }, { on := 3, ground := Ground.phase }, { on := 4, ground := Ground.phase }, { on := 5, ground := Ground.phase }], guard := none }) (v := ?_) rfl (by kernel_rfl) (by kernel_rfl) (by kernel_rfl) (fun _ _ _ h => h) (Or.inl ⟨by rfl, ?hy11⟩) hS10 ?_
              case hy11 => (intro w hSw; (try dsimp only at hSw); go_simp; try with_reducible rfl)
              try simp only [Act.put, List.setIfInBounds_toArray, List.set_cons_zero, List.set_cons_succ]
              refine wpAnyH_done (by kernel_rfl) ?_ _
              have O3 : V2.ownsRow w.heap.size 45 5 v2 ([r] ++ l ++ [⟨((m9 : Int) + 1), 0, ⟨#[]⟩, 0⟩] : List Qc).length (qcells ([r] ++ l ++ [⟨((m9 : Int) + 1), 0, ⟨#[]⟩, 0⟩])) := by
                rw [qcells_app, qcells_app, List.length_append, List.length_append]
                exact O2
              have ST := Lib.hid (STX.out V2 v2 TZ O3)
              clear O2 O3 T2 TZ
              go_wp2_with fail
              go_roundg (steps - (k + 1))
              case measure => have := G.out.1; have := G.out.2; omega
              case rel => first | exact ST.out | (rw [ek]; exact ST.out)
            exact AllReadyH.nil
    · obtain rfl : k = steps := Nat.le_antisymm hk (Nat.not_lt.1 hks)
      have u1 : decide ((k : Int) < (k : Int)) = false := decide_eq_false (Int.lt_irrefl _)
      have u2 : decide (k < k) = false := decide_eq_false (Nat.lt_irrefl _)
      have DONE := Lib.hid (FIN.out _ R (Turn.refl _ _))
      clear FIN ho hd hok R T hl hk hg hks
      go_wp2_with fail
      go_ret
      exact ⟨_, rfl, DONE.out⟩
end Go.Proofs.YtadogobdlcionaaGreatDoor.Mad
