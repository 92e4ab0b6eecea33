/-
  A condition is printed.
-/
import Derived.Test.YtadogobdlcionaaGreatDoorKap
import Derived.Test.YtadogobdlcionaaGreatDoorKaq
set_option linter.unusedSimpArgs false
namespace Go.Proofs.YtadogobdlcionaaGreatDoor
open Go.ChangeShapes Go.WideShapes Go.ChangeAt Go.RowKit Go.Shelf
set_option linter.unusedVariables false
def cnOk (c : CN) : Bool := decide (1 ≤ c.op ∧ c.op ≤ 6) && ((sumT c.left).isSome && (sumT c.right).isSome)
def cnT (c : CN) : List UInt8 := flat ((sumT c.left).getD []) ++ [32] ++ (holdsT.getD (c.op - 1).toNat ⟨#[]⟩).data.toList ++ [32] ++ flat ((sumT c.right).getD [])
/-- While a condition is printed: the builder, its box. -/
structure PC (w : World) (B b : Nat) (l : List UInt8) (W : World) : Prop where
  bu : Bu B b l W
  kp : KP B b w W
  box : Blk W w.heap.size 47
section
variable {w W W' : World} {B b : Nat} {l m : List UInt8}
theorem PC.quiet (h : PC w B b l W) (T : Turn (fun _ => False) W W') : PC w B b l W' := ⟨h.bu.quiet T, h.kp.trans (KP.quiet T), h.box.turn T id⟩
theorem PC.next (h : PC w B b l W) (b' : Bu B b m W') (k : KP B b W W') (hn : w.heap.size ≠ b) : PC w B b m W' := ⟨b', h.kp.trans k, Blk.turn h.box (show Turn _ _ _ from k) (k.off h.box (by decide) hn)⟩
theorem KP.err (k : KP B b W W') (h3 : 5 ≤ B) (h : ErrAt W) : ErrAt W' := h.turn (show Turn _ _ _ from k) (fun q => by have := q.1; omega)
theorem KP.tab (k : KP B b W W') (h3 : 5 ≤ B) (h : TabAt W) : TabAt W' := h.turn (show Turn _ _ _ from k) (fun j hj q => by have := q.1; omega)
theorem KP.row {base size n : Nat} {e : TypeId} {v : Value} {xs : List Value} (k : KP B b W W') (ho : W.ownsRow base e size v n xs) (he : e ≠ 5) (hb : Blk W b 70) (he2 : e ≠ 70) : W'.ownsRow base e size v n xs :=
  own_turn ho (show Turn _ _ _ from k) (fun j hj => k.off (own_blk ho hj).1 he ((own_blk ho hj).1.ne hb he2))
end
set_option maxRecDepth 100000 in
set_option maxHeartbeats 4000000 in
theorem pcond_is (w : World) {B b cb : Nat} {bs : List UInt8} (c : CN) {lv rv : Value} (hB : Bu B b bs w) (hBw : B ≤ w.heap.size) (h3 : 5 ≤ B) (hl : cdsV cb c.left w lv) (hr : cdsV cb c.right w rv)
    (hn : c.left.length ≤ 1000000 ∧ c.right.length ≤ 1000000) (hf : (∀ d ∈ c.left, CdFit d) ∧ ∀ d ∈ c.right, CdFit d) (hE : ErrAt w) (hT : TabAt w) (hlen : bs.length ≤ 100000000000000)
    (hs : (∀ ts, sumT c.left = some ts → (flat ts).length ≤ 10000000000000) ∧ ∀ ts, sumT c.right = some ts → (flat ts).length ≤ 10000000000000) :
    Calls Tryz.prog 28 #[.pointer (some ⟨b, 0, none⟩), .agg #[.int .i64 c.op, lv, rv]] w fun y w' => y = .returned (.bool (cnOk c)) ∧ KP B b w w' ∧ (cnOk c = true → Bu B b (bs ++ cnT c) w') := by
  obtain ⟨op, cl, cr⟩ := c
  dsimp only at hl hr hn hf hs ⊢
  obtain ⟨la, lc, rfl, -⟩ := own_slice hl
  obtain ⟨ra, rc, rfl, -⟩ := own_slice hr
  obtain ⟨W, hW⟩ : ∃ W, W = w.alloc (.cells #[.int .i64 op, .slice la cl.length lc, .slice ra cr.length rc] 47) := ⟨_, rfl⟩
  have T0 : Turn (fun _ => False) w W := by rw [hW]; exact (Turn.refl _ _).alloc _
  have R : W.rangeAt w.heap.size 0 [.int .i64 op, .slice la cl.length lc, .slice ra cr.length rc] := by rw [hW]; exact range_new w [.int .i64 op, .slice la cl.length lc, .slice ra cr.length rc] 47
  have BX : Blk W w.heap.size 47 := by rw [hW]; exact Blk.new w [.int .i64 op, .slice la cl.length lc, .slice ra cr.length rc] 47
  have d0 : W.cell? ⟨w.heap.size, 0, none⟩ = some (.int .i64 op) := R 0 _ rfl
  have d1 : W.cell? ⟨w.heap.size, 1, none⟩ = some (.slice la cl.length lc) := R 1 _ rfl
  have d2 : W.cell? ⟨w.heap.size, 2, none⟩ = some (.slice ra cr.length rc) := R 2 _ rfl
  have nb : w.heap.size ≠ b := by have := hB.blk.1.lt; omega
  have HNB := Lib.hid nb
  have F0 := Lib.hid (show PC w B b bs W from ⟨hB.quiet T0, KP.quiet T0, BX⟩)
  have SL := Lib.hid (psum_is W F0.out.bu (Nat.le_trans hBw T0.size) (hl.turn T0 (fun _ _ => id)) hn.1 hf.1 (hE.turn T0 id) (hT.turn T0 (fun _ _ => id)) (fun ts q => by have := hs.1 ts q; omega))
  have HR := Lib.hid (And.intro (hr.turn T0 (fun _ _ => id)) (And.intro hn.2 (And.intro hf.2 (And.intro (hE.turn T0 id) (And.intro (hT.turn T0 (fun _ _ => id)) (And.intro hs (And.intro hlen (And.intro hBw h3))))))))
  have HW := Lib.hid hW
  have HHO := Lib.hid (fun W => holds_is W)
  obtain ⟨r, hrr⟩ : ∃ r, r = cnOk ⟨op, cl, cr⟩ := ⟨_, rfl⟩
  rw [← hrr]
  have HRR := Lib.hid hrr
  clear R T0 hW hrr hB BX nb hE hT hl hr hf hn hs hlen hBw h3
  by_cases hop : 1 ≤ op ∧ op ≤ 6
  · have u1 : decide (op < 1) = false := decide_eq_false (by omega)
    have u2 : decide (op > 6) = false := decide_eq_false (by omega)
    have u3 : decide (6 < op) = false := decide_eq_false (by omega)
    have HOP := Lib.hid hop
    clear hop
    go_enter Tryz.func28, Tryz.ntmps28
    go_upto_region 1 with fail
    rw [← HW.out]
    clear HW
    go_wp2_with fail
    with_reducible refine SL.out.mono ?_
    rintro y W1 ⟨rfl, B1, K1⟩
    have F1 := Lib.hid (F0.out.next B1 K1 HNB.out)
    replace d0 := K1.cell F0.out.box (by decide) HNB.out d0
    replace d1 := K1.cell F0.out.box (by decide) HNB.out d1
    replace d2 := K1.cell F0.out.box (by decide) HNB.out d2
    have HK1 := Lib.hid K1
    clear B1 K1 SL
    cases hsl : sumT cl with
    | none =>
      have hr : r = false := by rw [HRR.out]; unfold cnOk; dsimp only; rw [hsl]; simp
      subst hr
      simp only [Option.isSome]
      clear hsl
      go_wp2_with fail
      go_ret
      exact ⟨rfl, F1.out.kp, fun q => by cases q⟩
    | some tl =>
      rw [hsl] at F1
      have hr : r = (sumT cr).isSome := by rw [HRR.out]; unfold cnOk; dsimp only; rw [hsl, decide_eq_true HOP.out]; simp
      subst hr
      simp only [Option.isSome_some]
      have F1 := Lib.hid (show PC w B b (bs ++ flat tl) W1 from F1.out)
      have HN := Lib.hid (And.intro HR.out.2.2.2.2.2.2.1 (And.intro (HR.out.2.2.2.2.2.1.1 tl hsl) HR.out.2.2.2.2.2.2.2.1))
      have HSL := Lib.hid hsl
      clear hsl
      obtain ⟨k, rfl⟩ : ∃ k : Nat, op = (k : Int) + 1 := ⟨(op - 1).toNat, by have := HOP.out; omega⟩
      obtain ⟨hs, hhs⟩ : ∃ t, holdsT[k]? = some t := ⟨_, List.getElem?_eq_getElem (by show k < 6; have := HOP.out; omega)⟩
      have hsz : hs.size ≤ 2 := by
        have : k = 0 ∨ k = 1 ∨ k = 2 ∨ k = 3 ∨ k = 4 ∨ k = 5 := by have := HOP.out; omega
        rcases this with rfl | rfl | rfl | rfl | rfl | rfl <;> (injection hhs with hhs; subst hhs; decide)
      have HK := Lib.hid (And.intro hhs hsz)
      have hwk : wrap64 ((k : Int) + 1 - 1) = (k : Int) := by have := HOP.out; unfold wrap64; omega
      have hwk3 : IntKind.i64.wrap (k : Int) = (k : Int) := IntWalk.i64_in _ (by have := HOP.out; omega)
      have hwk2 : IntKind.i64.wrap ((k : Int) + 1 - 1) = (k : Int) := by rw [show (k : Int) + 1 - 1 = k by omega]; exact hwk3
      have k0 : (0 : Int) ≤ (k : Int) := Int.natCast_nonneg k
      have k1 : (k : Int) < 6 := by have := HOP.out; omega
      have X2 := Lib.hid (show Calls Tryz.prog 45 #[.pointer (some ⟨b, 0, none⟩), .int .u8 32] W1 _ from wb_is 32 F1.out.bu (by have := HN.out.1; have := HN.out.2.1; simp only [List.length_append]; omega) (Nat.le_trans HN.out.2.2 F1.out.kp.size))
      clear hhs hsz
      go_wp2_with fail
      with_reducible refine X2.out.mono ?_
      rintro y W3 ⟨rfl, B3, K3⟩
      have F3 := Lib.hid (show PC w B b (bs ++ flat tl ++ [32]) W3 from F1.out.next B3 K3 HNB.out)
      replace d0 := K3.cell F1.out.box (by decide) HNB.out d0
      replace d2 := K3.cell F1.out.box (by decide) HNB.out d2
      have HK3 := Lib.hid (HK1.out.trans K3)
      clear B3 K3 X2
      have HO := HHO
      go_upto_region 4 with fail
      have sD2 : W3.drew.cell? ⟨w.heap.size, 2, none⟩ = some (.slice ra cr.length rc) := d2
      have sD : W3.drew.cell? ⟨w.heap.size, 0, none⟩ = some (.int .i64 ((k : Int) + 1)) := d0
      refine wp_region_held_drew (S := fun w' => w'.cell? ⟨w.heap.size, 0, none⟩ = some (.int .i64 ((k : Int) + 1))) (by kernel_rfl) ?hs0 (fun hS0 => ?_)
      case hs0 => exact sD
      refine wpAnyH_take (i := 0) (oi := { dst := some 22, op := Op.move (Operand.tmp 0), type := 67, pos := "print.go:101", after := #[], guard := none }) (v := ?_) rfl (by kernel_rfl) (by kernel_rfl) (by kernel_rfl) (fun _ _ _ h => h) (Or.inl ⟨by rfl, ?hy1⟩) hS0 ?_
      case hy1 => (intro w hSw; (try dsimp only at hSw); go_simp; try with_reducible rfl)
      try simp only [Act.put, List.setIfInBounds_toArray, List.set_cons_zero, List.set_cons_succ]
      refine wpAnyH_take (i := 2) (oi := { dst := some 24, op := Op.fieldAddr 47 (Operand.tmp 3) 0, type := 0, pos := "print.go:101", after := #[], guard := none }) (v := ?_) rfl (by kernel_rfl) (by kernel_rfl) (by kernel_rfl) (fun _ _ _ h => h) (Or.inl ⟨by rfl, ?hy2⟩) hS0 ?_
      case hy2 => (intro w hSw; (try dsimp only at hSw); go_simp; try with_reducible rfl)
      try simp only [Act.put, List.setIfInBounds_toArray, List.set_cons_zero, List.set_cons_succ]
      refine wpAnyH_take (i := 3) (oi := { dst := some 25, op := Op.load 3 (Operand.tmp 24), type := 3, pos := "print.go:101", after := #[{ on := 2, ground := Ground.data }], guard := none }) (v := ?_) rfl (by kernel_rfl) (by kernel_rfl) (by kernel_rfl) (fun _ _ _ h => h) (Or.inl ⟨by rfl, ?hy3⟩) hS0 ?_
      case hy3 => (intro w hSw; (try dsimp only at hSw); go_simp; try with_reducible rfl)
      try simp only [Act.put, List.setIfInBounds_toArray, List.set_cons_zero, List.set_cons_succ]
      refine wpAnyH_take (i := 4) (oi := { dst := some 26, op := Op.binOp BinOp.sub 3 (Operand.tmp 25) (Operand.const (Value.int IntKind.i64 1)) 3, type := 3, pos := "print.go:101", after := #[{ on := 3, ground := Ground.data }], guard := none }) (v := ?_) rfl (by kernel_rfl) (by kernel_rfl) (by kernel_rfl) (fun _ _ _ h => h) (Or.inl ⟨by rfl, ?hy4⟩) hS0 ?_
      case hy4 => (intro w hSw; (try dsimp only at hSw); go_simp; try with_reducible rfl)
      try simp only [Act.put, List.setIfInBounds_toArray, List.set_cons_zero, List.set_cons_succ]
      first | rw [hwk2] | rw [hwk3] | skip
      refine wpAnyH_ready (rs := [1]) (by kernel_rfl) (by simp) ?_
      refine AllReadyH.cons (o := { dst := some 23, op := Op.call { callee := Callee.value (Operand.func 47), args := #[], argTypes := #[] }, type := 41, pos := "print.go:101", after := #[], guard := none }) rfl (fun K hK => ?_) AllReadyH.nil
      go_simp
      with_reducible refine (HO.out _).mono ?_
      rintro y W4 ⟨g, cap, rfl, R4, T4⟩
      have hcell : W4.cell? ⟨g, k, none⟩ = some (.string hs) := by
        have := R4 k (.string hs) (by rw [List.getElem?_map, HK.out.1]; rfl)
        rw [Nat.zero_add] at this
        exact this
      have s1 : W4.cell? ⟨w.heap.size, 0, none⟩ = some (.int .i64 ((k : Int) + 1)) := T4.cell id sD
      have s2 := T4.cell id sD2
      have F4 := Lib.hid (show PC w B b (bs ++ flat tl ++ [32]) W4 from F3.out.quiet (((Turn.refl _ _).drewN 1).trans T4))
      have WS := Lib.hid (ws_is hs F4.out.bu (by have := HN.out.1; have := HN.out.2.1; have := HK.out.2; simp only [List.length_append, List.length_cons, List.length_nil]; omega) (Nat.le_trans HN.out.2.2 F4.out.kp.size))
      rw [show holdsT.length = 6 from rfl]
      have HK4 := Lib.hid (HK3.out.trans (KP.quiet (((Turn.refl _ _).drewN 1).trans T4)))
      clear R4 T4
      go_simp
      refine hK.out _ _ ?hs5 (fun hS5 => ?_)
      case hs5 => exact s1
      clear hK K hS0
      refine wpAnyH_ready (rs := [5]) (by kernel_rfl) (by simp) ?_
      refine AllReadyH.cons (o := { dst := some 27, op := Op.indexAddr 41 (Operand.tmp 23) (Operand.tmp 26), type := 0, pos := "print.go:101", after := #[{ on := 1, ground := Ground.data }, { on := 4, ground := Ground.data }], guard := none }) rfl (fun K hK => ?_) AllReadyH.nil
      go_simp
      refine hK.out _ _ ?hs6 (fun hS6 => ?_)
      case hs6 => exact s1
      clear hK K hS5
      refine wpAnyH_ready (rs := [6]) (by kernel_rfl) (by simp) ?_
      refine AllReadyH.cons (o := { dst := some 28, op := Op.load 9 (Operand.tmp 27), type := 9, pos := "print.go:101", after := #[{ on := 5, ground := Ground.data }], guard := none }) rfl (fun K hK => ?_) AllReadyH.nil
      go_simp
      refine hK.out _ _ ?hs7 (fun hS7 => ?_)
      case hs7 => exact s1
      clear hK K hS6
      refine wpAnyH_ready (rs := [7]) (by kernel_rfl) (by simp) ?_
      refine AllReadyH.cons (o := { dst := some 29, op := Op.call { callee := Callee.value (Operand.func 25), args := #[Operand.tmp 22, Operand.tmp 28], argTypes := #[67, 9] }, type := 73, pos := "print.go:101", after := #[{ on := 0, ground := Ground.data }, { on := 6, ground := Ground.data }, { on := 1, ground := Ground.chain }], guard := none }) rfl (fun K hK => ?_) AllReadyH.nil
      go_simp
      with_reducible refine WS.out.mono ?_
      rintro y W5 ⟨rfl, B5, K5⟩
      have s5 := K5.cell F4.out.box (by decide) HNB.out s1
      have F5 := Lib.hid (show PC w B b (bs ++ flat tl ++ [32] ++ hs.data.toList) W5 from F4.out.next B5 K5 HNB.out)
      have s6 := K5.cell F4.out.box (by decide) HNB.out s2
      have HK5 := Lib.hid (HK4.out.trans K5)
      clear B5 K5
      go_simp
      refine hK.out _ _ ?hs8 (fun hS8 => ?_)
      case hs8 => exact s5
      clear hK K hS7
      refine wpAnyH_done (by kernel_rfl) ?_ _
      skip
      have X6 := Lib.hid (show Calls Tryz.prog 45 #[.pointer (some ⟨b, 0, none⟩), .int .u8 32] W5 _ from wb_is 32 F5.out.bu (by have := HN.out.1; have := HN.out.2.1; have := HK.out.2; have hx : hs.data.toList.length = hs.size := (by rw [Array.length_toList]; rfl); simp only [List.length_append, List.length_cons, List.length_nil]; omega) (Nat.le_trans HN.out.2.2 F5.out.kp.size))
      clear d0 d1 d2 sD sD2 s1 s2 hcell WS HO
      go_wp2_with fail
      with_reducible refine X6.out.mono ?_
      rintro y W6 ⟨rfl, B6, K6⟩
      have F6 := Lib.hid (show PC w B b (bs ++ flat tl ++ [32] ++ hs.data.toList ++ [32]) W6 from F5.out.next B6 K6 HNB.out)
      have d2 := K6.cell F5.out.box (by decide) HNB.out s6
      have HK6 := HK5.out.trans K6
      have h3 := HR.out.2.2.2.2.2.2.2.2
      have hx : hs.data.toList.length = hs.size := by rw [Array.length_toList]; rfl
      have SR := Lib.hid (psum_is W6 F6.out.bu (Nat.le_trans HN.out.2.2 F6.out.kp.size) (show cdsV cb cr W6 (.slice ra cr.length rc) from HK6.row HR.out.1 (by decide) F0.out.bu.blk.1 (by decide)) HR.out.2.1 HR.out.2.2.1 (HK6.err h3 HR.out.2.2.2.1) (HK6.tab h3 HR.out.2.2.2.2.1) (fun ts q => by
        have := HR.out.2.2.2.2.2.1.2 ts q
        have := HN.out.1
        have := HN.out.2.1
        have := HK.out.2
        simp only [List.length_append, List.length_cons, List.length_nil]
        omega))
      clear B6 K6 HK6 s5 s6 X6 h3 hx
      go_wp2_with fail
      with_reducible refine SR.out.mono ?_
      rintro y W7 ⟨rfl, B7, K7⟩
      have F7 := Lib.hid (And.intro B7 (F6.out.kp.trans K7))
      clear B7 K7
      go_wp2_with fail
      go_ret
      refine ⟨rfl, F7.out.2, fun q => bu_one F7.out.1 ?_⟩
      have e1 : (((k : Int) + 1) - 1).toNat = k := by omega
      unfold cnT
      dsimp only
      rw [HSL.out, e1, show holdsT.getD k ⟨#[]⟩ = hs from by rw [List.getD_eq_getElem?_getD, HK.out.1]; rfl]
      simp
  · have hr : r = false := by rw [HRR.out]; unfold cnOk; dsimp only; rw [decide_eq_false hop]; rfl
    subst hr
    by_cases h1 : op < 1
    · have u1 : decide (op < 1) = true := decide_eq_true h1
      clear hop h1
      go_enter Tryz.func28, Tryz.ntmps28
      go_upto_region 1 with fail
      rw [← HW.out]
      clear HW
      go_wp2_with fail
      go_ret
      exact ⟨rfl, F0.out.kp, fun q => by cases q⟩
    · have u1 : decide (op < 1) = false := decide_eq_false h1
      have u2 : decide (op > 6) = true := decide_eq_true (by omega)
      have u3 : decide (6 < op) = true := decide_eq_true (by omega)
      clear hop h1
      go_enter Tryz.func28, Tryz.ntmps28
      go_upto_region 1 with fail
      rw [← HW.out]
      clear HW
      go_wp2_with fail
      go_ret
      exact ⟨rfl, F0.out.kp, fun q => by cases q⟩
end Go.Proofs.YtadogobdlcionaaGreatDoor
