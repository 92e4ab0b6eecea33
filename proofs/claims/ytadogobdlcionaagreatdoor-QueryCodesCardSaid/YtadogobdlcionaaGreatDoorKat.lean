/-
  Two queries that are the same are the same; codes that are sound.
  Texts made of tokens and blanks, and their tokens again.
  A sum's grammar; the parser keeps to it, both ways.
-/
import Derived.Test.YtadogobdlcionaaGreatDoorKas
import Derived.StillTailTactics
import Derived.Test.YtadogobdlcionaaGreatDoorKaa
import Derived.Lib.ItoaMem
import Derived.Test.YtadogobdlcionaaGreatDoorKai
set_option linter.unusedSimpArgs false
namespace Go.Proofs.YtadogobdlcionaaGreatDoor
open Go.ChangeShapes Go.WideShapes Go.ChangeAt Go.RowKit Go.Shelf
set_option linter.unusedVariables false
def IxR (w : World) (n : Nat) (v : Value) (wr : World) : Prop := ∃ j : Nat, v = .int .i64 (j : Int) ∧ j ≤ n ∧ Turn (fun _ => False) w wr
theorem cds_cells' {w : World} {cb g cap n : Nat} {l : List CD} (ho : w.ownsRow cb 45 5 (.slice (some ⟨g, 0, none⟩) n cap) n (cdsC l)) (hn : n = l.length) {i : Nat} {c : CD} (hc : l[i]? = some c) :
    w.cell? ⟨g, i * 5, none⟩ = some (.int .i64 c.op) ∧ w.cell? ⟨g, i * 5 + 1, none⟩ = some (.int .i64 c.n) ∧ w.cell? ⟨g, i * 5 + 2, none⟩ = some (.string c.var) ∧ w.cell? ⟨g, i * 5 + 3, none⟩ = some (.int .i64 c.field) ∧ w.cell? ⟨g, i * 5 + 4, none⟩ = some (.int .i64 0) := by
  subst hn
  exact cds_cells (cb := cb) (cap := cap) ho hc
set_option maxRecDepth 100000 in
set_option maxHeartbeats 4000000 in
theorem rsc_is {w : World} {b1 b2 : Nat} {v1 v2 : Value} {l : List CD} (h1 : cdsV b1 l w v1) (h2 : cdsV b2 l w v2) (hn : l.length ≤ 1000000) :
    Calls Tryz.prog 35 #[v1, v2] w fun e w' => e = .returned (.bool true) ∧ Turn (fun _ => False) w w' := by
  obtain ⟨a1, c1, rfl, g1⟩ := own_slice h1
  obtain ⟨a2, c2, rfl, g2⟩ := own_slice h2
  unfold cdsV at h1 h2
  obtain ⟨n, hL⟩ : ∃ n, n = l.length := ⟨_, rfl⟩
  rw [← hL] at h1 h2 hn g1 g2 ⊢
  have H1 := Lib.hid (And.intro h1 (And.intro h2 (And.intro hL hn)))
  have HG := Lib.hid (And.intro g1 g2)
  clear h1 h2 hn hL g1 g2
  go_enter Tryz.func35, Tryz.ntmps35
  go_wp2_with fail
  go_loopw [5] (fun v wr => IxR w n v wr) (fun v _ => n + 1 - (intOf v).toNat)
  case atStart => exact ⟨0, by simp, Nat.zero_le _, Turn.refl _ _⟩
  case round =>
    obtain ⟨j, rfl, hj, TT⟩ := hrel
    by_cases hjn : j < n
    · obtain ⟨x, hx⟩ : ∃ x, l[j]? = some x := ⟨_, List.getElem?_eq_getElem (by have := H1.out.2.2.1; omega)⟩
      obtain ⟨g1, rfl⟩ := HG.out.1 (by omega)
      obtain ⟨g2, rfl⟩ := HG.out.2 (by omega)
      obtain ⟨p0, p1, p2, p3, p4⟩ := cds_cells' H1.out.1 H1.out.2.2.1 hx
      obtain ⟨q0, q1, q2, q3, q4⟩ := cds_cells' H1.out.2.1 H1.out.2.2.1 hx
      replace p0 := TT.cell id p0
      replace p1 := TT.cell id p1
      replace p2 := TT.cell id p2
      replace p3 := TT.cell id p3
      replace p4 := TT.cell id p4
      replace q0 := TT.cell id q0
      replace q1 := TT.cell id q1
      replace q2 := TT.cell id q2
      replace q3 := TT.cell id q3
      replace q4 := TT.cell id q4
      have u1 := dec_ilt hjn
      have u2 : decide (j < n) = true := decide_eq_true hjn
      have i0 : (0 : Int) ≤ (j : Int) := Int.natCast_nonneg j
      have i1 : (j : Int) < (n : Int) := Int.ofNat_lt.2 hjn
      have hw := wrap_one (a := j) (by have := H1.out.2.2.2; omega)
      have FIN := Lib.hid (And.intro hjn TT)
      obtain ⟨xo, xn, xv, xf⟩ := x
      dsimp only at p0 p1 p2 p3 q0 q1 q2 q3
      clear hx hj hjn TT
      go_wp2_with fail
      go_region
      all_goals go_wp2_with fail
      all_goals exact ⟨by rw [hw]; exact ⟨j + 1, rfl, FIN.out.1, FIN.out.2.drewN 1⟩, by rw [hw]; exact meas_j FIN.out.1⟩
    · obtain rfl : j = n := by omega
      have u1 := dec_inlt hjn
      have u2 : decide (j < j) = false := decide_eq_false hjn
      have FIN := Lib.hid TT
      clear hj hjn TT
      go_wp2_with fail
      go_ret
      exact ⟨rfl, FIN.out⟩
theorem els_cells' {w : World} {base g cap n : Nat} {l : List EL} (ho : w.ownsRow base 43 4 (.slice (some ⟨g, 0, none⟩) n cap) n (elsC l)) (hn : n = l.length) {i : Nat} {c : EL} (hc : l[i]? = some c) :
    w.cell? ⟨g, i * 4, none⟩ = some (.int .i64 (c.type : Int)) ∧ w.cell? ⟨g, i * 4 + 1, none⟩ = some (.string c.var) ∧ w.cell? ⟨g, i * 4 + 2, none⟩ = some (.bool c.plus) ∧ w.cell? ⟨g, i * 4 + 3, none⟩ = some (.bool c.not) := by
  subst hn
  exact els_cells ho hc
/-- Conditions in memory, at a place. -/
def CnAt (b g : Nat) (C : List CN) (w : World) : Prop := ∀ k c, C[k]? = some c → ∃ lv rv, w.cell? ⟨g, k * 3, none⟩ = some (.int .i64 c.op) ∧ w.cell? ⟨g, k * 3 + 1, none⟩ = some lv ∧ w.cell? ⟨g, k * 3 + 2, none⟩ = some rv ∧ cdsV b c.left w lv ∧ cdsV b c.right w rv
theorem CnAt.turn {b g : Nat} {C : List CN} {w w' : World} (h : CnAt b g C w) (T : Turn (fun _ => False) w w') : CnAt b g C w' := fun k c hk => by
  obtain ⟨lv, rv, h1, h2, h3, h4, h5⟩ := h k c hk
  exact ⟨lv, rv, T.cell id h1, T.cell id h2, T.cell id h3, h4.turn T (fun _ _ f => f), h5.turn T (fun _ _ f => f)⟩
theorem cns_at {b g cap : Nat} {C : List CN} {w : World} (h : CnsO b w (.slice (some ⟨g, 0, none⟩) C.length cap) C) : CnAt b g C w := by
  obtain ⟨xs, ho, hx⟩ := h
  intro k c hk
  obtain ⟨lv, rv, h1, h2, h3, h4, h5⟩ := hx k c hk
  have hl := (List.getElem?_eq_some_iff.1 hk).1
  refine ⟨lv, rv, ?_, ?_, ?_, h4, h5⟩
  · have := ho.cellAt (k * 3 + 0) (by omega)
    rw [Nat.add_zero] at this
    exact this.trans h1
  · exact (ho.cellAt (k * 3 + 1) (by omega)).trans h2
  · exact (ho.cellAt (k * 3 + 2) (by omega)).trans h3
theorem cns_slice {b : Nat} {C : List CN} {w : World} {v : Value} (h : CnsO b w v C) : ∃ a c, v = .slice a C.length c ∧ (0 < C.length → ∃ g, a = some ⟨g, 0, none⟩) := by
  obtain ⟨xs, ho, -⟩ := h
  obtain ⟨a, c, e, g⟩ := own_slice ho
  exact ⟨a, c, e, fun q => g (by omega)⟩
set_option maxRecDepth 100000 in
set_option maxHeartbeats 8000000 in
theorem rsame_is {w : World} {b1 b2 : Nat} {x1 x2 : Value} {q : QU} (h1 : quV b1 q w x1) (h2 : quV b2 q w x2) (hn : q.elems.length ≤ 1000000 ∧ q.conds.length ≤ 1000000) (hc : ∀ c ∈ q.conds, c.left.length ≤ 1000000 ∧ c.right.length ≤ 1000000) :
    Calls Tryz.prog 16 #[x1, x2] w fun e w' => e = .returned (.bool true) ∧ Turn (fun _ => False) w w' := by
  obtain ⟨ev1, cv1, rfl, e1, k1⟩ := h1
  obtain ⟨ev2, cv2, rfl, e2, k2⟩ := h2
  obtain ⟨E, C, wn, bk⟩ := q
  dsimp only at e1 e2 k1 k2 hn hc ⊢
  obtain ⟨a1, c1, rfl, ga1⟩ := own_slice e1
  obtain ⟨a2, c2, rfl, ga2⟩ := own_slice e2
  obtain ⟨a3, c3, rfl, ga3⟩ := cns_slice k1
  obtain ⟨a4, c4, rfl, ga4⟩ := cns_slice k2
  have KA : ∃ g, (0 < C.length → a3 = some ⟨g, 0, none⟩) ∧ (0 < C.length → CnAt b1 g C w) := by
    by_cases h0 : 0 < C.length
    · obtain ⟨g, rfl⟩ := ga3 h0
      exact ⟨g, fun _ => rfl, fun _ => cns_at k1⟩
    · exact ⟨0, fun q => absurd q h0, fun q => absurd q h0⟩
  have KB : ∃ g, (0 < C.length → a4 = some ⟨g, 0, none⟩) ∧ (0 < C.length → CnAt b2 g C w) := by
    by_cases h0 : 0 < C.length
    · obtain ⟨g, rfl⟩ := ga4 h0
      exact ⟨g, fun _ => rfl, fun _ => cns_at k2⟩
    · exact ⟨0, fun q => absurd q h0, fun q => absurd q h0⟩
  obtain ⟨m, hm⟩ : ∃ m, m = C.length := ⟨_, rfl⟩
  obtain ⟨n, hN⟩ : ∃ n, n = E.length := ⟨_, rfl⟩
  rw [← hm] at KA KB hn ⊢
  rw [← hN] at e1 e2 hn ga1 ga2 ⊢
  have HE := Lib.hid (And.intro e1 (And.intro e2 (And.intro hN (And.intro hn (And.intro ga1 ga2)))))
  have HC := Lib.hid (And.intro KA (And.intro KB (And.intro hm hc)))
  clear e1 e2 k1 k2 hn hc ga1 ga2 ga3 ga4 KA KB hm hN
  obtain ⟨W, hW⟩ : ∃ W, W = (w.alloc (.cells #[.slice a1 n c1, .slice a3 m c3, .int .i64 (wn : Int), .bool bk] 30)).alloc (.cells #[.slice a2 n c2, .slice a4 m c4, .int .i64 (wn : Int), .bool bk] 30) := ⟨_, rfl⟩
  have T0 : Turn (fun _ => False) w W := by rw [hW]; exact ((Turn.refl _ _).alloc _).alloc _
  have ta : Turn (fun _ => False) (w.alloc (.cells #[.slice a1 n c1, .slice a3 m c3, .int .i64 (wn : Int), .bool bk] 30)) W := by rw [hW]; exact (Turn.refl _ _).alloc _
  have z0 : W.cell? ⟨w.heap.size, 0, none⟩ = some (.slice a1 n c1) := ta.cell id (cell_new rfl rfl)
  have z1 : W.cell? ⟨w.heap.size, 1, none⟩ = some (.slice a3 m c3) := ta.cell id (cell_new rfl rfl)
  have z2 : W.cell? ⟨w.heap.size, 2, none⟩ = some (.int .i64 (wn : Int)) := ta.cell id (cell_new rfl rfl)
  have z3 : W.cell? ⟨w.heap.size, 3, none⟩ = some (.bool bk) := ta.cell id (cell_new rfl rfl)
  have y0 : W.cell? ⟨w.heap.size + 1, 0, none⟩ = some (.slice a2 n c2) := by rw [hW]; exact cell_new (by rw [World.size_alloc]) rfl
  have y1 : W.cell? ⟨w.heap.size + 1, 1, none⟩ = some (.slice a4 m c4) := by rw [hW]; exact cell_new (by rw [World.size_alloc]) rfl
  have y2 : W.cell? ⟨w.heap.size + 1, 2, none⟩ = some (.int .i64 (wn : Int)) := by rw [hW]; exact cell_new (by rw [World.size_alloc]) rfl
  have y3 : W.cell? ⟨w.heap.size + 1, 3, none⟩ = some (.bool bk) := by rw [hW]; exact cell_new (by rw [World.size_alloc]) rfl
  have HZ := Lib.hid (And.intro T0 (And.intro z0 (And.intro z1 (And.intro y0 y1))))
  have HW := Lib.hid hW
  clear T0 ta hW
  go_enter Tryz.func16, Tryz.ntmps16
  dsimp only [quL]
  go_upto_region 1 with fail
  rw [← HW.out]
  clear HW
  generalize w.heap.size = N at *
  have u5 : ((wn : Int) != (wn : Int)) = false := by simp
  have u6 : (bk != bk) = false := by cases bk <;> rfl
  have u7 : ((n : Int) != (n : Int)) = false := by simp
  have u8 : ((m : Int) != (m : Int)) = false := by simp
  have HM := Lib.hid (And.intro z2 (And.intro z3 (And.intro y2 y3)))
  go_wp2_with fail
  clear z0 z1 z2 z3 y0 y1 y2 y3
  go_loopw [5] (fun v wr => IxR W n v wr) (fun v _ => n + 1 - (intOf v).toNat)
  case atStart => exact ⟨0, by simp, Nat.zero_le _, Turn.refl _ _⟩
  case round =>
    obtain ⟨j, rfl, hj, TT⟩ := hrel
    have z0 := TT.cell id HZ.out.2.1
    have y0 := TT.cell id HZ.out.2.2.2.1
    by_cases hjn : j < n
    · obtain ⟨x, hx⟩ : ∃ x, E[j]? = some x := ⟨_, List.getElem?_eq_getElem (by have := HE.out.2.2.1; omega)⟩
      obtain ⟨g1, rfl⟩ := HE.out.2.2.2.2.1 (by omega)
      obtain ⟨g2, rfl⟩ := HE.out.2.2.2.2.2 (by omega)
      obtain ⟨p0, p1, p2, p3⟩ := els_cells' HE.out.1 HE.out.2.2.1 hx
      obtain ⟨q0, q1, q2, q3⟩ := els_cells' HE.out.2.1 HE.out.2.2.1 hx
      have T2 := HZ.out.1.trans TT
      replace p0 := T2.cell id p0
      replace p1 := T2.cell id p1
      replace p2 := T2.cell id p2
      replace p3 := T2.cell id p3
      replace q0 := T2.cell id q0
      replace q1 := T2.cell id q1
      replace q2 := T2.cell id q2
      replace q3 := T2.cell id q3
      have u1 := dec_ilt hjn
      have u2 : decide (j < n) = true := decide_eq_true hjn
      have i0 : (0 : Int) ≤ (j : Int) := Int.natCast_nonneg j
      have i1 : (j : Int) < (n : Int) := Int.ofNat_lt.2 hjn
      have hw := wrap_one (a := j) (by have := HE.out.2.2.2.1.1; omega)
      have FIN := Lib.hid (And.intro hjn TT)
      obtain ⟨xt, xv, xp, xn⟩ := x
      dsimp only at p0 p1 p2 p3 q0 q1 q2 q3
      generalize (xt : Int) = ty at *
      clear hx hj hjn TT T2
      go_wp2_with fail
      go_region
      all_goals go_wp2_with fail
      all_goals exact ⟨by rw [hw]; exact ⟨j + 1, rfl, FIN.out.1, FIN.out.2.drewN 1⟩, by rw [hw]; exact meas_j FIN.out.1⟩
    · obtain rfl : j = n := by omega
      have u1 := dec_inlt hjn
      have u2 : decide (j < j) = false := decide_eq_false hjn
      have FIN := Lib.hid TT
      clear hj hjn TT
      go_wp2_with fail
      clear z0 y0
      go_loopw [6, 7, 8] (fun v _ _ wr => IxR W m v wr) (fun v _ _ _ => m + 1 - (intOf v).toNat)
      case atStart => exact ⟨0, by simp, Nat.zero_le _, FIN.out⟩
      case round =>
        obtain ⟨j, rfl, hj, TT⟩ := hrel
        have z1 := TT.cell id HZ.out.2.2.1
        have y1 := TT.cell id HZ.out.2.2.2.2
        have SZ := TT.size
        by_cases hjn : j < m
        · obtain ⟨x, hx⟩ : ∃ x, C[j]? = some x := ⟨_, List.getElem?_eq_getElem (by have := HC.out.2.2.1; omega)⟩
          obtain ⟨⟨g1, e1, k1⟩, ⟨g2, e2, k2⟩, hmC, hcl⟩ := HC.out
          obtain rfl := e1 (by omega)
          obtain rfl := e2 (by omega)
          have T2 := HZ.out.1.trans TT
          obtain ⟨l1, r1, p0, p1, p2, p3, p4⟩ := (k1 (by omega)).turn T2 j x hx
          obtain ⟨l2, r2, q0, q1, q2, q3, q4⟩ := (k2 (by omega)).turn T2 j x hx
          obtain ⟨xo, xl, xr⟩ := x
          dsimp only at p0 p1 p2 p3 p4 q0 q1 q2 q3 q4
          obtain ⟨al1, cl1, rfl, -⟩ := own_slice p3
          obtain ⟨ar1, cr1, rfl, -⟩ := own_slice p4
          obtain ⟨al2, cl2, rfl, -⟩ := own_slice q3
          obtain ⟨ar2, cr2, rfl, -⟩ := own_slice q4
          have hxl := hcl _ (List.mem_of_getElem? hx)
          have u1 := dec_ilt hjn
          have u2 : decide (j < m) = true := decide_eq_true hjn
          have i0 : (0 : Int) ≤ (j : Int) := Int.natCast_nonneg j
          have i1 : (j : Int) < (m : Int) := Int.ofNat_lt.2 hjn
          have hw := wrap_one (a := j) (by have := HE.out.2.2.2.1.2; omega)
          have FIN := Lib.hid (And.intro hjn TT)
          have SL := Lib.hid (fun W' (T : Turn (fun _ => False) wr W') => rsc_is (p3.turn T (fun _ _ f => f)) (q3.turn T (fun _ _ f => f)) hxl.1)
          have SR := Lib.hid (fun W' (T : Turn (fun _ => False) wr W') => rsc_is (p4.turn T (fun _ _ f => f)) (q4.turn T (fun _ _ f => f)) hxl.2)
          have PP := Lib.hid (And.intro p0 (And.intro p2 (And.intro q0 q2)))
          have ZZ := Lib.hid (And.intro z1 y1)
          clear hx hj hjn TT T2 p3 p4 q3 q4 hxl k1 k2 e1 e2 hmC hcl SZ p0 q0
          go_wp2_with fail
          go_still_tail 12, (by kernel_rfl)
          change wpList _ _ _ _ _ wr.drew
          have TD : Turn (fun _ => False) wr wr.drew := (Turn.refl _ _).drewN 1
          have HTD := Lib.hid TD
          replace z1 := TD.cell id z1
          replace y1 := TD.cell id y1
          replace p1 := TD.cell id p1
          replace p2 := TD.cell id p2
          replace q1 := TD.cell id q1
          replace q2 := TD.cell id q2
          clear TD
          generalize wr.drew = wa at *
          go_wp2_with fail
          with_reducible refine (SL.out _ HTD.out).mono ?_
          rintro y wb ⟨rfl, Tb⟩
          have TB := Lib.hid (HTD.out.trans Tb)
          replace z1 := Tb.cell id z1
          replace y1 := Tb.cell id y1
          replace p2 := Tb.cell id p2
          replace q2 := Tb.cell id q2
          clear Tb SL p1 q1
          go_wp2_with fail
          go_still_tail 12, (by kernel_rfl)
          change wpList _ _ _ _ _ wb.drew
          have TD : Turn (fun _ => False) wb wb.drew := (Turn.refl _ _).drewN 1
          have TC := Lib.hid (TB.out.trans TD)
          replace z1 := TD.cell id z1
          replace y1 := TD.cell id y1
          replace p2 := TD.cell id p2
          replace q2 := TD.cell id q2
          clear TD
          generalize wb.drew = wc at *
          go_wp2_with fail
          with_reducible refine (SR.out _ TC.out).mono ?_
          rintro y wd ⟨rfl, Td⟩
          have TE := Lib.hid (TC.out.trans Td)
          have p0 := TE.out.cell id PP.out.1
          have q0 := TE.out.cell id PP.out.2.2.1
          have z1' := TE.out.cell id ZZ.out.1
          have y1' := TE.out.cell id ZZ.out.2
          clear z1 y1 p2 q2 Td
          go_wp2_with fail
          go_region
          all_goals go_wp2_with fail
          all_goals exact ⟨by rw [hw]; exact ⟨j + 1, rfl, FIN.out.1, (FIN.out.2.trans TE.out).drewN 1⟩, by rw [hw]; exact meas_j FIN.out.1⟩
        · obtain rfl : j = m := by omega
          have u1 := dec_inlt hjn
          have u2 : decide (j < j) = false := decide_eq_false hjn
          have FIN := Lib.hid (HZ.out.1.trans TT)
          clear hj hjn TT SZ
          go_wp2_with fail
          go_ret
          exact ⟨rfl, FIN.out⟩
end Go.Proofs.YtadogobdlcionaaGreatDoor
namespace Go.Proofs.YtadogobdlcionaaGreatDoor
open Go
/-- A token, by its kind, its text, its number. -/
structure AT where
  k : Nat
  t : ByteArray
  n : Nat
/-- What may stand behind a token. -/
def Fol (k : Nat) (m : List UInt8) : Prop := ∀ c r, m = c :: r → (k ≠ 4 → isBoth c = false) ∧ (k = 4 → c.toNat ≠ 61)
/-- What may stand behind any token. -/
def Neut (m : List UInt8) : Prop := ∀ c r, m = c :: r → isBoth c = false ∧ c.toNat ≠ 61
theorem Neut.fol {m : List UInt8} (h : Neut m) (k : Nat) : Fol k m := fun c r e => ⟨fun _ => (h c r e).1, fun _ => (h c r e).2⟩
theorem Neut.nil : Neut [] := fun c r e => by cases e
theorem Fol.nil (k : Nat) : Fol k [] := fun c r e => by cases e
/-- A token that is found by its own text. -/
structure GoodA (a : AT) : Prop where
  ne : ∃ c r, a.t.data.toList = c :: r ∧ isBlank c = false
  f : ∀ m, Fol a.k m → findB (a.t.data.toList ++ m) = some ⟨a.k, a.t.data.toList.length, a.n⟩
/-- A token, or a blank. -/
abbrev IT := Option AT
def bytesR : List IT → List UInt8
  | [] => []
  | none :: r => 32 :: bytesR r
  | some a :: r => a.t.data.toList ++ bytesR r
def toksR : List IT → List AT
  | [] => []
  | none :: r => toksR r
  | some a :: r => a :: toksR r
def Chain : List IT → Prop
  | [] => True
  | none :: r => Chain r
  | some a :: r => GoodA a ∧ Fol a.k (bytesR r) ∧ Chain r
theorem bytesR_append : ∀ a b : List IT, bytesR (a ++ b) = bytesR a ++ bytesR b
  | [], b => rfl
  | none :: a, b => by simp [bytesR, bytesR_append a b]
  | some x :: a, b => by simp [bytesR, bytesR_append a b]
theorem toksR_append : ∀ a b : List IT, toksR (a ++ b) = toksR a ++ toksR b
  | [], b => rfl
  | none :: a, b => by simp [toksR, toksR_append a b]
  | some x :: a, b => by simp [toksR, toksR_append a b]
theorem blank32 : isBlank 32 = true := by decide
/-- A token that stands somewhere, by its kind, its text, its number. -/
def abl (l : List UInt8) (x : Nat × Tok) : AT := ⟨x.2.kind, ⟨((l.drop x.1).take x.2.len).toArray⟩, x.2.n⟩
def endF (i : Nat) (X : List (Nat × Tok)) : Nat := match X with
  | [] => i
  | x :: r => endB (x :: r)
theorem endF_cons (i : Nat) (x : Nat × Tok) (X : List (Nat × Tok)) : endF i (x :: X) = endF (x.1 + x.2.len) X := by
  cases X <;> rfl
theorem each_blank' (f i : Nat) {l m : List UInt8} (h : l.drop i = 32 :: m) : eachB f i l = eachB f (i + 1) l ∧ skipB i l = skipB (i + 1) l := by
  have h2 : l.drop (i + 1) = m := by rw [← List.drop_drop, h]; rfl
  have s1 : spanB isBlank (32 :: m) = spanB isBlank m + 1 := by simp [spanB, blank32]
  have e : i + (spanB isBlank m + 1) = i + 1 + spanB isBlank m := by omega
  refine ⟨?_, ?_⟩
  · cases f with
    | zero => rfl
    | succ f => rw [eachB, eachB, h, h2, s1, e]
  · unfold skipB
    rw [h, h2, s1, e]
/-- The tokens of such a text are those that it was made of, and nothing is left. -/
theorem chain_toks (l : List UInt8) : ∀ (R : List IT) (f i : Nat), Chain R → l.drop i = bytesR R → i ≤ l.length → (bytesR R).length < f →
    (eachB f i l).map (abl l) = toksR R ∧ skipB (endF i (eachB f i l)) l = l.length
  | [], f, i, _, h, hi, _ => by
    have hl : l.length ≤ i := by
      have := congrArg List.length h
      rw [List.length_drop] at this
      have : l.length - i = 0 := this
      omega
    have hs : skipB i l = i := by unfold skipB; rw [h]; rfl
    have hn : findB (l.drop (skipB i l)) = none := by rw [hs, h]; rfl
    rw [eachB_none hn]
    refine ⟨rfl, ?_⟩
    show skipB i l = _
    omega
  | none :: R, f, i, hc, h, hi, hf => by
    have hb := each_blank' f i (m := bytesR R) h
    have hlt : i + 1 ≤ l.length := by
      have := congrArg List.length h
      rw [List.length_drop] at this
      have : l.length - i = (bytesR R).length + 1 := this
      omega
    have h2 : l.drop (i + 1) = bytesR R := by rw [← List.drop_drop, h]; rfl
    have IH := chain_toks l R f (i + 1) hc h2 hlt (by have : (bytesR R).length + 1 < f := hf; omega)
    rw [hb.1]
    refine ⟨IH.1, ?_⟩
    cases hX : eachB f (i + 1) l with
    | nil =>
      rw [hX] at IH
      show skipB i l = _
      rw [hb.2]
      exact IH.2
    | cons x X =>
      rw [hX] at IH
      exact IH.2
  | some a :: R, f, i, hc, h, hi, hf => by
    obtain ⟨hg, hfo, hc⟩ := hc
    obtain ⟨c, r, hcr, hbl⟩ := hg.ne
    have hd : l.drop i = a.t.data.toList ++ bytesR R := h
    have hs : skipB i l = i := by
      unfold skipB
      rw [hd, hcr]
      simp [spanB, hbl]
    have hfi := hg.f _ hfo
    have hlen : 1 ≤ a.t.data.toList.length := by rw [hcr]; simp
    cases f with
    | zero => omega
    | succ f =>
      have hfx : findB (l.drop (skipB i l)) = some ⟨a.k, a.t.data.toList.length, a.n⟩ := by rw [hs, hd]; exact hfi
      rw [eachB_some hfx, hs]
      have h2 : l.drop (i + a.t.data.toList.length) = bytesR R := by rw [← List.drop_drop, hd, List.drop_left]
      have hle : i + a.t.data.toList.length ≤ l.length := by
        have := congrArg List.length hd
        rw [List.length_drop, List.length_append] at this
        omega
      have hl3 : (bytesR (some a :: R)).length = a.t.data.toList.length + (bytesR R).length := by
        show (a.t.data.toList ++ bytesR R).length = _
        rw [List.length_append]
      have IH := chain_toks l R f (i + a.t.data.toList.length) hc h2 hle (by omega)
      refine ⟨?_, ?_⟩
      · rw [List.map_cons, IH.1]
        show _ :: _ = a :: toksR R
        congr 1
        unfold abl
        dsimp only
        rw [hd, List.take_left]
      · rw [endF_cons]
        exact IH.2
theorem chain_all {R : List IT} (h : Chain R) : (toksB (bytesR R)).map (abl (bytesR R)) = toksR R ∧ skipB (endB (toksB (bytesR R))) (bytesR R) = (bytesR R).length := by
  have := chain_toks (bytesR R) R ((bytesR R).length + 1) 0 h rfl (Nat.zero_le _) (by omega)
  refine ⟨this.1, ?_⟩
  have h2 := this.2
  unfold toksB
  cases hX : eachB ((bytesR R).length + 1) 0 (bytesR R) with
  | nil => rw [hX] at h2; exact h2
  | cons x X => rw [hX] at h2; exact h2
/-- Items that hold together whatever may stand behind any token; they begin with what is no blank, nor '='. -/
structure Neat (R : List IT) : Prop where
  hd : ∃ c r, bytesR R = c :: r ∧ c.toNat ≠ 61
  ch : ∀ R2, Chain R2 → Neut (bytesR R2) → Chain (R ++ R2)
theorem neat_one {a : AT} (h : GoodA a) (h61 : ∀ c r, a.t.data.toList = c :: r → c.toNat ≠ 61) : Neat [some a] := by
  refine ⟨?_, fun R2 hc hn => ⟨h, hn.fol _, hc⟩⟩
  obtain ⟨c, r, e, -⟩ := h.ne
  exact ⟨c, r, by show a.t.data.toList ++ [] = _; rw [List.append_nil, e], h61 c r e⟩
/-- A sign of one byte. -/
def sg (c : UInt8) : AT := ⟨4, ⟨#[c]⟩, 0⟩
def oneSigns : List UInt8 := [44, 43, 45, 42, 47, 37, 61, 60, 62, 46, 35, 33, 40, 41]
theorem sg_good {c : UInt8} (h : c ∈ oneSigns) : GoodA (sg c) := by
  have key : ∀ c ∈ oneSigns, isSmall c = false ∧ (65 ≤ c.toNat ∧ c.toNat < 73 → False) ∧ isDigit c = false ∧ isSign c = true ∧ isBlank c = false := by decide
  obtain ⟨k1, k2, k3, k4, k5⟩ := key c h
  refine ⟨⟨c, [], rfl, k5⟩, fun m hm => ?_⟩
  have s : signB (c :: m) = 1 := by
    cases m with
    | nil => simp [signB, k4]
    | cons d r =>
      have := (hm d r rfl).2 rfl
      simp only [signB]
      rw [if_neg (fun q => this q.1), if_pos k4]
  show findB (c :: m) = _
  rw [findB, if_neg (by rw [k1]; decide), if_neg k2, if_neg (by rw [k3]; decide), s]
  rfl
/-- A sign of two bytes. -/
def sg2 (c : UInt8) : AT := ⟨4, ⟨#[c, 61]⟩, 0⟩
theorem sg2_good {c : UInt8} (h : c = 33 ∨ c = 60 ∨ c = 62) : GoodA (sg2 c) := by
  have key : ∀ c : UInt8, (c = 33 ∨ c = 60 ∨ c = 62) → isSmall c = false ∧ (65 ≤ c.toNat ∧ c.toNat < 73 → False) ∧ isDigit c = false ∧ (c.toNat = 33 ∨ c.toNat = 60 ∨ c.toNat = 62) ∧ isBlank c = false := by
    rintro c (rfl | rfl | rfl) <;> decide
  obtain ⟨k1, k2, k3, k4, k5⟩ := key c h
  refine ⟨⟨c, [61], rfl, k5⟩, fun m hm => ?_⟩
  have s : signB (c :: 61 :: m) = 2 := by
    simp only [signB]
    rw [if_pos ⟨by decide, k4⟩]
  show findB (c :: 61 :: m) = _
  rw [findB, if_neg (by rw [k1]; decide), if_neg k2, if_neg (by rw [k3]; decide), s]
  rfl
theorem span_good {p : UInt8 → Bool} {x m : List UInt8} (hx : ∀ c ∈ x, p c = true) (hm : ∀ c r, m = c :: r → p c = false) : spanB p (x ++ m) = x.length := by
  refine spanB_is p _ _ (by simp) (fun j c hj hc => ?_) (fun c hc => ?_)
  · rw [List.getElem?_append_left hj] at hc
    exact hx c (List.mem_of_getElem? hc)
  · rw [List.getElem?_append_right (Nat.le_refl _), Nat.sub_self] at hc
    cases m with
    | nil => simp at hc
    | cons d r => simp at hc; subst hc; exact hm d r rfl
theorem word_both {c : UInt8} (h : isBoth c = false) : isWord c = false ∧ isDigit c = false ∧ isLetter c = false := by
  unfold isBoth isLetter at h
  unfold isWord isLetter
  revert h
  cases isSmall c <;> cases isCap c <;> cases isDigit c <;> simp
/-- A name, or a keyword. -/
theorem word_good {t : ByteArray} {c : UInt8} {r : List UInt8} (ht : t.data.toList = c :: r) (hs : isSmall c = true) (hw : ∀ d ∈ r, isWord d = true) : GoodA ⟨1, t, 0⟩ := by
  have hb : isBlank c = false := by
    have : 97 ≤ c.toNat ∧ c.toNat ≤ 122 := by simpa [isSmall] using hs
    simp [isBlank]
    omega
  refine ⟨⟨c, r, ht, hb⟩, fun m hm => ?_⟩
  have hall : ∀ d ∈ c :: r, isWord d = true := by
    intro d hd
    rcases List.mem_cons.1 hd with rfl | hd
    · simp [isWord, hs]
    · exact hw d hd
  have := span_good (m := m) hall (fun d q e => (word_both ((hm d q e).1 (by show (1 : Nat) ≠ 4; decide))).1)
  dsimp only
  rw [ht, List.cons_append, findB, if_pos hs]
  rw [List.cons_append] at this
  rw [this]
/-- What a name's text must be. -/
theorem good_word {l : List UInt8} {k n m : Nat} (h : findB l = some ⟨1, k, n⟩) : n = 0 ∧ ∃ c r, l = c :: r ∧ isSmall c = true ∧ k = spanB isWord l := by
  cases l with
  | nil => simp [findB] at h
  | cons c r =>
    simp only [findB] at h
    split at h
    · next hs =>
      simp at h
      exact ⟨h.2.symm, c, r, rfl, hs, h.1.symm⟩
    · split at h
      · split at h
        · cases h
        · simp at h
      · split at h
        · split at h
          · simp at h
          · cases h
        · split at h
          · cases h
          · simp at h
end Go.Proofs.YtadogobdlcionaaGreatDoor
namespace Go.Proofs.YtadogobdlcionaaGreatDoor
open Go.ChangeShapes Go.WideShapes Go.ChangeAt Go.RowKit Go.Shelf
set_option linter.unusedVariables false
def opA (a : AT) : Int := 1 + idxI reckonsT a.t
abbrev mnT : ByteArray := ⟨#[45]⟩
abbrev opT : ByteArray := ⟨#[40]⟩
abbrev hsT : ByteArray := ⟨#[35]⟩
def plainA (a : AT) : Prop := a.t ≠ mnT ∧ a.t ≠ opT ∧ a.t ≠ hsT
def nmA (a : AT) : Bool := decide (a.k = 1) && !keyB a.t
/-- What a sum (0), a product (1), a part that stands alone (2) is, of a depth at most: its tokens, its codes. -/
inductive D : Nat → Nat → List AT → List CD → Prop
  | num {d : Nat} {a : AT} : plainA a → a.k = 3 → D 2 d [a] [{ zcd with op := 6, n := a.n }]
  | cnt {d : Nat} {h a : AT} : h.t = hsT → nmA a = true → D 2 d [h, a] [{ zcd with op := 8, var := a.t }]
  | fld {d : Nat} {a p f : AT} : plainA a → a.k ≠ 3 → nmA a = true → p.t = dot → lettersT.any (fun y => decide (y = f.t)) = true → D 2 d [a, p, f] [{ zcd with op := 7, var := a.t, field := idxI lettersT f.t }]
  | neg {d : Nat} {m : AT} {ts : List AT} {c : List CD} : m.t = mnT → D 2 d ts c → D 2 (d + 1) (m :: ts) (c ++ [{ zcd with op := 9 }])
  | par {d : Nat} {o z : AT} {ts : List AT} {c : List CD} : o.t = opT → D 0 d ts c → z.t = shut → D 2 (d + 1) (o :: (ts ++ [z])) c
  | p0 {d : Nat} {ts : List AT} {c : List CD} : D 2 d ts c → D 1 d ts c
  | p1 {d : Nat} {ts ts' : List AT} {c c' : List CD} {o : AT} : D 1 d ts c → (3 ≤ opA o ∧ opA o ≤ 5) → D 2 d ts' c' → D 1 d (ts ++ o :: ts') (c ++ c' ++ [{ zcd with op := opA o }])
  | s0 {d : Nat} {ts : List AT} {c : List CD} : D 1 d ts c → D 0 d ts c
  | s1 {d : Nat} {ts ts' : List AT} {c c' : List CD} {o : AT} : D 0 d ts c → (1 ≤ opA o ∧ opA o ≤ 2) → D 1 d ts' c' → D 0 d (ts ++ o :: ts') (c ++ c' ++ [{ zcd with op := opA o }])
theorem D.up1 {lv d : Nat} {ts : List AT} {c : List CD} (h : D lv d ts c) : D lv (d + 1) ts c := by
  induction h with
  | num a b => exact .num a b
  | cnt a b => exact .cnt a b
  | fld a b c d e => exact .fld a b c d e
  | neg a _ ih => exact .neg a ih
  | par a _ b ih => exact .par a ih b
  | p0 _ ih => exact .p0 ih
  | p1 _ a _ ih ih' => exact .p1 ih a ih'
  | s0 _ ih => exact .s0 ih
  | s1 _ a _ ih ih' => exact .s1 ih a ih'
theorem D.up {lv d e : Nat} {ts : List AT} {c : List CD} (h : D lv d ts c) (he : d ≤ e) : D lv e ts c := by
  obtain ⟨k, rfl⟩ : ∃ k, e = d + k := ⟨e - d, by omega⟩
  clear he
  induction k with
  | zero => exact h
  | succ k ih => exact ih.up1
theorem D.ne {lv d : Nat} {ts : List AT} {c : List CD} (h : D lv d ts c) : ts ≠ [] := by
  induction h with
  | num a b => simp
  | cnt a b => simp
  | fld a b c d e => simp
  | neg a _ ih => simp
  | par a _ b ih => simp
  | p0 _ ih => exact ih
  | p1 _ a _ ih ih' => simp
  | s0 _ ih => exact ih
  | s1 _ a _ ih ih' => simp
def ab (s : ByteArray) (x : Nat × Tok) : AT := ⟨x.2.kind, textOf s x, x.2.n⟩
def abL (s : ByteArray) (L : List (Nat × Tok)) : List AT := L.map (ab s)
theorem ab_at {s : ByteArray} {L : List (Nat × Tok)} {i : Nat} {a : AT} (h : (abL s L)[i]? = some a) : ∃ x, L[i]? = some x ∧ ab s x = a := by
  unfold abL at h
  rw [List.getElem?_map] at h
  cases hx : L[i]? with
  | none => rw [hx] at h; cases h
  | some x => rw [hx] at h; injection h with h; exact ⟨x, rfl, h⟩
theorem at_ab {s : ByteArray} {L : List (Nat × Tok)} {i : Nat} {x : Nat × Tok} (h : L[i]? = some x) : (abL s L)[i]? = some (ab s x) := by
  unfold abL
  rw [List.getElem?_map, h]
  rfl
theorem ab_none {s : ByteArray} {L : List (Nat × Tok)} {i : Nat} (h : (abL s L).drop i = []) : L[i]? = none := by
  have := congrArg List.length h
  unfold abL at this
  rw [List.length_drop, List.length_map] at this
  exact List.getElem?_eq_none (by have : L.length - i = 0 := this; omega)
theorem drop_at {A B : List AT} {i : Nat} (h : A.drop i = B) (k : Nat) : A[i + k]? = B[k]? := by rw [← h, List.getElem?_drop]
theorem drop_on {A B C : List AT} {i : Nat} (h : A.drop i = B ++ C) : A.drop (i + B.length) = C := by rw [← List.drop_drop, h, List.drop_left]
theorem op_cons {s : ByteArray} {L : List (Nat × Tok)} {i : Nat} {a : AT} {q : List AT} (h : (abL s L).drop i = a :: q) : opAt s L i = opA a := by
  obtain ⟨x, hx, rfl⟩ := ab_at (drop_at h 0)
  rw [Nat.add_zero] at hx
  unfold opAt textAt opA
  rw [hx]
  rfl
theorem op_nil {s : ByteArray} {L : List (Nat × Tok)} {i : Nat} (h : (abL s L).drop i = []) : opAt s L i = 0 := by
  unfold opAt textAt
  rw [ab_none h]
  show 1 + idxI reckonsT ⟨#[]⟩ = 0
  decide
theorem is_text (t : ByteArray) (c : UInt8) : (t.toList == [c]) = decide (t = ⟨#[c]⟩) := by
  have e : (⟨#[c]⟩ : ByteArray).toList = [c] := ByteArray.toList_eq _
  rw [← text_beq, e]
def noOp (lo hi : Int) (q : List AT) : Prop := ∀ a r, q = a :: r → ¬ (lo ≤ opA a ∧ opA a ≤ hi)
section
variable {s : ByteArray} {L : List (Nat × Tok)} {e : Nat}
theorem lp_end {b : Bool} {c : List CD} {f nest i : Nat} {q : List AT} (h : (abL s L).drop i = q) (hq : noOp (if b then 1 else 3) (if b then 2 else 5) q) : readF s L e (f + 1) (.lp b c) nest i = .ok c i := by
  rw [readF, if_neg]
  cases q with
  | nil => rw [op_nil h]; cases b <;> decide
  | cons a r => rw [op_cons h]; exact hq a r rfl
def Stops (r : PA (List CD)) (nest d : Nat) : Prop := ∃ a, r = .stop a 12 ∧ 16 < nest + d
def RU (s : ByteArray) (L : List (Nat × Tok)) (e d : Nat) (ts : List AT) (c : List CD) : Prop := ∀ f nest i rest, (abL s L).drop i = ts ++ rest →
  readF s L e f .un nest i = .out ∨ readF s L e f .un nest i = .ok c (i + ts.length) ∨ Stops (readF s L e f .un nest i) nest d
def RP (s : ByteArray) (L : List (Nat × Tok)) (e d : Nat) (ts : List AT) (c : List CD) : Prop := ∀ f nest i rest, (abL s L).drop i = ts ++ rest →
  readF s L e f .pr nest i = .out ∨ (∃ g, readF s L e f .pr nest i = readF s L e g (.lp false c) nest (i + ts.length)) ∨ Stops (readF s L e f .pr nest i) nest d
def RS (s : ByteArray) (L : List (Nat × Tok)) (e d : Nat) (ts : List AT) (c : List CD) : Prop := ∀ f nest i rest, (abL s L).drop i = ts ++ rest → noOp 3 5 rest →
  readF s L e f .su nest i = .out ∨ (∃ g, readF s L e f .su nest i = readF s L e g (.lp true c) nest (i + ts.length)) ∨ Stops (readF s L e f .su nest i) nest d
def ReadsG (s : ByteArray) (L : List (Nat × Tok)) (e : Nat) : Nat → Nat → List AT → List CD → Prop
  | 0, d, ts, c => RS s L e d ts c
  | 1, d, ts, c => RP s L e d ts c
  | _, d, ts, c => RU s L e d ts c
theorem RS.end_ {d : Nat} {ts : List AT} {c : List CD} (h : RS s L e d ts c) {f nest i : Nat} {rest : List AT} (hd : (abL s L).drop i = ts ++ rest) (h1 : noOp 3 5 rest) (h2 : noOp 1 2 rest) :
    readF s L e f .su nest i = .out ∨ readF s L e f .su nest i = .ok c (i + ts.length) ∨ Stops (readF s L e f .su nest i) nest d := by
  rcases h f nest i rest hd h1 with q | ⟨g, q⟩ | q
  · exact .inl q
  · cases g with
    | zero => left; rw [q]; rfl
    | succ g => right; left; rw [q]; exact lp_end (b := true) (drop_on hd) h2
  · exact .inr (.inr q)
theorem RP.end_ {d : Nat} {ts : List AT} {c : List CD} (h : RP s L e d ts c) {f nest i : Nat} {rest : List AT} (hd : (abL s L).drop i = ts ++ rest) (h1 : noOp 3 5 rest) :
    readF s L e f .pr nest i = .out ∨ readF s L e f .pr nest i = .ok c (i + ts.length) ∨ Stops (readF s L e f .pr nest i) nest d := by
  rcases h f nest i rest hd with q | ⟨g, q⟩ | q
  · exact .inl q
  · cases g with
    | zero => left; rw [q]; rfl
    | succ g => right; left; rw [q]; exact lp_end (b := false) (drop_on hd) h1
  · exact .inr (.inr q)
theorem take_un {x : Nat × Tok} {i : Nat} (hx : L[i]? = some x) (h : unaryB s x = true) : takeB (unaryB s) L i = some x := by unfold takeB; rw [hx]; simp [h]
theorem take_nm {x : Nat × Tok} {i : Nat} (hx : L[i]? = some x) (h : nmA (ab s x) = true) : takeB (nameB s) L i = some x := by
  unfold takeB
  rw [hx]
  have : nameB s x = true := h
  simp [this]
theorem has_at {x : Nat × Tok} {i : Nat} {t : ByteArray} (hx : L[i]? = some x) (h : (ab s x).t = t) : hasB s L t i = true := by
  unfold hasB
  rw [hx]
  exact decide_eq_true h
theorem un_plain {x : Nat × Tok} (h : plainA (ab s x)) : ((textOf s x).toList == [45]) = false ∧ ((textOf s x).toList == [40]) = false ∧ ((textOf s x).toList == [35]) = false := by
  rw [is_text, is_text, is_text]
  exact ⟨decide_eq_false h.1, decide_eq_false h.2.1, decide_eq_false h.2.2⟩
theorem un_num {x : Nat × Tok} (h : x.2.kind = 3) : unaryB s x = true := by unfold unaryB; simp [h]
theorem un_nm {x : Nat × Tok} (h : nmA (ab s x) = true) : unaryB s x = true := by
  have : nameB s x = true := h
  unfold unaryB
  simp [this]
theorem un_sg {x : Nat × Tok} {c : UInt8} (h : (ab s x).t = ⟨#[c]⟩) (hc : c = 45 ∨ c = 40 ∨ c = 35) : unaryB s x = true := by
  have h : textOf s x = ⟨#[c]⟩ := h
  unfold unaryB
  rw [is_text, is_text, is_text, h]
  rcases hc with rfl | rfl | rfl <;> simp
/-- What the grammar gives the parser reads, or it is too deep, or the fuel is out. -/
theorem D.reads {lv d : Nat} {ts : List AT} {c : List CD} (h : D lv d ts c) : ReadsG s L e lv d ts c := by
  induction h with
  | num hp hk =>
    intro f nest i rest hd
    cases f with
    | zero => exact .inl rfl
    | succ f =>
      obtain ⟨x, hx, rfl⟩ := ab_at (drop_at hd 0)
      rw [Nat.add_zero] at hx
      obtain ⟨u1, u2, u3⟩ := un_plain hp
      right; left
      have hk : x.2.kind = 3 := hk
      rw [readF, take_un hx (un_num hk)]
      dsimp only
      rw [if_neg (by rw [u1]; decide), if_neg (by rw [u2]; decide), if_neg (by rw [u3]; decide), if_pos hk]
      rfl
  | cnt hh hn =>
    intro f nest i rest hd
    cases f with
    | zero => exact .inl rfl
    | succ f =>
      obtain ⟨x, hx, rfl⟩ := ab_at (drop_at hd 0)
      obtain ⟨y, hy, rfl⟩ := ab_at (drop_at hd 1)
      rw [Nat.add_zero] at hx
      have hh' : textOf s x = ⟨#[35]⟩ := hh
      right; left
      rw [readF, take_un hx (un_sg hh (.inr (.inr rfl)))]
      dsimp only
      rw [is_text, is_text, is_text, hh', if_neg (by decide), if_neg (by decide), if_pos (by decide), take_nm hy hn]
      rfl
  | fld hp hk hn hdot hf =>
    intro f nest i rest hd
    cases f with
    | zero => exact .inl rfl
    | succ f =>
      obtain ⟨x, hx, rfl⟩ := ab_at (drop_at hd 0)
      obtain ⟨y, hy, rfl⟩ := ab_at (drop_at hd 1)
      obtain ⟨z, hz, rfl⟩ := ab_at (drop_at hd 2)
      rw [Nat.add_zero] at hx
      obtain ⟨u1, u2, u3⟩ := un_plain hp
      right; left
      have hk : ¬ x.2.kind = 3 := hk
      have hz2 : takeB (inB lettersT s) L (i + 2) = some z := by
        unfold takeB
        rw [hz]
        have : inB lettersT s z = true := hf
        simp [this]
      rw [readF, take_un hx (un_nm hn)]
      dsimp only
      rw [if_neg (by rw [u1]; decide), if_neg (by rw [u2]; decide), if_neg (by rw [u3]; decide), if_neg hk, if_pos (has_at hy hdot), hz2]
      rfl
  | @neg d m ts c hm hD ih =>
    intro f nest i rest hd
    cases f with
    | zero => exact .inl rfl
    | succ f =>
      obtain ⟨x, hx, rfl⟩ := ab_at (drop_at hd 0)
      rw [Nat.add_zero] at hx
      have hm' : textOf s x = ⟨#[45]⟩ := hm
      have h2 : (abL s L).drop (i + 1) = ts ++ rest := by rw [← List.drop_drop, hd]; rfl
      rw [readF, take_un hx (un_sg hm (.inl rfl))]
      dsimp only
      rw [is_text, hm', if_pos (by decide)]
      by_cases h16 : nest = 16
      · rw [if_pos h16]
        exact .inr (.inr ⟨_, rfl, by omega⟩)
      · rw [if_neg h16]
        rcases ih f (nest + 1) (i + 1) rest h2 with q | q | ⟨a, q, q'⟩
        · rw [q]; exact .inl rfl
        · rw [q]
          right; left
          show PA.ok _ _ = PA.ok _ _
          rw [List.length_cons, show i + 1 + ts.length = i + (ts.length + 1) by omega]
        · rw [q]
          exact .inr (.inr ⟨a, rfl, by omega⟩)
  | @par d o z ts c ho hD hz ih =>
    intro f nest i rest hd
    cases f with
    | zero => exact .inl rfl
    | succ f =>
      obtain ⟨x, hx, rfl⟩ := ab_at (drop_at hd 0)
      rw [Nat.add_zero] at hx
      have ho' : textOf s x = ⟨#[40]⟩ := ho
      have h2 : (abL s L).drop (i + 1) = ts ++ (z :: rest) := by rw [← List.drop_drop, hd]; simp
      rw [readF, take_un hx (un_sg ho (.inr (.inl rfl)))]
      dsimp only
      rw [is_text, is_text, ho', if_neg (by decide), if_pos (by decide)]
      by_cases h16 : nest = 16
      · rw [if_pos h16]
        exact .inr (.inr ⟨_, rfl, by omega⟩)
      · rw [if_neg h16]
        have hno : ∀ lo hi : Int, 1 ≤ lo → noOp lo hi (z :: rest) := by
          intro lo hi hlo a r ha
          injection ha with ha _
          subst ha
          have : opA z = 0 := by unfold opA; rw [hz]; decide
          omega
        rcases RS.end_ ih (f := f) (nest := nest + 1) h2 (hno 3 5 (by decide)) (hno 1 2 (by decide)) with q | q | ⟨a, q, q'⟩
        · rw [q]; exact .inl rfl
        · rw [q]
          right; left
          obtain ⟨y, hy, rfl⟩ := ab_at (drop_at (drop_on h2) 0)
          rw [Nat.add_zero] at hy
          show (if hasB s L shut (i + 1 + ts.length) = true then _ else _) = _
          rw [if_pos (has_at hy hz)]
          simp only [List.length_cons, List.length_append, List.length_nil]
          rw [show i + 1 + ts.length + 1 = i + (ts.length + (0 + 1) + 1) by omega]
        · rw [q]
          exact .inr (.inr ⟨a, rfl, by omega⟩)
  | p0 _ ih =>
    intro f nest i rest hd
    cases f with
    | zero => exact .inl rfl
    | succ f =>
      rw [readF]
      rcases ih f nest i rest hd with q | q | ⟨a, q, q'⟩
      · rw [q]; exact .inl rfl
      · rw [q]; exact .inr (.inl ⟨f, rfl⟩)
      · rw [q]; exact .inr (.inr ⟨a, rfl, q'⟩)
  | @p1 d ts ts' c c' o _ ho _ ih ih' =>
    intro f nest i rest hd
    rw [List.append_assoc] at hd
    rcases ih f nest i _ hd with q | ⟨g, q⟩ | q
    · exact .inl q
    · cases g with
      | zero => left; rw [q]; rfl
      | succ g =>
        have h2 := drop_on hd
        have h3 : (abL s L).drop (i + ts.length + 1) = ts' ++ rest := by rw [← List.drop_drop, h2]; rfl
        rw [q, readF.eq_def]
        dsimp only
        rw [op_cons h2, if_pos (show (if false = true then (1 : Int) else 3) ≤ opA o ∧ opA o ≤ (if false = true then 2 else 5) from ho)]
        rcases ih' g nest (i + ts.length + 1) rest h3 with q | q | ⟨a, q, q'⟩
        · left
          show (match readF s L e g .un nest (i + ts.length + 1) with | .ok r j => _ | r => r) = _
          rw [q]
        · right; left
          refine ⟨g, ?_⟩
          show (match readF s L e g .un nest (i + ts.length + 1) with | .ok r j => _ | r => r) = _
          rw [q]
          dsimp only
          rw [List.length_append, List.length_cons, show i + ts.length + 1 + ts'.length = i + (ts.length + (ts'.length + 1)) by omega]
        · right; right
          refine ⟨a, ?_, q'⟩
          show (match readF s L e g .un nest (i + ts.length + 1) with | .ok r j => _ | r => r) = _
          rw [q]
    · exact .inr (.inr q)
  | @s0 d ts c _ ih =>
    intro f nest i rest hd hn
    cases f with
    | zero => exact .inl rfl
    | succ f =>
      rw [readF]
      rcases RP.end_ ih (f := f) (nest := nest) hd hn with q | q | ⟨a, q, q'⟩
      · rw [q]; exact .inl rfl
      · rw [q]; exact .inr (.inl ⟨f, rfl⟩)
      · rw [q]; exact .inr (.inr ⟨a, rfl, q'⟩)
  | @s1 d ts ts' c c' o _ ho _ ih ih' =>
    intro f nest i rest hd hn
    rw [List.append_assoc] at hd
    have hno : noOp 3 5 ((o :: ts') ++ rest) := by
      intro a r ha
      injection ha with ha _
      subst ha
      omega
    rcases ih f nest i _ hd hno with q | ⟨g, q⟩ | q
    · exact .inl q
    · cases g with
      | zero => left; rw [q]; rfl
      | succ g =>
        have h2 := drop_on hd
        have h3 : (abL s L).drop (i + ts.length + 1) = ts' ++ rest := by rw [← List.drop_drop, h2]; rfl
        rw [q, readF.eq_def]
        dsimp only
        rw [op_cons h2, if_pos (show (if true = true then (1 : Int) else 3) ≤ opA o ∧ opA o ≤ (if true = true then 2 else 5) from ho)]
        rcases RP.end_ ih' (f := g) (nest := nest) h3 hn with q | q | ⟨a, q, q'⟩
        · left
          show (match readF s L e g .pr nest (i + ts.length + 1) with | .ok r j => _ | r => r) = _
          rw [q]
        · right; left
          refine ⟨g, ?_⟩
          show (match readF s L e g .pr nest (i + ts.length + 1) with | .ok r j => _ | r => r) = _
          rw [q]
          dsimp only
          rw [List.length_append, List.length_cons, show i + ts.length + 1 + ts'.length = i + (ts.length + (ts'.length + 1)) by omega]
        · right; right
          refine ⟨a, ?_, q'⟩
          show (match readF s L e g .pr nest (i + ts.length + 1) with | .ok r j => _ | r => r) = _
          rw [q]
    · exact .inr (.inr q)
/-- What the parser reads of a sum. -/
theorem sum_reads {d : Nat} {ts : List AT} {c : List CD} (h : D 0 d ts c) {nest i : Nat} {rest : List AT} (hd : (abL s L).drop i = ts ++ rest) (h1 : noOp 3 5 rest) (h2 : noOp 1 2 rest) :
    sumB s L e nest i = .ok c (i + ts.length) ∨ Stops (sumB s L e nest i) nest d := by
  rcases RS.end_ (D.reads (s := s) (L := L) (e := e) h) (f := 3 * L.length + 3) (nest := nest) hd h1 h2 with q | q
  · exact absurd q sum_out
  · exact q
end
end Go.Proofs.YtadogobdlcionaaGreatDoor
