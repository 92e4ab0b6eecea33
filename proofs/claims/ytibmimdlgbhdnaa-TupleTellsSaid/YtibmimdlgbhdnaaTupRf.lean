/-
  The document's own answers of layer 6: rows of a match one behind the other, and two matches held against each other.
-/
import Derived.Test.YtibmimdlgbhdnaaTupFl
import Derived.Test.YtibmimdlgbhdnaaTupS
namespace Go.Proofs.Ytibmimdlgbhdnaa
open Go.ChangeShapes Go.WideShapes Go.ChangeAt Go.RowKit
set_option linter.unusedVariables false

set_option maxRecDepth 100000 in
set_option maxHeartbeats 4000000 in
theorem rflat_is {w : World} {v : Value} {M : Mat} (h : RowsAt w v M) (hM : M.length ≤ 12 ∧ ∀ x ∈ M, x.length ≤ 4) :
    Calls Try.prog 19 #[v] w fun e w' => ∃ v', e = .returned v' ∧ FlatPost w M v' w' := by
  obtain ⟨a, b, off, cap, rfl, ha, hx⟩ := h
  have HX := Lib.hid hx
  have R0 : Cc2 w M M.length (.slice none 0 0) (.int .i64 0) w := ⟨0, rfl, Nat.zero_le _, rfl, by simpa [flatN, intsV] using World.ownsRow_nil w w.heap.size 3 1, Turn.refl _ _⟩
  clear hx
  go_enter Try.func19, Try.ntmps19
  go_wp2_with fail
  go_loopg [3, 4] M.length (fun gh v3 v4 wr' => Cc2 w M gh v3 v4 wr')
  case atStart => exact R0
  case round =>
    clear R0
    obtain ⟨j, rfl, hj, hg, ho, T⟩ := hrel
    have hfl2 := flat_len hM j
    by_cases hjl : j < M.length
    · obtain rfl := ha.resolve_left (fun e => by rw [e] at hjl; simp at hjl)
      obtain ⟨l, hl⟩ : ∃ l, M[j]? = some l := ⟨_, List.getElem?_eq_getElem hjl⟩
      obtain ⟨r, z, hra⟩ := HX.out j l hl
      have hl4 := hM.2 l (List.mem_of_getElem? hl)
      have y := T.cell id z
      obtain ⟨v5, w5, hrun, ho5, T5⟩ := nums_app ho T.size (by omega) (hra.turn T)
      obtain ⟨p, _, _, c, rfl, _⟩ := hra
      have ht : decide ((j : Int) < (M.length : Int)) = true := by simp; omega
      have hk1 : (j : Int) < (M.length : Int) := by omega
      have hk0 : (0 : Int) ≤ (j : Int) := by omega
      have FIN := Lib.hid (show Cc2 w M (M.length - (j + 1)) v5 (.int .i64 ((j + 1 : Nat) : Int)) w5 from ⟨j + 1, rfl, by omega, rfl, by
        rw [flat_take hl, List.length_append, show intsV (flatN (M.take j) ++ l) = intsV (flatN (M.take j)) ++ intsV l by simp [intsV]]
        exact ho5, turn_fresh T ho T5⟩)
      obtain ⟨p6, c6, rfl, _⟩ := own_slice ho
      obtain ⟨p5, c5, rfl, _⟩ := own_slice ho5
      have RUN := Lib.hid hrun
      have G := Lib.hid hg
      clear hl hg ho T hrun ho5 T5 z
      generalize (flatN (M.take j)).length = s2 at *
      go_wp2_with (refine rl_append_run (by rfl) _ _ _ (by rfl) (by rfl) (by rfl) RUN.out ?_)
      go_roundg (M.length - (j + 1))
      case measure => have := G.out; omega
      case rel => exact FIN.out
    · have e : M.take j = M := List.take_of_length_le (by omega)
      rw [e] at ho
      have F := Lib.hid (show FlatPost w M _ wr from ⟨ho, T⟩)
      obtain ⟨p6, c6, rfl, _⟩ := own_slice ho
      have ht2 : decide ((j : Int) < (M.length : Int)) = false := by simp; omega
      clear e hg ho T
      generalize (flatN M).length = s2 at *
      go_wp2
      go_ret
      exact ⟨_, rfl, F.out⟩
set_option maxRecDepth 100000 in
set_option maxHeartbeats 4000000 in
theorem rcmp_is {w : World} {v1 v2 : Value} {l m : Mat} (h1 : RowsAt w v1 l) (h2 : RowsAt w v2 m) (hl : l.length ≤ 1000000) (hm : m.length ≤ 1000000) (hL : ∀ x ∈ l, x.length ≤ 1000000) (hM : ∀ x ∈ m, x.length ≤ 1000000) :
    Calls Try.prog 21 #[v1, v2] w fun e w' => e = .returned (.int .i64 (cmpM l m)) ∧ ∃ d, w' = w.drewN d := by
  obtain ⟨a1, b1, o1, c1, rfl, e1, y1⟩ := h1
  obtain ⟨a2, b2, o2, c2, rfl, e2, y2⟩ := h2
  have Y := Lib.hid (And.intro y1 y2)
  have LM := Lib.hid (And.intro hL hM)
  clear y1 y2 hL hM
  have R0 : CmpRel (cmpL cmpI) w l m (min l.length m.length) (min l.length m.length) (.int .i64 0) w := ⟨0, 0, rfl, Nat.zero_le _, rfl, rfl, rfl⟩
  go_enter Try.func21, Try.ntmps21
  go_wp2_with fail
  go_loopg [5] (min l.length m.length) (fun gh v wr => CmpRel (cmpL cmpI) w l m (min l.length m.length) gh v wr)
  case atStart => exact R0
  case round =>
    clear R0
    obtain ⟨k, d, rfl, hk, hg, hc, hw⟩ := hrel
    by_cases hkn : k < l.length ∧ k < m.length
    · obtain ⟨hk1n, hk2n⟩ := hkn
      obtain ⟨x, hx⟩ : ∃ x, l[k]? = some x := ⟨_, List.getElem?_eq_getElem hk1n⟩
      obtain ⟨y, hy⟩ : ∃ y, m[k]? = some y := ⟨_, List.getElem?_eq_getElem hk2n⟩
      obtain rfl := e1.resolve_left (fun e => by rw [e] at hx; cases hx)
      obtain rfl := e2.resolve_left (fun e => by rw [e] at hy; cases hy)
      obtain ⟨r1, z1, q1⟩ := Y.out.1 k x hx
      obtain ⟨r2, z2, q2⟩ := Y.out.2 k y hy
      have CR := Lib.hid (fun dd => ref_row (w := w.drewN dd) q1 q2 (LM.out.1 x (List.mem_of_getElem? hx)) (LM.out.2 y (List.mem_of_getElem? hy)))
      obtain ⟨p1, p2, p3, p4, rfl, _⟩ := q1
      obtain ⟨p5, p6, p7, p8, rfl, _⟩ := q2
      have y1 : wr.cell? ⟨b1, o1 + k, none⟩ = some (.slice p1 x.length p4) := by rw [hw]; exact z1
      have y2 : wr.cell? ⟨b2, o2 + k, none⟩ = some (.slice p5 y.length p8) := by rw [hw]; exact z2
      have t1 : decide ((k : Int) < (l.length : Int)) = true := by simp; omega
      have t2 : decide ((k : Int) < (m.length : Int)) = true := by simp; omega
      have hk1 : (k : Int) < (l.length : Int) := by omega
      have hk2 : (k : Int) < (m.length : Int) := by omega
      have hk0 : (0 : Int) ≤ (k : Int) := by omega
      have Q := Lib.hid (fun dd => show Calls Try.prog 57 #[.slice p1 x.length p4, .slice p5 y.length p8] (wr.drewN dd) (fun e w' => e = Ending.returned (.int .i64 (cmpL cmpI x y)) ∧ ∃ q, w' = wr.drewN q) from by
        rw [hw, World.drewN_drewN]
        refine (CR.out (d + dd)).mono fun e w' h => ⟨h.1, ?_⟩
        obtain ⟨q, hq⟩ := h.2
        exact ⟨dd + q, by rw [hq, World.drewN_drewN, World.drewN_drewN, Nat.add_assoc]⟩)
      have Z := Lib.hid (And.intro hg (And.intro (hc.trans (cmpL_at (cmpL cmpI) hx hy)) (show ∀ q, wr.drewN q = w.drewN (d + q) from fun q => by rw [hw, World.drewN_drewN])))
      clear hx hy hc hg hw z1 z2 CR
      go_wp2_with fail
      go_quiet ((go_at_call 57; exact Q.out _))
      by_cases h0 : cmpL cmpI x y = 0
      · have hb : (cmpL cmpI x y != 0) = false := by simpa using h0
        rw [h0] at Z
        rw [h0]
        go_wp2_with fail
        go_roundg (min l.length m.length - (k + 1))
        case measure => have := Z.out.1; omega
        case rel => exact ⟨k + 1, _, by go_num, by omega, rfl, Z.out.2.1, Z.out.2.2 _⟩
      · have hb : (cmpL cmpI x y != 0) = true := by simpa using h0
        generalize hz : cmpL cmpI x y = z at *
        go_wp2
        go_ret
        exact ⟨by unfold cmpM; rw [Z.out.2.1, if_neg h0]; rfl, _, Z.out.2.2 _⟩
    · have hkm : k = min l.length m.length := by omega
      have Z := Lib.hid (And.intro (by rw [hkm] at hc; exact hc.trans (cmpL_end (cmpL cmpI) rfl)) hw)
      clear hc hw hg
      by_cases hlt : l.length < m.length
      · have v : cmpI (l.length : Int) (m.length : Int) = -1 := by unfold cmpI; rw [if_pos (by omega)]
        rw [v] at Z
        have t1 : decide ((k : Int) < (l.length : Int)) = false := by simp; omega
        have t3 : decide ((l.length : Int) < (m.length : Int)) = true := by simp; omega
        clear v hkm
        go_wp2
        go_ret
        exact ⟨by unfold cmpM; rw [Z.out.1]; rfl, _, Z.out.2⟩
      · have t3 : decide ((l.length : Int) < (m.length : Int)) = false := by simp; omega
        by_cases hgt : m.length < l.length
        · have v : cmpI (l.length : Int) (m.length : Int) = 1 := by unfold cmpI; rw [if_neg (by omega), if_pos (by omega)]
          rw [v] at Z
          have t1 : decide ((k : Int) < (l.length : Int)) = true := by simp; omega
          have t2 : decide ((k : Int) < (m.length : Int)) = false := by simp; omega
          have t4 : decide ((m.length : Int) < (l.length : Int)) = true := by simp; omega
          clear v hkm
          go_wp2
          go_ret
          exact ⟨by unfold cmpM; rw [Z.out.1]; rfl, _, Z.out.2⟩
        · have v : cmpI (l.length : Int) (m.length : Int) = 0 := by unfold cmpI; rw [if_neg (by omega), if_neg (by omega)]
          rw [v] at Z
          have t1 : decide ((k : Int) < (l.length : Int)) = false := by simp; omega
          have t4 : decide ((m.length : Int) < (l.length : Int)) = false := by simp; omega
          clear v hkm
          go_wp2
          go_ret
          exact ⟨by unfold cmpM; rw [Z.out.1]; rfl, _, Z.out.2⟩
def SmRel (w : World) (n : Nat) (gh : Nat) (v : Value) (wr : World) : Prop := ∃ (i d : Nat), v = .int .i64 (i : Int) ∧ i ≤ n ∧ gh = n - i ∧ wr = w.drewN d
set_option maxRecDepth 100000 in
set_option maxHeartbeats 4000000 in
/-- Two rows of the same matches are the same. -/
theorem rsame_is {w : World} {a1 a2 : Option Addr} {b1 o1 c1 b2 o2 c2 : Nat} {MS : List Mat} (h1 : MatsIn w a1 b1 o1 c1 MS) (h2 : MatsIn w a2 b2 o2 c2 MS) (hn : MS.length ≤ 12) (hs : small MS) :
    Calls Try.prog 22 #[.slice a1 MS.length c1, .slice a2 MS.length c2] w fun e w' => e = .returned (.bool true) ∧ ∃ d, w' = w.drewN d := by
  have H := Lib.hid (And.intro h1 (And.intro h2 hs))
  have R0 : SmRel w MS.length MS.length (.int .i64 0) w := ⟨0, 0, rfl, Nat.zero_le _, rfl, rfl⟩
  clear h1 h2 hs
  go_enter Try.func22, Try.ntmps22
  go_wp2_with fail
  go_loopg [5] MS.length (fun gh v wr => SmRel w MS.length gh v wr)
  case atStart => exact R0
  case round =>
    clear R0
    obtain ⟨i, d, rfl, hi, hg, hw⟩ := hrel
    by_cases hil : i < MS.length
    · obtain ⟨M, hM⟩ : ∃ M, MS[i]? = some M := ⟨_, List.getElem?_eq_getElem hil⟩
      have hMs := H.out.2.2 M (List.mem_of_getElem? hM)
      obtain ⟨p1, e1, z1, q1⟩ := H.out.1.at_ i M hM
      obtain ⟨p2, e2, z2, q2⟩ := H.out.2.1.at_ i M hM
      obtain rfl := H.out.1.ad.resolve_left (fun e => by rw [e] at hil; simp at hil)
      obtain rfl := H.out.2.1.ad.resolve_left (fun e => by rw [e] at hil; simp at hil)
      have y1 : wr.cell? ⟨b1, o1 + i, none⟩ = some (.slice p1 M.length e1) := by rw [hw]; exact z1
      have y2 : wr.cell? ⟨b2, o2 + i, none⟩ = some (.slice p2 M.length e2) := by rw [hw]; exact z2
      have t1 : decide ((i : Int) < (MS.length : Int)) = true := by simp; omega
      have hi1 : (i : Int) < (MS.length : Int) := by omega
      have hi0 : (0 : Int) ≤ (i : Int) := by omega
      have CQ := Lib.hid (fun dd => (show Calls Try.prog 21 #[.slice p1 M.length e1, .slice p2 M.length e2] (wr.drewN dd) (fun e w' => e = Ending.returned (.int .i64 0) ∧ ∃ q, w' = wr.drewN q) from by
        rw [hw, ← (cmpM_zero (X := M) (Y := M)).2 rfl]
        exact (rcmp_is (w := (w.drewN d).drewN dd) q1 q2 (by omega) (by omega) (fun x hx => by have := hMs.2 x hx; omega) (fun x hx => by have := hMs.2 x hx; omega)).mono fun e w' ⟨h1, q, h2⟩ => ⟨h1, dd + q, by rw [h2, World.drewN_drewN]⟩))
      have NX := Lib.hid (fun q => show SmRel w MS.length (MS.length - (i + 1)) (.int .i64 ((i + 1 : Nat) : Int)) (wr.drewN q) from ⟨i + 1, d + q, rfl, by omega, rfl, by rw [hw, World.drewN_drewN]⟩)
      have G := Lib.hid hg
      clear hM hMs q1 q2 hw hg z1 z2
      go_wp2_with fail
      go_quiet ((go_at_call 21; exact CQ.out _))
      go_wp2_with fail
      go_roundg (MS.length - (i + 1))
      case measure => have := G.out; omega
      case rel => exact NX.out _
    · have t1 : decide ((i : Int) < (MS.length : Int)) = false := by simp; omega
      have HW := Lib.hid hw
      clear hw hg
      go_wp2
      go_ret
      exact ⟨rfl, _, HW.out⟩
end Go.Proofs.Ytibmimdlgbhdnaa
