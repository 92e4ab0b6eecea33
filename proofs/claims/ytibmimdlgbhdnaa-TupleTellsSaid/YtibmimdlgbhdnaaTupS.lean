/-
  The document's own comparison of rows: a contract for the walks of the statements of layer 6.
-/
import Derived.Test.YtibmimdlgbhdnaaTup
namespace Go.Proofs.Ytibmimdlgbhdnaa
open Go.ChangeShapes Go.WideShapes Go.ChangeAt Go.RowKit
set_option linter.unusedVariables false

set_option maxRecDepth 100000 in
set_option maxHeartbeats 2000000 in
theorem ref_row {w : World} {v1 v2 : Value} {l m : List Int} (h1 : RowAt w v1 l) (h2 : RowAt w v2 m) (hl : l.length ≤ 1000000) (hm : m.length ≤ 1000000) :
    Calls Try.prog 57 #[v1, v2] w fun e w' => e = .returned (.int .i64 (cmpL cmpI l m)) ∧ ∃ d, w' = w.drewN d := by
  obtain ⟨a1, b1, o1, c1, rfl, _, e1, y1⟩ := h1
  obtain ⟨a2, b2, o2, c2, rfl, _, e2, y2⟩ := h2
  have Y := Lib.hid (And.intro y1 y2)
  clear y1 y2
  have R0 : CmpRel cmpI w l m (min l.length m.length) (min l.length m.length) (.int .i64 0) w := ⟨0, 0, rfl, Nat.zero_le _, rfl, rfl, rfl⟩
  go_enter Try.func57, Try.ntmps57
  go_wp2_with fail
  go_loopg [5] (min l.length m.length) (fun gh v wr => CmpRel cmpI w l m (min l.length m.length) gh v wr)
  case atStart => exact R0
  case round =>
    clear R0
    obtain ⟨k, d, rfl, hk, hg, hc, hw⟩ := hrel
    by_cases hkn : k < l.length ∧ k < m.length
    · obtain ⟨hk1n, hk2n⟩ := hkn
      obtain ⟨x, hx⟩ : ∃ x, l[k]? = some x := ⟨_, List.getElem?_eq_getElem hk1n⟩
      obtain ⟨y, hy⟩ : ∃ y, m[k]? = some y := ⟨_, List.getElem?_eq_getElem hk2n⟩
      obtain rfl := e1.resolve_left (fun e => by rw [e] at hx; cases hx)
      obtain rfl := e2.resolve_left (fun e => by rw [e] at hy; cases hy)
      have y1 : wr.cell? ⟨b1, o1 + k, none⟩ = some (.int .i64 x) := by rw [hw]; exact Y.out.1 k x hx
      have y2 : wr.cell? ⟨b2, o2 + k, none⟩ = some (.int .i64 y) := by rw [hw]; exact Y.out.2 k y hy
      have t1 : decide ((k : Int) < (l.length : Int)) = true := by simp; omega
      have t2 : decide ((k : Int) < (m.length : Int)) = true := by simp; omega
      have hk1 : (k : Int) < (l.length : Int) := by omega
      have hk2 : (k : Int) < (m.length : Int) := by omega
      have hk0 : (0 : Int) ≤ (k : Int) := by omega
      have hs := cmpL_at cmpI hx hy
      have hd : ∀ q, wr.drewN q = w.drewN (d + q) := fun q => by rw [hw, World.drewN_drewN]
      by_cases hxy : x < y
      · have ec : cmpI x y = -1 := by unfold cmpI; rw [if_pos hxy]
        rw [ec] at hs
        have Z := Lib.hid (And.intro (hc.trans hs) hd)
        have t3 : decide (x < y) = true := by simpa using hxy
        clear hx hy hc hg hs hd ec hw
        go_wp2_with fail
        go_quiet (fail)
        go_wp2
        go_ret
        exact ⟨by rw [Z.out.1]; rfl, _, Z.out.2 _⟩
      · have t3 : decide (x < y) = false := by simpa using hxy
        by_cases hyx : y < x
        · have ec : cmpI x y = 1 := by unfold cmpI; rw [if_neg hxy, if_pos hyx]
          rw [ec] at hs
          have Z := Lib.hid (And.intro (hc.trans hs) hd)
          have t4 : decide (y < x) = true := by simpa using hyx
          clear hx hy hc hg hs hd ec hw
          go_wp2_with fail
          go_quiet (fail)
          have y1 : (wr.drewN nq).cell? ⟨b1, o1 + k, none⟩ = some (.int .i64 x) := y1
          have y2 : (wr.drewN nq).cell? ⟨b2, o2 + k, none⟩ = some (.int .i64 y) := y2
          have Z2 := Lib.hid (fun q => ((World.drewN_drewN wr nq q).trans (Z.out.2 _)))
          generalize wr.drewN nq = W at *
          go_wp2_with fail
          go_quiet (fail)
          go_wp2
          go_ret
          exact ⟨by rw [Z.out.1]; rfl, _, Z2.out _⟩
        · have ec : cmpI x y = 0 := by unfold cmpI; rw [if_neg hxy, if_neg hyx]
          rw [ec] at hs
          have Z := Lib.hid (And.intro (hc.trans hs) (And.intro hd hg))
          have t4 : decide (y < x) = false := by simpa using hyx
          clear hx hy hc hg hs hd ec hw
          go_wp2_with fail
          go_quiet (fail)
          have y1 : (wr.drewN nq).cell? ⟨b1, o1 + k, none⟩ = some (.int .i64 x) := y1
          have y2 : (wr.drewN nq).cell? ⟨b2, o2 + k, none⟩ = some (.int .i64 y) := y2
          have Z2 := Lib.hid (fun q => ((World.drewN_drewN wr nq q).trans (Z.out.2.1 _)))
          generalize wr.drewN nq = W at *
          go_wp2_with fail
          go_quiet (fail)
          go_wp2_with fail
          go_roundg (min l.length m.length - (k + 1))
          case measure => have := Z.out.2.2; omega
          case rel => exact ⟨k + 1, _, by go_num, by omega, rfl, Z.out.1, Z2.out _⟩
    · have hkm : k = min l.length m.length := by omega
      have Z := Lib.hid (And.intro (by rw [hkm] at hc; exact hc.trans (cmpL_end cmpI rfl)) hw)
      clear hc hw hg
      by_cases hlt : l.length < m.length
      · have v : cmpI (l.length : Int) (m.length : Int) = -1 := by unfold cmpI; rw [if_pos (by omega)]
        rw [v] at Z
        have t1 : decide ((k : Int) < (l.length : Int)) = false := by simp; omega
        have t3 : decide ((l.length : Int) < (m.length : Int)) = true := by simp; omega
        clear v hkm
        go_wp2
        go_ret
        exact ⟨by rw [Z.out.1]; rfl, _, Z.out.2⟩
      · have t3 : decide ((l.length : Int) < (m.length : Int)) = false := by simp; omega
        by_cases hgt : m.length < l.length
        · have v : cmpI (l.length : Int) (m.length : Int) = 1 := by unfold cmpI; rw [if_neg (by omega), if_pos (by omega)]
          rw [v] at Z
          have t1 : decide ((k : Int) < (l.length : Int)) = true := by simp; omega
          have t2 : decide ((k : Int) < (m.length : Int)) = false := by simp; omega
          have t4 : decide ((m.length : Int) < (l.length : Int)) = true := by simp; omega
          clear v hkm
          go_wp2
          go_ret
          exact ⟨by rw [Z.out.1]; rfl, _, Z.out.2⟩
        · have v : cmpI (l.length : Int) (m.length : Int) = 0 := by unfold cmpI; rw [if_neg (by omega), if_neg (by omega)]
          rw [v] at Z
          have t1 : decide ((k : Int) < (l.length : Int)) = false := by simp; omega
          have t4 : decide ((m.length : Int) < (l.length : Int)) = false := by simp; omega
          clear v hkm
          go_wp2
          go_ret
          exact ⟨by rw [Z.out.1]; rfl, _, Z.out.2⟩
/-- Two rows are the same. -/
theorem same_row {w : World} {v1 v2 : Value} {l m : List Int} (h1 : RowAt w v1 l) (h2 : RowAt w v2 m) (hl : l.length ≤ 1000000) (hm : m.length ≤ 1000000) :
    Calls Try.prog 17 #[v1, v2] w fun e w' => e = .returned (.bool (cmpL cmpI l m == 0)) ∧ ∃ d, w' = w.drewN d := by
  have C := Lib.hid (ref_row h1 h2 hl hm)
  clear h1 h2
  go_enter Try.func17, Try.ntmps17
  go_wp2_with fail
  refine C.out.mono ?_
  rintro e w1 ⟨rfl, d, rfl⟩
  go_wp2
  go_ret
  exact ⟨rfl, d, rfl⟩
end Go.Proofs.Ytibmimdlgbhdnaa
