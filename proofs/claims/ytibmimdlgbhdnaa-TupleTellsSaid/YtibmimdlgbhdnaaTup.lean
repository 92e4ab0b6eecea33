/-
  Matches held against each other: contracts for the walks of the statements of layer 6.
-/
import Derived.BigQuiet
import Derived.Test.YtibmimdlgbhdnaaBase
namespace Go.Proofs.Ytibmimdlgbhdnaa
open Go.ChangeShapes Go.WideShapes Go.ChangeAt Go.RowKit
set_option linter.unusedVariables false

def cmpI (a b : Int) : Int := if a < b then -1 else if b < a then 1 else 0
def cmpL {α : Type} (f : α → α → Int) : List α → List α → Int
  | [], [] => 0
  | [], _ :: _ => -1
  | _ :: _, [] => 1
  | a :: l, b :: m => if f a b = 0 then cmpL f l m else f a b
/-- A row of numbers that can be read. -/
def RowAt (w : World) (v : Value) (l : List Int) : Prop :=
  ∃ (a : Option Addr) (b off cap : Nat), v = .slice a l.length cap ∧ l.length ≤ cap ∧ (l = [] ∨ a = some ⟨b, off, none⟩) ∧ ∀ (j : Nat) (x : Int), l[j]? = some x → w.cell? ⟨b, off + j, none⟩ = some (.int .i64 x)
def RowsAt (w : World) (v : Value) (L : List (List Int)) : Prop :=
  ∃ (a : Option Addr) (b off cap : Nat), v = .slice a L.length cap ∧ (L = [] ∨ a = some ⟨b, off, none⟩) ∧ ∀ (k : Nat) (l : List Int), L[k]? = some l → ∃ r, w.cell? ⟨b, off + k, none⟩ = some r ∧ RowAt w r l
theorem cmp_int (a b : Int) (w : World) : Calls Try.prog 62 #[.int .i64 a, .int .i64 b] w fun e w' => e = .returned (.int .i64 (cmpI a b)) ∧ w = w' := by
  have nan : ∀ (x : Int) w, Calls Try.prog 86 #[.int .i64 x] w fun e w' => e = .returned (.bool false) ∧ w = w' := fun x w => by
    have hx : (x != x) = false := by simp
    go_enter Try.func86, Try.ntmps86
    go_wp2
    go_ret
    exact ⟨rfl, rfl⟩
  have N := Lib.hid nan
  clear nan
  by_cases h : a < b
  · have t1 : decide (a < b) = true := by simpa using h
    rw [show cmpI a b = -1 by unfold cmpI; rw [if_pos h]]
    go_enter Try.func62, Try.ntmps62
    go_wp2_with fail
    refine (N.out _ _).mono ?_
    rintro e w1 ⟨rfl, rfl⟩
    go_wp2_with fail
    refine (N.out _ _).mono ?_
    rintro e w1 ⟨rfl, rfl⟩
    go_wp2
    go_ret
    exact ⟨rfl, rfl⟩
  · have t1 : decide (a < b) = false := by simpa using h
    by_cases h2 : b < a
    · have t2 : decide (b < a) = true := by simpa using h2
      rw [show cmpI a b = 1 by unfold cmpI; rw [if_neg h, if_pos h2]]
      go_enter Try.func62, Try.ntmps62
      go_wp2_with fail
      refine (N.out _ _).mono ?_
      rintro e w1 ⟨rfl, rfl⟩
      go_wp2_with fail
      refine (N.out _ _).mono ?_
      rintro e w1 ⟨rfl, rfl⟩
      go_wp2
      go_ret
      exact ⟨rfl, rfl⟩
    · have t2 : decide (b < a) = false := by simpa using h2
      rw [show cmpI a b = 0 by unfold cmpI; rw [if_neg h, if_neg h2]]
      go_enter Try.func62, Try.ntmps62
      go_wp2_with fail
      refine (N.out _ _).mono ?_
      rintro e w1 ⟨rfl, rfl⟩
      go_wp2_with fail
      refine (N.out _ _).mono ?_
      rintro e w1 ⟨rfl, rfl⟩
      go_wp2
      go_ret
      exact ⟨rfl, rfl⟩
def CmpRel {α : Type} (f : α → α → Int) (w : World) (l m : List α) (n : Nat) (gh : Nat) (v : Value) (wr : World) : Prop :=
  ∃ (k d : Nat), v = .int .i64 (k : Int) ∧ k ≤ n ∧ gh = n - k ∧ cmpL f l m = cmpL f (l.drop k) (m.drop k) ∧ wr = w.drewN d
theorem cmpL_at {α : Type} (f : α → α → Int) {l m : List α} {k : Nat} {x y : α} (h1 : l[k]? = some x) (h2 : m[k]? = some y) : cmpL f (l.drop k) (m.drop k) = if f x y = 0 then cmpL f (l.drop (k + 1)) (m.drop (k + 1)) else f x y := by
  obtain ⟨k1, e1⟩ := List.getElem?_eq_some_iff.1 h1
  obtain ⟨k2, e2⟩ := List.getElem?_eq_some_iff.1 h2
  rw [List.drop_eq_getElem_cons k1, List.drop_eq_getElem_cons k2, e1, e2]
  rfl
theorem cmpL_end {α : Type} (f : α → α → Int) {l m : List α} {n : Nat} (hn : n = min l.length m.length) : cmpL f (l.drop n) (m.drop n) = cmpI (l.length : Int) (m.length : Int) := by
  unfold cmpI
  by_cases h1 : l.length < m.length
  · rw [List.drop_eq_nil_of_le (show l.length ≤ n by omega), List.drop_eq_getElem_cons (show n < m.length by omega), if_pos (by omega)]
    rfl
  · rw [List.drop_eq_nil_of_le (show m.length ≤ n by omega), if_neg (by omega)]
    by_cases h2 : m.length < l.length
    · rw [List.drop_eq_getElem_cons (show n < l.length by omega), if_pos (by omega)]
      rfl
    · rw [List.drop_eq_nil_of_le (show l.length ≤ n by omega), if_neg (by omega)]
      rfl
set_option maxRecDepth 100000 in
set_option maxHeartbeats 2000000 in
theorem cmp_row {w : World} {v1 v2 : Value} {l m : List Int} (h1 : RowAt w v1 l) (h2 : RowAt w v2 m) (hl : l.length ≤ 1000000) (hm : m.length ≤ 1000000) :
    Calls Try.prog 61 #[v1, v2, .func (.func 62) #[] #[]] w fun e w' => e = .returned (.int .i64 (cmpL cmpI l m)) ∧ ∃ d, w' = w.drewN d := by
  obtain ⟨a1, b1, o1, c1, rfl, _, e1, y1⟩ := h1
  obtain ⟨a2, b2, o2, c2, rfl, _, e2, y2⟩ := h2
  have Y := Lib.hid (And.intro y1 y2)
  have CI := Lib.hid cmp_int
  clear y1 y2
  by_cases hmn : m.length < l.length
  · have R0 : CmpRel cmpI w l m m.length m.length (.int .i64 0) w := ⟨0, 0, rfl, Nat.zero_le _, rfl, rfl, rfl⟩
    go_enter Try.func61, Try.ntmps61
    go_wp2_with fail
    go_loopg [14] m.length (fun gh v wr => CmpRel cmpI w l m m.length gh v wr)
    case atStart => exact R0
    case round =>
      clear R0
      obtain ⟨k, d, rfl, hk, hg, hc, hw⟩ := hrel
      by_cases hkn : k < m.length
      · obtain ⟨x, hx⟩ : ∃ x, l[k]? = some x := ⟨_, List.getElem?_eq_getElem (by omega)⟩
        obtain ⟨y, hy⟩ : ∃ y, m[k]? = some y := ⟨_, List.getElem?_eq_getElem (by omega)⟩
        obtain rfl := e1.resolve_left (fun e => by rw [e] at hx; cases hx)
        obtain rfl := e2.resolve_left (fun e => by rw [e] at hy; cases hy)
        have y1 : wr.cell? ⟨b1, o1 + k, none⟩ = some (.int .i64 x) := by rw [hw]; exact Y.out.1 k x hx
        have y2 : wr.cell? ⟨b2, o2 + k, none⟩ = some (.int .i64 y) := by rw [hw]; exact Y.out.2 k y hy
        have t1 : decide ((k : Int) < (m.length : Int)) = true := by simp; omega
        have hk1 : (k : Int) < (l.length : Int) := by omega
        have hk2 : (k : Int) < (m.length : Int) := by omega
        have hk0 : (0 : Int) ≤ (k : Int) := by omega
        have Q := Lib.hid (fun dd => show Calls Try.prog 62 #[.int .i64 x, .int .i64 y] (wr.drewN dd) (fun e w' => e = Ending.returned (.int .i64 (cmpI x y)) ∧ ∃ q, w' = wr.drewN q) from (CI.out x y _).mono fun e w' h => ⟨h.1, dd, h.2.symm⟩)
        have Z := Lib.hid (And.intro hg (And.intro (hc.trans (cmpL_at cmpI hx hy)) (show ∀ q, wr.drewN q = w.drewN (d + q) from fun q => by rw [hw, World.drewN_drewN])))
        clear hx hy hc hg hw
        go_wp2_with fail
        go_quiet ((go_at_call 62; exact Q.out _))
        by_cases h0 : cmpI x y = 0
        · have hb : (cmpI x y != 0) = false := by simpa using h0
          rw [h0] at Z
          rw [h0]
          go_wp2_with fail
          go_roundg (m.length - (k + 1))
          case measure => have := Z.out.1; omega
          case rel => exact ⟨k + 1, _, by go_num, by omega, rfl, Z.out.2.1, Z.out.2.2 _⟩
        · have hb : (cmpI x y != 0) = true := by simpa using h0
          generalize hz : cmpI x y = z at *
          go_wp2
          go_ret
          exact ⟨by rw [Z.out.2.1, if_neg h0]; rfl, _, Z.out.2.2 _⟩
      · have t1 : decide ((k : Int) < (m.length : Int)) = false := by simp; omega
        have Z := Lib.hid (And.intro (hc.trans (cmpL_end cmpI (by omega))) hw)
        clear hc hw
        go_wp2_with fail
        refine (CI.out _ _ _).mono ?_
        rintro e w1 ⟨rfl, rfl⟩
        go_wp2
        go_ret
        exact ⟨by rw [Z.out.1]; rfl, _, Z.out.2⟩
  · have R0 : CmpRel cmpI w l m l.length l.length (.int .i64 0) w := ⟨0, 0, rfl, Nat.zero_le _, rfl, rfl, rfl⟩
    go_enter Try.func61, Try.ntmps61
    go_wp2_with fail
    go_loopg [14] l.length (fun gh v wr => CmpRel cmpI w l m l.length gh v wr)
    case atStart => exact R0
    case round =>
      clear R0
      obtain ⟨k, d, rfl, hk, hg, hc, hw⟩ := hrel
      by_cases hkn : k < l.length
      · obtain ⟨x, hx⟩ : ∃ x, l[k]? = some x := ⟨_, List.getElem?_eq_getElem (by omega)⟩
        obtain ⟨y, hy⟩ : ∃ y, m[k]? = some y := ⟨_, List.getElem?_eq_getElem (by omega)⟩
        obtain rfl := e1.resolve_left (fun e => by rw [e] at hx; cases hx)
        obtain rfl := e2.resolve_left (fun e => by rw [e] at hy; cases hy)
        have y1 : wr.cell? ⟨b1, o1 + k, none⟩ = some (.int .i64 x) := by rw [hw]; exact Y.out.1 k x hx
        have y2 : wr.cell? ⟨b2, o2 + k, none⟩ = some (.int .i64 y) := by rw [hw]; exact Y.out.2 k y hy
        have t1 : decide ((k : Int) < (l.length : Int)) = true := by simp; omega
        have hk1 : (k : Int) < (l.length : Int) := by omega
        have hk2 : (k : Int) < (m.length : Int) := by omega
        have hk0 : (0 : Int) ≤ (k : Int) := by omega
        have Q := Lib.hid (fun dd => show Calls Try.prog 62 #[.int .i64 x, .int .i64 y] (wr.drewN dd) (fun e w' => e = Ending.returned (.int .i64 (cmpI x y)) ∧ ∃ q, w' = wr.drewN q) from (CI.out x y _).mono fun e w' h => ⟨h.1, dd, h.2.symm⟩)
        have Z := Lib.hid (And.intro hg (And.intro (hc.trans (cmpL_at cmpI hx hy)) (show ∀ q, wr.drewN q = w.drewN (d + q) from fun q => by rw [hw, World.drewN_drewN])))
        clear hx hy hc hg hw
        go_wp2_with fail
        go_quiet ((go_at_call 62; exact Q.out _))
        by_cases h0 : cmpI x y = 0
        · have hb : (cmpI x y != 0) = false := by simpa using h0
          rw [h0] at Z
          rw [h0]
          go_wp2_with fail
          go_roundg (l.length - (k + 1))
          case measure => have := Z.out.1; omega
          case rel => exact ⟨k + 1, _, by go_num, by omega, rfl, Z.out.2.1, Z.out.2.2 _⟩
        · have hb : (cmpI x y != 0) = true := by simpa using h0
          generalize hz : cmpI x y = z at *
          go_wp2
          go_ret
          exact ⟨by rw [Z.out.2.1, if_neg h0]; rfl, _, Z.out.2.2 _⟩
      · have t1 : decide ((k : Int) < (l.length : Int)) = false := by simp; omega
        have Z := Lib.hid (And.intro (hc.trans (cmpL_end cmpI (by omega))) hw)
        clear hc hw
        go_wp2_with fail
        refine (CI.out _ _ _).mono ?_
        rintro e w1 ⟨rfl, rfl⟩
        go_wp2
        go_ret
        exact ⟨by rw [Z.out.1]; rfl, _, Z.out.2⟩
set_option maxRecDepth 100000 in
theorem cmp_at {w : World} {v1 v2 : Value} {l m : List Int} (h1 : RowAt w v1 l) (h2 : RowAt w v2 m) (hl : l.length ≤ 1000000) (hm : m.length ≤ 1000000) :
    Calls Try.prog 60 #[v1, v2] w fun e w' => e = .returned (.int .i64 (cmpL cmpI l m)) ∧ ∃ d, w' = w.drewN d := by
  have C := Lib.hid (cmp_row h1 h2 hl hm)
  clear h1 h2
  go_enter Try.func60, Try.ntmps60
  go_wp2_with fail
  refine C.out.mono ?_
  rintro e w1 ⟨rfl, d, rfl⟩
  go_wp2
  go_ret
  exact ⟨rfl, d, rfl⟩
set_option maxRecDepth 100000 in
set_option maxHeartbeats 2000000 in
theorem cmp_rows {w : World} {v1 v2 : Value} {l m : List (List Int)} (h1 : RowsAt w v1 l) (h2 : RowsAt w v2 m) (hl : l.length ≤ 1000000) (hm : m.length ≤ 1000000) (hL : ∀ x ∈ l, x.length ≤ 1000000) (hM : ∀ x ∈ m, x.length ≤ 1000000) :
    Calls Try.prog 59 #[v1, v2, .func (.func 60) #[] #[]] w fun e w' => e = .returned (.int .i64 (cmpL (cmpL cmpI) l m)) ∧ ∃ d, w' = w.drewN d := by
  obtain ⟨a1, b1, o1, c1, rfl, e1, y1⟩ := h1
  obtain ⟨a2, b2, o2, c2, rfl, e2, y2⟩ := h2
  have Y := Lib.hid (And.intro y1 y2)
  have CI := Lib.hid cmp_int
  have LM := Lib.hid (And.intro hL hM)
  clear hL hM
  clear y1 y2
  by_cases hmn : m.length < l.length
  · have R0 : CmpRel (cmpL cmpI) w l m m.length m.length (.int .i64 0) w := ⟨0, 0, rfl, Nat.zero_le _, rfl, rfl, rfl⟩
    go_enter Try.func59, Try.ntmps59
    go_wp2_with fail
    go_loopg [14] m.length (fun gh v wr => CmpRel (cmpL cmpI) w l m m.length gh v wr)
    case atStart => exact R0
    case round =>
      clear R0
      obtain ⟨k, d, rfl, hk, hg, hc, hw⟩ := hrel
      by_cases hkn : k < m.length
      · obtain ⟨x, hx⟩ : ∃ x, l[k]? = some x := ⟨_, List.getElem?_eq_getElem (by omega)⟩
        obtain ⟨y, hy⟩ : ∃ y, m[k]? = some y := ⟨_, List.getElem?_eq_getElem (by omega)⟩
        obtain rfl := e1.resolve_left (fun e => by rw [e] at hx; cases hx)
        obtain rfl := e2.resolve_left (fun e => by rw [e] at hy; cases hy)
        obtain ⟨r1, z1, q1⟩ := Y.out.1 k x hx
        obtain ⟨r2, z2, q2⟩ := Y.out.2 k y hy
        have CR := Lib.hid (fun dd => cmp_at (w := w.drewN dd) q1 q2 (LM.out.1 x (List.mem_of_getElem? hx)) (LM.out.2 y (List.mem_of_getElem? hy)))
        obtain ⟨p1, p2, p3, p4, rfl, _⟩ := q1
        obtain ⟨p5, p6, p7, p8, rfl, _⟩ := q2
        have y1 : wr.cell? ⟨b1, o1 + k, none⟩ = some (.slice p1 x.length p4) := by rw [hw]; exact z1
        have y2 : wr.cell? ⟨b2, o2 + k, none⟩ = some (.slice p5 y.length p8) := by rw [hw]; exact z2
        have t1 : decide ((k : Int) < (m.length : Int)) = true := by simp; omega
        have hk1 : (k : Int) < (l.length : Int) := by omega
        have hk2 : (k : Int) < (m.length : Int) := by omega
        have hk0 : (0 : Int) ≤ (k : Int) := by omega
        have Q := Lib.hid (fun dd => show Calls Try.prog 60 #[.slice p1 x.length p4, .slice p5 y.length p8] (wr.drewN dd) (fun e w' => e = Ending.returned (.int .i64 (cmpL cmpI x y)) ∧ ∃ q, w' = wr.drewN q) from by
          rw [hw, World.drewN_drewN]
          refine (CR.out (d + dd)).mono fun e w' h => ⟨h.1, ?_⟩
          obtain ⟨q, hq⟩ := h.2
          exact ⟨dd + q, by rw [hq, World.drewN_drewN, World.drewN_drewN, Nat.add_assoc]⟩)
        have Z := Lib.hid (And.intro hg (And.intro (hc.trans (cmpL_at (cmpL cmpI) hx hy)) (show ∀ q, wr.drewN q = w.drewN (d + q) from fun q => by rw [hw, World.drewN_drewN])))
        clear hx hy hc hg hw z1 z2 CR
        go_wp2_with fail
        go_quiet ((go_at_call 60; exact Q.out _))
        by_cases h0 : cmpL cmpI x y = 0
        · have hb : (cmpL cmpI x y != 0) = false := by simpa using h0
          rw [h0] at Z
          rw [h0]
          go_wp2_with fail
          go_roundg (m.length - (k + 1))
          case measure => have := Z.out.1; omega
          case rel => exact ⟨k + 1, _, by go_num, by omega, rfl, Z.out.2.1, Z.out.2.2 _⟩
        · have hb : (cmpL cmpI x y != 0) = true := by simpa using h0
          generalize hz : cmpL cmpI x y = z at *
          go_wp2
          go_ret
          exact ⟨by rw [Z.out.2.1, if_neg h0]; rfl, _, Z.out.2.2 _⟩
      · have t1 : decide ((k : Int) < (m.length : Int)) = false := by simp; omega
        have Z := Lib.hid (And.intro (hc.trans (cmpL_end (cmpL cmpI) (by omega))) hw)
        clear hc hw
        go_wp2_with fail
        refine (CI.out _ _ _).mono ?_
        rintro e w1 ⟨rfl, rfl⟩
        go_wp2
        go_ret
        exact ⟨by rw [Z.out.1]; rfl, _, Z.out.2⟩
  · have R0 : CmpRel (cmpL cmpI) w l m l.length l.length (.int .i64 0) w := ⟨0, 0, rfl, Nat.zero_le _, rfl, rfl, rfl⟩
    go_enter Try.func59, Try.ntmps59
    go_wp2_with fail
    go_loopg [14] l.length (fun gh v wr => CmpRel (cmpL cmpI) w l m l.length gh v wr)
    case atStart => exact R0
    case round =>
      clear R0
      obtain ⟨k, d, rfl, hk, hg, hc, hw⟩ := hrel
      by_cases hkn : k < l.length
      · obtain ⟨x, hx⟩ : ∃ x, l[k]? = some x := ⟨_, List.getElem?_eq_getElem (by omega)⟩
        obtain ⟨y, hy⟩ : ∃ y, m[k]? = some y := ⟨_, List.getElem?_eq_getElem (by omega)⟩
        obtain rfl := e1.resolve_left (fun e => by rw [e] at hx; cases hx)
        obtain rfl := e2.resolve_left (fun e => by rw [e] at hy; cases hy)
        obtain ⟨r1, z1, q1⟩ := Y.out.1 k x hx
        obtain ⟨r2, z2, q2⟩ := Y.out.2 k y hy
        have CR := Lib.hid (fun dd => cmp_at (w := w.drewN dd) q1 q2 (LM.out.1 x (List.mem_of_getElem? hx)) (LM.out.2 y (List.mem_of_getElem? hy)))
        obtain ⟨p1, p2, p3, p4, rfl, _⟩ := q1
        obtain ⟨p5, p6, p7, p8, rfl, _⟩ := q2
        have y1 : wr.cell? ⟨b1, o1 + k, none⟩ = some (.slice p1 x.length p4) := by rw [hw]; exact z1
        have y2 : wr.cell? ⟨b2, o2 + k, none⟩ = some (.slice p5 y.length p8) := by rw [hw]; exact z2
        have t1 : decide ((k : Int) < (l.length : Int)) = true := by simp; omega
        have hk1 : (k : Int) < (l.length : Int) := by omega
        have hk2 : (k : Int) < (m.length : Int) := by omega
        have hk0 : (0 : Int) ≤ (k : Int) := by omega
        have Q := Lib.hid (fun dd => show Calls Try.prog 60 #[.slice p1 x.length p4, .slice p5 y.length p8] (wr.drewN dd) (fun e w' => e = Ending.returned (.int .i64 (cmpL cmpI x y)) ∧ ∃ q, w' = wr.drewN q) from by
          rw [hw, World.drewN_drewN]
          refine (CR.out (d + dd)).mono fun e w' h => ⟨h.1, ?_⟩
          obtain ⟨q, hq⟩ := h.2
          exact ⟨dd + q, by rw [hq, World.drewN_drewN, World.drewN_drewN, Nat.add_assoc]⟩)
        have Z := Lib.hid (And.intro hg (And.intro (hc.trans (cmpL_at (cmpL cmpI) hx hy)) (show ∀ q, wr.drewN q = w.drewN (d + q) from fun q => by rw [hw, World.drewN_drewN])))
        clear hx hy hc hg hw z1 z2 CR
        go_wp2_with fail
        go_quiet ((go_at_call 60; exact Q.out _))
        by_cases h0 : cmpL cmpI x y = 0
        · have hb : (cmpL cmpI x y != 0) = false := by simpa using h0
          rw [h0] at Z
          rw [h0]
          go_wp2_with fail
          go_roundg (l.length - (k + 1))
          case measure => have := Z.out.1; omega
          case rel => exact ⟨k + 1, _, by go_num, by omega, rfl, Z.out.2.1, Z.out.2.2 _⟩
        · have hb : (cmpL cmpI x y != 0) = true := by simpa using h0
          generalize hz : cmpL cmpI x y = z at *
          go_wp2
          go_ret
          exact ⟨by rw [Z.out.2.1, if_neg h0]; rfl, _, Z.out.2.2 _⟩
      · have t1 : decide ((k : Int) < (l.length : Int)) = false := by simp; omega
        have Z := Lib.hid (And.intro (hc.trans (cmpL_end (cmpL cmpI) (by omega))) hw)
        clear hc hw
        go_wp2_with fail
        refine (CI.out _ _ _).mono ?_
        rintro e w1 ⟨rfl, rfl⟩
        go_wp2
        go_ret
        exact ⟨by rw [Z.out.1]; rfl, _, Z.out.2⟩
set_option maxRecDepth 100000 in
/-- Two matches held against each other. -/
theorem cmp_is {w : World} {v1 v2 : Value} {l m : List (List Int)} (h1 : RowsAt w v1 l) (h2 : RowsAt w v2 m) (hl : l.length ≤ 1000000) (hm : m.length ≤ 1000000) (hL : ∀ x ∈ l, x.length ≤ 1000000) (hM : ∀ x ∈ m, x.length ≤ 1000000) :
    Calls Try.prog 20 #[v1, v2] w fun e w' => e = .returned (.int .i64 (cmpL (cmpL cmpI) l m)) ∧ ∃ d, w' = w.drewN d := by
  have C := Lib.hid (cmp_rows h1 h2 hl hm hL hM)
  clear h1 h2
  go_enter Try.func20, Try.ntmps20
  go_wp2_with fail
  refine C.out.mono ?_
  rintro e w1 ⟨rfl, d, rfl⟩
  go_wp2
  go_ret
  exact ⟨rfl, d, rfl⟩
end Go.Proofs.Ytibmimdlgbhdnaa
