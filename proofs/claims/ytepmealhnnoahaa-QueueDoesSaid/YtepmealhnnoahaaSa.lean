/-
  The document's own answers: two rows of matches held against each other.
-/
import Derived.Test.YtepmealhnnoahaaRk
namespace Go.Proofs.Ytepmealhnnoahaa
set_option linter.unusedSimpArgs false
open Go.ChangeShapes Go.WideShapes Go.ChangeAt Go.RowKit
set_option linter.unusedVariables false
def cmpI (a b : Int) : Int := if a < b then -1 else if b < a then 1 else 0
def cmpL {α : Type} (f : α → α → Int) : List α → List α → Int
  | [], [] => 0
  | [], _ :: _ => -1
  | _ :: _, [] => 1
  | a :: l, b :: m => if f a b = 0 then cmpL f l m else f a b
/-- A row of numbers that can be read. -/
def IRow (w : World) (v : Value) (l : List Int) : Prop :=
  ∃ (a : Option Addr) (b off cap : Nat), v = .slice a l.length cap ∧ True ∧ (l = [] ∨ a = some ⟨b, off, none⟩) ∧ ∀ (j : Nat) (x : Int), l[j]? = some x → w.cell? ⟨b, off + j, none⟩ = some (.int .i64 x)
def IRows (w : World) (v : Value) (L : List (List Int)) : Prop :=
  ∃ (a : Option Addr) (b off cap : Nat), v = .slice a L.length cap ∧ (L = [] ∨ a = some ⟨b, off, none⟩) ∧ ∀ (k : Nat) (l : List Int), L[k]? = some l → ∃ r, w.cell? ⟨b, off + k, none⟩ = some r ∧ IRow w r l
theorem irow_of {w : World} {v : Value} {l : List Int} (h : RowV w 3 1 l.length v (icells l)) : IRow w v l := by
  obtain ⟨b, cap, e, hb, hr, hl⟩ := h
  exact ⟨_, b, 0, cap, e, trivial, .inr rfl, fun j x hx => hr j _ (by unfold icells; rw [List.getElem?_map, hx]; rfl)⟩
theorem irows_of {w : World} {N : Nat → Prop} {v : Value} {L : List (List Int)} (h : SetsAt w N v L) : IRows w v L := by
  obtain ⟨b, cap, vs, e, hn, hb, hr, hi⟩ := h
  refine ⟨_, b, 0, cap, e, .inr rfl, fun k l hl => ?_⟩
  obtain ⟨u, hu⟩ : ∃ u, vs[k]? = some u := ⟨_, List.getElem?_eq_getElem (by rw [hi.1]; exact (List.getElem?_eq_some_iff.1 hl).1)⟩
  exact ⟨u, hr k u hu, irow_of (hi.2 k l u hl hu).1⟩
def CmpRel {α : Type} (f : α → α → Int) (w : World) (l m : List α) (n : Nat) (gh : Nat) (v : Value) (wr : World) : Prop :=
  ∃ (k d : Nat), v = .int .i64 (k : Int) ∧ k ≤ n ∧ gh = n - k ∧ cmpL f l m = cmpL f (l.drop k) (m.drop k) ∧ wr = w.drewN d
theorem cmpL_at {α : Type} (f : α → α → Int) {l m : List α} {k : Nat} {x y : α} (h1 : l[k]? = some x) (h2 : m[k]? = some y) : cmpL f (l.drop k) (m.drop k) = if f x y = 0 then cmpL f (l.drop (k + 1)) (m.drop (k + 1)) else f x y := by
  obtain ⟨k1, e1⟩ := List.getElem?_eq_some_iff.1 h1
  obtain ⟨k2, e2⟩ := List.getElem?_eq_some_iff.1 h2
  rw [List.drop_eq_getElem_cons k1, List.drop_eq_getElem_cons k2, e1, e2]
  rfl
theorem cmpL_end {α : Type} (f : α → α → Int) {l m : List α} {n : Nat} (hn : n = min l.length m.length) : cmpL f (l.drop n) (m.drop n) = cmpI (l.length : Int) (m.length : Int) := by
  unfold cmpI
  by_cases h1 : l.length < m.length
  · rw [List.drop_eq_nil_of_le (show l.length ≤ n by omega), List.drop_eq_getElem_cons (show n < m.length by omega), if_pos (by omega)]
    rfl
  · rw [List.drop_eq_nil_of_le (show m.length ≤ n by omega), if_neg (by omega)]
    by_cases h2 : m.length < l.length
    · rw [List.drop_eq_getElem_cons (show n < l.length by omega), if_pos (by omega)]
      rfl
    · rw [List.drop_eq_nil_of_le (show l.length ≤ n by omega), if_neg (by omega)]
      rfl
set_option maxRecDepth 100000 in
set_option maxHeartbeats 4000000 in
theorem ref_row {w : World} {v1 v2 : Value} {l m : List Int} (h1 : IRow w v1 l) (h2 : IRow w v2 m) (hl : l.length ≤ 1000000) (hm : m.length ≤ 1000000) :
    Calls Try.prog 43 #[v1, v2] w fun e w' => e = .returned (.int .i64 (cmpL cmpI l m)) ∧ ∃ d, w' = w.drewN d := by
  obtain ⟨a1, b1, o1, c1, rfl, _, e1, y1⟩ := h1
  obtain ⟨a2, b2, o2, c2, rfl, _, e2, y2⟩ := h2
  have Y := Lib.hid (And.intro y1 y2)
  clear y1 y2
  have R0 : CmpRel cmpI w l m (min l.length m.length) (min l.length m.length) (.int .i64 0) w := ⟨0, 0, rfl, Nat.zero_le _, rfl, rfl, rfl⟩
  go_enter Try.func43, Try.ntmps43
  go_wp2_with fail
  go_loopg [5] (min l.length m.length) (fun gh v wr => CmpRel cmpI w l m (min l.length m.length) gh v wr)
  case atStart => exact R0
  case round =>
    clear R0
    obtain ⟨k, d, rfl, hk, hg, hc, hw⟩ := hrel
    by_cases hkn : k < l.length ∧ k < m.length
    · obtain ⟨hk1n, hk2n⟩ := hkn
      obtain ⟨x, hx⟩ : ∃ x, l[k]? = some x := ⟨_, List.getElem?_eq_getElem hk1n⟩
      obtain ⟨y, hy⟩ : ∃ y, m[k]? = some y := ⟨_, List.getElem?_eq_getElem hk2n⟩
      obtain rfl := e1.resolve_left (fun e => by rw [e] at hx; cases hx)
      obtain rfl := e2.resolve_left (fun e => by rw [e] at hy; cases hy)
      have y1 : wr.cell? ⟨b1, o1 + k, none⟩ = some (.int .i64 x) := by rw [hw]; exact Y.out.1 k x hx
      have y2 : wr.cell? ⟨b2, o2 + k, none⟩ = some (.int .i64 y) := by rw [hw]; exact Y.out.2 k y hy
      have t1 : decide ((k : Int) < (l.length : Int)) = true := by simp; omega
      have t2 : decide ((k : Int) < (m.length : Int)) = true := by simp; omega
      have hk1 : (k : Int) < (l.length : Int) := by omega
      have hk2 : (k : Int) < (m.length : Int) := by omega
      have hk0 : (0 : Int) ≤ (k : Int) := by omega
      have hs := cmpL_at cmpI hx hy
      have hd : ∀ q, wr.drewN q = w.drewN (d + q) := fun q => by rw [hw, World.drewN_drewN]
      by_cases hxy : x < y
      · have ec : cmpI x y = -1 := by unfold cmpI; rw [if_pos hxy]
        rw [ec] at hs
        have Z := Lib.hid (And.intro (hc.trans hs) hd)
        have t3 : decide (x < y) = true := by simpa using hxy
        clear hx hy hc hg hs hd ec hw
        go_wp2_with fail
        go_quiet (fail)
        go_wp2
        go_ret
        exact ⟨by rw [Z.out.1]; rfl, _, Z.out.2 _⟩
      · have t3 : decide (x < y) = false := by simpa using hxy
        by_cases hyx : y < x
        · have ec : cmpI x y = 1 := by unfold cmpI; rw [if_neg hxy, if_pos hyx]
          rw [ec] at hs
          have Z := Lib.hid (And.intro (hc.trans hs) hd)
          have t4 : decide (y < x) = true := by simpa using hyx
          clear hx hy hc hg hs hd ec hw
          go_wp2_with fail
          go_quiet (fail)
          have y1 : (wr.drewN nq).cell? ⟨b1, o1 + k, none⟩ = some (.int .i64 x) := y1
          have y2 : (wr.drewN nq).cell? ⟨b2, o2 + k, none⟩ = some (.int .i64 y) := y2
          have Z2 := Lib.hid (fun q => ((World.drewN_drewN wr nq q).trans (Z.out.2 _)))
          generalize wr.drewN nq = W at *
          go_wp2_with fail
          go_quiet (fail)
          go_wp2
          go_ret
          exact ⟨by rw [Z.out.1]; rfl, _, Z2.out _⟩
        · have ec : cmpI x y = 0 := by unfold cmpI; rw [if_neg hxy, if_neg hyx]
          rw [ec] at hs
          have Z := Lib.hid (And.intro (hc.trans hs) (And.intro hd hg))
          have t4 : decide (y < x) = false := by simpa using hyx
          clear hx hy hc hg hs hd ec hw
          go_wp2_with fail
          go_quiet (fail)
          have y1 : (wr.drewN nq).cell? ⟨b1, o1 + k, none⟩ = some (.int .i64 x) := y1
          have y2 : (wr.drewN nq).cell? ⟨b2, o2 + k, none⟩ = some (.int .i64 y) := y2
          have Z2 := Lib.hid (fun q => ((World.drewN_drewN wr nq q).trans (Z.out.2.1 _)))
          generalize wr.drewN nq = W at *
          go_wp2_with fail
          go_quiet (fail)
          go_wp2_with fail
          go_roundg (min l.length m.length - (k + 1))
          case measure => have := Z.out.2.2; omega
          case rel => exact ⟨k + 1, _, by go_num, by omega, rfl, Z.out.1, Z2.out _⟩
    · have hkm : k = min l.length m.length := by omega
      have Z := Lib.hid (And.intro (by rw [hkm] at hc; exact hc.trans (cmpL_end cmpI rfl)) hw)
      clear hc hw hg
      by_cases hlt : l.length < m.length
      · have v : cmpI (l.length : Int) (m.length : Int) = -1 := by unfold cmpI; rw [if_pos (by omega)]
        rw [v] at Z
        have t1 : decide ((k : Int) < (l.length : Int)) = false := by simp; omega
        have t3 : decide ((l.length : Int) < (m.length : Int)) = true := by simp; omega
        clear v hkm
        go_wp2
        go_ret
        exact ⟨by rw [Z.out.1]; rfl, _, Z.out.2⟩
      · have t3 : decide ((l.length : Int) < (m.length : Int)) = false := by simp; omega
        by_cases hgt : m.length < l.length
        · have v : cmpI (l.length : Int) (m.length : Int) = 1 := by unfold cmpI; rw [if_neg (by omega), if_pos (by omega)]
          rw [v] at Z
          have t1 : decide ((k : Int) < (l.length : Int)) = true := by simp; omega
          have t2 : decide ((k : Int) < (m.length : Int)) = false := by simp; omega
          have t4 : decide ((m.length : Int) < (l.length : Int)) = true := by simp; omega
          clear v hkm
          go_wp2
          go_ret
          exact ⟨by rw [Z.out.1]; rfl, _, Z.out.2⟩
        · have v : cmpI (l.length : Int) (m.length : Int) = 0 := by unfold cmpI; rw [if_neg (by omega), if_neg (by omega)]
          rw [v] at Z
          have t1 : decide ((k : Int) < (l.length : Int)) = false := by simp; omega
          have t4 : decide ((m.length : Int) < (l.length : Int)) = false := by simp; omega
          clear v hkm
          go_wp2
          go_ret
          exact ⟨by rw [Z.out.1]; rfl, _, Z.out.2⟩

set_option maxRecDepth 100000 in
set_option maxHeartbeats 4000000 in
theorem rcmp_is {w : World} {v1 v2 : Value} {l m : List (List Int)} (h1 : IRows w v1 l) (h2 : IRows w v2 m) (hl : l.length ≤ 1000000) (hm : m.length ≤ 1000000) (hL : ∀ x ∈ l, x.length ≤ 1000000) (hM : ∀ x ∈ m, x.length ≤ 1000000) :
    Calls Try.prog 36 #[v1, v2] w fun e w' => e = .returned (.int .i64 (cmpL (cmpL cmpI) l m)) ∧ ∃ d, w' = w.drewN d := by
  obtain ⟨a1, b1, o1, c1, rfl, e1, y1⟩ := h1
  obtain ⟨a2, b2, o2, c2, rfl, e2, y2⟩ := h2
  have Y := Lib.hid (And.intro y1 y2)
  have LM := Lib.hid (And.intro hL hM)
  clear y1 y2 hL hM
  have R0 : CmpRel (cmpL cmpI) w l m (min l.length m.length) (min l.length m.length) (.int .i64 0) w := ⟨0, 0, rfl, Nat.zero_le _, rfl, rfl, rfl⟩
  go_enter Try.func36, Try.ntmps36
  go_wp2_with fail
  go_loopg [5] (min l.length m.length) (fun gh v wr => CmpRel (cmpL cmpI) w l m (min l.length m.length) gh v wr)
  case atStart => exact R0
  case round =>
    clear R0
    obtain ⟨k, d, rfl, hk, hg, hc, hw⟩ := hrel
    by_cases hkn : k < l.length ∧ k < m.length
    · obtain ⟨hk1n, hk2n⟩ := hkn
      obtain ⟨x, hx⟩ : ∃ x, l[k]? = some x := ⟨_, List.getElem?_eq_getElem hk1n⟩
      obtain ⟨y, hy⟩ : ∃ y, m[k]? = some y := ⟨_, List.getElem?_eq_getElem hk2n⟩
      obtain rfl := e1.resolve_left (fun e => by rw [e] at hx; cases hx)
      obtain rfl := e2.resolve_left (fun e => by rw [e] at hy; cases hy)
      obtain ⟨r1, z1, q1⟩ := Y.out.1 k x hx
      obtain ⟨r2, z2, q2⟩ := Y.out.2 k y hy
      have CR := Lib.hid (fun dd => ref_row (w := w.drewN dd) q1 q2 (LM.out.1 x (List.mem_of_getElem? hx)) (LM.out.2 y (List.mem_of_getElem? hy)))
      obtain ⟨p1, p2, p3, p4, rfl, _⟩ := q1
      obtain ⟨p5, p6, p7, p8, rfl, _⟩ := q2
      have y1 : wr.cell? ⟨b1, o1 + k, none⟩ = some (.slice p1 x.length p4) := by rw [hw]; exact z1
      have y2 : wr.cell? ⟨b2, o2 + k, none⟩ = some (.slice p5 y.length p8) := by rw [hw]; exact z2
      have t1 : decide ((k : Int) < (l.length : Int)) = true := by simp; omega
      have t2 : decide ((k : Int) < (m.length : Int)) = true := by simp; omega
      have hk1 : (k : Int) < (l.length : Int) := by omega
      have hk2 : (k : Int) < (m.length : Int) := by omega
      have hk0 : (0 : Int) ≤ (k : Int) := by omega
      have Q := Lib.hid (fun dd => show Calls Try.prog 43 #[.slice p1 x.length p4, .slice p5 y.length p8] (wr.drewN dd) (fun e w' => e = Ending.returned (.int .i64 (cmpL cmpI x y)) ∧ ∃ q, w' = wr.drewN q) from by
        rw [hw, World.drewN_drewN]
        refine (CR.out (d + dd)).mono fun e w' h => ⟨h.1, ?_⟩
        obtain ⟨q, hq⟩ := h.2
        exact ⟨dd + q, by rw [hq, World.drewN_drewN, World.drewN_drewN, Nat.add_assoc]⟩)
      have Z := Lib.hid (And.intro hg (And.intro (hc.trans (cmpL_at (cmpL cmpI) hx hy)) (show ∀ q, wr.drewN q = w.drewN (d + q) from fun q => by rw [hw, World.drewN_drewN])))
      clear hx hy hc hg hw z1 z2 CR
      go_wp2_with fail
      go_quiet ((go_at_call 43; exact Q.out _))
      by_cases h0 : cmpL cmpI x y = 0
      · have hb : (cmpL cmpI x y != 0) = false := by simpa using h0
        rw [h0] at Z
        rw [h0]
        go_wp2_with fail
        go_roundg (min l.length m.length - (k + 1))
        case measure => have := Z.out.1; omega
        case rel => exact ⟨k + 1, _, by go_num, by omega, rfl, Z.out.2.1, Z.out.2.2 _⟩
      · have hb : (cmpL cmpI x y != 0) = true := by simpa using h0
        generalize hz : cmpL cmpI x y = z at *
        go_wp2
        go_ret
        exact ⟨by rw [Z.out.2.1, if_neg h0]; rfl, _, Z.out.2.2 _⟩
    · have hkm : k = min l.length m.length := by omega
      have Z := Lib.hid (And.intro (by rw [hkm] at hc; exact hc.trans (cmpL_end (cmpL cmpI) rfl)) hw)
      clear hc hw hg
      by_cases hlt : l.length < m.length
      · have v : cmpI (l.length : Int) (m.length : Int) = -1 := by unfold cmpI; rw [if_pos (by omega)]
        rw [v] at Z
        have t1 : decide ((k : Int) < (l.length : Int)) = false := by simp; omega
        have t3 : decide ((l.length : Int) < (m.length : Int)) = true := by simp; omega
        clear v hkm
        go_wp2
        go_ret
        exact ⟨by rw [Z.out.1]; rfl, _, Z.out.2⟩
      · have t3 : decide ((l.length : Int) < (m.length : Int)) = false := by simp; omega
        by_cases hgt : m.length < l.length
        · have v : cmpI (l.length : Int) (m.length : Int) = 1 := by unfold cmpI; rw [if_neg (by omega), if_pos (by omega)]
          rw [v] at Z
          have t1 : decide ((k : Int) < (l.length : Int)) = true := by simp; omega
          have t2 : decide ((k : Int) < (m.length : Int)) = false := by simp; omega
          have t4 : decide ((m.length : Int) < (l.length : Int)) = true := by simp; omega
          clear v hkm
          go_wp2
          go_ret
          exact ⟨by rw [Z.out.1]; rfl, _, Z.out.2⟩
        · have v : cmpI (l.length : Int) (m.length : Int) = 0 := by unfold cmpI; rw [if_neg (by omega), if_neg (by omega)]
          rw [v] at Z
          have t1 : decide ((k : Int) < (l.length : Int)) = false := by simp; omega
          have t4 : decide ((m.length : Int) < (l.length : Int)) = false := by simp; omega
          clear v hkm
          go_wp2
          go_ret
          exact ⟨by rw [Z.out.1]; rfl, _, Z.out.2⟩
theorem cmpL_self {α : Type} (f : α → α → Int) (hf : ∀ a, f a a = 0) : ∀ l : List α, cmpL f l l = 0
  | [] => rfl
  | a :: l => by
    show (if f a a = 0 then cmpL f l l else f a a) = 0
    rw [if_pos (hf a)]
    exact cmpL_self f hf l
theorem cmpI_self (a : Int) : cmpI a a = 0 := by unfold cmpI; rw [if_neg (by omega), if_neg (by omega)]
theorem cmpM_self (X : List (List Int)) : cmpL (cmpL cmpI) X X = 0 := cmpL_self _ (fun a => cmpL_self _ cmpI_self a) X
/-- A row of matches that is read: each a row of sets. -/
def MatsAt (w : World) (v : Value) (L : List (List (List Int))) : Prop :=
  ∃ (a : Option Addr) (b cap : Nat), v = .slice a L.length cap ∧ (L = [] ∨ a = some ⟨b, 0, none⟩) ∧ ∀ (k : Nat) (l : List (List Int)), L[k]? = some l → ∃ r, w.cell? ⟨b, k, none⟩ = some r ∧ IRows w r l ∧ l.length ≤ 1000 ∧ ∀ x ∈ l, x.length ≤ 1000
theorem sets_small {w : World} {N : Nat → Prop} {v : Value} {L : List (List Int)} (h : SetsAt w N v L) : ∀ x ∈ L, x.length ≤ 1000 := fun x hx => by
  obtain ⟨b, cap, vs, e, hn, hb, hr, hi⟩ := h
  obtain ⟨j, hj, rfl⟩ := List.mem_iff_getElem.1 hx
  obtain ⟨u, hu⟩ : ∃ u, vs[j]? = some u := ⟨_, List.getElem?_eq_getElem (by rw [hi.1]; exact hj)⟩
  exact (hi.2 j _ u (List.getElem?_eq_getElem hj) hu).2.2.2
theorem mats_of {w : World} {b0 : Nat} {N : Nat → Prop} {v : Value} {L : List (List (List Int))} (h : MRow w b0 N v L) (hs : ∀ l ∈ L, l.length ≤ 1000) : MatsAt w v L := by
  obtain ⟨ps, h1, h2, h3⟩ := h.ex
  obtain ⟨a, c, e, hn⟩ := own_slice h2
  rcases h2.2 with ⟨e2, e3⟩ | ⟨g, cap, cur, e2, _⟩
  · obtain rfl := List.eq_nil_of_length_eq_zero e3
    exact ⟨a, 0, c, e, .inl rfl, fun k l h => by simp at h⟩
  · subst e2
    refine ⟨_, g, cap, rfl, .inr rfl, fun k l hl => ?_⟩
    have hk := (List.getElem?_eq_some_iff.1 hl).1
    obtain ⟨p, hp⟩ : ∃ p, ps[k]? = some p := ⟨_, List.getElem?_eq_getElem (by omega)⟩
    exact ⟨p, (h2.cellAt k (by omega)).trans hp, irows_of (h3 k l p hl hp), hs l (List.mem_of_getElem? hl), sets_small (h3 k l p hl hp)⟩
def SmRel (w : World) (A B : List (List (List Int))) (n : Nat) (gh : Nat) (v : Value) (wr : World) : Prop := ∃ (i d : Nat), v = .int .i64 (i : Int) ∧ i ≤ n ∧ gh = n - i ∧ wr = w.drewN d
set_option maxRecDepth 100000 in
set_option maxHeartbeats 4000000 in
/-- Two rows of matches are held against each other: rows of the same are the same. -/
theorem rsame_is {w : World} {v1 v2 : Value} {A B : List (List (List Int))} (h1 : MatsAt w v1 A) (h2 : MatsAt w v2 B) (hn : A.length ≤ 1000000) (hn2 : B.length ≤ 1000000) :
    Calls Try.prog 26 #[v1, v2] w fun e w' => ∃ t, e = .returned (.bool t) ∧ (A = B → t = true) ∧ ∃ d, w' = w.drewN d := by
  obtain ⟨a1, b1, c1, rfl, e1, x1⟩ := h1
  obtain ⟨a2, b2, c2, rfl, e2, x2⟩ := h2
  have H := Lib.hid (And.intro x1 x2)
  have R0 : SmRel w A B A.length A.length (.int .i64 0) w := ⟨0, 0, rfl, Nat.zero_le _, rfl, rfl⟩
  clear x1 x2
  by_cases hAB : A.length = B.length
  · have s1 : ((A.length : Int) != (B.length : Int)) = false := by simp; omega
    have HA := Lib.hid hAB
    clear hAB
    go_enter Try.func26, Try.ntmps26
    go_wp2_with fail
    go_loopg [5] A.length (fun gh v wr => SmRel w A B A.length gh v wr)
    case atStart => exact R0
    case round =>
      clear R0
      obtain ⟨i, d, rfl, hi, hg, hw⟩ := hrel
      by_cases hil : i < A.length
      · obtain ⟨M, hM⟩ : ∃ M, A[i]? = some M := ⟨_, List.getElem?_eq_getElem hil⟩
        obtain ⟨M2, hM2⟩ : ∃ M, B[i]? = some M := ⟨_, List.getElem?_eq_getElem (by have := HA.out; omega)⟩
        obtain ⟨r1, z1, q1, l1, s1'⟩ := H.out.1 i M hM
        obtain ⟨r2, z2, q2, l2, s2'⟩ := H.out.2 i M2 hM2
        obtain rfl := e1.resolve_left (fun e => by rw [e] at hil; simp at hil)
        obtain rfl := e2.resolve_left (fun e => by have h0 : B.length = 0 := (by rw [e]; rfl); have := HA.out; omega)
        have CQ := Lib.hid (fun dd => (show Calls Try.prog 36 #[r1, r2] (wr.drewN dd) (fun e w' => e = Ending.returned (.int .i64 (cmpL (cmpL cmpI) M M2)) ∧ ∃ q, w' = wr.drewN q) from by
          rw [hw]
          exact (rcmp_is (w := (w.drewN d).drewN dd) q1 q2 (by omega) (by omega) (fun x hx => by have := s1' x hx; omega) (fun x hx => by have := s2' x hx; omega)).mono fun e w' ⟨h1, q, h2⟩ => ⟨h1, dd + q, by rw [h2, World.drewN_drewN]⟩))
        obtain ⟨p1, _, _, k1, rfl, _⟩ := q1
        obtain ⟨p2, _, _, k2, rfl, _⟩ := q2
        have y1 : wr.cell? ⟨b1, i, none⟩ = some (.slice p1 M.length k1) := by rw [hw]; exact z1
        have y2 : wr.cell? ⟨b2, i, none⟩ = some (.slice p2 M2.length k2) := by rw [hw]; exact z2
        have t1 : decide ((i : Int) < (A.length : Int)) = true := by simp; omega
        have hi1 : (i : Int) < (A.length : Int) := by omega
        have hi2 : (i : Int) < (B.length : Int) := by have := HA.out; omega
        have hi0 : (0 : Int) ≤ (i : Int) := by omega
        have NX := Lib.hid (fun q => show SmRel w A B A.length (A.length - (i + 1)) (.int .i64 ((i + 1 : Nat) : Int)) (wr.drewN q) from ⟨i + 1, d + q, rfl, by omega, rfl, by rw [hw, World.drewN_drewN]⟩)
        have NE := Lib.hid (show cmpL (cmpL cmpI) M M2 ≠ 0 → A ≠ B from fun hne e => by
          subst e
          rw [hM] at hM2
          cases hM2
          exact hne (cmpM_self M))
        have G := Lib.hid (And.intro hg hw)
        clear hM hM2 hw hg z1 z2 l1 l2 s1' s2'
        by_cases h0 : cmpL (cmpL cmpI) M M2 = 0
        · rw [h0] at CQ
          clear NE h0
          go_wp2_with fail
          go_quiet ((go_at_call 36; exact CQ.out _))
          go_wp2_with fail
          go_roundg (A.length - (i + 1))
          case measure => have := G.out.1; omega
          case rel => exact NX.out _
        · have hb : (cmpL (cmpL cmpI) M M2 != 0) = true := by simpa using h0
          have NE2 := Lib.hid (NE.out h0)
          clear NE h0
          generalize hz : cmpL (cmpL cmpI) M M2 = z at *
          go_wp2_with fail
          go_quiet ((go_at_call 36; exact CQ.out _))
          go_wp2
          go_ret
          exact ⟨_, rfl, fun e => absurd e NE2.out, _, by rw [G.out.2, World.drewN_drewN]⟩
      · have t1 : decide ((i : Int) < (A.length : Int)) = false := by simp; omega
        have HW := Lib.hid hw
        clear hw hg
        go_wp2
        go_ret
        exact ⟨_, rfl, fun _ => rfl, _, HW.out⟩
  · have s1 : ((A.length : Int) != (B.length : Int)) = true := by simp; omega
    have NE := Lib.hid (show A ≠ B from fun e => hAB (by rw [e]))
    clear R0 hAB
    go_enter Try.func26, Try.ntmps26
    go_wp2
    go_ret
    exact ⟨_, rfl, fun e => absurd e NE.out, 0, rfl⟩
end Go.Proofs.Ytepmealhnnoahaa
