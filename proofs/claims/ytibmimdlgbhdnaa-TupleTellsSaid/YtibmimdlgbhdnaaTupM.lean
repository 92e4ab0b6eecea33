/-
  Rows in order that become one: which row is first. Contracts for the walks of the statements of layer 6.
-/
import Derived.Test.YtibmimdlgbhdnaaTupF
namespace Go.Proofs.Ytibmimdlgbhdnaa
open Go.ChangeShapes Go.WideShapes Go.ChangeAt Go.RowKit
set_option linter.unusedVariables false

/-- What the Go function that is handed in as 'less' answers. -/
def Less (fn : Nat) (lt : Int → Int → Bool) : Prop := ∀ x y w, Calls Try.prog fn #[.int .i64 x, .int .i64 y] w fun e w' => e = .returned (.bool (lt x y)) ∧ w = w'
theorem less_56 : Less 56 (fun a b => decide (a < b)) := fun x y w => by
  go_enter Try.func56, Try.ntmps56
  go_wp2
  go_ret
  exact ⟨rfl, rfl⟩
def okB (lt : Int → Int → Bool) (L : List (List Int)) (at_ : Nat) (y : Int) (j : Nat) : Bool := j == at_ || match L[j]? with
  | some (x :: _) => !lt x y
  | _ => true
def leastB (lt : Int → Int → Bool) (L : List (List Int)) (at_ : Nat) (y : Int) : Bool := (List.range L.length).all (okB lt L at_ y)
theorem all_succ (f : Nat → Bool) (k : Nat) : (List.range (k + 1)).all f = ((List.range k).all f && f k) := by
  rw [List.range_succ, List.all_append]
  simp
def LeastRel (lt : Int → Int → Bool) (L : List (List Int)) (at_ : Nat) (y : Int) (w : World) (gh : Nat) (v : Value) (wr : World) : Prop :=
  ∃ k d : Nat, v = .int .i64 (k : Int) ∧ k ≤ L.length ∧ gh = L.length - k ∧ (List.range k).all (okB lt L at_ y) = true ∧ wr = w.drewN d
set_option maxRecDepth 100000 in
set_option maxHeartbeats 2000000 in
theorem least_is {lt : Int → Int → Bool} (HL : Less 56 lt) {w : World} {v : Value} {L : List (List Int)} (h : RowsAt w v L) (hL : L.length ≤ 1000000) {at_ : Nat} {y : Int} {ly : List Int} (ha : L[at_]? = some (y :: ly)) :
    Calls Try.prog 88 #[v, .int .i64 (at_ : Int), .func (.func 56) #[] #[]] w fun e w' => e = .returned (.bool (leastB lt L at_ y)) ∧ ∃ d, w' = w.drewN d := by
  have hal := (List.getElem?_eq_some_iff.1 ha).1
  obtain ⟨av, b, off, cap, rfl, e0, hx⟩ := h
  obtain rfl := e0.resolve_left (fun e => by rw [e] at hal; simp at hal)
  obtain ⟨r, z, hr⟩ := hx at_ _ ha
  have HX := Lib.hid (And.intro hx (And.intro ha HL))
  obtain ⟨p1, pb, po, p4, rfl, hcap, q0, q1⟩ := hr
  obtain rfl := q0.resolve_left (fun e => by cases e)
  have zy := q1 0 y rfl
  have Z := Lib.hid (And.intro z zy)
  have R0 : LeastRel lt L at_ y w L.length (.int .i64 0) w := ⟨0, 0, rfl, Nat.zero_le _, rfl, rfl, rfl⟩
  have hal1 : (at_ : Int) < (L.length : Int) := by omega
  have hal0 : (0 : Int) ≤ (at_ : Int) := by omega
  clear e0 hx ha q0 q1 z zy HL
  simp only [List.length_cons] at hcap ⊢
  go_enter Try.func88, Try.ntmps88
  go_wp2_with fail
  go_loopg [11] L.length (fun gh v wr => LeastRel lt L at_ y w gh v wr)
  case atStart => exact R0
  case round =>
    clear R0
    obtain ⟨k, d, rfl, hk, hg, hok, hw⟩ := hrel
    by_cases hkl : k < L.length
    · obtain ⟨l, hl⟩ : ∃ l, L[k]? = some l := ⟨_, List.getElem?_eq_getElem hkl⟩
      obtain ⟨r, y1, hr⟩ := HX.out.1 k l hl
      obtain ⟨c1, cb, co, c4, rfl, _, f0, f1⟩ := hr
      have x1 : wr.cell? ⟨b, off + k, none⟩ = some (.slice c1 l.length c4) := by rw [hw]; exact y1
      have x2 : wr.cell? ⟨b, off + at_, none⟩ = some (.slice (some ⟨pb, po, none⟩) (ly.length + 1) p4) := by rw [hw]; exact Z.out.1
      have x3 : wr.cell? ⟨pb, po, none⟩ = some (.int .i64 y) := by rw [hw]; exact Z.out.2
      have t1 : decide ((k : Int) < (L.length : Int)) = true := by simp; omega
      have hk1 : (k : Int) < (L.length : Int) := by omega
      have hk0 : (0 : Int) ≤ (k : Int) := by omega
      have hs := all_succ (okB lt L at_ y) k
      rw [hok, Bool.true_and] at hs
      have W := Lib.hid (And.intro hw (And.intro hg hs))
      by_cases hka : k = at_
      · have tk : ((k : Int) != (at_ : Int)) = false := by simp; omega
        have hb : okB lt L at_ y k = true := by unfold okB; simp [hka]
        have hb := Lib.hid hb
        clear hw hg hs hok hl y1 f0 f1
        go_wp2_with fail
        go_quiet (fail)
        go_wp2_with fail
        go_roundg (L.length - (k + 1))
        case measure => have := W.out.2.1; omega
        case rel => exact ⟨k + 1, _, by go_num, by omega, rfl, by rw [W.out.2.2, hb.out], by rw [W.out.1, World.drewN_drewN]⟩
      · have tk : ((k : Int) != (at_ : Int)) = true := by simp; omega
        cases l with
        | nil =>
          have hb : okB lt L at_ y k = true := by unfold okB; rw [hl]; simp
          have hb := Lib.hid hb
          have tl : decide ((0 : Int) < ((([] : List Int).length : Nat) : Int)) = false := by simp
          simp only [List.length_nil] at x1 tl
          clear hw hg hs hok hl y1 f0 f1
          go_wp2_with fail
          go_quiet (fail)
          go_wp2_with fail
          go_roundg (L.length - (k + 1))
          case measure => have := W.out.2.1; omega
          case rel => exact ⟨k + 1, _, by go_num, by omega, rfl, by rw [W.out.2.2, hb.out], by rw [W.out.1, World.drewN_drewN]⟩
        | cons x l =>
          obtain rfl := f0.resolve_left (fun e => by cases e)
          have x4 : wr.cell? ⟨cb, co, none⟩ = some (.int .i64 x) := by rw [hw]; exact f1 0 x rfl
          have tl : decide ((0 : Int) < (((l.length + 1 : Nat) : Nat) : Int)) = true := decide_eq_true (by omega)
          have tl2 : (0 : Int) < (((l.length + 1 : Nat) : Nat) : Int) := by omega
          have hb : okB lt L at_ y k = !lt x y := by unfold okB; rw [hl]; simp [hka]
          have Q := Lib.hid (fun dd => show Calls Try.prog 56 #[.int .i64 x, .int .i64 y] (wr.drewN dd) (fun e w' => e = Ending.returned (.bool (lt x y)) ∧ ∃ q, w' = wr.drewN q) from (HX.out.2.2 x y _).mono fun e w' h => ⟨h.1, dd, h.2.symm⟩)
          simp only [List.length_cons] at x1
          clear hw hg hs hok hl y1 f1 f0
          cases hlt : lt x y with
          | false =>
            rw [hlt] at hb Q
            have hb := Lib.hid (show okB lt L at_ y k = true from hb)
            go_wp2_with fail
            go_quiet ((go_at_call 56; exact Q.out _))
            go_wp2_with fail
            go_roundg (L.length - (k + 1))
            case measure => have := W.out.2.1; omega
            case rel => exact ⟨k + 1, _, by go_num, by omega, rfl, by rw [W.out.2.2, hb.out], by rw [W.out.1, World.drewN_drewN]⟩
          | true =>
            rw [hlt] at hb Q
            have hb := Lib.hid (show okB lt L at_ y k = false from hb)
            have FB := Lib.hid (show leastB lt L at_ y = false from by
              unfold leastB
              rw [List.all_eq_false]
              exact ⟨k, by simp; omega, by rw [hb.out]; decide⟩)
            go_wp2_with fail
            go_quiet ((go_at_call 56; exact Q.out _))
            go_wp2
            go_ret
            exact ⟨by rw [FB.out]; rfl, _, by rw [W.out.1, World.drewN_drewN]⟩
    · have t1 : decide ((k : Int) < (L.length : Int)) = false := by simp; omega
      have hkL : k = L.length := by omega
      have FB := Lib.hid (show leastB lt L at_ y = true ∧ wr = w.drewN d from ⟨by
        unfold leastB
        rw [← hkL]
        exact hok, hw⟩)
      clear hok hw hkL
      go_wp2
      go_ret
      exact ⟨by rw [FB.out.1]; rfl, _, FB.out.2⟩
theorem RowsAt.drewN {w : World} {v : Value} {L : List (List Int)} (h : RowsAt w v L) (d : Nat) : RowsAt (w.drewN d) v L := h
def full (L : List (List Int)) (j : Nat) : Bool := match L[j]? with
  | some (_ :: _) => true
  | _ => false
def isFirst (lt : Int → Int → Bool) (L : List (List Int)) (j : Nat) : Bool := match L[j]? with
  | some (y :: _) => leastB lt L j y
  | _ => false
def someAt (L : List (List Int)) (k : Nat) : Int := match (List.range k).find? (full L) with
  | some j => (j : Int)
  | none => -1
/-- The place of the row whose next number no other one's is less than. -/
def firstAt (lt : Int → Int → Bool) (L : List (List Int)) : Int := match (List.range L.length).find? (isFirst lt L) with
  | some j => (j : Int)
  | none => someAt L L.length
theorem find_succ (f : Nat → Bool) (k : Nat) : (List.range (k + 1)).find? f = ((List.range k).find? f).or (if f k then some k else none) := by
  rw [List.range_succ, List.find?_append]
  congr 1
  cases h : f k <;> simp [h]
theorem someAt_succ (L : List (List Int)) (k : Nat) : someAt L (k + 1) = if someAt L k < 0 then (if full L k then (k : Int) else -1) else someAt L k := by
  unfold someAt
  rw [find_succ]
  cases h : (List.range k).find? (full L) with
  | none =>
    cases h2 : full L k <;> simp
  | some j => simp; omega
theorem someAt_or (L : List (List Int)) (k : Nat) : someAt L k = -1 ∨ 0 ≤ someAt L k := by
  unfold someAt
  split
  · exact .inr (by omega)
  · exact .inl rfl
theorem firstAt_at {lt : Int → Int → Bool} {L : List (List Int)} {k : Nat} (hk : k < L.length) (h : (List.range k).find? (isFirst lt L) = none) (hf : isFirst lt L k = true) : firstAt lt L = (k : Int) := by
  have e : (List.range L.length).find? (isFirst lt L) = some k := by
    have : ∀ m, k < m → (List.range m).find? (isFirst lt L) = some k := fun m hm => by
      induction m with
      | zero => omega
      | succ m ih =>
        rw [find_succ]
        by_cases e : m = k
        · subst e
          rw [h, hf]
          rfl
        · rw [ih (by omega)]
          rfl
    exact this _ hk
  unfold firstAt
  rw [e]
def FstRel (lt : Int → Int → Bool) (L : List (List Int)) (w : World) (gh : Nat) (v5 v10 : Value) (wr : World) : Prop :=
  ∃ k d : Nat, v10 = .int .i64 (k : Int) ∧ v5 = .int .i64 (someAt L k) ∧ k ≤ L.length ∧ gh = L.length - k ∧ (List.range k).find? (isFirst lt L) = none ∧ wr = w.drewN d
set_option maxRecDepth 100000 in
set_option maxHeartbeats 2000000 in
theorem first_is {lt : Int → Int → Bool} (HL : Less 56 lt) {w : World} {v : Value} {L : List (List Int)} (h : RowsAt w v L) (hL : L.length ≤ 1000000) :
    Calls Try.prog 67 #[v, .func (.func 56) #[] #[]] w fun e w' => e = .returned (.int .i64 (firstAt lt L)) ∧ ∃ d, w' = w.drewN d := by
  have H := Lib.hid h
  have HLL := Lib.hid HL
  obtain ⟨av, b, off, cap, rfl, e0, hx⟩ := h
  have HX := Lib.hid hx
  have R0 : FstRel lt L w L.length (.int .i64 (-1)) (.int .i64 0) w := ⟨0, 0, rfl, rfl, Nat.zero_le _, rfl, rfl, rfl⟩
  clear hx HL
  go_enter Try.func67, Try.ntmps67
  go_wp2_with fail
  go_loopg [5, 10] L.length (fun gh v5 v10 wr => FstRel lt L w gh v5 v10 wr)
  case atStart => exact R0
  case round =>
    clear R0
    obtain ⟨k, d, rfl, rfl, hk, hg, hno, hw⟩ := hrel
    have so := someAt_or L k
    have ss := someAt_succ L k
    by_cases hkl : k < L.length
    · obtain rfl := e0.resolve_left (fun e => by rw [e] at hkl; simp at hkl)
      obtain ⟨l, hl⟩ : ∃ l, L[k]? = some l := ⟨_, List.getElem?_eq_getElem hkl⟩
      obtain ⟨r, y1, hr⟩ := HX.out k l hl
      obtain ⟨c1, cb, co, c4, rfl, _, f0, f1⟩ := hr
      have x1 : wr.cell? ⟨b, off + k, none⟩ = some (.slice c1 l.length c4) := by rw [hw]; exact y1
      have t1 : decide ((k : Int) < (L.length : Int)) = true := by simp; omega
      have hk1 : (k : Int) < (L.length : Int) := by omega
      have hk0 : (0 : Int) ≤ (k : Int) := by omega
      have fs := find_succ (isFirst lt L) k
      rw [hno, Option.none_or] at fs
      cases l with
      | nil =>
        have hf : full L k = false := by unfold full; rw [hl]
        have hi : isFirst lt L k = false := by unfold isFirst; rw [hl]
        rw [hf] at ss
        rw [hi] at fs
        have es : someAt L (k + 1) = someAt L k := by
          rw [ss]
          split
          · rcases so with e | e
            · rw [e]; rfl
            · omega
          · rfl
        have X := Lib.hid (And.intro hw (And.intro hg (And.intro fs es)))
        clear hw hg fs es ss hl y1 f0 f1 hno
        simp only [List.length_nil] at x1
        generalize someAt L k = so' at *
        go_wp2_with fail
        go_roundg (L.length - (k + 1))
        case measure => have := X.out.2.1; omega
        case rel => exact ⟨k + 1, d, by go_num, by rw [X.out.2.2.2], by omega, rfl, X.out.2.2.1, X.out.1⟩
      | cons y ly =>
        have hf : full L k = true := by unfold full; rw [hl]
        have hi : isFirst lt L k = leastB lt L k y := by unfold isFirst; rw [hl]
        rw [hf] at ss
        rw [hi] at fs
        have C := Lib.hid (least_is HLL.out (w := wr) (by rw [hw]; exact H.out.drewN d) hL hl)
        have tz : (((ly.length : Int) + 1) == 0) = false := by simp; omega
        have tz2 : (((ly.length + 1 : Nat) : Int) == 0) = false := by simp; omega
        simp only [List.length_cons] at x1
        have AT := Lib.hid (fun h : leastB lt L k y = true => firstAt_at hkl hno (hi.trans h))
        cases hlb : leastB lt L k y with
        | true =>
          rw [hlb] at C
          have X := Lib.hid (And.intro hw (AT.out hlb))
          clear hw hg fs ss hl y1 f0 f1 hno hi hf AT hlb
          generalize someAt L k = so' at *
          go_wp2_with fail
          refine C.out.mono ?_
          rintro e w1 ⟨rfl, d1, rfl⟩
          go_wp2
          go_ret
          exact ⟨by rw [X.out.2]; rfl, _, by rw [X.out.1, World.drewN_drewN]⟩
        | false =>
          rw [hlb] at C fs
          by_cases hs : someAt L k < 0
          · rw [if_pos hs] at ss
            have X := Lib.hid (And.intro hw (And.intro hg (And.intro fs ss)))
            clear hw hg fs ss hl y1 f0 f1 hno hi hf AT hlb so
            have ts : decide (someAt L k < 0) = true := by simpa using hs
            generalize someAt L k = so' at *
            go_wp2_with fail
            refine C.out.mono ?_
            rintro e w1 ⟨rfl, d1, rfl⟩
            go_wp2_with fail
            go_roundg (L.length - (k + 1))
            case measure => have := X.out.2.1; omega
            case rel => exact ⟨k + 1, _, by go_num, by rw [X.out.2.2.2]; rfl, by omega, rfl, X.out.2.2.1, by rw [X.out.1, World.drewN_drewN]⟩
          · rw [if_neg hs] at ss
            have X := Lib.hid (And.intro hw (And.intro hg (And.intro fs ss)))
            clear hw hg fs ss hl y1 f0 f1 hno hi hf AT hlb so
            have ts : decide (someAt L k < 0) = false := by simpa using hs
            generalize someAt L k = so' at *
            go_wp2_with fail
            refine C.out.mono ?_
            rintro e w1 ⟨rfl, d1, rfl⟩
            go_wp2_with fail
            go_roundg (L.length - (k + 1))
            case measure => have := X.out.2.1; omega
            case rel => exact ⟨k + 1, _, by go_num, by rw [X.out.2.2.2], by omega, rfl, X.out.2.2.1, by rw [X.out.1, World.drewN_drewN]⟩
    · have t1 : decide ((k : Int) < (L.length : Int)) = false := by simp; omega
      have hkL : k = L.length := by omega
      have FB := Lib.hid (show firstAt lt L = someAt L k ∧ wr = w.drewN d from ⟨by
        unfold firstAt
        rw [← hkL, hno], hw⟩)
      clear hno hw hkL ss so
      generalize someAt L k = so' at *
      go_wp2
      go_ret
      exact ⟨by rw [FB.out.1]; rfl, _, FB.out.2⟩
end Go.Proofs.Ytibmimdlgbhdnaa
