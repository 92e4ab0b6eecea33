/-
  A run fits.
-/
import Derived.Test.YtfidnahbhomomaaRg
namespace Go.Proofs.Ytfidnahbhomomaa
open Go.ChangeShapes Go.WideShapes Go.ChangeAt Go.RowKit
set_option linter.unusedVariables false
set_option linter.unusedSimpArgs false
/-- The number ahead of place i; -1, if there is none. -/
def lastN (F : List Int) (i : Nat) : Int := if i = 0 then -1 else F.getD (i - 1) 0
theorem lastN_succ {F : List Int} {i : Nat} {x : Int} (h : F[i]? = some x) : lastN F (i + 1) = x := by
  unfold lastN
  rw [if_neg (by omega), Nat.add_sub_cancel, List.getD_eq_getElem?_getD, h]
  rfl
/-- A run that fits a table, and n events. -/
structure RunOk (T : Tab) (at_ : Nat) (L : List (List Int)) (bl : Bool) (n : Nat) : Prop where
  len : L.length = at_ + 1
  le : at_ < T.cells.length
  bl : bl = true → ∀ c : Cel, T.cells[at_]? = some c → c.plus = true
  row : ∀ (k : Nat) (l : List Int) (c : Cel), L[k]? = some l → T.cells[k]? = some c → 1 ≤ l.length ∧ (1 < l.length → c.plus = true)
  ris : ∀ (i : Nat) (x : Int), (flatI L)[i]? = some x → lastN (flatI L) i < x ∧ x < (n : Int)
  win : lastN (flatI L) (flatI L).length - (flatI L).getD 0 0 < T.win
  small : (∀ x ∈ L, x.length ≤ 50) ∧ n ≤ 100000
def FoRel (w : World) (L : List (List Int)) (gh : Nat) (v7 v54 : Value) (wr : World) : Prop :=
  ∃ k : Nat, v54 = .int .i64 (k : Int) ∧ k ≤ L.length ∧ gh = L.length - k ∧ v7 = .int .i64 (lastN (flatI L) (offI L k)) ∧ wr = w
def FiRel (w : World) (L : List (List Int)) (k : Nat) (l : List Int) (gh : Nat) (v7 v78 : Value) (wr : World) : Prop :=
  ∃ j : Nat, v78 = .int .i64 (j : Int) ∧ j ≤ l.length ∧ gh = l.length - j ∧ v7 = .int .i64 (lastN (flatI L) (offI L k + j)) ∧ wr = w
theorem flatI_len1 {L : List (List Int)} {l : List Int} (h : L[0]? = some l) (hl : 1 ≤ l.length) : 1 ≤ (flatI L).length := by
  have h1 := offI_step h
  have h2 := offI_all L (0 + 1)
  omega
theorem flatI_head {L : List (List Int)} {l : List Int} {x : Int} (h : L[0]? = some l) (hx : l[0]? = some x) : (flatI L).getD 0 0 = x := by
  have := flatI_at h hx
  unfold offI at this
  simp [flatI] at this
  rw [List.getD_eq_getElem?_getD]
  unfold flatI
  rw [this]
  rfl
theorem offI_end {L : List (List Int)} : offI L L.length = (flatI L).length := by
  unfold offI
  rw [List.take_length]
theorem RowAt.at {w : World} {b off n cap : Nat} {l : List Int} (h : RowAt w (.slice (some ⟨b, off, none⟩) n cap) l) {j : Nat} {x : Int} (hx : l[j]? = some x) : w.cell? ⟨b, off + j, none⟩ = some (.int .i64 x) := by
  obtain ⟨a, b', off', cap', e, _, ha, hh⟩ := h
  have := ha.resolve_left (fun e => by rw [e] at hx; simp at hx)
  subst this
  have e2 : b = b' ∧ off = off' := by injection e with z1 z2 z3; injection z1 with z1; injection z1 with z1 z4; exact ⟨z1, z4⟩
  obtain ⟨rfl, rfl⟩ := e2
  exact hh j x hx
theorem RowAt.sl1 {w : World} {v : Value} {l : List Int} (h : RowAt w v l) (hl : 1 ≤ l.length) : ∃ b off cap, v = .slice (some ⟨b, off, none⟩) l.length cap := by
  obtain ⟨a, b, off, cap, e, _, ha, _⟩ := h
  obtain rfl := ha.resolve_left (fun e => by rw [e] at hl; simp at hl)
  exact ⟨b, off, cap, e⟩
theorem RowsAt.sl1 {w : World} {v : Value} {L : List (List Int)} (h : RowsAt w v L) (hl : 1 ≤ L.length) : ∃ b off cap, v = .slice (some ⟨b, off, none⟩) L.length cap := by
  obtain ⟨a, b, off, cap, e, ha, _⟩ := h
  obtain rfl := ha.resolve_left (fun e => by rw [e] at hl; simp at hl)
  exact ⟨b, off, cap, e⟩
theorem RowsAt.at {w : World} {b off n cap : Nat} {L : List (List Int)} (h : RowsAt w (.slice (some ⟨b, off, none⟩) n cap) L) {k : Nat} {l : List Int} (hl : L[k]? = some l) : ∃ r, w.cell? ⟨b, off + k, none⟩ = some r ∧ RowAt w r l := by
  obtain ⟨a, b', off', cap', e, ha, hh⟩ := h
  have := ha.resolve_left (fun e => by rw [e] at hl; simp at hl)
  subst this
  have e2 : b = b' ∧ off = off' := by injection e with z1 z2 z3; injection z1 with z1; injection z1 with z1 z4; exact ⟨z1, z4⟩
  obtain ⟨rfl, rfl⟩ := e2
  exact hh k l hl
theorem ris_pos {T : Tab} {at_ : Nat} {L : List (List Int)} {bl : Bool} {n : Nat} (h : RunOk T at_ L bl n) : ∀ (i : Nat) {x : Int}, (flatI L)[i]? = some x → 0 ≤ x ∧ x < (n : Int)
  | 0, x, hx => by
    have := h.ris 0 x hx
    unfold lastN at this
    rw [if_pos rfl] at this
    omega
  | i + 1, x, hx => by
    have h1 := h.ris (i + 1) x hx
    obtain ⟨y, hy⟩ : ∃ y, (flatI L)[i]? = some y := ⟨_, List.getElem?_eq_getElem (by have := (List.getElem?_eq_some_iff.1 hx).1; omega)⟩
    have h2 := ris_pos h i hy
    rw [lastN_succ hy] at h1
    omega
theorem ris_last {T : Tab} {at_ : Nat} {L : List (List Int)} {bl : Bool} {n : Nat} (h : RunOk T at_ L bl n) (hl : 1 ≤ (flatI L).length) : 0 ≤ lastN (flatI L) (flatI L).length ∧ lastN (flatI L) (flatI L).length < (n : Int) := by
  obtain ⟨m, hm⟩ : ∃ m, (flatI L).length = m + 1 := ⟨(flatI L).length - 1, by omega⟩
  obtain ⟨y, hy⟩ : ∃ y, (flatI L)[m]? = some y := ⟨_, List.getElem?_eq_getElem (by omega)⟩
  rw [hm, lastN_succ hy]
  exact ris_pos h m hy
theorem sub_lt {a b c : Int} (h : a - b < c) (ha : -1 ≤ a ∧ a < 100000) (hb : -1 ≤ b ∧ b < 100000) : wrap64 (a - b) = a - b := by unfold wrap64; omega
set_option maxRecDepth 100000 in
set_option maxHeartbeats 8000000 in
theorem fits_is {w : World} {cv sv : Value} {T : Tab} {a n : Nat} {L : List (List Int)} {bl : Bool} (h : CellsAt w cv T.cells) (ok : T.ok) (hs : RowsAt w sv L) (hr : RunOk T a L bl n) :
    Calls Try.prog 23 #[.agg #[cv, .int .i64 T.win, .bool T.key], .agg #[.int .i64 (a : Int), sv, .bool bl], .int .i64 (n : Int)] w fun e w' => e = .returned (.bool true) ∧ Turn (fun _ => False) w w' := by
  obtain ⟨b, off, cap, rfl⟩ := h.sl
  have hL1 : 1 ≤ L.length := by have := hr.len; omega
  obtain ⟨sb, so, sc, rfl⟩ := hs.sl1 hL1
  obtain ⟨W, hW⟩ : ∃ W, W = (w.alloc (.cells #[.slice (some ⟨b, off, none⟩) T.cells.length cap, .int .i64 T.win, .bool T.key] 26)).alloc (.cells #[.int .i64 (a : Int), .slice (some ⟨sb, so, none⟩) L.length sc, .bool bl] 40) := ⟨_, rfl⟩
  have TW : Turn (fun _ => False) w W := by rw [hW]; exact ((Turn.refl _ w).alloc _).alloc _
  have R1 : W.rangeAt w.heap.size 0 [.slice (some ⟨b, off, none⟩) T.cells.length cap, .int .i64 T.win, .bool T.key] := by
    rw [hW]
    exact range_turn (range_new w [.slice (some ⟨b, off, none⟩) T.cells.length cap, .int .i64 T.win, .bool T.key] 26) ((Turn.refl (fun _ => False) _).alloc _) id
  have R2 : W.rangeAt (w.heap.size + 1) 0 [.int .i64 (a : Int), .slice (some ⟨sb, so, none⟩) L.length sc, .bool bl] := by
    rw [hW]
    have := range_new (w.alloc (.cells #[.slice (some ⟨b, off, none⟩) T.cells.length cap, .int .i64 T.win, .bool T.key] 26)) [.int .i64 (a : Int), .slice (some ⟨sb, so, none⟩) L.length sc, .bool bl] 40
    rw [World.size_alloc] at this
    exact this
  have x0 := R1 0 _ rfl
  have x1 := R1 1 _ rfl
  have x2 := R1 2 _ rfl
  rw [Nat.zero_add] at x1 x2
  have RT := Lib.hid (right_is (h.turn TW) ok)
  have FF := Lib.hid (And.intro h (And.intro ok (And.intro hs (And.intro hr (And.intro TW (And.intro R1 R2))))))
  have HW := Lib.hid hW
  clear h hs hr TW R1 R2 hW
  go_enter Try.func23, Try.ntmps23
  go_upto_region 1 with fail
  rw [← HW.out]
  clear HW
  generalize w.heap.size + 1 = rb at *
  go_cut [50] from 12 (fun v50 wx => v50 = .bool false ∧ Turn (fun _ => False) W wx)
  case first =>
    go_wp2_with fail
    with_reducible refine RT.out.mono ?_
    rintro en W1 ⟨rfl, T1⟩
    clear RT x0 x1 x2
    obtain ⟨h, ok, hs, hr, TW, R1, R2⟩ := FF.out
    have TW1 := TW.trans T1
    obtain ⟨c, hc⟩ : ∃ c, T.cells[a]? = some c := ⟨_, List.getElem?_eq_getElem hr.le⟩
    obtain ⟨rv0, nv, hl, -, -⟩ := (h.turn TW1).at hc
    have cp := hl 1 _ rfl
    have S1 := range_turn R1 T1 id
    have S2 := range_turn R2 T1 id
    have x0 := S1 0 _ rfl
    have x1 := S1 1 _ rfl
    rw [Nat.zero_add] at x1
    have z0 := S2 0 _ rfl
    have z1 := S2 1 _ rfl
    have z2 := S2 2 _ rfl
    rw [Nat.zero_add] at z1 z2
    have a0 : (0 : Int) ≤ (a : Int) := Int.natCast_nonneg a
    have a1 : (a : Int) < (T.cells.length : Int) := Int.ofNat_lt.2 hr.le
    have t1 : decide ((a : Int) < 0) = false := decide_eq_false (Int.not_lt.2 a0)
    have t2 : decide ((T.cells.length : Int) ≤ (a : Int)) = false := decide_eq_false (Int.not_le.2 a1)
    have t3 : decide (T.cells.length ≤ a) = false := decide_eq_false (Nat.not_le.2 hr.le)
    have ea : wrap64 ((a : Int) + 1) = (a : Int) + 1 := wrapR hr.le (Nat.le_trans ok.n6 (by decide))
    have eL : ((L.length : Int) != (a : Int) + 1) = false := by rw [hr.len]; simp
    have hbl := hr.bl
    have HB := Lib.hid (show ∀ b2, bl = true → c.plus = b2 → b2 = true from fun b2 e e2 => e2 ▸ hbl e c hc)
    have TF := Lib.hid T1
    clear h ok hs hr TW R1 R2 hl hc S1 S2 hbl TW1 T1
    cases bl with
    | false =>
      go_wp2_with fail
      go_meet
      case rel => exact ⟨rfl, TF.out⟩
    | true =>
      have hp := HB.out _ rfl rfl
      rw [hp] at cp
      go_wp2_with fail
      go_meet
      case rel => exact ⟨rfl, TF.out⟩
  case rest =>
  obtain ⟨rfl, T1⟩ := hcut
  clear RT x0 x1 x2
  obtain ⟨h, ok, hs, hr, TW, R1, R2⟩ := FF.out
  have TW1 := TW.trans T1
  have S1 := range_turn R1 T1 id
  have S2 := range_turn R2 T1 id
  have x0 := S1 0 _ rfl
  have x1 := S1 1 _ rfl
  rw [Nat.zero_add] at x1
  have z1 := S2 1 _ rfl
  rw [Nat.zero_add] at z1
  have hsw := hs.turn TW1
  have hcw := h.turn TW1
  have F0 : FoRel wc L L.length (.int .i64 (-1)) (.int .i64 0) wc := ⟨0, rfl, Nat.zero_le _, rfl, by simp [offI, flatI, lastN], rfl⟩
  have GG := Lib.hid (And.intro hsw (And.intro hcw (And.intro ok (And.intro hr TW1))))
  clear h ok hs hr TW R1 R2 TW1 T1 S1 S2 hsw hcw
  go_wp2_with fail
  go_loopg [7, 8, 9, 11, 54] L.length (fun gh v7 v8 v9 v11 v54 wr => FoRel wc L gh v7 v54 wr)
  case atStart => exact F0
  case round =>
    clear F0
    obtain ⟨k, rfl, hk, hgk, rfl, rfl⟩ := hrel
    obtain ⟨hsw, hcw, ok, hr, TW1⟩ := GG.out
    by_cases hkl : k < L.length
    · obtain ⟨l, hl⟩ : ∃ l, L[k]? = some l := ⟨_, List.getElem?_eq_getElem hkl⟩
      obtain ⟨c, hc⟩ : ∃ c, T.cells[k]? = some c := ⟨_, List.getElem?_eq_getElem (by have := hr.len; have := hr.le; omega)⟩
      obtain ⟨rv0, nv, hcl, -, -⟩ := hcw.at hc
      have cp := hcl 1 _ rfl
      obtain ⟨r, hrc, hra⟩ := hsw.at hl
      obtain ⟨h1, h2⟩ := hr.row k l c hl hc
      obtain ⟨lb, lo, lc, rfl⟩ := hra.sl1 h1
      have hl50 := hr.small.1 l (List.mem_of_getElem? hl)
      have u1 : decide ((k : Int) < (L.length : Int)) = true := decide_eq_true (Int.ofNat_lt.2 hkl)
      have u2 : decide (k < L.length) = true := decide_eq_true hkl
      have k0 : (0 : Int) ≤ (k : Int) := Int.natCast_nonneg k
      have k1 : (k : Int) < (L.length : Int) := Int.ofNat_lt.2 hkl
      have k2 : (k : Int) < (T.cells.length : Int) := by have := hr.len; have := hr.le; omega
      have ek : wrap64 ((k : Int) + 1) = (k : Int) + 1 := wrapR hkl (by have := hr.len; have := hr.le; have := ok.n6; omega)
      have w0 : ((l.length : Int) == 0) = false := beq_eq_false_iff_ne.2 (by omega)
      have I0 : FiRel wr L k l l.length (.int .i64 (lastN (flatI L) (offI L k))) (.int .i64 0) wr := ⟨0, rfl, Nat.zero_le _, rfl, rfl, rfl⟩
      have H2 := Lib.hid (And.intro h2 (And.intro hl (And.intro hra hl50)))
      have G := Lib.hid (And.intro hgk hkl)
      clear hk hgk hkl hsw hcw ok hr TW1 hl hc hcl hra h1 h2 hl50
      generalize lastN (flatI L) (offI L k) = la at *
      go_upto_region 7 with fail
      clear hrc
      go_cut [75] from 59 to 75 (fun v75 wx => v75 = .bool false ∧ wx = wr)
      case first =>
        by_cases h1 : 1 < l.length
        · have hp := H2.out.1 h1
          rw [hp] at cp
          have w1 : decide ((1 : Int) < (l.length : Int)) = true := decide_eq_true (by omega)
          have w2 : decide (1 < l.length) = true := decide_eq_true h1
          go_wp2_with fail
          go_meet
          case rel => exact ⟨rfl, rfl⟩
        · have w1 : decide ((1 : Int) < (l.length : Int)) = false := decide_eq_false (by omega)
          have w2 : decide (1 < l.length) = false := decide_eq_false h1
          go_wp2_with fail
          go_meet
          case rel => exact ⟨rfl, rfl⟩
      case rest =>
      obtain ⟨rfl, rfl⟩ := hcut
      clear cp w0
      go_wp2_with fail
      go_loopg [7, 11, 78] l.length (fun gh v7 v11 v78 wq => FiRel wc L k l gh v7 v78 wq)
      case atStart => exact I0
      case round =>
        clear I0
        obtain ⟨j, rfl, hj, hgj, rfl, rfl⟩ := hrel
        rename World => wq
        obtain ⟨hsw, hcw, ok, hr, TW1⟩ := GG.out
        obtain ⟨-, hl, hra, hl50⟩ := H2.out
        by_cases hjl : j < l.length
        · obtain ⟨x, hx⟩ : ∃ x, l[j]? = some x := ⟨_, List.getElem?_eq_getElem hjl⟩
          have hf := flatI_at hl hx
          obtain ⟨r1, r2⟩ := hr.ris _ _ hf
          have yx := hra.at hx
          have v1 : decide ((j : Int) < (l.length : Int)) = true := decide_eq_true (Int.ofNat_lt.2 hjl)
          have v2 : decide (j < l.length) = true := decide_eq_true hjl
          have l0 : (0 : Int) ≤ (j : Int) := Int.natCast_nonneg j
          have l1 : (j : Int) < (l.length : Int) := Int.ofNat_lt.2 hjl
          have ej := wrapR hjl (Nat.le_trans hl50 (by decide))
          have c1 : decide (x ≤ lastN (flatI L) (offI L k + j)) = false := decide_eq_false (Int.not_le.2 r1)
          have c2 : decide ((n : Int) ≤ x) = false := decide_eq_false (Int.not_le.2 r2)
          have ST2 := Lib.hid (show FiRel wq L k l (l.length - (j + 1)) (.int .i64 x) (.int .i64 ((j : Int) + 1)) wq from ⟨j + 1, congrArg (Value.int .i64) (Int.natCast_succ j).symm, hjl, rfl, by rw [← Nat.add_assoc, lastN_succ hf], rfl⟩)
          have G2 := Lib.hid (And.intro hgj hjl)
          clear hj hgj hjl hsw hcw ok hr TW1 hl hra hl50 hx hf r1 r2
          generalize lastN (flatI L) (offI L k + j) = lv at *
          go_wp2_with fail
          go_roundg (l.length - (j + 1))
          case measure => have := G2.out.1; have := G2.out.2; omega
          case rel => first | exact ST2.out | (rw [ej]; exact ST2.out)
        · obtain rfl : j = l.length := Nat.le_antisymm hj (Nat.not_lt.1 hjl)
          have v1 : decide ((l.length : Int) < (l.length : Int)) = false := decide_eq_false (Int.lt_irrefl _)
          have v2 : decide (l.length < l.length) = false := decide_eq_false (Nat.lt_irrefl _)
          have ST2 := Lib.hid (show FoRel wq L (L.length - (k + 1)) (.int .i64 (lastN (flatI L) (offI L k + l.length))) (.int .i64 ((k : Int) + 1)) wq from ⟨k + 1, congrArg (Value.int .i64) (Int.natCast_succ k).symm, G.out.2, rfl, by rw [offI_step hl], rfl⟩)
          clear hj hgj hjl hsw hcw ok hr TW1 hl hra hl50
          generalize lastN (flatI L) (offI L k + l.length) = lv at *
          go_wp2_with fail
          go_roundg (L.length - (k + 1))
          case measure => have := G.out.1; have := G.out.2; omega
          case rel => first | exact ST2.out | (rw [ek]; exact ST2.out)
    · obtain rfl : k = L.length := Nat.le_antisymm hk (Nat.not_lt.1 hkl)
      have u1 : decide ((L.length : Int) < (L.length : Int)) = false := decide_eq_false (Int.lt_irrefl _)
      have u2 : decide (L.length < L.length) = false := decide_eq_false (Nat.lt_irrefl _)
      obtain ⟨l, hl⟩ : ∃ l, L[0]? = some l := ⟨_, List.getElem?_eq_getElem (by have := hr.len; omega)⟩
      obtain ⟨c, hc⟩ : ∃ c, T.cells[0]? = some c := ⟨_, List.getElem?_eq_getElem (by have := ok.n1; omega)⟩
      obtain ⟨r, hrc, hra⟩ := hsw.at hl
      obtain ⟨h1, -⟩ := hr.row 0 l c hl hc
      obtain ⟨lb, lo, lc, rfl⟩ := hra.sl1 h1
      obtain ⟨x, hx⟩ : ∃ x, l[0]? = some x := ⟨_, List.getElem?_eq_getElem (by omega)⟩
      have yx := hra.at hx
      have hw := hr.win
      rw [flatI_head hl hx] at hw
      have hb1 := ris_pos hr 0 (flatI_at hl hx)
      have hb2 := ris_last hr (flatI_len1 hl h1)
      have hi1 : (0 : Int) < (L.length : Int) := by have := hr.len; omega
      have hi2 : (0 : Int) < (l.length : Int) := by omega
      rw [offI_end]
      have es := sub_lt hw ⟨by omega, by have := hr.small.2; omega⟩ ⟨by omega, by have := hr.small.2; omega⟩
      have tw : decide (lastN (flatI L) (flatI L).length - x < T.win) = true := decide_eq_true hw
      have FIN := Lib.hid (show Turn (fun _ => False) w wr.drew from TW1.drewN 1)
      rw [Nat.add_zero] at hrc yx
      clear hk hkl hgk hsw hcw ok hr TW1 hl hc hra h1 hx hw hb1 hb2 FF GG
      generalize lastN (flatI L) (flatI L).length = lv at *
      go_upto_region 17 with fail
      go_region
      go_wp2_with fail
      go_ret
      exact ⟨rfl, FIN.out⟩
end Go.Proofs.Ytfidnahbhomomaa
