/-
  The document's own log, in memory: what the workers told of the command at low.
-/
import Derived.Test.YteokdibfdahabaaRf7
namespace Go.Proofs.Yteokdibfdahabaa
open Go.ChangeShapes Go.WideShapes Go.ChangeAt Go.RowKit
set_option linter.unusedVariables false
theorem allTold_low {s : LSt} {kind : Int} (h : s.X s.low = none) : ∀ k, allTold s kind k = false
  | 0 => by unfold allTold; rw [h]; rfl
  | k + 1 => by unfold allTold; rw [allTold_low h k]; rfl
section
variable {w w' : World} {R : RB} {c : Cf} {s : LSt}
def CaRel (n : Nat) (w : World) (gh : Nat) (v4 v5 : Value) (wr : World) : Prop :=
  ∃ k : Nat, v5 = .int .i64 (k : Int) ∧ k ≤ n ∧ gh = n - k ∧ v4 = .bool false ∧ Turn (fun _ => False) w wr
set_option maxRecDepth 100000 in
set_option maxHeartbeats 4000000 in
theorem RefAt.collect_no (h : RefAt w R c s) (hsh : c.sh ≤ 15) (hx : s.X (s.low : Int) = none) :
    Calls Try.prog 47 #[.pointer (some ⟨R.r, 0, none⟩)] w fun e w' => e = .returned (.tuple #[.slice none 0 0, .bool false]) ∧ Turn (fun _ => False) w w' := by
  have L := Lib.hid (h.lies_no (at_ := (s.low : Int)) (fun f => by have := f.2.2; rw [hx] at this; cases this))
  obtain ⟨cap, k10⟩ := h.k10
  have k9 := h.k9
  have R0 : CaRel c.sh w c.sh (.bool false) (.int .i64 0) w := ⟨0, rfl, Nat.zero_le _, rfl, rfl, Turn.refl _ _⟩
  clear h hx
  generalize c.sh = n at *
  generalize s.low = lo at *
  go_enter Try.func47, Try.ntmps47
  go_wp2_with fail
  with_reducible refine L.out.mono ?_
  rintro e w1 ⟨rfl, rfl⟩
  go_wp2_with fail
  go_loopg [4, 5] n (fun gh v4 v5 wr => CaRel n w gh v4 v5 wr)
  case atStart => exact R0
  case round =>
    clear R0
    obtain ⟨k, rfl, hk, hg, rfl, T⟩ := hrel
    have k10 := T.cell (fun f => f) k10
    by_cases hkn : k < n
    · have u1 : decide ((k : Int) < (n : Int)) = true := decide_eq_true (by omega)
      have u2 : decide (k < n) = true := decide_eq_true hkn
      have j1 : (k : Int) < (n : Int) := by omega
      have GG := Lib.hid (And.intro hg (And.intro hkn T))
      clear hg hkn T hk
      go_wp2_with fail
      go_quiet (fail)
      go_wp2_with fail
      go_roundg (n - (k + 1))
      case measure => have := GG.out; omega
      case rel => exact ⟨k + 1, by go_num, by have := GG.out; omega, rfl, rfl, GG.out.2.2.drewN _⟩
    · have u1 : decide ((k : Int) < (n : Int)) = false := decide_eq_false (by omega)
      have u2 : decide (k < n) = false := decide_eq_false hkn
      have TT := Lib.hid T
      clear hg hkn T hk
      go_wp2_with fail
      go_ret2
      exact ⟨rfl, TT.out⟩
def CoRel (s : LSt) (kind : Int) (n : Nat) (w : World) (gh : Nat) (v4 v5 : Value) (wr : World) : Prop :=
  ∃ k : Nat, v5 = .int .i64 (k : Int) ∧ k ≤ n ∧ gh = n - k ∧ v4 = .bool (allTold s kind k) ∧ Turn (fun _ => False) w wr
set_option maxRecDepth 100000 in
set_option maxHeartbeats 8000000 in
theorem RefAt.collect_at (h : RefAt w R c s) (hsh : c.sh ≤ 15) (hL : LiesB s (s.low : Int)) :
    Calls Try.prog 47 #[.pointer (some ⟨R.r, 0, none⟩)] w fun e w' =>
      (readyB c s = false ∧ e = .returned (.tuple #[.slice none 0 0, .bool false]) ∧ Turn (fun _ => False) w w') ∨
      (readyB c s = true ∧ e = .returned (.tuple #[.slice (some ⟨(R.D s.low).ob, 0, none⟩) c.sh c.sh, .bool true]) ∧ Turn (fun _ => False) w w') := by
  have L := Lib.hid (h.lies_yes hL)
  obtain ⟨q1, q2, q3⟩ := hL
  have hlt : s.low < s.tail := by omega
  obtain ⟨g, cap, hv, hb, _, rows⟩ := h.row hlt
  have k7 := h.k7
  rw [hv] at k7
  obtain ⟨capw, k10⟩ := h.k10
  have k9 := h.k9
  obtain ⟨p, hp⟩ : ∃ p, s.X (s.low : Int) = some p := Option.isSome_iff_exists.1 q3
  have hk : ((s.X (s.low : Int)).getD (0, 0)).1 = p.1 := by rw [hp]; rfl
  have c2 : w.cell? ⟨g, s.low * 20 + 2, none⟩ = some (.int .i64 p.1) := by
    rw [← h.cm s.low hlt (Nat.le_refl _) p hp]
    exact rows s.low hlt 2 _ rfl
  have c16 : w.cell? ⟨g, s.low * 20 + 16, none⟩ = some (.slice (some ⟨(R.D s.low).ob, 0, none⟩) c.sh c.sh) := rows s.low hlt 16 _ rfl
  have hrd : readyB c s = allTold s p.1 c.sh := by unfold readyB; rw [hk]
  rw [hrd]
  have W0 := fun k (hk : k < c.sh) => h.w0 k hk
  have W1 := fun k (hk : k < c.sh) => h.w1 k hk
  have m0 : (0 : Int) ≤ (s.low : Int) := by omega
  have m1 : (s.low : Int) < (s.tail : Int) := by omega
  have a0 : allTold s p.1 0 = true := q3
  have R0 : CoRel s p.1 c.sh w c.sh (.bool true) (.int .i64 0) w := ⟨0, rfl, Nat.zero_le _, rfl, by rw [a0], Turn.refl _ _⟩
  have W0 := Lib.hid W0
  have W1 := Lib.hid W1
  clear h hv hb rows q1 q2 q3 hlt hp hk hrd a0
  generalize p.1 = kind at *
  generalize (R.D s.low).ob = ob at *
  go_enter Try.func47, Try.ntmps47
  go_wp2_with fail
  with_reducible refine L.out.mono ?_
  rintro e w1 ⟨rfl, rfl⟩
  go_wp2_with fail
  clear L
  go_loopg [4, 5] c.sh (fun gh v4 v5 wr => CoRel s kind c.sh w gh v4 v5 wr)
  case atStart => exact R0
  case round =>
    clear R0
    obtain ⟨k, rfl, hk, hg, rfl, T⟩ := hrel
    have y7 := T.cell (fun f => f) k7
    have y9 := T.cell (fun f => f) k9
    have y10 := T.cell (fun f => f) k10
    have y2 := T.cell (fun f => f) c2
    have y16 := T.cell (fun f => f) c16
    clear k7 k9 k10 c2 c16
    by_cases hkn : k < c.sh
    · have u1 : decide ((k : Int) < (c.sh : Int)) = true := decide_eq_true (by omega)
      have u2 : decide (k < c.sh) = true := decide_eq_true hkn
      have z0 := T.cell (fun f => f) (W0.out k hkn)
      have z1 := T.cell (fun f => f) (W1.out k hkn)
      have j0 : (0 : Int) ≤ (k : Int) := by omega
      have j1 : (k : Int) < (c.sh : Int) := by omega
      have hnx : allTold s kind (k + 1) = (allTold s kind k && told s kind k) := rfl
      have GG := Lib.hid (And.intro hg (And.intro hkn (And.intro T hnx)))
      clear hg hkn T hk hnx W0 W1 y16
      obtain ⟨ac, hac⟩ : ∃ ac, allTold s kind k = ac := ⟨_, rfl⟩
      have HAC := Lib.hid hac
      rw [hac]
      clear hac
      cases ac with
      | false =>
        go_wp2_with fail
        go_quiet (fail)
        go_wp2_with fail
        go_roundg (c.sh - (k + 1))
        case measure => have := GG.out; omega
        case rel => exact ⟨k + 1, by go_num, by have := GG.out; omega, rfl, by rw [GG.out.2.2.2, HAC.out]; rfl, GG.out.2.2.1.drewN _⟩
      | true =>
        obtain ⟨lf, hlf⟩ : ∃ lf, s.left k = lf := ⟨_, rfl⟩
        have HLF := Lib.hid hlf
        rw [hlf] at z1
        clear hlf
        cases lf with
        | true =>
          go_wp2_with fail
          go_quiet (fail)
          go_wp2_with fail
          go_roundg (c.sh - (k + 1))
          case measure => have := GG.out; omega
          case rel => exact ⟨k + 1, by go_num, by have := GG.out; omega, rfl, by rw [GG.out.2.2.2, HAC.out]; simp [told, HLF.out], GG.out.2.2.1.drewN _⟩
        | false =>
          by_cases hlc : s.low < s.cur k
          · have d1 : decide ((s.low : Int) < (s.cur k : Int)) = true := decide_eq_true (by omega)
            have d2 : decide (s.low < s.cur k) = true := decide_eq_true hlc
            have HLC := Lib.hid hlc
            clear hlc
            obtain ⟨b5, hb5⟩ : ∃ b5, (kind != 5) = b5 := ⟨_, rfl⟩
            have HB5 := Lib.hid hb5
            go_wp2_with fail
            go_quiet (fail)
            go_wp2_with fail
            go_roundg (c.sh - (k + 1))
            case measure => have := GG.out; omega
            case rel => exact ⟨k + 1, by go_num, by have := GG.out; omega, rfl, by rw [GG.out.2.2.2, HAC.out]; simp [told, HLF.out, HLC.out, ← HB5.out], GG.out.2.2.1.drewN _⟩
          · have d1 : decide ((s.low : Int) < (s.cur k : Int)) = false := decide_eq_false (by omega)
            have d2 : decide (s.low < s.cur k) = false := decide_eq_false hlc
            have HLC := Lib.hid hlc
            clear hlc
            go_wp2_with fail
            go_quiet (fail)
            go_wp2_with fail
            go_roundg (c.sh - (k + 1))
            case measure => have := GG.out; omega
            case rel => exact ⟨k + 1, by go_num, by have := GG.out; omega, rfl, by rw [GG.out.2.2.2, HAC.out]; simp [told, HLF.out, HLC.out], GG.out.2.2.1.drewN _⟩
    · obtain rfl : k = c.sh := by omega
      have u1 : decide ((c.sh : Int) < (c.sh : Int)) = false := decide_eq_false (by omega)
      have u2 : decide (c.sh < c.sh) = false := decide_eq_false (by omega)
      have TT := Lib.hid T
      clear hg hkn T hk W0 W1
      obtain ⟨ac, hac⟩ : ∃ ac, allTold s kind c.sh = ac := ⟨_, rfl⟩
      have HAC := Lib.hid hac
      rw [hac]
      clear hac
      cases ac with
      | false =>
        go_wp2_with fail
        go_ret2
        exact .inl ⟨HAC.out, rfl, TT.out⟩
      | true =>
        go_wp2_with fail
        go_quiet (fail)
        go_wp2_with fail
        go_ret2
        exact .inr ⟨HAC.out, rfl, TT.out.drewN _⟩
theorem RefAt.collect_is (h : RefAt w R c s) (hsh : c.sh ≤ 15) (hX : (s.X (s.low : Int)).isSome = true → LiesB s (s.low : Int)) :
    Calls Try.prog 47 #[.pointer (some ⟨R.r, 0, none⟩)] w fun e w' =>
      (readyB c s = false ∧ e = .returned (.tuple #[.slice none 0 0, .bool false]) ∧ Turn (fun _ => False) w w') ∨
      (readyB c s = true ∧ e = .returned (.tuple #[.slice (some ⟨(R.D s.low).ob, 0, none⟩) c.sh c.sh, .bool true]) ∧ Turn (fun _ => False) w w') := by
  cases hx : s.X (s.low : Int) with
  | none =>
    have hr : readyB c s = false := allTold_low hx _
    exact (h.collect_no hsh hx).mono (fun e w' q => .inl ⟨hr, q⟩)
  | some p => exact h.collect_at hsh (hX (by rw [hx]; rfl))
end
end Go.Proofs.Yteokdibfdahabaa
