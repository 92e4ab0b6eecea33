/-
  The walk of EpochWaits: an advance waits for the actors that are pinned at an older epoch.
-/
import Derived.Test.YtibmimdlgbhdnaaNilWalk
namespace Go.Proofs.Ytibmimdlgbhdnaa
open Go.ChangeShapes Go.WideShapes Go.ChangeAt Go.RowKit
set_option linter.unusedVariables false

/-- Epochs where nothing was retired. -/
def Bare (w : World) (x lb n base : Nat) (now : Int) (P : Nat → Int) : Prop := Epo w x lb n base now P (fun _ => .slice none 0 0) (fun _ => [])
/-- Pinned at 'at' are the actors of B from lo on, below hi. -/
def pinsOf (B : Nat → Bool) (at_ : Int) (lo hi : Nat) : Nat → Int := fun j => if lo ≤ j ∧ j < hi ∧ B j = true then at_ else -1

def W1Rel (w2 : World) (x lb n base N : Nat) (gh : Nat) (v : Value) (wr : World) : Prop :=
  ∃ i : Nat, v = .int .i64 (i : Int) ∧ i ≤ N ∧ gh = N - i ∧ Bare wr x lb n base (i : Int) (fun _ => -1) ∧ Turn (EpoS x lb base) w2 wr
def W2Rel (w2 : World) (x lb n base N : Nat) (B : Nat → Bool) (gh : Nat) (v u : Value) (wr : World) : Prop :=
  ∃ (i : Nat) (b : Bool), u = .int .i64 (i : Int) ∧ v = .bool b ∧ (b = true ↔ ∃ j, j < i ∧ B j = true) ∧ i ≤ n ∧ gh = n - i ∧ Bare wr x lb n base (N : Int) (pinsOf B N 0 i) ∧ Turn (EpoS x lb base) w2 wr

def bitOf (m : Int) (j : Nat) : Bool := bits BinOp.and IntKind.i64 (m / 2 ^ j) 1 == 1
section
variable {B : Nat → Bool} {N : Int} {lo hi j : Nat}
theorem pins_up (h : B j = true) : upd (pinsOf B N 0 j) j N = pinsOf B N 0 (j + 1) := by
  funext k
  unfold upd pinsOf
  by_cases e : k = j
  · subst e
    simp [h]
  · by_cases e2 : k < j
    · have : k < j + 1 := by omega
      simp [e, e2, this]
    · have : ¬ k < j + 1 := by omega
      simp [e, e2, this]
theorem pins_same (h : B j = false) : pinsOf B N 0 j = pinsOf B N 0 (j + 1) := by
  funext k
  unfold pinsOf
  by_cases e : k = j
  · subst e
    simp [h]
  · have : k < j + 1 ↔ k < j := by omega
    simp [this]
theorem pins_down (h : j < hi) : upd (pinsOf B N j hi) j (-1) = pinsOf B N (j + 1) hi := by
  funext k
  unfold upd pinsOf
  by_cases e : k = j
  · subst e
    have : ¬ k + 1 ≤ k := by omega
    simp [this]
  · have : j + 1 ≤ k ↔ j ≤ k := by omega
    simp [e, this]
theorem pins_skip (h : B j = false) : pinsOf B N j hi = pinsOf B N (j + 1) hi := by
  funext k
  unfold pinsOf
  by_cases e : k = j
  · subst e
    simp [h]
  · have : j + 1 ≤ k ↔ j ≤ k := by omega
    simp [this]
theorem pins_none (h : ¬ (lo ≤ j ∧ j < hi ∧ B j = true)) : pinsOf B N lo hi j = -1 := by
  unfold pinsOf
  rw [if_neg h]
theorem pins_at (h : lo ≤ j ∧ j < hi ∧ B j = true) : pinsOf B N lo hi j = N := by
  unfold pinsOf
  rw [if_pos h]
theorem pins_or : pinsOf B N lo hi j = -1 ∨ pinsOf B N lo hi j = N := by
  unfold pinsOf
  split
  · exact .inr rfl
  · exact .inl rfl
end
def nowOf (N : Nat) (b : Bool) (i : Nat) : Int := if b = true then (N : Int) + ((min i 1 : Nat) : Int) else (N : Int) + (i : Int)
def W3Rel (w2 : World) (x lb n base N L : Nat) (B : Nat → Bool) (b : Bool) (gh : Nat) (v : Value) (wr : World) : Prop :=
  ∃ i : Nat, v = .int .i64 (i : Int) ∧ i ≤ L ∧ gh = L - i ∧ Bare wr x lb n base (nowOf N b i) (pinsOf B N 0 n) ∧ Turn (EpoS x lb base) w2 wr
def W4Rel (w2 : World) (x lb n base N : Nat) (M : Int) (B : Nat → Bool) (gh : Nat) (v : Value) (wr : World) : Prop :=
  ∃ i : Nat, v = .int .i64 (i : Int) ∧ i ≤ n ∧ gh = n - i ∧ Bare wr x lb n base M (pinsOf B N i n) ∧ Turn (EpoS x lb base) w2 wr

set_option maxRecDepth 100000 in
set_option maxHeartbeats 4000000 in
theorem waits_walk (a0 a1 k0 k1 : Int) (w : World) : Calls Try.prog 11 #[.int .i64 a0, .int .i64 a1, .agg #[.int .i64 k0, .int .i64 k1]] w fun e w' => e = .returned (.bool true) ∧ Below w.heap.size w w' := by
  obtain ⟨S, s0, s5, HS⟩ := rest_epo a0 5 (by decide) (by decide)
  obtain ⟨K, k0', k6, HK⟩ := rest_epo k0 6 (by decide) (by decide)
  obtain ⟨L, l0, l6, HL⟩ := rest_epo k1 6 (by decide) (by decide)
  obtain ⟨n, hn⟩ : ∃ n : Nat, 1 + S = (n : Int) := ⟨(1 + S).toNat, by omega⟩
  have n1 : 1 ≤ n := by omega
  have n5 : n ≤ 5 := by omega
  obtain ⟨Kn, rfl⟩ : ∃ m : Nat, K = (m : Int) := ⟨K.toNat, by omega⟩
  obtain ⟨Ln, rfl⟩ : ∃ m : Nat, L = (m : Int) := ⟨L.toNat, by omega⟩
  have kn5 : Kn ≤ 5 := by omega
  have ln5 : Ln ≤ 5 := by omega
  have HS := Lib.hid HS
  have HK := Lib.hid HK
  have HL := Lib.hid HL
  have AW := Lib.hid epo_awake
  have T0 : Turn (fun _ => False) w (w.alloc (.cells #[.int .i64 k0, .int .i64 k1] 70)) := (Turn.refl _ w).alloc _
  have c0 : (w.alloc (.cells #[.int .i64 k0, .int .i64 k1] 70)).cell? ⟨w.heap.size, 0, none⟩ = some (.int .i64 k0) := World.cell?_alloc_new w #[.int .i64 k0, .int .i64 k1] 70 0
  have c1 : (w.alloc (.cells #[.int .i64 k0, .int .i64 k1] 70)).cell? ⟨w.heap.size, 1, none⟩ = some (.int .i64 k1) := World.cell?_alloc_new w #[.int .i64 k0, .int .i64 k1] 70 1
  have hz : (w.alloc (.cells #[.int .i64 k0, .int .i64 k1] 70)).heap.size = w.heap.size + 1 := by simp
  have G := Lib.hid (And.intro T0 (And.intro c0 (And.intro c1 hz)))
  clear T0 c0 c1 hz s0 s5 k0' k6 l0 l6
  go_enter Try.func11, Try.ntmps11
  go_wp2_with fail
  generalize w.alloc (.cells #[.int .i64 k0, .int .i64 k1] 70) = wa at *
  refine (AW.out _).mono ?_
  rintro e w1 ⟨rfl, b1⟩
  have T1 := Lib.hid (Turn.of_below (S := fun _ => False) b1)
  clear b1
  go_wp2_with fail
  refine (HS.out _).mono ?_
  rintro e w2 ⟨rfl, rfl⟩
  have H0 := Lib.hid (epo_new n n1 (by omega) w1)
  go_wp2_with fail
  refine H0.out.mono ?_
  rintro e w2 ⟨rfl, h2, b2, z2⟩
  have RK := Lib.hid (fun wr (ht : Turn (EpoS (w1.heap.size + 1) w1.heap.size (w1.heap.size + 2)) w2 wr) => show wr.cell? ⟨w.heap.size, 0, none⟩ = some (.int .i64 k0) ∧ wr.cell? ⟨w.heap.size, 1, none⟩ = some (.int .i64 k1) ∧ Below w.heap.size w wr from by
    obtain ⟨t0, d0, d1, dz⟩ := G.out
    have z1 := T1.out.size
    have t2 := Turn.of_below (S := fun _ => False) b2
    have hne : ¬ EpoS (w1.heap.size + 1) w1.heap.size (w1.heap.size + 2) w.heap.size := fun e => by unfold EpoS at e; omega
    have tt := (t0.trans T1.out).trans t2
    exact ⟨ht.cell hne (t2.cell id (T1.out.cell id d0)), ht.cell hne (t2.cell id (T1.out.cell id d1)), (tt.below (B := w.heap.size) (fun k hk => ⟨hk, id⟩)).trans (ht.below (fun k hk => ⟨Nat.lt_of_lt_of_le hk tt.size, fun e => by unfold EpoS at e; omega⟩))⟩)
  have R0 : W1Rel w2 (w1.heap.size + 1) w1.heap.size n (w1.heap.size + 2) Kn Kn (.int .i64 0) w2 := ⟨0, rfl, Nat.zero_le _, rfl, h2, Turn.refl _ _⟩
  clear h2 b2 z2
  generalize w1.heap.size + 1 = x at *
  generalize hlb : w1.heap.size = lb at *
  generalize hbase : lb + 2 = base at *
  obtain ⟨c0, _, _⟩ := RK.out w2 (Turn.refl _ _)
  go_wp2_with fail
  refine (HK.out _).mono ?_
  rintro e w3 ⟨rfl, rfl⟩
  go_wp2_with fail
  clear c0 hlb hbase
  go_loopg [11] Kn (fun gh v11 wr => W1Rel w2 x lb n base Kn gh v11 wr)
  case atStart => exact R0
  case round =>
    clear R0
    obtain ⟨i, rfl, hi, hg, hE, hT⟩ := hrel
    by_cases hik : i < Kn
    · have C := Lib.hid (Epo.advance_yes hE n1 (by omega) (fun _ _ => .inl rfl))
      have E := Lib.hid (And.intro hE (And.intro hT hg))
      clear hE hT hg
      go_wp2_with fail
      refine C.out.mono ?_
      rintro e w4 ⟨rfl, h4, t4⟩
      have T4 := Lib.hid (E.out.2.1.trans (E.out.1.wide t4))
      have H4 := Lib.hid h4
      clear h4 t4
      go_wp2_with fail
      go_roundg (Kn - (i + 1))
      case measure => have := E.out.2.2; omega
      case rel => exact ⟨i + 1, by go_num, by omega, rfl, H4.out, T4.out⟩
    · have hiK : i = Kn := by omega
      subst hiK
      have B0 : W2Rel w2 x lb n base i (bitOf a1) n (.bool false) (.int .i64 0) wr := ⟨0, false, rfl, rfl, by simp, Nat.zero_le _, rfl, by rw [show pinsOf (bitOf a1) i 0 0 = fun _ => -1 from by funext k; unfold pinsOf; simp]; exact hE, hT⟩
      clear hE hT hg hik
      go_wp2_with fail
      go_loopg [12, 13] n (fun gh v12 v13 wr => W2Rel w2 x lb n base i (bitOf a1) gh v12 v13 wr)
      case atStart => exact B0
      case round =>
        clear B0
        obtain ⟨j, b, rfl, rfl, hb, hj, hg, hE, hT⟩ := hrel
        by_cases hjn : j < n
        · by_cases hbit : (bits BinOp.and IntKind.i64 (a1 / 2 ^ j) 1 == 1) = true
          · have C := Lib.hid (Epo.pin_yes hE hjn (pins_none (by omega)))
            have E := Lib.hid (And.intro hE (And.intro hT (And.intro hg (And.intro hb (show bitOf a1 j = true from hbit)))))
            clear hE hT hg hb
            go_wp2_with fail
            refine C.out.mono ?_
            rintro e w4 ⟨rfl, h4, t4⟩
            have T4 := Lib.hid (E.out.2.1.trans (E.out.1.wide t4))
            have H4 := Lib.hid h4
            clear h4 t4
            go_wp2_with fail
            go_roundg (n - (j + 1))
            case measure => have := E.out.2.2.1; omega
            case rel => exact ⟨j + 1, true, by go_num, rfl, ⟨fun _ => ⟨j, Nat.lt_succ_self j, E.out.2.2.2.2⟩, fun _ => rfl⟩, by omega, rfl, by rw [← pins_up E.out.2.2.2.2]; exact H4.out, T4.out⟩
          · have hbit : (bits BinOp.and IntKind.i64 (a1 / 2 ^ j) 1 == 1) = false := by simpa using hbit
            have E := Lib.hid (And.intro hE (And.intro hT (And.intro hg (And.intro hb (show bitOf a1 j = false from hbit)))))
            clear hE hT hg hb
            go_wp2_with fail
            go_roundg (n - (j + 1))
            case measure => have := E.out.2.2.1; omega
            case rel =>
              obtain ⟨hE, hT, hg, hb, hbj⟩ := E.out
              refine ⟨j + 1, b, by go_num, rfl, hb.trans ⟨fun ⟨k, hk, hk2⟩ => ⟨k, by omega, hk2⟩, fun ⟨k, hk, hk2⟩ => ⟨k, ?_, hk2⟩⟩, by omega, rfl, by rw [← pins_same hbj]; exact hE, hT⟩
              have : k ≠ j := fun e => by rw [e, hbj] at hk2; cases hk2
              omega
        · have hjN : j = n := by omega
          subst hjN
          have hb' : (b = true ∧ ∃ j0, j0 < j ∧ bitOf a1 j0 = true) ∨ (b = false ∧ ∀ j0, j0 < j → bitOf a1 j0 = false) := by
            cases b
            · refine .inr ⟨rfl, fun j0 h0 => ?_⟩
              cases hc : bitOf a1 j0
              · rfl
              · exact absurd (hb.2 ⟨j0, h0, hc⟩) (by simp)
            · exact .inl ⟨rfl, hb.1 rfl⟩
          have D0 : W3Rel w2 x lb j base i Ln (bitOf a1) b Ln (.int .i64 0) wr := ⟨0, rfl, Nat.zero_le _, rfl, by rw [show nowOf i b 0 = (i : Int) from by unfold nowOf; simp]; exact hE, hT⟩
          obtain ⟨_, c1, _⟩ := RK.out wr hT
          have E := Lib.hid (And.intro hb' hT)
          clear hb hb' hE hT hg hjn
          go_wp2_with fail
          refine (HL.out _).mono ?_
          rintro e w5 ⟨rfl, rfl⟩
          clear c1
          go_wp2_with fail
          have IN := Lib.hid (And.intro n1 (And.intro n5 (And.intro kn5 ln5)))
          clear n1 n5 kn5 ln5
          go_loopg [15] Ln (fun gh v15 wr => W3Rel w2 x lb j base i Ln (bitOf a1) b gh v15 wr)
          case atStart => exact D0
          case round =>
            clear D0
            obtain ⟨m, rfl, hm, hg, hE, hT⟩ := hrel
            obtain ⟨n1, n5, kn5, ln5⟩ := IN.out
            by_cases hmL : m < Ln
            · have hc : (Calls Try.prog 42 #[.pointer (some ⟨x, 0, none⟩)] wr fun e w' => e = .returned (.bool true) ∧ Bare w' x lb j base (nowOf i b (m + 1)) (pinsOf (bitOf a1) i 0 j) ∧ Turn (EpoS x lb base) wr w') ∧ (b = false ∨ b = true ∧ m = 0) ∨
                  (Calls Try.prog 42 #[.pointer (some ⟨x, 0, none⟩)] wr fun e w' => e = .returned (.bool false) ∧ wr = w') ∧ (b = true ∧ 0 < m ∧ nowOf i b m = nowOf i b (m + 1)) := by
                rcases E.out.1 with ⟨rfl, j0, hj0, hj1⟩ | ⟨rfl, hall⟩
                · by_cases hm0 : m = 0
                  · subst hm0
                    refine .inl ⟨(Epo.advance_yes hE n1 (by unfold nowOf; simp; omega) (fun k _ => ?_)).mono fun e w' ⟨he, h1, h2⟩ => ⟨he, ?_, Epo.wide hE h2⟩, .inr ⟨rfl, rfl⟩⟩
                    · rw [show nowOf i true 0 = (i : Int) from by unfold nowOf; simp]
                      exact pins_or
                    · rw [show nowOf i true (0 + 1) = nowOf i true 0 + 1 from by unfold nowOf; simp]
                      exact h1
                  · have e1 : nowOf i true m = (i : Int) + 1 := by unfold nowOf; rw [if_pos rfl, Nat.min_eq_right (by omega)]; rfl
                    have e2 : nowOf i true (m + 1) = (i : Int) + 1 := by unfold nowOf; rw [if_pos rfl, Nat.min_eq_right (by omega)]; rfl
                    exact .inr ⟨Epo.advance_no hE j0 hj0 (by rw [pins_at ⟨by omega, hj0, hj1⟩]; omega) (by rw [pins_at ⟨by omega, hj0, hj1⟩, e1]; omega), rfl, by omega, by rw [e1, e2]⟩
                · refine .inl ⟨(Epo.advance_yes hE n1 (by unfold nowOf; simp; omega) (fun k hk => .inl (pins_none (fun e => by rw [hall k hk] at e; cases e.2.2)))).mono fun e w' ⟨he, h1, h2⟩ => ⟨he, ?_, Epo.wide hE h2⟩, .inl rfl⟩
                  rw [show nowOf i false (m + 1) = nowOf i false m + 1 from by unfold nowOf; simp; omega]
                  exact h1
              have F := Lib.hid (And.intro hE (And.intro hT hg))
              rcases hc with ⟨hc, hbm⟩ | ⟨hc, rfl, hm0, hnow⟩
              · have C := Lib.hid hc
                have hm6 : m ≤ 5 := by omega
                clear hE hT hg hc
                rcases hbm with rfl | ⟨rfl, rfl⟩
                · go_wp2_with fail
                  refine C.out.mono ?_
                  rintro e w6 ⟨rfl, h6, t6⟩
                  have T6 := Lib.hid (F.out.2.1.trans t6)
                  have H6 := Lib.hid h6
                  clear h6 t6
                  go_wp2_with fail
                  go_roundg (Ln - (m + 1))
                  case measure => have := F.out.2.2; omega
                  case rel => exact ⟨m + 1, by go_num, by omega, rfl, H6.out, T6.out⟩
                · go_wp2_with fail
                  refine C.out.mono ?_
                  rintro e w6 ⟨rfl, h6, t6⟩
                  have T6 := Lib.hid (F.out.2.1.trans t6)
                  have H6 := Lib.hid h6
                  clear h6 t6
                  go_wp2_with fail
                  go_roundg (Ln - (0 + 1))
                  case measure => have := F.out.2.2; omega
                  case rel => exact ⟨0 + 1, by go_num, by omega, rfl, H6.out, T6.out⟩
              · have C := Lib.hid hc
                have H6 := Lib.hid hnow
                have hm6 : m ≤ 5 := by omega
                have hmne : ¬ m = 0 := by omega
                clear hE hT hg hc hnow
                go_wp2_with fail
                refine C.out.mono ?_
                rintro e w6 ⟨rfl, rfl⟩
                go_wp2_with fail
                go_roundg (Ln - (m + 1))
                case measure => have := F.out.2.2; omega
                case rel => exact ⟨m + 1, by go_num, by omega, rfl, by rw [← H6.out]; exact F.out.1, F.out.2.1⟩
            · have hmL' : m = Ln := by omega
              subst hmL'
              have hm6 : m ≤ 5 := ln5
              have hi6 : i ≤ 5 := kn5
              clear hmL
              cases b
              · have hM : nowOf i false m = (i : Int) + (m : Int) := by unfold nowOf; simp
                have D0 : W4Rel w2 x lb j base i ((i : Int) + (m : Int)) (bitOf a1) j (.int .i64 0) wr := ⟨0, rfl, Nat.zero_le _, rfl, by rw [← hM]; exact hE, hT⟩
                clear hE hT hg hM
                go_wp2_with fail
                go_loopg [17] j (fun gh v17 wr => W4Rel w2 x lb j base i ((i : Int) + (m : Int)) (bitOf a1) gh v17 wr)
                case atStart => exact D0
                case round =>
                  clear D0
                  obtain ⟨q, rfl, hq, hg, hE, hT⟩ := hrel
                  by_cases hqj : q < j
                  · by_cases hbit : (bits BinOp.and IntKind.i64 (a1 / 2 ^ q) 1 == 1) = true
                    · have e1 : pinsOf (bitOf a1) i q j q = i := pins_at ⟨Nat.le_refl _, hqj, hbit⟩
                      have C1 := Epo.pinned_yes hE hqj (by rw [e1]; omega)
                      rw [e1] at C1
                      have C1 := Lib.hid C1
                      have C2 := Lib.hid (Epo.unpin_yes hE hqj (by rw [e1]; omega))
                      have E := Lib.hid (And.intro hE (And.intro hT hg))
                      clear hE hT hg e1
                      go_wp2_with fail
                      refine C1.out.mono ?_
                      rintro e w7 ⟨rfl, rfl⟩
                      go_wp2_with fail
                      refine C2.out.mono ?_
                      rintro e w8 ⟨rfl, h8, t8⟩
                      have T8 := Lib.hid (E.out.2.1.trans (E.out.1.wide t8))
                      have H8 := Lib.hid h8
                      clear h8 t8
                      go_wp2_with fail
                      go_roundg (j - (q + 1))
                      case measure => have := E.out.2.2; omega
                      case rel => exact ⟨q + 1, by go_num, by omega, rfl, by rw [← pins_down hqj]; exact H8.out, T8.out⟩
                    · have hbit : (bits BinOp.and IntKind.i64 (a1 / 2 ^ q) 1 == 1) = false := by simpa using hbit
                      have e1 : pinsOf (bitOf a1) i q j q = -1 := pins_none (fun e => by rw [show bitOf a1 q = false from hbit] at e; cases e.2.2)
                      have C1 := Lib.hid (Epo.pinned_no hE hqj e1)
                      have C2 := Lib.hid (unpin_not wr _ _ (Epo.pinned_no hE hqj e1))
                      have E := Lib.hid (And.intro hE (And.intro hT (And.intro hg (show bitOf a1 q = false from hbit))))
                      clear hE hT hg e1
                      go_wp2_with fail
                      refine C1.out.mono ?_
                      rintro e w7 ⟨rfl, rfl⟩
                      go_wp2_with fail
                      refine C2.out.mono ?_
                      rintro e w8 ⟨rfl, rfl⟩
                      go_wp2_with fail
                      go_roundg (j - (q + 1))
                      case measure => have := E.out.2.2.1; omega
                      case rel => exact ⟨q + 1, by go_num, by omega, rfl, by rw [← pins_skip E.out.2.2.2]; exact E.out.1, E.out.2.1⟩
                  · have hqj' : q = j := by omega
                    subst hqj'
                    have C1 := Lib.hid (Epo.now_is hE)
                    have C2 := Lib.hid (Epo.advance_yes hE (IN.out.1) (by omega) (fun k hk => .inl (pins_none (by omega))))
                    have E := Lib.hid (And.intro hE hT)
                    clear hE hT hg hqj
                    go_wp2_with fail
                    refine C1.out.mono ?_
                    rintro e w7 ⟨rfl, rfl⟩
                    go_wp2_with fail
                    refine C2.out.mono ?_
                    rintro e w8 ⟨rfl, _, t8⟩
                    have T8 := Lib.hid (E.out.2.trans (E.out.1.wide t8))
                    clear t8
                    go_wp2
                    go_ret
                    exact ⟨rfl, (RK.out _ T8.out).2.2⟩

              · by_cases hm0 : m = 0
                · subst hm0
                  have hM : nowOf i true 0 = (i : Int) := by unfold nowOf; simp
                  have D0 : W4Rel w2 x lb j base i ((i : Int)) (bitOf a1) j (.int .i64 0) wr := ⟨0, rfl, Nat.zero_le _, rfl, by rw [← hM]; exact hE, hT⟩
                  clear hE hT hg hM
                  go_wp2_with fail
                  go_loopg [17] j (fun gh v17 wr => W4Rel w2 x lb j base i ((i : Int)) (bitOf a1) gh v17 wr)
                  case atStart => exact D0
                  case round =>
                    clear D0
                    obtain ⟨q, rfl, hq, hg, hE, hT⟩ := hrel
                    by_cases hqj : q < j
                    · by_cases hbit : (bits BinOp.and IntKind.i64 (a1 / 2 ^ q) 1 == 1) = true
                      · have e1 : pinsOf (bitOf a1) i q j q = i := pins_at ⟨Nat.le_refl _, hqj, hbit⟩
                        have C1 := Epo.pinned_yes hE hqj (by rw [e1]; omega)
                        rw [e1] at C1
                        have C1 := Lib.hid C1
                        have C2 := Lib.hid (Epo.unpin_yes hE hqj (by rw [e1]; omega))
                        have E := Lib.hid (And.intro hE (And.intro hT hg))
                        clear hE hT hg e1
                        go_wp2_with fail
                        refine C1.out.mono ?_
                        rintro e w7 ⟨rfl, rfl⟩
                        go_wp2_with fail
                        refine C2.out.mono ?_
                        rintro e w8 ⟨rfl, h8, t8⟩
                        have T8 := Lib.hid (E.out.2.1.trans (E.out.1.wide t8))
                        have H8 := Lib.hid h8
                        clear h8 t8
                        go_wp2_with fail
                        go_roundg (j - (q + 1))
                        case measure => have := E.out.2.2; omega
                        case rel => exact ⟨q + 1, by go_num, by omega, rfl, by rw [← pins_down hqj]; exact H8.out, T8.out⟩
                      · have hbit : (bits BinOp.and IntKind.i64 (a1 / 2 ^ q) 1 == 1) = false := by simpa using hbit
                        have e1 : pinsOf (bitOf a1) i q j q = -1 := pins_none (fun e => by rw [show bitOf a1 q = false from hbit] at e; cases e.2.2)
                        have C1 := Lib.hid (Epo.pinned_no hE hqj e1)
                        have C2 := Lib.hid (unpin_not wr _ _ (Epo.pinned_no hE hqj e1))
                        have E := Lib.hid (And.intro hE (And.intro hT (And.intro hg (show bitOf a1 q = false from hbit))))
                        clear hE hT hg e1
                        go_wp2_with fail
                        refine C1.out.mono ?_
                        rintro e w7 ⟨rfl, rfl⟩
                        go_wp2_with fail
                        refine C2.out.mono ?_
                        rintro e w8 ⟨rfl, rfl⟩
                        go_wp2_with fail
                        go_roundg (j - (q + 1))
                        case measure => have := E.out.2.2.1; omega
                        case rel => exact ⟨q + 1, by go_num, by omega, rfl, by rw [← pins_skip E.out.2.2.2]; exact E.out.1, E.out.2.1⟩
                    · have hqj' : q = j := by omega
                      subst hqj'
                      have C1 := Lib.hid (Epo.now_is hE)
                      have C2 := Lib.hid (Epo.advance_yes hE (IN.out.1) (by omega) (fun k hk => .inl (pins_none (by omega))))
                      have E := Lib.hid (And.intro hE hT)
                      clear hE hT hg hqj
                      go_wp2_with fail
                      refine C1.out.mono ?_
                      rintro e w7 ⟨rfl, rfl⟩
                      go_wp2_with fail
                      refine C2.out.mono ?_
                      rintro e w8 ⟨rfl, _, t8⟩
                      have T8 := Lib.hid (E.out.2.trans (E.out.1.wide t8))
                      clear t8
                      go_wp2
                      go_ret
                      exact ⟨rfl, (RK.out _ T8.out).2.2⟩

                · by_cases hm1 : m = 1
                  · subst hm1
                    have hM : nowOf i true 1 = (i : Int) + 1 := by unfold nowOf; simp
                    have D0 : W4Rel w2 x lb j base i ((i : Int) + 1) (bitOf a1) j (.int .i64 0) wr := ⟨0, rfl, Nat.zero_le _, rfl, by rw [← hM]; exact hE, hT⟩
                    clear hE hT hg hM
                    go_wp2_with fail
                    go_loopg [17] j (fun gh v17 wr => W4Rel w2 x lb j base i ((i : Int) + 1) (bitOf a1) gh v17 wr)
                    case atStart => exact D0
                    case round =>
                      clear D0
                      obtain ⟨q, rfl, hq, hg, hE, hT⟩ := hrel
                      by_cases hqj : q < j
                      · by_cases hbit : (bits BinOp.and IntKind.i64 (a1 / 2 ^ q) 1 == 1) = true
                        · have e1 : pinsOf (bitOf a1) i q j q = i := pins_at ⟨Nat.le_refl _, hqj, hbit⟩
                          have C1 := Epo.pinned_yes hE hqj (by rw [e1]; omega)
                          rw [e1] at C1
                          have C1 := Lib.hid C1
                          have C2 := Lib.hid (Epo.unpin_yes hE hqj (by rw [e1]; omega))
                          have E := Lib.hid (And.intro hE (And.intro hT hg))
                          clear hE hT hg e1
                          go_wp2_with fail
                          refine C1.out.mono ?_
                          rintro e w7 ⟨rfl, rfl⟩
                          go_wp2_with fail
                          refine C2.out.mono ?_
                          rintro e w8 ⟨rfl, h8, t8⟩
                          have T8 := Lib.hid (E.out.2.1.trans (E.out.1.wide t8))
                          have H8 := Lib.hid h8
                          clear h8 t8
                          go_wp2_with fail
                          go_roundg (j - (q + 1))
                          case measure => have := E.out.2.2; omega
                          case rel => exact ⟨q + 1, by go_num, by omega, rfl, by rw [← pins_down hqj]; exact H8.out, T8.out⟩
                        · have hbit : (bits BinOp.and IntKind.i64 (a1 / 2 ^ q) 1 == 1) = false := by simpa using hbit
                          have e1 : pinsOf (bitOf a1) i q j q = -1 := pins_none (fun e => by rw [show bitOf a1 q = false from hbit] at e; cases e.2.2)
                          have C1 := Lib.hid (Epo.pinned_no hE hqj e1)
                          have C2 := Lib.hid (unpin_not wr _ _ (Epo.pinned_no hE hqj e1))
                          have E := Lib.hid (And.intro hE (And.intro hT (And.intro hg (show bitOf a1 q = false from hbit))))
                          clear hE hT hg e1
                          go_wp2_with fail
                          refine C1.out.mono ?_
                          rintro e w7 ⟨rfl, rfl⟩
                          go_wp2_with fail
                          refine C2.out.mono ?_
                          rintro e w8 ⟨rfl, rfl⟩
                          go_wp2_with fail
                          go_roundg (j - (q + 1))
                          case measure => have := E.out.2.2.1; omega
                          case rel => exact ⟨q + 1, by go_num, by omega, rfl, by rw [← pins_skip E.out.2.2.2]; exact E.out.1, E.out.2.1⟩
                      · have hqj' : q = j := by omega
                        subst hqj'
                        have C1 := Lib.hid (Epo.now_is hE)
                        have C2 := Lib.hid (Epo.advance_yes hE (IN.out.1) (by omega) (fun k hk => .inl (pins_none (by omega))))
                        have E := Lib.hid (And.intro hE hT)
                        clear hE hT hg hqj
                        go_wp2_with fail
                        refine C1.out.mono ?_
                        rintro e w7 ⟨rfl, rfl⟩
                        go_wp2_with fail
                        refine C2.out.mono ?_
                        rintro e w8 ⟨rfl, _, t8⟩
                        have T8 := Lib.hid (E.out.2.trans (E.out.1.wide t8))
                        clear t8
                        go_wp2
                        go_ret
                        exact ⟨rfl, (RK.out _ T8.out).2.2⟩

                  · have hm2 : 2 ≤ m := by omega
                    have hm3 : (2 : Int) ≤ (m : Int) := by omega
                    have hM : nowOf i true m = (i : Int) + 1 := by unfold nowOf; rw [if_pos rfl, Nat.min_eq_right (by omega)]; rfl
                    have D0 : W4Rel w2 x lb j base i ((i : Int) + 1) (bitOf a1) j (.int .i64 0) wr := ⟨0, rfl, Nat.zero_le _, rfl, by rw [← hM]; exact hE, hT⟩
                    clear hE hT hg hM
                    go_wp2_with fail
                    go_loopg [17] j (fun gh v17 wr => W4Rel w2 x lb j base i ((i : Int) + 1) (bitOf a1) gh v17 wr)
                    case atStart => exact D0
                    case round =>
                      clear D0
                      obtain ⟨q, rfl, hq, hg, hE, hT⟩ := hrel
                      by_cases hqj : q < j
                      · by_cases hbit : (bits BinOp.and IntKind.i64 (a1 / 2 ^ q) 1 == 1) = true
                        · have e1 : pinsOf (bitOf a1) i q j q = i := pins_at ⟨Nat.le_refl _, hqj, hbit⟩
                          have C1 := Epo.pinned_yes hE hqj (by rw [e1]; omega)
                          rw [e1] at C1
                          have C1 := Lib.hid C1
                          have C2 := Lib.hid (Epo.unpin_yes hE hqj (by rw [e1]; omega))
                          have E := Lib.hid (And.intro hE (And.intro hT hg))
                          clear hE hT hg e1
                          go_wp2_with fail
                          refine C1.out.mono ?_
                          rintro e w7 ⟨rfl, rfl⟩
                          go_wp2_with fail
                          refine C2.out.mono ?_
                          rintro e w8 ⟨rfl, h8, t8⟩
                          have T8 := Lib.hid (E.out.2.1.trans (E.out.1.wide t8))
                          have H8 := Lib.hid h8
                          clear h8 t8
                          go_wp2_with fail
                          go_roundg (j - (q + 1))
                          case measure => have := E.out.2.2; omega
                          case rel => exact ⟨q + 1, by go_num, by omega, rfl, by rw [← pins_down hqj]; exact H8.out, T8.out⟩
                        · have hbit : (bits BinOp.and IntKind.i64 (a1 / 2 ^ q) 1 == 1) = false := by simpa using hbit
                          have e1 : pinsOf (bitOf a1) i q j q = -1 := pins_none (fun e => by rw [show bitOf a1 q = false from hbit] at e; cases e.2.2)
                          have C1 := Lib.hid (Epo.pinned_no hE hqj e1)
                          have C2 := Lib.hid (unpin_not wr _ _ (Epo.pinned_no hE hqj e1))
                          have E := Lib.hid (And.intro hE (And.intro hT (And.intro hg (show bitOf a1 q = false from hbit))))
                          clear hE hT hg e1
                          go_wp2_with fail
                          refine C1.out.mono ?_
                          rintro e w7 ⟨rfl, rfl⟩
                          go_wp2_with fail
                          refine C2.out.mono ?_
                          rintro e w8 ⟨rfl, rfl⟩
                          go_wp2_with fail
                          go_roundg (j - (q + 1))
                          case measure => have := E.out.2.2.1; omega
                          case rel => exact ⟨q + 1, by go_num, by omega, rfl, by rw [← pins_skip E.out.2.2.2]; exact E.out.1, E.out.2.1⟩
                      · have hqj' : q = j := by omega
                        subst hqj'
                        have C1 := Lib.hid (Epo.now_is hE)
                        have C2 := Lib.hid (Epo.advance_yes hE (IN.out.1) (by omega) (fun k hk => .inl (pins_none (by omega))))
                        have E := Lib.hid (And.intro hE hT)
                        clear hE hT hg hqj
                        go_wp2_with fail
                        refine C1.out.mono ?_
                        rintro e w7 ⟨rfl, rfl⟩
                        go_wp2_with fail
                        refine C2.out.mono ?_
                        rintro e w8 ⟨rfl, _, t8⟩
                        have T8 := Lib.hid (E.out.2.trans (E.out.1.wide t8))
                        clear t8
                        go_wp2
                        go_ret
                        exact ⟨rfl, (RK.out _ T8.out).2.2⟩

end Go.Proofs.Ytibmimdlgbhdnaa
