/-
  The walk of EpochSafe: what was retired while an actor was pinned does not come out ahead of that actor's being unpinned.
-/
import Derived.Test.YtibmimdlgbhdnaaSafeSt
import Derived.Test.YtibmimdlgbhdnaaEachWalk
namespace Go.Proofs.Ytibmimdlgbhdnaa
open Go.ChangeShapes Go.WideShapes Go.ChangeAt Go.RowKit
set_option linter.unusedVariables false

theorem info66 : (Try.prog.info? 66).map (fun i => (i.zero, i.size, i.bytes)) = some (some (.agg #[.int .i64 0, .int .i64 0, .int .i64 0, .int .i64 0, .int .i64 0, .int .i64 0, .int .i64 0]), 7, 56) := by kernel_rfl

def SRel (w : World) (x lb n base mb len : Nat) (gh : Nat) (v8 v10 : Value) (wr : World) : Prop :=
  ∃ (i : Nat) (now : Int) (P : Nat → Int) (V : Nat → Value) (Q : Nat → List (Int × Int × Int)) (M : Nat → Nat) (rl : List Nat) (Hd : Nat → Nat → Nat) (E : Nat → Int), v10 = .int .i64 (i : Int) ∧ i ≤ len ∧ i ≤ 60 ∧ gh = 60 - i ∧ now ≤ (i : Int) ∧ SSt w wr x lb n base mb now P V Q M v8 rl Hd ∧ SLink n i now P Q M rl Hd E
/-- The record that is made: a ref, and who is pinned of the first k. -/
structure HSt (wr wh : World) (hb i k : Nat) (M : Nat → Nat) : Prop where
  c0 : wh.cell? ⟨hb, 0, none⟩ = some (.int .i64 (i : Int))
  c1 : wh.cell? ⟨hb, 1, none⟩ = some (.int .i64 0)
  ch : ∀ p, p < 5 → wh.cell? ⟨hb, 2 + p, none⟩ = some (.int .i64 (holdOf M k p : Int))
  fh : ∀ j, wh.frozen? ⟨hb, j, none⟩ = false
  lt : wr.heap.size ≤ hb
  tr : Turn (fun _ => False) wr wh
theorem HSt.put {wr wh : World} {hb i k : Nat} {M : Nat → Nat} (h : HSt wr wh hb i k M) (hk : k < 5) (ho : M k % 2 = 1) : HSt wr (wh.setCell ⟨hb, 2 + k, none⟩ (.int .i64 (M k : Int))) hb i (k + 1) M := by
  refine ⟨by rw [cell_off _ _ _ _ _ (by omega)]; exact h.c0, by rw [cell_off _ _ _ _ _ (by omega)]; exact h.c1, fun p hp => ?_, fun j => by simpa using h.fh j, h.lt, h.tr.setCell (p := ⟨hb, 2 + k, none⟩) (.inr h.lt) _⟩
  by_cases e : p = k
  · subst e
    rw [World.cell?_setCell_same _ _ _ (h.ch p hp)]
    unfold holdOf
    rw [if_pos ⟨by omega, ho⟩]
  · rw [cell_off _ _ _ _ _ (by omega), h.ch p hp]
    unfold holdOf
    by_cases h2 : p < k ∧ M p % 2 = 1
    · rw [if_pos h2, if_pos ⟨by omega, h2.2⟩]
    · rw [if_neg h2, if_neg (fun q => h2 ⟨by omega, q.2⟩)]
theorem HSt.skip {wr wh : World} {hb i k : Nat} {M : Nat → Nat} (h : HSt wr wh hb i k M) (ho : M k % 2 ≠ 1) : HSt wr wh hb i (k + 1) M := by
  refine ⟨h.c0, h.c1, fun p hp => ?_, h.fh, h.lt, h.tr⟩
  rw [h.ch p hp]
  unfold holdOf
  by_cases h2 : p < k ∧ M p % 2 = 1
  · rw [if_pos h2, if_pos ⟨by omega, h2.2⟩]
  · rw [if_neg h2, if_neg (fun q => h2 ⟨by
      have h3 : p ≠ k := fun e => ho (by rw [← e]; exact q.2)
      omega, q.2⟩)]
theorem h_new (W : World) (hb i : Nat) (M : Nat → Nat) (h : hb = W.heap.size) : HSt W (W.alloc (.cells #[.int .i64 (i : Int), .int .i64 0, .int .i64 0, .int .i64 0, .int .i64 0, .int .i64 0, .int .i64 0] 66)) hb i 0 M := by
  subst h
  refine ⟨World.cell?_alloc_new W _ _ 0, World.cell?_alloc_new W _ _ 1, fun p hp => ?_, fun j => by rw [frozen?_alloc_cells]; exact fz _ (Nat.le_refl _), Nat.le_refl _, (Turn.refl _ W).alloc _⟩
  refine (World.cell?_alloc_new W _ _ (2 + p)).trans ?_
  have e : holdOf M 0 p = 0 := by
    unfold holdOf
    rw [if_neg (fun q => absurd q.1 (Nat.not_lt_zero _))]
  rw [e]
  have hp' : p = 0 ∨ p = 1 ∨ p = 2 ∨ p = 3 ∨ p = 4 := by omega
  rcases hp' with rfl | rfl | rfl | rfl | rfl <;> rfl
def HRel (wr : World) (hb i n : Nat) (M : Nat → Nat) (gh : Nat) (v : Value) (wh : World) : Prop := ∃ k : Nat, v = .int .i64 (k : Int) ∧ k ≤ n ∧ gh = n - k ∧ HSt wr wh hb i k M
theorem rcell_pin (Hd : Nat → Nat → Nat) (k p : Nat) (hp : p < 5) : (rcell Hd k)[2 + p]? = some (.int .i64 ((Hd k p : Nat) : Int)) := by
  have hp' : p = 0 ∨ p = 1 ∨ p = 2 ∨ p = 3 ∨ p = 4 := by omega
  rcases hp' with rfl | rfl | rfl | rfl | rfl <;> rfl
theorem drew_more {W wr : World} (h : ∃ d, wr = W.drewN d) (k : Nat) : ∃ d, wr.drewN k = W.drewN d := by
  obtain ⟨d, rfl⟩ := h
  exact ⟨_, World.drewN_drewN ..⟩
theorem drew_cell {W wr : World} {a : Addr} {v : Value} (h : ∃ d, wr = W.drewN d) (hc : W.cell? a = some v) : wr.cell? a = some v := by
  obtain ⟨d, rfl⟩ := h
  exact hc
def DRel (W : World) (m : Nat) (gh : Nat) (v : Value) (wr : World) : Prop := ∃ j : Nat, v = .int .i64 (j : Int) ∧ j ≤ m ∧ gh = m - j ∧ ∃ d, wr = W.drewN d

set_option maxRecDepth 100000 in
set_option maxHeartbeats 16000000 in
theorem safe_walk (a0 : Int) (ad : Option Addr) (b off len cap : Nat) (had : len = 0 ∨ ad = some ⟨b, off, none⟩) (K A2 N2 : Nat → Int) (w : World) (hl : Acts w b off len K A2 N2) (hb : 0 < len → b < w.heap.size) (hlen : len ≤ 9223372036854775807) :
    Calls Try.prog 9 #[.int .i64 a0, .slice ad len cap] w fun e w' => e = .returned (.bool true) ∧ Below w.heap.size w w' := by
  obtain ⟨S, s0, s5, HS⟩ := rest_epo a0 5 (by decide) (by decide)
  obtain ⟨n, hn⟩ : ∃ n : Nat, 1 + S = (n : Int) := ⟨(1 + S).toNat, by omega⟩
  have n1 : 1 ≤ n := by omega
  have n5 : n ≤ 5 := by omega
  have HS := Lib.hid HS
  have AW := Lib.hid (epo_awake w)
  have AD := Lib.hid had
  clear had s0 s5
  go_enter Try.func9, Try.ntmps9
  go_wp2_with fail
  refine AW.out.mono ?_
  rintro e w1 ⟨rfl, b1⟩
  have T1 := Lib.hid (Turn.of_below (S := From w.heap.size) b1)
  clear b1
  go_wp2_with fail
  refine (HS.out _).mono ?_
  rintro e w2 ⟨rfl, rfl⟩
  have H0 := Lib.hid (epo_new n n1 (by omega) w1)
  go_wp2_with fail
  refine H0.out.mono ?_
  rintro e w2 ⟨rfl, h2, b2, z2⟩
  go_wp2_with fail
  have z1 := T1.out.size
  have L : SLaid w (w1.heap.size + 1) w1.heap.size n (w1.heap.size + 2 + 1) (w1.heap.size + 2) := ⟨by omega, by omega, by omega, by omega, by omega, by omega, z1, by omega, n1, n5⟩
  have R0 : SRel w (w1.heap.size + 1) w1.heap.size n (w1.heap.size + 2 + 1) (w1.heap.size + 2) len 60 (.slice none 0 0) (.int .i64 0) (w2.alloc (.cells #[.int .i64 0, .int .i64 0, .int .i64 0, .int .i64 0, .int .i64 0] 64)) :=
    ⟨0, 0, _, _, _, fun _ => 0, [], fun _ _ => 0, fun _ => 0, rfl, Nat.zero_le _, Nat.zero_le _, rfl, Int.le_refl _, ⟨(h2.alloc _).rebase (by omega) (by simp; omega) (fun _ _ => ⟨rfl, rfl⟩), fun k hk => by
        rw [← z2]
        refine (World.cell?_alloc_new w2 _ _ k).trans ?_
        rw [show (#[.int .i64 0, .int .i64 0, .int .i64 0, .int .i64 0, .int .i64 0] : Array Value) = Array.replicate 5 (.int .i64 0) from rfl]
        simp [hk], fun i => by
        rw [frozen?_alloc_cells]
        exact fz _ (by omega), World.ownsRow_nil _ _ _ _,
      (T1.out.comp (Turn.of_below (S := From w.heap.size) b2) (fun _ _ e => e)).alloc _⟩, ⟨fun a _ q hq => absurd hq (by simp), fun a _ => Nat.le_refl _, fun k hk => absurd hk (by simp), Nat.le_refl _, fun p _ => by simp, fun p _ => Nat.le_refl _, fun p _ h => absurd rfl h, fun k hk => absurd hk (by simp)⟩⟩
  have L := Lib.hid L
  have HX := Lib.hid (fun wr (ht : Turn (From w.heap.size) w wr) i (hi : i < len) => show wr.cell? ⟨b, off + i * 3, none⟩ = some (.int .i64 (K i)) ∧ wr.cell? ⟨b, off + i * 3 + 1, none⟩ = some (.int .i64 (A2 i)) ∧ wr.cell? ⟨b, off + i * 3 + 2, none⟩ = some (.int .i64 (N2 i)) from by
    have hf : ¬ From w.heap.size b := fun e => by have := hb (by omega); unfold From at e; omega
    obtain ⟨q0, q1, q2⟩ := hl i hi
    exact ⟨ht.cell hf q0, ht.cell hf q1, ht.cell hf q2⟩)
  clear h2 b2 z1 hl hb H0
  generalize w2.alloc (.cells #[.int .i64 0, .int .i64 0, .int .i64 0, .int .i64 0, .int .i64 0] 64) = w3 at *
  generalize w1.heap.size + 2 + 1 = base at *
  generalize w1.heap.size + 2 = mb at *
  generalize w1.heap.size + 1 = x at *
  generalize w1.heap.size = lb at *
  clear z2
  go_loopg [8, 10] 60 (fun gh v8 v10 wr => SRel w x lb n base mb len gh v8 v10 wr)
  case atStart => exact R0
  case round =>
    clear R0
    obtain ⟨i, now, P, V, Q, M, rl, Hd, E, rfl, hi, hi60, hg, hnow, hR, hK⟩ := hrel
    by_cases hil : i < len
    · by_cases hi6 : i < 60
      · obtain rfl := AD.out.resolve_left (by omega)
        obtain ⟨R, r0, r1, HR⟩ := rest_epo (A2 i) n (by omega) (by omega)
        obtain ⟨a, rfl⟩ : ∃ a : Nat, R = (a : Int) := ⟨R.toNat, by omega⟩
        have an : a < n := by omega
        have HR := Lib.hid HR
        obtain ⟨kk, k0, k6, HK⟩ := rest_epo (K i) 6 (by decide) (by decide)
        have HK := Lib.hid HK
        obtain ⟨x0, x1, x2⟩ := HX.out wr hR.tr i hil
        have hi6' : (i : Int) < 60 := by omega
        have hR1 := hR.same ((Turn.refl _ wr).alloc (.cells #[.int .i64 (K i), .int .i64 (A2 i), .int .i64 (N2 i)] 47))
        have hkk : kk = 0 ∨ kk = 1 ∨ kk = 2 ∨ kk = 3 ∨ kk = 4 ∨ kk = 5 := by omega
        have an5 : a < 5 := Nat.lt_of_lt_of_le an n5
        have an6 : (a : Int) < 5 := by omega
        have an7 : (0 : Int) ≤ (a : Int) := by omega
        obtain ⟨ao, co, ev, sao⟩ := own_slice hR.row
        subst ev
        clear hR r0 r1 k0 k6
        rcases hkk with rfl | rfl | rfl | rfl | rfl | rfl
        · by_cases hp : P a = -1
          · have C := Lib.hid (And.intro (hR1.epo.pin_yes an hp) (And.intro hR1 hp))
            clear hR1 hp
            go_wp2_with fail
            refine (HR.out _).mono ?_
            rintro e w4 ⟨rfl, rfl⟩
            go_wp2_with fail
            refine (HK.out _).mono ?_
            rintro e w4 ⟨rfl, rfl⟩
            clear x0 x1 x2
            go_wp2_with fail
            refine C.out.1.mono ?_
            rintro e w5 ⟨rfl, h1, t1⟩
            have h5 := C.out.2.1.epos L.out h1 t1
            have cmv := h5.cm a an5
            have fmv := h5.fm a
            have X := Lib.hid (And.intro (h5.mark L.out an5 (M a + 1)) (And.intro (hK.pin C.out.2.1.epo.nn.1 C.out.2.2) hnow))
            have mle := hK.mle a an
            have hz : ((M a + 1 : Nat) : Int) = ((M a : Nat) : Int) + 1 := by omega
            rw [hz] at X
            generalize (M a : Int) = mm at cmv X hz
            have mm0 : 0 ≤ mm := by omega
            have mm1 : mm ≤ 60 := by omega
            clear h1 t1 h5 hK hnow hz mle
            go_wp2_with fail
            go_roundg (60 - (i + 1))
            case measure => omega
            case rel => exact ⟨i + 1, _, _, _, _, _, _, _, _, by go_num, by omega, by omega, rfl, by have := X.out.2.2; omega, X.out.1, X.out.2.1⟩
          · have C := Lib.hid (And.intro (hR1.epo.pin_no an hp) (And.intro hR1 hp))
            clear hR1 hp
            go_wp2_with fail
            refine (HR.out _).mono ?_
            rintro e w4 ⟨rfl, rfl⟩
            go_wp2_with fail
            refine (HK.out _).mono ?_
            rintro e w4 ⟨rfl, rfl⟩
            clear x0 x1 x2
            go_wp2_with fail
            refine C.out.1.mono ?_
            rintro e w5 ⟨rfl, rfl⟩
            have X := Lib.hid (And.intro C.out.2.1 (And.intro hK.more hnow))
            clear hK hnow
            go_wp2_with fail
            go_roundg (60 - (i + 1))
            case measure => omega
            case rel => exact ⟨i + 1, _, _, _, _, _, _, _, _, by go_num, by omega, by omega, rfl, by have := X.out.2.2; omega, X.out.1, X.out.2.1⟩
        · by_cases hp : P a = -1
          · have C := Lib.hid (And.intro (unpin_not _ _ _ (hR1.epo.pinned_no an hp)) (And.intro hR1 hp))
            clear hR1 hp
            go_wp2_with fail
            refine (HR.out _).mono ?_
            rintro e w4 ⟨rfl, rfl⟩
            go_wp2_with fail
            refine (HK.out _).mono ?_
            rintro e w4 ⟨rfl, rfl⟩
            clear x0 x1 x2
            go_wp2_with fail
            refine C.out.1.mono ?_
            rintro e w5 ⟨rfl, rfl⟩
            have X := Lib.hid (And.intro C.out.2.1 (And.intro hK.more hnow))
            clear hK hnow
            go_wp2_with fail
            go_roundg (60 - (i + 1))
            case measure => omega
            case rel => exact ⟨i + 1, _, _, _, _, _, _, _, _, by go_num, by omega, by omega, rfl, by have := X.out.2.2; omega, X.out.1, X.out.2.1⟩
          · have C := Lib.hid (And.intro (hR1.epo.unpin_yes an hp) (And.intro hR1 hp))
            clear hR1 hp
            go_wp2_with fail
            refine (HR.out _).mono ?_
            rintro e w4 ⟨rfl, rfl⟩
            go_wp2_with fail
            refine (HK.out _).mono ?_
            rintro e w4 ⟨rfl, rfl⟩
            clear x0 x1 x2
            go_wp2_with fail
            refine C.out.1.mono ?_
            rintro e w5 ⟨rfl, h1, t1⟩
            have h5 := C.out.2.1.epos L.out h1 t1
            have cmv := h5.cm a an5
            have fmv := h5.fm a
            have X := Lib.hid (And.intro (h5.mark L.out an5 (M a + 1)) (And.intro (hK.unpin C.out.2.2) hnow))
            have mle := hK.mle a an
            have hz : ((M a + 1 : Nat) : Int) = ((M a : Nat) : Int) + 1 := by omega
            rw [hz] at X
            generalize (M a : Int) = mm at cmv X hz
            have mm0 : 0 ≤ mm := by omega
            have mm1 : mm ≤ 60 := by omega
            clear h1 t1 h5 hK hnow hz mle
            go_wp2_with fail
            go_roundg (60 - (i + 1))
            case measure => omega
            case rel => exact ⟨i + 1, _, _, _, _, _, _, _, _, by go_num, by omega, by omega, rfl, by have := X.out.2.2; omega, X.out.1, X.out.2.1⟩
        · have E5 := Lib.hid (And.intro hR1 (And.intro hK hnow))
          clear hR1 hK hnow
          go_wp2_with fail
          refine (HR.out _).mono ?_
          rintro e w4 ⟨rfl, rfl⟩
          go_wp2_with fail
          refine (HK.out _).mono ?_
          rintro e w4 ⟨rfl, rfl⟩
          clear x0 x1 x2
          go_wp2_with fail
          have HH := h_new (wr.alloc (.cells #[.int .i64 (K i), .int .i64 (A2 i), .int .i64 (N2 i)] 47)) (wr.heap.size + 1) i M (by simp)
          have I0 : HRel (wr.alloc (.cells #[.int .i64 (K i), .int .i64 (A2 i), .int .i64 (N2 i)] 47)) (wr.heap.size + 1) i n M n (.int .i64 0) ((wr.alloc (.cells #[.int .i64 (K i), .int .i64 (A2 i), .int .i64 (N2 i)] 47)).alloc (.cells #[.int .i64 (i : Int), .int .i64 0, .int .i64 0, .int .i64 0, .int .i64 0, .int .i64 0, .int .i64 0] 66)) := ⟨0, rfl, Nat.zero_le _, rfl, HH⟩
          clear HH
          generalize (wr.alloc (.cells #[.int .i64 (K i), .int .i64 (A2 i), .int .i64 (N2 i)] 47)).alloc (.cells #[.int .i64 (i : Int), .int .i64 0, .int .i64 0, .int .i64 0, .int .i64 0, .int .i64 0, .int .i64 0] 66) = W0 at *
          generalize wr.alloc (.cells #[.int .i64 (K i), .int .i64 (A2 i), .int .i64 (N2 i)] 47) = wr1 at *
          generalize wr.heap.size + 1 = hb at *
          go_loopg [14] n (fun gh v14 wh => HRel wr1 hb i n M gh v14 wh)
          case atStart => exact I0
          case round =>
            clear I0
            obtain ⟨k, rfl, hkn, hg2, hH⟩ := hrel
            by_cases hk : k < n
            · have h5 := E5.out.1.same hH.tr
              have k5 : k < 5 := Nat.lt_of_lt_of_le hk n5
              have k6 : (k : Int) < 5 := by omega
              have cmv := h5.cm k k5
              have chv := hH.ch k k5
              have fhv := hH.fh (2 + k)
              have X := Lib.hid hH
              by_cases ho : M k % 2 = 1
              · have hz : (((M k : Nat) : Int) % 2 == 1) = true := by simp; omega
                have Y := Lib.hid (hH.put k5 ho)
                clear h5 hH ho
                have mm0 : 0 ≤ ((M k : Nat) : Int) := Int.natCast_nonneg _
                generalize ((M k : Nat) : Int) = mm at cmv hz Y mm0
                generalize ((holdOf M k k : Nat) : Int) = hm at chv
                go_wp2_with fail
                go_roundg (n - (k + 1))
                case measure => omega
                case rel => exact ⟨k + 1, by go_num, by omega, rfl, Y.out⟩
              · have hz : (((M k : Nat) : Int) % 2 == 1) = false := by simp; omega
                have Y := Lib.hid (hH.skip ho)
                clear h5 hH ho
                have mm0 : 0 ≤ ((M k : Nat) : Int) := Int.natCast_nonneg _
                generalize ((M k : Nat) : Int) = mm at cmv hz mm0
                go_wp2_with fail
                go_roundg (n - (k + 1))
                case measure => omega
                case rel => exact ⟨k + 1, by go_num, by omega, rfl, Y.out⟩
            · obtain rfl : n = k := by omega
              have h5 := E5.out.1.same hH.tr
              have C := Lib.hid (h5.epo.retire an (i : Int) 0 (by have := E5.out.2.1.qlen a an; omega))
              have nE : ¬ EpoOwn x lb n V hb := fun q => by
                have h0 := hH.lt
                have h1 := E5.out.1.epo.bw
                have h2 := L.out.bx
                have h3 := L.out.bl
                rcases q with q | q | ⟨j, hj, e⟩
                · omega
                · omega
                · have := ((E5.out.1.epo.rows j hj).lt _ e).2
                  omega
              have rl60 := E5.out.2.1.len
              have X := Lib.hid (And.intro h5 (And.intro hH nE))
              have q0 := hH.c0
              have q1 := hH.c1
              have bwh := h5.epo.bw
              clear h5 hH nE
              go_wp2_with fail
              refine C.out.mono ?_
              rintro e w5 ⟨rfl, v', h1, t1⟩
              have h6 := X.out.1.epos L.out h1 t1
              have c0 := t1.cell X.out.2.2 q0
              have c1 := t1.cell X.out.2.2 q1
              have c2 : w5.cell? ⟨hb, 2, none⟩ = _ := t1.cell X.out.2.2 (X.out.2.1.ch 0 (by decide))
              have c3 : w5.cell? ⟨hb, 3, none⟩ = _ := t1.cell X.out.2.2 (X.out.2.1.ch 1 (by decide))
              have c4 : w5.cell? ⟨hb, 4, none⟩ = _ := t1.cell X.out.2.2 (X.out.2.1.ch 2 (by decide))
              have c5 : w5.cell? ⟨hb, 5, none⟩ = _ := t1.cell X.out.2.2 (X.out.2.1.ch 3 (by decide))
              have c6 : w5.cell? ⟨hb, 6, none⟩ = _ := t1.cell X.out.2.2 (X.out.2.1.ch 4 (by decide))
              have row := h6.row
              have bw5 := h6.epo.bw
              have Y := Lib.hid h6
              obtain ⟨i3, j1, j2, j3, j4⟩ := info_parts info66
              clear h1 t1 h6 C
              go_wp2_with (at_builtin; refine wpList_append_lies _ rfl (.tmp 96) (.tmp 98) 63 rfl base 66 i3 _ 7 56 Try.underlying63 j1 j2 j3 j4 rfl (by decide) (.slice ao rl.length co) rl.length (rcells Hd rl) rfl (row.alloc _) ⟨w5.heap.size, 0, none⟩ 1 1 [.int .i64 (i : Int), .int .i64 0, .int .i64 ((holdOf M n 0 : Nat) : Int), .int .i64 ((holdOf M n 1 : Nat) : Int), .int .i64 ((holdOf M n 2 : Nat) : Int), .int .i64 ((holdOf M n 3 : Nat) : Int), .int .i64 ((holdOf M n 4 : Nat) : Int)] rfl rfl (cells_new _ [.int .i64 (i : Int), .int .i64 0, .int .i64 ((holdOf M n 0 : Nat) : Int), .int .i64 ((holdOf M n 1 : Nat) : Int), .int .i64 ((holdOf M n 2 : Nat) : Int), .int .i64 ((holdOf M n 3 : Nat) : Int), .int .i64 ((holdOf M n 4 : Nat) : Int)] _ _ rfl) (by simp [Value.oneCell']) (by decide) (by unfold maxLen; omega) (by omega) (by simp; omega) (w5.heap.size + 1) (by simp) ?_; intro gg cap2 w6 hown1 hgrow hat hlt)
              go_roundg (60 - (i + 1))
              case measure => omega
              case rel =>
                have e1 : (rcell (upd Hd i (holdOf M n)) i) = [.int .i64 (i : Int), .int .i64 0, .int .i64 ((holdOf M n 0 : Nat) : Int), .int .i64 ((holdOf M n 1 : Nat) : Int), .int .i64 ((holdOf M n 2 : Nat) : Int), .int .i64 ((holdOf M n 3 : Nat) : Int), .int .i64 ((holdOf M n 4 : Nat) : Int)] := by
                  unfold rcell
                  rw [upd_at]
                have hlen1 : (rl ++ [i]).length = rl.length + 1 := by simp
                have Z := Y.out.record L.out E5.out.2.1.low (hd := holdOf M n) hgrow (by rw [e1]; exact hown1)
                exact ⟨i + 1, _, _, _, _, _, _, _, _, by go_num, by omega, by omega, rfl, by have := E5.out.2.2; omega, Z, E5.out.2.1.retired an⟩
        · by_cases hall : ∀ j, j < n → P j = -1 ∨ P j = now
          · have C := Lib.hid (And.intro (hR1.epo.advance_yes n1 (by omega) hall) (And.intro hR1 hall))
            clear hR1 hall
            go_wp2_with fail
            refine (HR.out _).mono ?_
            rintro e w4 ⟨rfl, rfl⟩
            go_wp2_with fail
            refine (HK.out _).mono ?_
            rintro e w4 ⟨rfl, rfl⟩
            clear x0 x1 x2
            go_wp2_with fail
            refine C.out.1.mono ?_
            rintro e w5 ⟨rfl, h1, t1⟩
            have X := Lib.hid (And.intro (C.out.2.1.epos L.out h1 t1) (And.intro (hK.adv C.out.2.2) hnow))
            clear hK hnow h1 t1
            go_wp2_with fail
            go_roundg (60 - (i + 1))
            case measure => omega
            case rel => exact ⟨i + 1, _, _, _, _, _, _, _, _, by go_num, by omega, by omega, rfl, by have := X.out.2.2; omega, X.out.1, X.out.2.1⟩
          · obtain ⟨j, hj, h1, h2⟩ : ∃ j, j < n ∧ P j ≠ -1 ∧ P j ≠ now := Classical.byContradiction fun hc => hall fun j hj => Classical.byContradiction fun hd => hc ⟨j, hj, fun e => hd (.inl e), fun e => hd (.inr e)⟩
            have C := Lib.hid (And.intro (hR1.epo.advance_no j hj h1 h2) (And.intro hR1 hall))
            clear hR1 hall h1 h2 hj
            go_wp2_with fail
            refine (HR.out _).mono ?_
            rintro e w4 ⟨rfl, rfl⟩
            go_wp2_with fail
            refine (HK.out _).mono ?_
            rintro e w4 ⟨rfl, rfl⟩
            clear x0 x1 x2
            go_wp2_with fail
            refine C.out.1.mono ?_
            rintro e w5 ⟨rfl, rfl⟩
            have X := Lib.hid (And.intro C.out.2.1 (And.intro hK.more hnow))
            clear hK hnow
            go_wp2_with fail
            go_roundg (60 - (i + 1))
            case measure => omega
            case rel => exact ⟨i + 1, _, _, _, _, _, _, _, _, by go_num, by omega, by omega, rfl, by have := X.out.2.2; omega, X.out.1, X.out.2.1⟩
        · by_cases hall : ∀ j, j < n → P j = -1 ∨ P j = now
          · have C := Lib.hid (And.intro (hR1.epo.advance_yes n1 (by omega) hall) (And.intro hR1 hall))
            clear hR1 hall
            go_wp2_with fail
            refine (HR.out _).mono ?_
            rintro e w4 ⟨rfl, rfl⟩
            go_wp2_with fail
            refine (HK.out _).mono ?_
            rintro e w4 ⟨rfl, rfl⟩
            clear x0 x1 x2
            go_wp2_with fail
            refine C.out.1.mono ?_
            rintro e w5 ⟨rfl, h1, t1⟩
            have X := Lib.hid (And.intro (C.out.2.1.epos L.out h1 t1) (And.intro (hK.adv C.out.2.2) hnow))
            clear hK hnow h1 t1
            go_wp2_with fail
            go_roundg (60 - (i + 1))
            case measure => omega
            case rel => exact ⟨i + 1, _, _, _, _, _, _, _, _, by go_num, by omega, by omega, rfl, by have := X.out.2.2; omega, X.out.1, X.out.2.1⟩
          · obtain ⟨j, hj, h1, h2⟩ : ∃ j, j < n ∧ P j ≠ -1 ∧ P j ≠ now := Classical.byContradiction fun hc => hall fun j hj => Classical.byContradiction fun hd => hc ⟨j, hj, fun e => hd (.inl e), fun e => hd (.inr e)⟩
            have C := Lib.hid (And.intro (hR1.epo.advance_no j hj h1 h2) (And.intro hR1 hall))
            clear hR1 hall h1 h2 hj
            go_wp2_with fail
            refine (HR.out _).mono ?_
            rintro e w4 ⟨rfl, rfl⟩
            go_wp2_with fail
            refine (HK.out _).mono ?_
            rintro e w4 ⟨rfl, rfl⟩
            clear x0 x1 x2
            go_wp2_with fail
            refine C.out.1.mono ?_
            rintro e w5 ⟨rfl, rfl⟩
            have X := Lib.hid (And.intro C.out.2.1 (And.intro hK.more hnow))
            clear hK hnow
            go_wp2_with fail
            go_roundg (60 - (i + 1))
            case measure => omega
            case rel => exact ⟨i + 1, _, _, _, _, _, _, _, _, by go_num, by omega, by omega, rfl, by have := X.out.2.2; omega, X.out.1, X.out.2.1⟩
        · have hl60 : (told now (Q a)).length ≤ 60 := by
            have := hK.qlen a an
            have := List.length_filter_le (rp now) (Q a)
            unfold told
            rw [List.length_map]
            omega
          have C := Lib.hid (hR1.epo.ripe an (by have := hK.qlen a an; omega))
          have E5 := Lib.hid (And.intro hR1 (And.intro hK hnow))
          clear hR1 hK hnow
          go_wp2_with fail
          refine (HR.out _).mono ?_
          rintro e w4 ⟨rfl, rfl⟩
          go_wp2_with fail
          refine (HK.out _).mono ?_
          rintro e w4 ⟨rfl, rfl⟩
          clear x0 x1 x2
          go_wp2_with fail
          refine C.out.mono ?_
          rintro e w5 hP
          unfold RipePost at hP
          obtain ⟨vl, v', rfl, ho, h5, t5⟩ := hP
          have h6 := E5.out.1.epos L.out h5 t5
          obtain ⟨m, hm⟩ : ∃ m, (told now (Q a)).length = m := ⟨_, rfl⟩
          rw [hm] at ho hl60
          obtain ⟨lo, lc, ev, sv⟩ := own_slice ho
          subst ev
          have I0 : DRel w5 m m (.int .i64 0) w5 := ⟨0, rfl, Nat.zero_le _, rfl, 0, rfl⟩
          have X := Lib.hid (And.intro h6 (And.intro ho hm))
          have rl60 := E5.out.2.1.len
          clear h5 t5 h6 ho hm C
          go_wp2_with fail
          go_loopg [16] m (fun gh v wz => DRel w5 m gh v wz)
          case atStart => exact I0
          case round =>
            clear I0
            obtain ⟨j, rfl, hjm, hg2, hd⟩ := hrel
            by_cases hj : j < m
            · obtain ⟨r, hr⟩ : ∃ r, (told now (Q a))[j]? = some r := ⟨_, List.getElem?_eq_getElem (by rw [X.out.2.2]; exact hj)⟩
              have hmem := List.mem_of_getElem? hr
              obtain ⟨s, hs, rfl⟩ := told_zero E5.out.2.1 an hmem
              obtain ⟨g1, k1, e1, y0, y1⟩ := own2_atN X.out.2.1 X.out.2.2 hr
              injection e1 with e1 _ e3
              subst e1
              simp only at y0 y1
              obtain ⟨si, hsi⟩ : ∃ si : Int, ((s : Nat) : Int) = si := ⟨_, rfl⟩
              rw [hsi] at y0
              have S5 := Lib.hid (And.intro hmem (And.intro hsi hd))
              have I1 : DRel w5 rl.length rl.length (.int .i64 0) wr := ⟨0, rfl, Nat.zero_le _, rfl, hd⟩
              clear hr hmem hsi hs e3 hd
              go_wp2_with fail
              go_loopg [17] rl.length (fun gh v wz => DRel w5 rl.length gh v wz)
              case atStart => exact I1
              case round =>
                clear I1
                obtain ⟨q, rfl, hq, hg3, hd⟩ := hrel
                by_cases hq1 : q < rl.length
                · obtain ⟨kk, hkk⟩ : ∃ kk, rl[q]? = some kk := ⟨_, List.getElem?_eq_getElem hq1⟩
                  have hmem := List.mem_of_getElem? hkk
                  obtain ⟨g2, e2⟩ := sao (by omega)
                  subst e2
                  have hrow := fun o u ho => X.out.1.rowIn (o := o) (u := u) hkk ho
                  have z0 := hrow 0 _ rfl
                  have z1 := hrow 1 _ rfl
                  have Z2 := Lib.hid (fun p (hp : p < 5) => show w5.cell? ⟨g2, q * 7 + 2 + p, none⟩ = some (.int .i64 ((Hd kk p : Nat) : Int)) from by
                    have z2 := hrow (2 + p) _ (rcell_pin Hd kk p hp)
                    rw [← Nat.add_assoc] at z2
                    exact z2)
                  rw [Nat.add_zero] at z0
                  obtain ⟨ki, hki⟩ : ∃ ki : Int, ((kk : Nat) : Int) = ki := ⟨_, rfl⟩
                  rw [hki] at z0
                  have S6 := Lib.hid (And.intro hmem (And.intro hki hd))
                  have I2 : DRel w5 n n (.int .i64 0) wr := ⟨0, rfl, Nat.zero_le _, rfl, hd⟩
                  clear hkk hmem hrow hki hd
                  go_wp2_with fail
                  go_loopg [18] n (fun gh v wz => DRel w5 n gh v wz)
                  case atStart => exact I2
                  case round =>
                    clear I2
                    obtain ⟨p, rfl, hp, hg4, hd⟩ := hrel
                    by_cases hp1 : p < n
                    · have p5 : p < 5 := Nat.lt_of_lt_of_le hp1 n5
                      have p6 : (p : Int) < 5 := by omega
                      have p7 : ((p : Nat) : Int) < ((n : Nat) : Int) := by omega
                      have y0 := drew_cell hd y0
                      have y1 := drew_cell hd y1
                      have z0 := drew_cell hd z0
                      have z1 := drew_cell hd z1
                      have z2 := drew_cell hd (Z2.out p p5)
                      have mv := drew_cell hd (X.out.1.cm p p5)
                      have safe := fun h => E5.out.2.1.safe an hp1 S6.out.1 S5.out.1 h
                      have D := Lib.hid hd
                      by_cases hks : ki = si
                      · subst hks
                        have hne : 0 < Hd kk p → Hd kk p ≠ M p := safe (by rw [S6.out.2.1, S5.out.2.1])
                        have hne2 : (0 : Int) < ((Hd kk p : Nat) : Int) → ((Hd kk p : Nat) : Int) ≠ ((M p : Nat) : Int) := fun h e => hne (by omega) (by omega)
                        clear hne safe hd
                        generalize ((Hd kk p : Nat) : Int) = hv at z2 hne2
                        generalize ((M p : Nat) : Int) = mm at mv hne2
                        by_cases h0 : 0 < hv
                        · have hb : (hv == mm) = false := by simpa using hne2 h0
                          have hb2 : decide (0 < hv) = true := by simpa using h0
                          clear hne2
                          go_wp2_with fail
                          go_quiet (fail)
                          go_wp2_with fail
                          go_quiet (fail)
                          go_wp2_with fail
                          go_roundg (n - (p + 1))
                          case measure => omega
                          case rel => exact ⟨p + 1, by go_num, by omega, rfl, drew_more D.out _⟩
                        · have hb2 : decide (0 < hv) = false := by simpa using h0
                          clear hne2
                          go_wp2_with fail
                          go_quiet (fail)
                          go_wp2_with fail
                          go_quiet (fail)
                          go_wp2_with fail
                          go_roundg (n - (p + 1))
                          case measure => omega
                          case rel => exact ⟨p + 1, by go_num, by omega, rfl, drew_more D.out _⟩
                      · have hb : (ki == si) = false := by simpa using hks
                        clear safe hd hks
                        go_wp2_with fail
                        go_quiet (fail)
                        go_wp2_with fail
                        go_roundg (rl.length - (q + 1))
                        case measure => omega
                        case rel => exact ⟨q + 1, by go_num, by omega, rfl, drew_more D.out _⟩
                    · have hpb : decide (((p : Nat) : Int) < ((n : Nat) : Int)) = false := by simp; omega
                      have hpn : decide (p < n) = false := by simpa using hp1
                      have D := Lib.hid hd
                      clear hd
                      go_wp2_with fail
                      go_quiet (fail)
                      go_wp2_with fail
                      go_roundg (rl.length - (q + 1))
                      case measure => omega
                      case rel => exact ⟨q + 1, by go_num, by omega, rfl, drew_more D.out _⟩
                · have D := Lib.hid hd
                  clear hd
                  go_wp2_with fail
                  go_roundg (m - (j + 1))
                  case measure => omega
                  case rel => exact ⟨j + 1, by go_num, by omega, rfl, D.out⟩
            · have D := Lib.hid hd
              clear hd
              go_wp2_with fail
              go_roundg (60 - (i + 1))
              case measure => omega
              case rel =>
                obtain ⟨d, hd⟩ := D.out
                exact ⟨i + 1, _, _, _, _, _, _, _, _, by go_num, by omega, by omega, rfl, by have := E5.out.2.2; omega, X.out.1.same (by rw [hd]; exact (Turn.refl _ _).drewN d), E5.out.2.1.ripened⟩
      · have X := Lib.hid hR.tr
        clear hR hK
        go_wp2
        go_ret
        exact ⟨rfl, X.out.below (fun k hk => ⟨hk, fun e => by unfold From at e; omega⟩)⟩
    · have X := Lib.hid hR.tr
      clear hR hK
      go_wp2
      go_ret
      exact ⟨rfl, X.out.below (fun k hk => ⟨hk, fun e => by unfold From at e; omega⟩)⟩
end Go.Proofs.Ytibmimdlgbhdnaa
