/-
  The walk of StoreCounts: whatever is added, it answers true, and writes nothing that was there.
-/
import Derived.Test.YtjfbjkgppnhaoaaCnt
namespace Go.Proofs.Ytjfbjkgppnhaoaa
open Go.ChangeShapes Go.WideShapes Go.ChangeAt Go.RowKit
set_option linter.unusedVariables false

/-- The numbers lie in old memory. -/
def Adds (w : World) (b off len : Nat) (X : Nat → Int) : Prop := ∀ i, i < len → w.cell? ⟨b, off + i, none⟩ = some (.int .i64 (X i))

def CntRel (s sb bR bO : Nat) (wL : World) (len : Nat) (v9 v10 : Value) (wr : World) : Prop :=
  ∃ (i : Nat) (c : Int), v9 = .int .i64 c ∧ v10 = .int .i64 (i : Int) ∧ i ≤ 20 ∧ i ≤ len ∧ 0 ≤ c ∧ c ≤ 1 + 4 * (i : Int) ∧ Cnt s sb bR bO wL c wr

set_option maxRecDepth 100000 in
set_option maxHeartbeats 4000000 in
theorem counts_none (a0 : Option Addr) (cap : Nat) (w : World) :
    Calls Try.prog 13 #[.slice a0 0 cap] w fun e w' => e = .returned (.bool true) ∧ Below w.heap.size w w' := by
  have H0 := Lib.hid (store_awake w)
  go_enter Try.func13, Try.ntmps13
  go_wp2_with fail
  refine H0.out.mono ?_
  rintro e w1 ⟨rfl, b1⟩
  have H1 := Lib.hid (store_new2 w1)
  go_wp2_with fail
  refine H1.out.mono ?_
  rintro e w2 ⟨rfl, h2, b2, s2⟩
  have T1 : Calls Try.prog 40 #[.pointer (some ⟨w1.heap.size + 1, 0, none⟩), .agg #[.int .i64 2, .int .i64 0, .int .i64 0, .int .i64 0, .int .i64 0, .int .i64 0]] w2 fun e w' => e = .returned (.tuple #[.agg #[.int .i64 0, .int .i64 0], .bool true]) ∧ ∃ ev, Storey w' (w1.heap.size + 1) w1.heap.size 2 ev (upd (fun _ => false) 0 true) (upd (fun _ => 0) 0 1) (fun _ => 0) ∧ Near w1.heap.size w1.heap.size w2 w' :=
    (h2.take 0 (by decide) (by decide) (fun k hk => absurd hk (Nat.not_lt_zero k)) rfl 2 0 0 0 0 0).mono fun e w' ⟨a, ⟨ev2, _, h2⟩, n2⟩ => ⟨a, ev2, h2, n2⟩
  have C1 := Lib.hid T1
  have E1 := Lib.hid (And.intro b1 (And.intro b2 s2))
  clear h2 b1 b2 s2 T1
  go_wp2_with fail
  refine C1.out.mono ?_
  rintro e w3 ⟨rfl, ev3, h3, n3⟩
  have T2 : Calls Try.prog 40 #[.pointer (some ⟨w1.heap.size + 1, 0, none⟩), .agg #[.int .i64 5, .int .i64 0, .int .i64 0, .int .i64 0, .int .i64 0, .int .i64 0]] (w3.alloc (.cells #[.int .i64 0, .int .i64 0] 87)) fun e w' => e = .returned (.tuple #[.agg #[.int .i64 1, .int .i64 0], .bool true]) ∧ ∃ ev, Storey w' (w1.heap.size + 1) w1.heap.size 2 ev (upd (upd (fun _ => false) 0 true) 1 true) (upd (upd (fun _ => 0) 0 1) 1 1) (fun _ => 0) ∧ Near w1.heap.size w1.heap.size (w3.alloc (.cells #[.int .i64 0, .int .i64 0] 87)) w' :=
    ((h3.alloc (.cells #[.int .i64 0, .int .i64 0] 87)).take 1 (by decide) (by decide) (fun k hk => (by have hk0 : k = 0 := (by omega); rw [hk0]; exact upd_at _ _ _)) rfl 5 0 0 0 0 0).mono fun e w' ⟨a, ⟨ev2, _, h2⟩, n2⟩ => ⟨a, ev2, h2, n2⟩
  have C2 := Lib.hid T2
  have E3 := Lib.hid n3
  clear h3 n3 T2
  go_wp2_with fail
  refine C2.out.mono ?_
  rintro e w4 ⟨rfl, ev4, h4, n4⟩
  have z2 : w1.heap.size + 2 ≤ w3.heap.size := by have := E1.out.2.2; have := E3.out.size; omega
  have z4 : w3.heap.size + 1 ≤ w4.heap.size := by have := n4.size; simp at this; omega
  have Q : Cnt (w1.heap.size + 1) w1.heap.size w3.heap.size w4.heap.size (w4.alloc (.cells #[.int .i64 1, .int .i64 0] 87)) 1 (w4.alloc (.cells #[.int .i64 1, .int .i64 0] 87)) :=
    ⟨⟨ev4, _, _, _, h4.alloc _, rfl, rfl, rfl, rfl, rfl, rfl⟩, Near.refl _ _ _, past (n4.cell1 (by omega) (by omega) (World.cell?_alloc_new w3 #[.int .i64 0, .int .i64 0] 87 0)), past (n4.cell1 (by omega) (by omega) (World.cell?_alloc_new w3 #[.int .i64 0, .int .i64 0] 87 1)),
     World.cell?_alloc_new w4 #[.int .i64 1, .int .i64 0] 87 0, World.cell?_alloc_new w4 #[.int .i64 1, .int .i64 0] 87 1, by omega, by omega⟩
  have nL : Near w1.heap.size w1.heap.size w2 (w4.alloc (.cells #[.int .i64 1, .int .i64 0] 87)) := ((E3.out.alloc _).trans n4).alloc _
  have hend : ∀ wr, Near w1.heap.size w1.heap.size (w4.alloc (.cells #[.int .i64 1, .int .i64 0] 87)) wr → Below w.heap.size w wr := fun wr hn => by
    have t1 := E1.out.1.size
    have t2 := E1.out.2.2
    exact (E1.out.1.trans (E1.out.2.1.mono t1)).trans ((nL.trans hn).below t1 t1 (by omega))
  have D := Lib.hid (And.intro hend (Q.live2 (by decide)))
  clear Q nL hend z2 z4 n4 h4
  go_wp2_with fail
  refine wp_loop_rounds 1 ?_
  rw [rounds_succ]
  go_wp2_with fail
  refine D.out.2.mono ?_
  rintro e W1 ⟨rfl, k1⟩
  have kn := Lib.hid k1.near
  clear k1
  go_wp2
  go_ret
  exact ⟨rfl, D.out.1 _ kn.out⟩

set_option maxRecDepth 100000 in
set_option maxHeartbeats 4000000 in
theorem counts_walk (b off len cap : Nat) (X : Nat → Int) (w : World) (hl : Adds w b off len X) (hb : 0 < len → b < w.heap.size) (hlen : len ≤ 9223372036854775807) :
    Calls Try.prog 13 #[.slice (some ⟨b, off, none⟩) len cap] w fun e w' => e = .returned (.bool true) ∧ Below w.heap.size w w' := by
  have H0 := Lib.hid (store_awake w)
  go_enter Try.func13, Try.ntmps13
  go_wp2_with fail
  refine H0.out.mono ?_
  rintro e w1 ⟨rfl, b1⟩
  have H1 := Lib.hid (store_new2 w1)
  go_wp2_with fail
  refine H1.out.mono ?_
  rintro e w2 ⟨rfl, h2, b2, s2⟩
  have T1 : Calls Try.prog 40 #[.pointer (some ⟨w1.heap.size + 1, 0, none⟩), .agg #[.int .i64 2, .int .i64 0, .int .i64 0, .int .i64 0, .int .i64 0, .int .i64 0]] w2 fun e w' => e = .returned (.tuple #[.agg #[.int .i64 0, .int .i64 0], .bool true]) ∧ ∃ ev, Storey w' (w1.heap.size + 1) w1.heap.size 2 ev (upd (fun _ => false) 0 true) (upd (fun _ => 0) 0 1) (fun _ => 0) ∧ Near w1.heap.size w1.heap.size w2 w' :=
    (h2.take 0 (by decide) (by decide) (fun k hk => absurd hk (Nat.not_lt_zero k)) rfl 2 0 0 0 0 0).mono fun e w' ⟨a, ⟨ev2, _, h2⟩, n2⟩ => ⟨a, ev2, h2, n2⟩
  have C1 := Lib.hid T1
  have E1 := Lib.hid (And.intro b1 (And.intro b2 s2))
  clear h2 b1 b2 s2 T1
  go_wp2_with fail
  refine C1.out.mono ?_
  rintro e w3 ⟨rfl, ev3, h3, n3⟩
  have T2 : Calls Try.prog 40 #[.pointer (some ⟨w1.heap.size + 1, 0, none⟩), .agg #[.int .i64 5, .int .i64 0, .int .i64 0, .int .i64 0, .int .i64 0, .int .i64 0]] (w3.alloc (.cells #[.int .i64 0, .int .i64 0] 87)) fun e w' => e = .returned (.tuple #[.agg #[.int .i64 1, .int .i64 0], .bool true]) ∧ ∃ ev, Storey w' (w1.heap.size + 1) w1.heap.size 2 ev (upd (upd (fun _ => false) 0 true) 1 true) (upd (upd (fun _ => 0) 0 1) 1 1) (fun _ => 0) ∧ Near w1.heap.size w1.heap.size (w3.alloc (.cells #[.int .i64 0, .int .i64 0] 87)) w' :=
    ((h3.alloc (.cells #[.int .i64 0, .int .i64 0] 87)).take 1 (by decide) (by decide) (fun k hk => (by have hk0 : k = 0 := (by omega); rw [hk0]; exact upd_at _ _ _)) rfl 5 0 0 0 0 0).mono fun e w' ⟨a, ⟨ev2, _, h2⟩, n2⟩ => ⟨a, ev2, h2, n2⟩
  have C2 := Lib.hid T2
  have E3 := Lib.hid n3
  clear h3 n3 T2
  go_wp2_with fail
  refine C2.out.mono ?_
  rintro e w4 ⟨rfl, ev4, h4, n4⟩
  have z2 : w1.heap.size + 2 ≤ w3.heap.size := by have := E1.out.2.2; have := E3.out.size; omega
  have z4 : w3.heap.size + 1 ≤ w4.heap.size := by have := n4.size; simp at this; omega
  have Q : Cnt (w1.heap.size + 1) w1.heap.size w3.heap.size w4.heap.size (w4.alloc (.cells #[.int .i64 1, .int .i64 0] 87)) 1 (w4.alloc (.cells #[.int .i64 1, .int .i64 0] 87)) :=
    ⟨⟨ev4, _, _, _, h4.alloc _, rfl, rfl, rfl, rfl, rfl, rfl⟩, Near.refl _ _ _, past (n4.cell1 (by omega) (by omega) (World.cell?_alloc_new w3 #[.int .i64 0, .int .i64 0] 87 0)), past (n4.cell1 (by omega) (by omega) (World.cell?_alloc_new w3 #[.int .i64 0, .int .i64 0] 87 1)),
     World.cell?_alloc_new w4 #[.int .i64 1, .int .i64 0] 87 0, World.cell?_alloc_new w4 #[.int .i64 1, .int .i64 0] 87 1, by omega, by omega⟩
  have nL : Near w1.heap.size w1.heap.size w2 (w4.alloc (.cells #[.int .i64 1, .int .i64 0] 87)) := ((E3.out.alloc _).trans n4).alloc _
  have O0 : CntRel (w1.heap.size + 1) w1.heap.size w3.heap.size w4.heap.size (w4.alloc (.cells #[.int .i64 1, .int .i64 0] 87)) len (.int .i64 1) (.int .i64 0) (w4.alloc (.cells #[.int .i64 1, .int .i64 0] 87)) := ⟨0, 1, rfl, rfl, by omega, by omega, by decide, by omega, Q⟩
  have hcell : ∀ wr i, Near w1.heap.size w1.heap.size (w4.alloc (.cells #[.int .i64 1, .int .i64 0] 87)) wr → i < len → wr.cell? ⟨b, off + i, none⟩ = some (.int .i64 (X i)) := fun wr i hn hi => by
    have hbl := hb (by omega)
    have t1 := E1.out.1.size
    have c1 := (E1.out.1.cell (p := ⟨b, off + i, none⟩) hbl).trans (hl i hi)
    have c2 := (E1.out.2.1.cell (p := ⟨b, off + i, none⟩) (by show b < w1.heap.size; omega)).trans c1
    exact (nL.trans hn).cell1 (by omega) (by omega) c2
  have hend : ∀ wr, Near w1.heap.size w1.heap.size (w4.alloc (.cells #[.int .i64 1, .int .i64 0] 87)) wr → Below w.heap.size w wr := fun wr hn => by
    have t1 := E1.out.1.size
    have t2 := E1.out.2.2
    exact (E1.out.1.trans (E1.out.2.1.mono t1)).trans ((nL.trans hn).below t1 t1 (by omega))
  have D := Lib.hid (And.intro hcell hend)
  go_wp2_with fail
  generalize hwL : w4.alloc (.cells #[.int .i64 1, .int .i64 0] 87) = wL at *
  generalize w1.heap.size + 1 = s at *
  generalize w1.heap.size = sb at *
  generalize w3.heap.size = bR at *
  generalize w4.heap.size = bO at *
  clear Q nL hcell hend z2 z4 n4 h4 hl hb hwL E1 E3
  go_loopw [9, 10] (fun v i wr => CntRel s sb bR bO wL len v i wr) (fun _ i _ => 20 - (intOf i).toNat)
  case atStart => exact O0
  case round =>
    clear O0
    obtain ⟨i, c, rfl, rfl, hi20, hil, hc0, hc1, hC⟩ := hrel
    have near := hC.near
    by_cases c1 : i < len
    · by_cases c2 : i < 20
      · have c2' : (i : Int) < 20 := by omega
        have hx := D.out.1 wr i near c1
        obtain ⟨R, r0, r9, hR⟩ := rest_store (X i) 9 (by decide) (by decide)
        obtain ⟨y, hy⟩ : ∃ y, R - 4 = y := ⟨_, rfl⟩
        have y0 : -4 ≤ y := by omega
        have y1 : y ≤ 4 := by omega
        have HR := Lib.hid hR
        clear hR near
        by_cases d0 : c = 0
        · subst d0
          have hCr0 := hC.r0
          have hCr1 := hC.r1
          have hCo0 := hC.o0
          have hCo1 := hC.o1
          go_wp2_with fail
          refine (HR.out _).mono ?_
          rintro e W0 ⟨rfl, rfl⟩
          go_wp2_with fail
          refine (hC.add_dead y).mono ?_
          rintro e Wk1 ⟨rfl, k1⟩
          have k1r0 := k1.r0
          have k1r1 := k1.r1
          have k1o0 := k1.o0
          have k1o1 := k1.o1
          go_wp2_with fail
          refine (k1.count0).mono ?_
          rintro e Wk2 ⟨rfl, k2⟩
          have k2r0 := k2.r0
          have k2r1 := k2.r1
          have k2o0 := k2.o0
          have k2o1 := k2.o1
          go_wp2_with fail
          refine (k2.count1).mono ?_
          rintro e Wk3 ⟨rfl, k3⟩
          have k3r0 := k3.r0
          have k3r1 := k3.r1
          have k3o0 := k3.o0
          have k3o1 := k3.o1
          go_wp2_with fail
          refine (k3.used).mono ?_
          rintro e Wk4 ⟨rfl, k4⟩
          have k4r0 := k4.r0
          have k4r1 := k4.r1
          have k4o0 := k4.o0
          have k4o1 := k4.o1
          go_wp2
          go_roundw
          case rel => exact ⟨i + 1, 0, rfl, by go_num, by omega, by omega, by omega, by omega, k4⟩
          case measure => simp [intOf]; omega
        · have d1 : 0 < c := by omega
          by_cases d2 : c + y < 0
          · have d3 : ¬ 0 ≤ c + y := by omega
            have hCr0 := hC.r0
            have hCr1 := hC.r1
            have hCo0 := hC.o0
            have hCo1 := hC.o1
            go_wp2_with fail
            refine (HR.out _).mono ?_
            rintro e W0 ⟨rfl, rfl⟩
            go_wp2_with fail
            refine (hC.add_under y d1 (by omega) d2).mono ?_
            rintro e Wk1 ⟨rfl, k1⟩
            have k1r0 := k1.r0
            have k1r1 := k1.r1
            have k1o0 := k1.o0
            have k1o1 := k1.o1
            go_wp2_with fail
            refine (k1.count0).mono ?_
            rintro e Wk2 ⟨rfl, k2⟩
            have k2r0 := k2.r0
            have k2r1 := k2.r1
            have k2o0 := k2.o0
            have k2o1 := k2.o1
            go_wp2_with fail
            refine (k2.count1).mono ?_
            rintro e Wk3 ⟨rfl, k3⟩
            have k3r0 := k3.r0
            have k3r1 := k3.r1
            have k3o0 := k3.o0
            have k3o1 := k3.o1
            go_wp2_with fail
            refine (k3.used).mono ?_
            rintro e Wk4 ⟨rfl, k4⟩
            have k4r0 := k4.r0
            have k4r1 := k4.r1
            have k4o0 := k4.o0
            have k4o1 := k4.o1
            go_wp2_with fail
            refine (k4.free (by omega)).mono ?_
            rintro e Wk5 ⟨rfl, k5⟩
            have k5r0 := k5.r0
            have k5r1 := k5.r1
            have k5o0 := k5.o0
            have k5o1 := k5.o1
            go_wp2
            go_roundw
            case rel => exact ⟨i + 1, c, rfl, by go_num, by omega, by omega, by omega, by omega, k5⟩
            case measure => simp [intOf]; omega
          · obtain ⟨z, hz⟩ : ∃ z, c + y = z := ⟨_, rfl⟩
            have z0 : 0 ≤ z := by omega
            have z1 : z ≤ c + 4 := by omega
            have KA := Lib.hid (hC.add_yes y z d1 (by omega) (by omega) hz z0)
            clear d2
            by_cases d4 : z = 0
            · have hz0 : c + y = 0 := by omega
              rw [d4] at KA
              clear hz z0 z1 d4
              have hCr0 := hC.r0
              have hCr1 := hC.r1
              have hCo0 := hC.o0
              have hCo1 := hC.o1
              go_wp2_with fail
              refine (HR.out _).mono ?_
              rintro e W0 ⟨rfl, rfl⟩
              go_wp2_with fail
              refine (KA.out).mono ?_
              rintro e Wk1 ⟨rfl, k1⟩
              have k1r0 := k1.r0
              have k1r1 := k1.r1
              have k1o0 := k1.o0
              have k1o1 := k1.o1
              go_wp2_with fail
              refine (k1.count0).mono ?_
              rintro e Wk2 ⟨rfl, k2⟩
              have k2r0 := k2.r0
              have k2r1 := k2.r1
              have k2o0 := k2.o0
              have k2o1 := k2.o1
              go_wp2_with fail
              refine (k2.count1).mono ?_
              rintro e Wk3 ⟨rfl, k3⟩
              have k3r0 := k3.r0
              have k3r1 := k3.r1
              have k3o0 := k3.o0
              have k3o1 := k3.o1
              go_wp2_with fail
              refine (k3.used).mono ?_
              rintro e Wk4 ⟨rfl, k4⟩
              have k4r0 := k4.r0
              have k4r1 := k4.r1
              have k4o0 := k4.o0
              have k4o1 := k4.o1
              go_wp2
              go_roundw
              case rel => exact ⟨i + 1, 0, rfl, by go_num, by omega, by omega, by omega, by omega, k4⟩
              case measure => simp [intOf]; omega
            · have d5 : 0 < z := by omega
              have hCr0 := hC.r0
              have hCr1 := hC.r1
              have hCo0 := hC.o0
              have hCo1 := hC.o1
              go_wp2_with fail
              refine (HR.out _).mono ?_
              rintro e W0 ⟨rfl, rfl⟩
              go_wp2_with fail
              refine (KA.out).mono ?_
              rintro e Wk1 ⟨rfl, k1⟩
              have k1r0 := k1.r0
              have k1r1 := k1.r1
              have k1o0 := k1.o0
              have k1o1 := k1.o1
              go_wp2_with fail
              refine (k1.count0).mono ?_
              rintro e Wk2 ⟨rfl, k2⟩
              have k2r0 := k2.r0
              have k2r1 := k2.r1
              have k2o0 := k2.o0
              have k2o1 := k2.o1
              go_wp2_with fail
              refine (k2.count1).mono ?_
              rintro e Wk3 ⟨rfl, k3⟩
              have k3r0 := k3.r0
              have k3r1 := k3.r1
              have k3o0 := k3.o0
              have k3o1 := k3.o1
              go_wp2_with fail
              refine (k3.used).mono ?_
              rintro e Wk4 ⟨rfl, k4⟩
              have k4r0 := k4.r0
              have k4r1 := k4.r1
              have k4o0 := k4.o0
              have k4o1 := k4.o1
              go_wp2_with fail
              refine (k4.free (by omega)).mono ?_
              rintro e Wk5 ⟨rfl, k5⟩
              have k5r0 := k5.r0
              have k5r1 := k5.r1
              have k5o0 := k5.o0
              have k5o1 := k5.o1
              go_wp2
              go_roundw
              case rel => exact ⟨i + 1, z, rfl, by go_num, by omega, by omega, by omega, by omega, k5⟩
              case measure => simp [intOf]; omega
      · have c2' : ¬ (i : Int) < 20 := by omega
        by_cases d0 : c = 0
        · subst d0
          go_wp2_with fail
          refine hC.live1.mono ?_
          rintro e W1 ⟨rfl, k1⟩
          have kn := Lib.hid k1.near
          clear k1 hC near
          go_wp2
          go_ret
          exact ⟨rfl, D.out.2 _ kn.out⟩
        · have d1 : 0 < c := by omega
          go_wp2_with fail
          refine (hC.live2 d1).mono ?_
          rintro e W1 ⟨rfl, k1⟩
          have kn := Lib.hid k1.near
          clear k1 hC near
          go_wp2
          go_ret
          exact ⟨rfl, D.out.2 _ kn.out⟩
    · by_cases d0 : c = 0
      · subst d0
        go_wp2_with fail
        refine hC.live1.mono ?_
        rintro e W1 ⟨rfl, k1⟩
        have kn := Lib.hid k1.near
        clear k1 hC near
        go_wp2
        go_ret
        exact ⟨rfl, D.out.2 _ kn.out⟩
      · have d1 : 0 < c := by omega
        go_wp2_with fail
        refine (hC.live2 d1).mono ?_
        rintro e W1 ⟨rfl, k1⟩
        have kn := Lib.hid k1.near
        clear k1 hC near
        go_wp2
        go_ret
        exact ⟨rfl, D.out.2 _ kn.out⟩
end Go.Proofs.Ytjfbjkgppnhaoaa
