/-
  The walk of StoreTurns: however often, and whatever the counts, it answers true, and writes nothing that was there.
-/
import Derived.Test.YtjfbjkgppnhaoabTurn
namespace Go.Proofs.Ytjfbjkgppnhaoab
open Go.ChangeShapes Go.WideShapes Go.ChangeAt Go.RowKit
set_option linter.unusedVariables false

/-- The numbers lie in old memory. -/
def Adds (w : World) (b off len : Nat) (X : Nat → Int) : Prop := ∀ i, i < len → w.cell? ⟨b, off + i, none⟩ = some (.int .i64 (X i))

def OutRel (s sb : Nat) (wL : World) (n : Nat) (v : Value) (wr : World) : Prop := ∃ i : Nat, v = .int .i64 (i : Int) ∧ i ≤ n ∧ Idle s sb wL (i : Int) wr
def DownRel (s sb bR : Nat) (wL : World) (i k0 : Nat) (v : Value) (wr : World) : Prop :=
  ∃ k : Nat, v = .int .i64 (k : Int) ∧ k ≤ k0 ∧ Busy s sb wL (i : Int) (i : Int) (k : Int) wr ∧ wr.cell? ⟨bR, 0, none⟩ = some (.int .i64 0) ∧ wr.cell? ⟨bR, 1, none⟩ = some (.int .i64 (i : Int))
def OldRel (s sb : Nat) (wL : World) (i : Nat) (v : Value) (wr : World) : Prop := ∃ g : Nat, v = .int .i64 (g : Int) ∧ g ≤ i + 1 ∧ Idle s sb wL ((i : Int) + 1) wr

set_option maxRecDepth 100000 in
set_option maxHeartbeats 4000000 in
theorem turns_none (a0 : Int) (a1 : Option Addr) (cap : Nat) (w : World) :
    Calls Try.prog 4 #[.int .i64 a0, .slice a1 0 cap] w fun e w' => e = .returned (.bool true) ∧ Below w.heap.size w w' := by
  obtain ⟨R, r0, r9, HR0⟩ := rest_store a0 41 (by decide) (by decide)
  obtain ⟨n, hn⟩ : ∃ n : Nat, R = (n : Int) := ⟨R.toNat, by omega⟩
  subst hn
  have n40 : n ≤ 40 := by omega
  have HR := Lib.hid HR0
  have H0 := Lib.hid (store_awake w)
  clear HR0 r0 r9
  go_enter Try.func4, Try.ntmps4
  go_wp2_with fail
  refine H0.out.mono ?_
  rintro e w1 ⟨rfl, b1⟩
  have H1 := Lib.hid (store_new1 w1)
  go_wp2_with fail
  refine H1.out.mono ?_
  rintro e w2 ⟨rfl, h2, b2, s2⟩
  have I0 : OutRel (w1.heap.size + 1) w1.heap.size w2 n (.int .i64 0) w2 := ⟨0, rfl, by omega, ⟨_, _, _, _, h2, rfl, rfl, rfl⟩, Near.refl _ _ _⟩
  have hend : ∀ wr, Near w1.heap.size w1.heap.size w2 wr → Below w.heap.size w wr := fun wr hn => by
    have t1 := b1.size
    exact (b1.trans (b2.mono t1)).trans (hn.below t1 t1 (by omega))
  have hsz : ∀ wr, Near w1.heap.size w1.heap.size w2 wr → wr.heap.size ≠ w1.heap.size := fun wr hn => by have := hn.size; omega
  have D := Lib.hid (And.intro hend hsz)
  clear hend hsz h2 b1 b2 s2
  go_wp2_with fail
  refine (HR.out _).mono ?_
  rintro e w2' ⟨rfl, rfl⟩
  go_wp2_with fail
  generalize w1.heap.size + 1 = s at *
  generalize w1.heap.size = sb at *
  go_loopw [8] (fun v wr => OutRel s sb w2 n v wr) (fun v _ => n - (intOf v).toNat)
  case atStart => exact I0
  case round =>
    clear I0
    obtain ⟨i, rfl, hin, hI⟩ := hrel
    by_cases hi : i < n
    · have T1 := Lib.hid (hI.take (i : Int))
      clear hI
      go_wp2_with fail
      refine T1.out.mono ?_
      rintro e u1 ⟨rfl, k1, m1⟩
      have nb := D.out.2 u1 k1.near
      have k2 := k1.alloc (.cells #[.int .i64 0, .int .i64 (i : Int)] 27)
      have q0 : (u1.alloc (.cells #[.int .i64 0, .int .i64 (i : Int)] 27)).cell? ⟨u1.heap.size, 0, none⟩ = some (.int .i64 0) := World.cell?_alloc_new ..
      have q1 : (u1.alloc (.cells #[.int .i64 0, .int .i64 (i : Int)] 27)).cell? ⟨u1.heap.size, 1, none⟩ = some (.int .i64 (i : Int)) := World.cell?_alloc_new ..
      · clear k1 m1
        have KA := Lib.hid (k2.add (0) (1) (by decide) (by decide) (by omega) (by omega) (by omega))
        clear k2
        go_wp2_with fail
        refine KA.out.mono ?_
        rintro e u3 ⟨rfl, k3, m3⟩
        have p0 := m3.cell1 (i := 0) nb nb q0
        have p1 := m3.cell1 (i := 1) nb nb q1
        go_wp2_with fail
        refine (k3.free_live (by omega)).mono ?_
        rintro e u4 ⟨rfl, k4, m4⟩
        have s0 := m4.cell1 (i := 0) nb nb p0
        have s1 := m4.cell1 (i := 1) nb nb p1
        have I1 : DownRel s sb u1.heap.size w2 i 1 (.int .i64 1) u4 := ⟨1, rfl, Nat.le_refl _, k4, s0, s1⟩
        clear k3 k4 p0 p1 q0 q1 s0 s1 m3 m4
        go_wp2_with fail
        go_loopw [11] (fun v wr => DownRel s sb u1.heap.size w2 i 1 v wr) (fun v _ => (intOf v).toNat)
        case atStart => exact I1
        case round =>
          clear I1
          obtain ⟨k, rfl, hk, hB, p0, p1⟩ := hrel
          cases k with
          | succ kk =>
            have KB := hB.add (-1) (kk : Int) (by omega) (by omega) (by omega) (by omega) (by omega)
            have KC := Lib.hid KB
            have kp : (0 : Int) < (kk : Int) + 1 := by omega
            have kb : (kk : Int) ≤ 10 := by omega
            clear KB hB
            go_wp2_with fail
            refine KC.out.mono ?_
            rintro e u5 ⟨rfl, k5, m5⟩
            have t0 := m5.cell1 (i := 0) nb nb p0
            have t1 := m5.cell1 (i := 1) nb nb p1
            go_wp2
            go_roundw
            case rel => exact ⟨kk, by go_num, by omega, k5, t0, t1⟩
            case measure => simp [intOf]; try omega
          | zero =>
            have KB : Calls Try.prog 12 #[.pointer (some ⟨s, 0, none⟩), .agg #[.int .i64 0, .int .i64 (i : Int)]] wr fun e w' => e = .returned (.tuple #[.agg #[.int .i64 0, .int .i64 (i : Int), .int .i64 0, .int .i64 0, .int .i64 0, .int .i64 0], .bool true]) ∧ Busy s sb w2 (i : Int) (i : Int) 0 w' ∧ Near sb sb wr w' := hB.get
            have KC := Lib.hid KB
            clear KB hB
            go_wp2_with fail
            refine KC.out.mono ?_
            rintro e u5 ⟨rfl, k5, m5⟩
            have t0 := m5.cell1 (i := 0) nb nb p0
            have t1 := m5.cell1 (i := 1) nb nb p1
            have t2 := fun o => past (o := o) t0
            have t3 := fun o => past (o := o) t1
            have KF := Lib.hid (fun o => (k5.alloc o).free_dead (by omega))
            clear k5
            go_wp2_with fail
            refine (KF.out _).mono ?_
            rintro e u6 ⟨rfl, k6, m6⟩
            have I2 : OldRel s sb w2 i (.int .i64 0) u6 := ⟨0, rfl, by omega, k6⟩
            clear k6 m6
            go_wp2_with fail
            go_loopw [18] (fun v wr => OldRel s sb w2 i v wr) (fun v _ => i + 1 - (intOf v).toNat)
            case atStart => exact I2
            case round =>
              clear I2
              obtain ⟨g, rfl, hg, hJ⟩ := hrel
              by_cases hgi : g < i + 1
              · have hgi2 : (g : Int) ≤ (i : Int) := by omega
                have KG := Lib.hid (hJ.get (g : Int))
                clear hJ
                go_wp2_with fail
                refine KG.out.mono ?_
                rintro e u7 ⟨rfl, k7, m7⟩
                go_wp2
                go_roundw
                case rel => exact ⟨g + 1, by go_num, by omega, k7.alloc _⟩
                case measure => simp [intOf]; omega
              · have hgi2 : ¬ (g : Int) ≤ (i : Int) := by omega
                go_wp2
                go_roundw
                case rel => exact ⟨i + 1, by go_num, by omega, by rw [show ((i + 1 : Nat) : Int) = (i : Int) + 1 from by omega]; exact hJ⟩
                case measure => simp [intOf]; omega
    · obtain rfl : i = n := by omega
      have KU := Lib.hid hI.used
      clear hI
      go_wp2_with fail
      refine KU.out.mono ?_
      rintro e u1 ⟨rfl, k1, m1⟩
      have KL := Lib.hid k1.live
      clear k1 m1
      go_wp2_with fail
      refine KL.out.mono ?_
      rintro e u2 ⟨rfl, k2, m2⟩
      have kn := Lib.hid k2.near
      clear k2 m2
      go_wp2
      go_ret
      exact ⟨rfl, D.out.1 _ kn.out⟩

set_option maxRecDepth 100000 in
set_option maxHeartbeats 4000000 in
theorem turns_walk (a0 : Int) (b off len cap : Nat) (X : Nat → Int) (w : World) (hl : Adds w b off len X) (hb : 0 < len → b < w.heap.size) (hlen : len ≤ 9223372036854775807) :
    Calls Try.prog 4 #[.int .i64 a0, .slice (some ⟨b, off, none⟩) len cap] w fun e w' => e = .returned (.bool true) ∧ Below w.heap.size w w' := by
  obtain ⟨R, r0, r9, HR0⟩ := rest_store a0 41 (by decide) (by decide)
  obtain ⟨n, hn⟩ : ∃ n : Nat, R = (n : Int) := ⟨R.toNat, by omega⟩
  subst hn
  have n40 : n ≤ 40 := by omega
  have HR := Lib.hid HR0
  have H0 := Lib.hid (store_awake w)
  clear HR0 r0 r9
  go_enter Try.func4, Try.ntmps4
  go_wp2_with fail
  refine H0.out.mono ?_
  rintro e w1 ⟨rfl, b1⟩
  have H1 := Lib.hid (store_new1 w1)
  go_wp2_with fail
  refine H1.out.mono ?_
  rintro e w2 ⟨rfl, h2, b2, s2⟩
  have I0 : OutRel (w1.heap.size + 1) w1.heap.size w2 n (.int .i64 0) w2 := ⟨0, rfl, by omega, ⟨_, _, _, _, h2, rfl, rfl, rfl⟩, Near.refl _ _ _⟩
  have hcell : ∀ wr i, Near w1.heap.size w1.heap.size w2 wr → i < len → wr.cell? ⟨b, off + i, none⟩ = some (.int .i64 (X i)) := fun wr i hn hi => by
    have hbl := hb (by omega)
    have t1 := b1.size
    have c1 := (b1.cell (p := ⟨b, off + i, none⟩) hbl).trans (hl i hi)
    have c2 := (b2.cell (p := ⟨b, off + i, none⟩) (by show b < w1.heap.size; omega)).trans c1
    exact hn.cell1 (by omega) (by omega) c2
  have hend : ∀ wr, Near w1.heap.size w1.heap.size w2 wr → Below w.heap.size w wr := fun wr hn => by
    have t1 := b1.size
    exact (b1.trans (b2.mono t1)).trans (hn.below t1 t1 (by omega))
  have hsz : ∀ wr, Near w1.heap.size w1.heap.size w2 wr → wr.heap.size ≠ w1.heap.size := fun wr hn => by have := hn.size; omega
  have D := Lib.hid (And.intro hcell (And.intro hend hsz))
  clear hcell hend hsz h2 b1 b2 s2 hl hb
  go_wp2_with fail
  refine (HR.out _).mono ?_
  rintro e w2' ⟨rfl, rfl⟩
  go_wp2_with fail
  generalize w1.heap.size + 1 = s at *
  generalize w1.heap.size = sb at *
  go_loopw [8] (fun v wr => OutRel s sb w2 n v wr) (fun v _ => n - (intOf v).toNat)
  case atStart => exact I0
  case round =>
    clear I0
    obtain ⟨i, rfl, hin, hI⟩ := hrel
    by_cases hi : i < n
    · have T1 := Lib.hid (hI.take (i : Int))
      clear hI
      go_wp2_with fail
      refine T1.out.mono ?_
      rintro e u1 ⟨rfl, k1, m1⟩
      have nb := D.out.2.2 u1 k1.near
      have k2 := k1.alloc (.cells #[.int .i64 0, .int .i64 (i : Int)] 27)
      have q0 : (u1.alloc (.cells #[.int .i64 0, .int .i64 (i : Int)] 27)).cell? ⟨u1.heap.size, 0, none⟩ = some (.int .i64 0) := World.cell?_alloc_new ..
      have q1 : (u1.alloc (.cells #[.int .i64 0, .int .i64 (i : Int)] 27)).cell? ⟨u1.heap.size, 1, none⟩ = some (.int .i64 (i : Int)) := World.cell?_alloc_new ..
      by_cases hil : i < len
      · have hx := D.out.1 _ i k2.near hil
        obtain ⟨R5, a0', a9, HR5⟩ := rest_store (X i) 5 (by decide) (by decide)
        obtain ⟨k0, hk0⟩ : ∃ k0 : Nat, 1 + R5 = (k0 : Int) := ⟨(1 + R5).toNat, by omega⟩
        have k01 : 1 ≤ k0 := by omega
        have k05 : k0 ≤ 5 := by omega
        have H5 := Lib.hid HR5
        clear HR5 k1 m1
        go_wp2_with fail
        refine (H5.out _).mono ?_
        rintro e u2' ⟨rfl, rfl⟩
        have KA := Lib.hid (k2.add ((k0 : Int) - 1) ((k0 : Int)) (by decide) (by decide) (by omega) (by omega) (by omega))
        clear k2
        go_wp2_with fail
        refine KA.out.mono ?_
        rintro e u3 ⟨rfl, k3, m3⟩
        have p0 := m3.cell1 (i := 0) nb nb q0
        have p1 := m3.cell1 (i := 1) nb nb q1
        go_wp2_with fail
        refine (k3.free_live (by omega)).mono ?_
        rintro e u4 ⟨rfl, k4, m4⟩
        have s0 := m4.cell1 (i := 0) nb nb p0
        have s1 := m4.cell1 (i := 1) nb nb p1
        have I1 : DownRel s sb u1.heap.size w2 i k0 (.int .i64 (k0 : Int)) u4 := ⟨k0, rfl, Nat.le_refl _, k4, s0, s1⟩
        clear k3 k4 p0 p1 q0 q1 s0 s1 m3 m4
        go_wp2_with fail
        go_loopw [11] (fun v wr => DownRel s sb u1.heap.size w2 i k0 v wr) (fun v _ => (intOf v).toNat)
        case atStart => exact I1
        case round =>
          clear I1
          obtain ⟨k, rfl, hk, hB, p0, p1⟩ := hrel
          cases k with
          | succ kk =>
            have KB := hB.add (-1) (kk : Int) (by omega) (by omega) (by omega) (by omega) (by omega)
            have KC := Lib.hid KB
            have kp : (0 : Int) < (kk : Int) + 1 := by omega
            have kb : (kk : Int) ≤ 10 := by omega
            clear KB hB
            go_wp2_with fail
            refine KC.out.mono ?_
            rintro e u5 ⟨rfl, k5, m5⟩
            have t0 := m5.cell1 (i := 0) nb nb p0
            have t1 := m5.cell1 (i := 1) nb nb p1
            go_wp2
            go_roundw
            case rel => exact ⟨kk, by go_num, by omega, k5, t0, t1⟩
            case measure => simp [intOf]; try omega
          | zero =>
            have KB : Calls Try.prog 12 #[.pointer (some ⟨s, 0, none⟩), .agg #[.int .i64 0, .int .i64 (i : Int)]] wr fun e w' => e = .returned (.tuple #[.agg #[.int .i64 0, .int .i64 (i : Int), .int .i64 0, .int .i64 0, .int .i64 0, .int .i64 0], .bool true]) ∧ Busy s sb w2 (i : Int) (i : Int) 0 w' ∧ Near sb sb wr w' := hB.get
            have KC := Lib.hid KB
            clear KB hB
            go_wp2_with fail
            refine KC.out.mono ?_
            rintro e u5 ⟨rfl, k5, m5⟩
            have t0 := m5.cell1 (i := 0) nb nb p0
            have t1 := m5.cell1 (i := 1) nb nb p1
            have t2 := fun o => past (o := o) t0
            have t3 := fun o => past (o := o) t1
            have KF := Lib.hid (fun o => (k5.alloc o).free_dead (by omega))
            clear k5
            go_wp2_with fail
            refine (KF.out _).mono ?_
            rintro e u6 ⟨rfl, k6, m6⟩
            have I2 : OldRel s sb w2 i (.int .i64 0) u6 := ⟨0, rfl, by omega, k6⟩
            clear k6 m6
            go_wp2_with fail
            go_loopw [18] (fun v wr => OldRel s sb w2 i v wr) (fun v _ => i + 1 - (intOf v).toNat)
            case atStart => exact I2
            case round =>
              clear I2
              obtain ⟨g, rfl, hg, hJ⟩ := hrel
              by_cases hgi : g < i + 1
              · have hgi2 : (g : Int) ≤ (i : Int) := by omega
                have KG := Lib.hid (hJ.get (g : Int))
                clear hJ
                go_wp2_with fail
                refine KG.out.mono ?_
                rintro e u7 ⟨rfl, k7, m7⟩
                go_wp2
                go_roundw
                case rel => exact ⟨g + 1, by go_num, by omega, k7.alloc _⟩
                case measure => simp [intOf]; omega
              · have hgi2 : ¬ (g : Int) ≤ (i : Int) := by omega
                go_wp2
                go_roundw
                case rel => exact ⟨i + 1, by go_num, by omega, by rw [show ((i + 1 : Nat) : Int) = (i : Int) + 1 from by omega]; exact hJ⟩
                case measure => simp [intOf]; omega
      · clear k1 m1
        have KA := Lib.hid (k2.add (0) (1) (by decide) (by decide) (by omega) (by omega) (by omega))
        clear k2
        go_wp2_with fail
        refine KA.out.mono ?_
        rintro e u3 ⟨rfl, k3, m3⟩
        have p0 := m3.cell1 (i := 0) nb nb q0
        have p1 := m3.cell1 (i := 1) nb nb q1
        go_wp2_with fail
        refine (k3.free_live (by omega)).mono ?_
        rintro e u4 ⟨rfl, k4, m4⟩
        have s0 := m4.cell1 (i := 0) nb nb p0
        have s1 := m4.cell1 (i := 1) nb nb p1
        have I1 : DownRel s sb u1.heap.size w2 i 1 (.int .i64 1) u4 := ⟨1, rfl, Nat.le_refl _, k4, s0, s1⟩
        clear k3 k4 p0 p1 q0 q1 s0 s1 m3 m4
        go_wp2_with fail
        go_loopw [11] (fun v wr => DownRel s sb u1.heap.size w2 i 1 v wr) (fun v _ => (intOf v).toNat)
        case atStart => exact I1
        case round =>
          clear I1
          obtain ⟨k, rfl, hk, hB, p0, p1⟩ := hrel
          cases k with
          | succ kk =>
            have KB := hB.add (-1) (kk : Int) (by omega) (by omega) (by omega) (by omega) (by omega)
            have KC := Lib.hid KB
            have kp : (0 : Int) < (kk : Int) + 1 := by omega
            have kb : (kk : Int) ≤ 10 := by omega
            clear KB hB
            go_wp2_with fail
            refine KC.out.mono ?_
            rintro e u5 ⟨rfl, k5, m5⟩
            have t0 := m5.cell1 (i := 0) nb nb p0
            have t1 := m5.cell1 (i := 1) nb nb p1
            go_wp2
            go_roundw
            case rel => exact ⟨kk, by go_num, by omega, k5, t0, t1⟩
            case measure => simp [intOf]; try omega
          | zero =>
            have KB : Calls Try.prog 12 #[.pointer (some ⟨s, 0, none⟩), .agg #[.int .i64 0, .int .i64 (i : Int)]] wr fun e w' => e = .returned (.tuple #[.agg #[.int .i64 0, .int .i64 (i : Int), .int .i64 0, .int .i64 0, .int .i64 0, .int .i64 0], .bool true]) ∧ Busy s sb w2 (i : Int) (i : Int) 0 w' ∧ Near sb sb wr w' := hB.get
            have KC := Lib.hid KB
            clear KB hB
            go_wp2_with fail
            refine KC.out.mono ?_
            rintro e u5 ⟨rfl, k5, m5⟩
            have t0 := m5.cell1 (i := 0) nb nb p0
            have t1 := m5.cell1 (i := 1) nb nb p1
            have t2 := fun o => past (o := o) t0
            have t3 := fun o => past (o := o) t1
            have KF := Lib.hid (fun o => (k5.alloc o).free_dead (by omega))
            clear k5
            go_wp2_with fail
            refine (KF.out _).mono ?_
            rintro e u6 ⟨rfl, k6, m6⟩
            have I2 : OldRel s sb w2 i (.int .i64 0) u6 := ⟨0, rfl, by omega, k6⟩
            clear k6 m6
            go_wp2_with fail
            go_loopw [18] (fun v wr => OldRel s sb w2 i v wr) (fun v _ => i + 1 - (intOf v).toNat)
            case atStart => exact I2
            case round =>
              clear I2
              obtain ⟨g, rfl, hg, hJ⟩ := hrel
              by_cases hgi : g < i + 1
              · have hgi2 : (g : Int) ≤ (i : Int) := by omega
                have KG := Lib.hid (hJ.get (g : Int))
                clear hJ
                go_wp2_with fail
                refine KG.out.mono ?_
                rintro e u7 ⟨rfl, k7, m7⟩
                go_wp2
                go_roundw
                case rel => exact ⟨g + 1, by go_num, by omega, k7.alloc _⟩
                case measure => simp [intOf]; omega
              · have hgi2 : ¬ (g : Int) ≤ (i : Int) := by omega
                go_wp2
                go_roundw
                case rel => exact ⟨i + 1, by go_num, by omega, by rw [show ((i + 1 : Nat) : Int) = (i : Int) + 1 from by omega]; exact hJ⟩
                case measure => simp [intOf]; omega
    · obtain rfl : i = n := by omega
      have KU := Lib.hid hI.used
      clear hI
      go_wp2_with fail
      refine KU.out.mono ?_
      rintro e u1 ⟨rfl, k1, m1⟩
      have KL := Lib.hid k1.live
      clear k1 m1
      go_wp2_with fail
      refine KL.out.mono ?_
      rintro e u2 ⟨rfl, k2, m2⟩
      have kn := Lib.hid k2.near
      clear k2 m2
      go_wp2
      go_ret
      exact ⟨rfl, D.out.2.1 _ kn.out⟩
end Go.Proofs.Ytjfbjkgppnhaoab
