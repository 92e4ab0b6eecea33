/-
  The walk of StoreFull: whatever the numbers, it answers true, and writes nothing that was there.
-/
import Derived.Test.YtjfbjkgppnhaoabFull
namespace Go.Proofs.Ytjfbjkgppnhaoab
open Go.ChangeShapes Go.WideShapes Go.ChangeAt Go.RowKit
set_option linter.unusedVariables false

def FillRel (s sb n : Nat) (wL : World) (v : Value) (wr : World) : Prop := ∃ i : Nat, v = .int .i64 (i : Int) ∧ i ≤ n ∧ Fill s sb n wL i wr

set_option maxRecDepth 100000 in
set_option maxHeartbeats 4000000 in
theorem full_walk (a0 a1 : Int) (w : World) :
    Calls Try.prog 3 #[.int .i64 a0, .int .i64 a1] w fun e w' => e = .returned (.bool true) ∧ Below w.heap.size w w' := by
  obtain ⟨R, r0, r9, HR0⟩ := rest_store a0 40 (by decide) (by decide)
  obtain ⟨n, hn⟩ : ∃ n : Nat, 1 + R = (n : Int) := ⟨(1 + R).toNat, by omega⟩
  have n1 : 1 ≤ n := by omega
  have n40 : n ≤ 40 := by omega
  obtain ⟨R2, q0, q9, HR2⟩ := rest_store a1 (n : Int) (by omega) (by omega)
  obtain ⟨K, hK⟩ : ∃ K : Nat, R2 = (K : Int) := ⟨R2.toNat, by omega⟩
  subst hK
  have hKn : K < n := by omega
  have HR := Lib.hid HR0
  have HK := Lib.hid HR2
  have en := Lib.hid hn
  have H0 := Lib.hid (store_awake w)
  have HN := Lib.hid (store_new n n1 n40)
  clear HR0 HR2 q0 q9 hn
  go_enter Try.func3, Try.ntmps3
  go_wp2_with fail
  refine H0.out.mono ?_
  rintro e w1 ⟨rfl, b1⟩
  go_wp2_with fail
  refine (HR.out _).mono ?_
  rintro e w1' ⟨rfl, rfl⟩
  go_wp2_with fail
  rw [en.out]
  refine (HN.out _).mono ?_
  rintro e w2 ⟨rfl, h2, b2, s2⟩
  have I0 : FillRel (w1.heap.size + 1) w1.heap.size n w2 (.int .i64 0) w2 := ⟨0, rfl, by omega, ⟨_, _, _, _, h2, fun k hk => by simp, fun k hk => absurd hk (Nat.not_lt_zero k), fun k => rfl⟩, Near.refl _ _ _⟩
  have hend : ∀ wr, Near w1.heap.size w1.heap.size w2 wr → Below w.heap.size w wr := fun wr hn => by
    have t1 := b1.size
    exact (b1.trans (b2.mono t1)).trans (hn.below t1 t1 (by omega))
  have hsz : ∀ wr, Near w1.heap.size w1.heap.size w2 wr → w1.heap.size < wr.heap.size := fun wr hn => by have := hn.size; omega
  have D := Lib.hid (And.intro hend hsz)
  clear hend hsz h2 b1 b2 s2 r0 r9
  go_wp2_with fail
  generalize w1.heap.size + 1 = s at *
  generalize w1.heap.size = sb at *
  go_loopw [8] (fun v wr => FillRel s sb n w2 v wr) (fun v _ => n - (intOf v).toNat)
  case atStart => exact I0
  case round =>
    clear I0
    obtain ⟨i, rfl, hin, hI⟩ := hrel
    by_cases hi : i < n
    · have T1 := Lib.hid (hI.take hi n40 (i : Int))
      clear hI
      go_wp2_with fail
      refine T1.out.mono ?_
      rintro e u1 ⟨rfl, k1, m1⟩
      have KU := Lib.hid ((k1.alloc (.cells #[.int .i64 (i : Int), .int .i64 0] 27)).used (by omega) n40)
      clear k1 m1
      go_wp2_with fail
      refine KU.out.mono ?_
      rintro e u2 ⟨rfl, k2, m2⟩
      go_wp2
      go_roundw
      case rel => exact ⟨i + 1, by go_num, by omega, k2⟩
      case measure => simp [intOf]; omega
    · obtain rfl : i = n := by omega
      have h1 := Lib.hid (hI.held hKn)
      clear hI
      go_wp2_with fail
      refine (h1.out.full n40).mono ?_
      rintro e u1 ⟨rfl, k1, m1⟩
      have z1 := D.out.2 u1 k1.near
      have C2 := Lib.hid ((k1.alloc (.cells #[.int .i64 0, .int .i64 0] 27)).alloc (.cells #[.int .i64 (K : Int), .int .i64 0] 27))
      have nb : u1.heap.size + 1 ≠ sb := by omega
      have p0 : ((u1.alloc (.cells #[.int .i64 0, .int .i64 0] 27)).alloc (.cells #[.int .i64 (K : Int), .int .i64 0] 27)).cell? ⟨u1.heap.size + 1, 0, none⟩ = some (.int .i64 (K : Int)) := World.cell?_alloc_at #[.int .i64 (K : Int), .int .i64 0] 27 (u1.heap.size + 1) 0 (by simp)
      have p1 : ((u1.alloc (.cells #[.int .i64 0, .int .i64 0] 27)).alloc (.cells #[.int .i64 (K : Int), .int .i64 0] 27)).cell? ⟨u1.heap.size + 1, 1, none⟩ = some (.int .i64 0) := World.cell?_alloc_at #[.int .i64 (K : Int), .int .i64 0] 27 (u1.heap.size + 1) 1 (by simp)
      clear k1 m1
      go_wp2_with fail
      refine (HK.out _).mono ?_
      rintro e u1' ⟨rfl, rfl⟩
      go_wp2_with fail
      refine (C2.out.early hKn n40).mono ?_
      rintro e u2 ⟨rfl, k2, m2⟩
      have a0' := m2.cell1 nb nb p0
      have a1' := m2.cell1 nb nb p1
      go_wp2_with fail
      refine (k2.add hKn n40).mono ?_
      rintro e u3 ⟨rfl, k3, m3⟩
      have b0 := m3.cell1 nb nb a0'
      have b1 := m3.cell1 nb nb a1'
      go_wp2_with fail
      refine (k3.full n40).mono ?_
      rintro e u4 ⟨rfl, k4, m4⟩
      have c0 := past (o := (.cells #[.int .i64 0, .int .i64 0] 27)) (m4.cell1 nb nb b0)
      have c1 := past (o := (.cells #[.int .i64 0, .int .i64 0] 27)) (m4.cell1 nb nb b1)
      have C5 := Lib.hid ((k4.alloc (.cells #[.int .i64 0, .int .i64 0] 27)).late hKn n40)
      clear k2 m2 k3 m3 k4 m4
      go_wp2_with fail
      refine C5.out.mono ?_
      rintro e u5 ⟨rfl, k5, m5⟩
      have C6 := Lib.hid (k5.take hKn n40)
      clear k5 m5 p0 p1 a0' a1' b0 b1 c0 c1
      go_wp2_with fail
      refine C6.out.mono ?_
      rintro e u6 ⟨rfl, k6, m6⟩
      have z6 := D.out.2 u6 k6.near
      have nx : u6.heap.size ≠ sb := by omega
      have x0 : (u6.alloc (.cells #[.int .i64 (K : Int), .int .i64 1] 27)).cell? ⟨u6.heap.size, 0, none⟩ = some (.int .i64 (K : Int)) := World.cell?_alloc_new ..
      have x1 : (u6.alloc (.cells #[.int .i64 (K : Int), .int .i64 1] 27)).cell? ⟨u6.heap.size, 1, none⟩ = some (.int .i64 1) := World.cell?_alloc_new ..
      have C7 := Lib.hid ((k6.alloc (.cells #[.int .i64 (K : Int), .int .i64 1] 27)).get hKn n40)
      clear k6 m6
      go_wp2_with fail
      refine C7.out.mono ?_
      rintro e u7 ⟨rfl, n7, m7⟩
      have y0 := past (o := .cells #[.int .i64 0, .int .i64 99, .int .i64 0, .int .i64 0, .int .i64 0, .int .i64 0] 32) (m7.cell1 nx nx x0)
      have y1 := past (o := .cells #[.int .i64 0, .int .i64 99, .int .i64 0, .int .i64 0, .int .i64 0, .int .i64 0] 32) (m7.cell1 nx nx x1)
      have kn := Lib.hid n7
      clear n7 m7 x0 x1
      go_wp2
      go_ret
      exact ⟨rfl, D.out.1 _ (kn.out.alloc _)⟩
end Go.Proofs.Ytjfbjkgppnhaoab
