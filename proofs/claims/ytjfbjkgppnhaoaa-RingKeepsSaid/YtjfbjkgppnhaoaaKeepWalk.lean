/-
  The walk of RingKeeps: whatever the numbers, it answers true, and writes nothing that was there.
-/
import Derived.Test.YtjfbjkgppnhaoaaKeep
namespace Go.Proofs.Ytjfbjkgppnhaoaa
open Go.ChangeShapes Go.WideShapes Go.ChangeAt Go.RowKit
set_option linter.unusedVariables false

theorem Near.cell {r pb : Nat} {w w' : World} (h : Near r pb w w') {b i : Nat} {v : Value} (hb : b < w.heap.size) (h1 : b ≠ r) (h2 : b ≠ pb) (hc : w.cell? ⟨b, i, none⟩ = some v) : w'.cell? ⟨b, i, none⟩ = some v :=
  (World.cell?_of_block (w := w) (h.block b hb h1 h2)).trans hc

/-- The numbers lie in old memory. -/
def Lies (w : World) (b off len : Nat) (X : Nat → Int) : Prop := ∀ i, i < len → w.cell? ⟨b, off + i, none⟩ = some (.int .i64 (X i))

def Rel1 (r pb n : Nat) (w2 : World) (X : Nat → Int) (L M F : Nat) (v : Value) (wr : World) : Prop := ∃ i : Nat, v = .int .i64 (i : Int) ∧ i ≤ M ∧ Mid1 r pb n w2 X L M F wr i
def Rel2 (r pb n : Nat) (w2 : World) (X : Nat → Int) (L M : Nat) (v : Value) (wr : World) : Prop := ∃ i : Nat, v = .int .i64 (i : Int) ∧ i ≤ M ∧ Mid2 r pb n w2 X L M wr i

/-- The outer loop's slot and world. -/
def OutRel (r pb n : Nat) (w2 : World) (len : Nat) (v : Value) (wr : World) : Prop := ∃ L : Nat, v = .int .i64 (L : Int) ∧ L ≤ 49 ∧ L ≤ len ∧ Outer r pb n w2 wr L

set_option maxRecDepth 100000 in
set_option maxHeartbeats 4000000 in
theorem keeps_walk (a0 a2 : Int) (b off len cap : Nat) (X : Nat → Int) (w : World) (hl : Lies w b off len X) (hb : 0 < len → b < w.heap.size) (hlen : len ≤ 9223372036854775807) :
    Calls Try.prog 9 #[.int .i64 a0, .slice (some ⟨b, off, none⟩) len cap, .int .i64 a2] w fun e w' => e = .returned (.bool true) ∧ Below w.heap.size w w' := by
  obtain ⟨R, r0, r9, HR⟩ := rest_any a0 9 (by decide) (by decide)
  obtain ⟨n, hn⟩ : ∃ n : Nat, 1 + R = (n : Int) := ⟨(1 + R).toNat, by omega⟩
  have n1 : 1 ≤ n := by omega
  have n9 : n ≤ 9 := by omega
  have H0 := Lib.hid (ring_awake w)
  have H1 := Lib.hid HR
  have HN := Lib.hid (new_ring n n1 n9)
  have en := Lib.hid hn
  clear HR hn
  go_enter Try.func9, Try.ntmps9
  go_wp2_with fail
  refine H0.out.mono ?_
  rintro e w1 ⟨rfl, b1⟩
  go_wp2_with fail
  refine (H1.out _).mono ?_
  rintro e w1' ⟨rfl, rfl⟩
  go_wp2_with fail
  rw [en.out]
  refine (HN.out _).mono ?_
  rintro e w2 ⟨rfl, ry, b2, s2⟩
  have O0 : OutRel (w1.heap.size + 1) w1.heap.size n w2 len (.int .i64 0) w2 := ⟨0, rfl, by omega, by omega, _, _, ry, Near.refl _ _ _, fun _ _ => rfl⟩
  have hbw : 0 < len → b < w1.heap.size := fun h => Nat.lt_of_lt_of_le (hb h) b1.size
  have hl1 : Lies w1 b off len X := fun i hi => by
    have := hl i hi
    exact (b1.cell (p := ⟨b, off + i, none⟩) (hb (by omega))).trans this
  have hl2 : Lies w2 b off len X := fun i hi => by
    have := hl1 i hi
    exact (b2.cell (p := ⟨b, off + i, none⟩) (hbw (by omega))).trans this
  generalize hr : w1.heap.size + 1 = r at *
  generalize hp : w1.heap.size = pb at *
  have E := Lib.hid (And.intro b1 (And.intro b2 (And.intro s2 (And.intro hr (And.intro hp (And.intro hbw hl2))))))
  clear ry b1 b2 s2 hr hp hb hbw hl hl1 hl2
  go_wp2_with fail
  go_loopw [10] (fun v wr => OutRel r pb n w2 len v wr) (fun v _ => 40 - (intOf v).toNat)
  case atStart => exact O0
  case round =>
    clear O0
    obtain ⟨L, rfl, hL49, hLl, hO⟩ := hrel
    by_cases c1 : L < len
    · by_cases c2 : L < 40
      · have c2' : (L : Int) < 40 := by omega
        go_wp2_with fail

        · obtain ⟨M, hM⟩ : ∃ M : Nat, (len : Int) - (L : Int) = (M : Int) := ⟨len - L, by omega⟩
          have m1 : 1 ≤ M := by omega
          have m2 : M ≤ n := by omega
          have m3 : L + M ≤ len := by omega
          obtain ⟨R2, q0, q9, HR2⟩ := rest_any a2 (M : Int) (by omega) (by omega)
          obtain ⟨F, rfl⟩ : ∃ F : Nat, R2 = (F : Int) := ⟨R2.toNat, by omega⟩
          have hF : F < M := by omega
          have H2 := Lib.hid HR2
          rw [hM]
          clear HR2 q0 q9 hM
          refine (H2.out _).mono ?_
          rintro e wr' ⟨rfl, rfl⟩
          have I0 : Rel1 r pb n w2 X L M F (.int .i64 0) wr := ⟨0, rfl, by omega, hO.mid1 X M F⟩
          clear hO
          go_wp2_with fail
          go_loopw [13] (fun v wr => Rel1 r pb n w2 X L M F v wr) (fun v _ => M - (intOf v).toNat)
          case atStart => exact I0
          case round =>
            clear I0
            obtain ⟨i, rfl, hiM, hm1⟩ := hrel
            by_cases hi : i < M
            · obtain ⟨A, hA⟩ : ∃ A : Nat, L + (F + i) % M = A := ⟨_, rfl⟩
              have hu : (F + i) % M < M := Nat.mod_lt _ (by omega)
              have hAl : A < len := by omega
              have hat : wrap64 ((L : Int) + ((F : Int) + (i : Int)) % (M : Int)) = (A : Int) := by
                rw [← hA, show ((F : Int) + (i : Int)) % (M : Int) = (((F + i) % M : Nat) : Int) from by simp]
                unfold wrap64
                omega
              have hc : ∀ W, Near r pb w2 W → W.cell? ⟨b, off + A, none⟩ = some (.int .i64 (X A)) := fun W hW => by
                obtain ⟨_, _, e1, e2, e3, e4, e5⟩ := E.out
                have := e4 (by omega)
                exact hW.cell (by omega) (by omega) (by omega) (e5 A hAl)
              have P1 := hm1.put hi m2 (by omega) n9
              have P2 : ∀ W, Mid1 r pb n w2 X L M F W (i + 1) → Calls Try.prog 29 #[.pointer (some ⟨r, 0, none⟩), .int .i64 (A : Int), .int .i64 7] W fun e w' => e = .returned (.bool false) ∧ Mid1 r pb n w2 X L M F w' (i + 1) := fun W h => by
                have := h.again hi m2 (by omega) n9 7
                rwa [hA] at this
              have P3 : ∀ W, Mid1 r pb n w2 X L M F W (i + 1) → Calls Try.prog 31 #[.pointer (some ⟨r, 0, none⟩), .int .i64 (A : Int)] W fun e w' => e = .returned (.tuple #[.int .i64 (X A), .bool true]) ∧ Mid1 r pb n w2 X L M F w' (i + 1) := fun W h => by
                have := h.got hi m2 (by omega) n9
                rwa [hA] at this
              rw [hA] at P1
              have P4 : ∀ W, Mid1 r pb n w2 X L M F W (i + 1) → Calls Try.prog 36 #[.pointer (some ⟨r, 0, none⟩)] W fun e w' => e = .returned (.int .i64 ((i : Int) + 1)) ∧ W = w' := fun W h => h.len
              have near : ∀ W k, Mid1 r pb n w2 X L M F W k → Near r pb w2 W := fun W k ⟨_, _, _, h, _⟩ => h
              have c0 := hc wr (near wr i hm1)
              have Q := Lib.hid (And.intro P1 (And.intro P2 (And.intro P3 (And.intro P4 (And.intro hc near)))))
              clear P1 P2 P3 P4 hc near hA hu hm1
              go_wp2_with fail
              refine Q.out.1.mono ?_
              rintro e u1 ⟨rfl, k1⟩
              go_wp2_with fail
              refine (Q.out.2.1 _ k1).mono ?_
              rintro e u2 ⟨rfl, k2⟩
              go_wp2_with fail
              refine (Q.out.2.2.1 _ k2).mono ?_
              rintro e u3 ⟨rfl, k3⟩
              have c3 := Q.out.2.2.2.2.1 u3 (Q.out.2.2.2.2.2 u3 _ k3)
              go_wp2_with fail
              refine (Q.out.2.2.2.1 _ k3).mono ?_
              rintro e u4 ⟨rfl, rfl⟩
              go_wp2
              go_roundw
              case rel => exact ⟨i + 1, by go_num, by omega, k3⟩
              case measure => simp [intOf]; omega
            · have hiM' : i = M := by omega
              rw [hiM'] at hm1
              have hm2 := hm1.mid2 hF
              have I2 : Rel2 r pb n w2 X L M (.int .i64 0) wr := ⟨0, rfl, Nat.zero_le _, hm2⟩
              clear hm1 hm2 hiM'
              go_wp2_with fail
              go_loopw [17] (fun v wr => Rel2 r pb n w2 X L M v wr) (fun v _ => M - (intOf v).toNat)
              case atStart => exact I2
              case round =>
                clear I2
                obtain ⟨j, rfl, hjM, hd⟩ := hrel
                by_cases hj : j < M
                · obtain ⟨A, hA⟩ : ∃ A : Nat, L + j = A := ⟨_, rfl⟩
                  have hat : (L : Int) + (j : Int) = (A : Int) := by omega
                  have hAl : A < len := by omega
                  have hAb : A ≤ 100 := by omega
                  have hc : ∀ W, Near r pb w2 W → W.cell? ⟨b, off + A, none⟩ = some (.int .i64 (X A)) := fun W hW => by
                    obtain ⟨_, _, e1, e2, e3, e4, e5⟩ := E.out
                    have := e4 (by omega)
                    exact hW.cell (by omega) (by omega) (by omega) (e5 A hAl)
                  have P1 := hd.drop hj m2 (by omega) n9
                  rw [hA] at P1
                  have P4 : ∀ W, Mid2 r pb n w2 X L M W (j + 1) → Calls Try.prog 35 #[.pointer (some ⟨r, 0, none⟩)] W fun e w' => e = .returned (.int .i64 ((A : Int) + 1)) ∧ W = w' := fun W h => by
                    have := h.low
                    rwa [show ((L + (j + 1) : Nat) : Int) = (A : Int) + 1 from by omega] at this
                  have near : ∀ W k, Mid2 r pb n w2 X L M W k → Near r pb w2 W := fun W k ⟨_, _, _, h, _⟩ => h
                  have Q := Lib.hid (And.intro P1 (And.intro P4 (And.intro hc near)))
                  clear P1 P4 hc near hA hd
                  go_wp2_with fail
                  refine Q.out.1.mono ?_
                  rintro e u1 ⟨rfl, k1⟩
                  have c3 := Q.out.2.2.1 u1 (Q.out.2.2.2 u1 _ k1)
                  go_wp2_with fail
                  refine (Q.out.2.1 _ k1).mono ?_
                  rintro e u2 ⟨rfl, rfl⟩
                  go_wp2
                  go_roundw
                  case rel => exact ⟨j + 1, by go_num, by omega, k1⟩
                  case measure => simp [intOf]; omega
                · have hjM' : j = M := by omega
                  rw [hjM'] at hd
                  have ho := hd.outer
                  clear hd hjM'
                  go_wp2
                  go_roundw
                  case rel => exact ⟨L + M, by go_num, by omega, by omega, ho⟩
                  case measure => simp [intOf]; omega
        · have m1 : 1 ≤ n := n1
          have m2 : n ≤ n := by omega
          have m3 : L + n ≤ len := by omega
          obtain ⟨R2, q0, q9, HR2⟩ := rest_any a2 (n : Int) (by omega) (by omega)
          obtain ⟨F, rfl⟩ : ∃ F : Nat, R2 = (F : Int) := ⟨R2.toNat, by omega⟩
          have hF : F < n := by omega
          have H2 := Lib.hid HR2
          clear HR2 q0 q9
          refine (H2.out _).mono ?_
          rintro e wr' ⟨rfl, rfl⟩
          have I0 : Rel1 r pb n w2 X L n F (.int .i64 0) wr := ⟨0, rfl, by omega, hO.mid1 X n F⟩
          clear hO
          go_wp2_with fail
          go_loopw [13] (fun v wr => Rel1 r pb n w2 X L n F v wr) (fun v _ => n - (intOf v).toNat)
          case atStart => exact I0
          case round =>
            clear I0
            obtain ⟨i, rfl, hiM, hm1⟩ := hrel
            by_cases hi : i < n
            · obtain ⟨A, hA⟩ : ∃ A : Nat, L + (F + i) % n = A := ⟨_, rfl⟩
              have hu : (F + i) % n < n := Nat.mod_lt _ (by omega)
              have hAl : A < len := by omega
              have hat : wrap64 ((L : Int) + ((F : Int) + (i : Int)) % (n : Int)) = (A : Int) := by
                rw [← hA, show ((F : Int) + (i : Int)) % (n : Int) = (((F + i) % n : Nat) : Int) from by simp]
                unfold wrap64
                omega
              have hc : ∀ W, Near r pb w2 W → W.cell? ⟨b, off + A, none⟩ = some (.int .i64 (X A)) := fun W hW => by
                obtain ⟨_, _, e1, e2, e3, e4, e5⟩ := E.out
                have := e4 (by omega)
                exact hW.cell (by omega) (by omega) (by omega) (e5 A hAl)
              have P1 := hm1.put hi m2 (by omega) n9
              have P2 : ∀ W, Mid1 r pb n w2 X L n F W (i + 1) → Calls Try.prog 29 #[.pointer (some ⟨r, 0, none⟩), .int .i64 (A : Int), .int .i64 7] W fun e w' => e = .returned (.bool false) ∧ Mid1 r pb n w2 X L n F w' (i + 1) := fun W h => by
                have := h.again hi m2 (by omega) n9 7
                rwa [hA] at this
              have P3 : ∀ W, Mid1 r pb n w2 X L n F W (i + 1) → Calls Try.prog 31 #[.pointer (some ⟨r, 0, none⟩), .int .i64 (A : Int)] W fun e w' => e = .returned (.tuple #[.int .i64 (X A), .bool true]) ∧ Mid1 r pb n w2 X L n F w' (i + 1) := fun W h => by
                have := h.got hi m2 (by omega) n9
                rwa [hA] at this
              rw [hA] at P1
              have P4 : ∀ W, Mid1 r pb n w2 X L n F W (i + 1) → Calls Try.prog 36 #[.pointer (some ⟨r, 0, none⟩)] W fun e w' => e = .returned (.int .i64 ((i : Int) + 1)) ∧ W = w' := fun W h => h.len
              have near : ∀ W k, Mid1 r pb n w2 X L n F W k → Near r pb w2 W := fun W k ⟨_, _, _, h, _⟩ => h
              have c0 := hc wr (near wr i hm1)
              have Q := Lib.hid (And.intro P1 (And.intro P2 (And.intro P3 (And.intro P4 (And.intro hc near)))))
              clear P1 P2 P3 P4 hc near hA hu hm1
              go_wp2_with fail
              refine Q.out.1.mono ?_
              rintro e u1 ⟨rfl, k1⟩
              go_wp2_with fail
              refine (Q.out.2.1 _ k1).mono ?_
              rintro e u2 ⟨rfl, k2⟩
              go_wp2_with fail
              refine (Q.out.2.2.1 _ k2).mono ?_
              rintro e u3 ⟨rfl, k3⟩
              have c3 := Q.out.2.2.2.2.1 u3 (Q.out.2.2.2.2.2 u3 _ k3)
              go_wp2_with fail
              refine (Q.out.2.2.2.1 _ k3).mono ?_
              rintro e u4 ⟨rfl, rfl⟩
              go_wp2
              go_roundw
              case rel => exact ⟨i + 1, by go_num, by omega, k3⟩
              case measure => simp [intOf]; omega
            · have hiM' : i = n := by omega
              rw [hiM'] at hm1
              have hm2 := hm1.mid2 hF
              have I2 : Rel2 r pb n w2 X L n (.int .i64 0) wr := ⟨0, rfl, Nat.zero_le _, hm2⟩
              clear hm1 hm2 hiM'
              go_wp2_with fail
              go_loopw [17] (fun v wr => Rel2 r pb n w2 X L n v wr) (fun v _ => n - (intOf v).toNat)
              case atStart => exact I2
              case round =>
                clear I2
                obtain ⟨j, rfl, hjM, hd⟩ := hrel
                by_cases hj : j < n
                · obtain ⟨A, hA⟩ : ∃ A : Nat, L + j = A := ⟨_, rfl⟩
                  have hat : (L : Int) + (j : Int) = (A : Int) := by omega
                  have hAl : A < len := by omega
                  have hAb : A ≤ 100 := by omega
                  have hc : ∀ W, Near r pb w2 W → W.cell? ⟨b, off + A, none⟩ = some (.int .i64 (X A)) := fun W hW => by
                    obtain ⟨_, _, e1, e2, e3, e4, e5⟩ := E.out
                    have := e4 (by omega)
                    exact hW.cell (by omega) (by omega) (by omega) (e5 A hAl)
                  have P1 := hd.drop hj m2 (by omega) n9
                  rw [hA] at P1
                  have P4 : ∀ W, Mid2 r pb n w2 X L n W (j + 1) → Calls Try.prog 35 #[.pointer (some ⟨r, 0, none⟩)] W fun e w' => e = .returned (.int .i64 ((A : Int) + 1)) ∧ W = w' := fun W h => by
                    have := h.low
                    rwa [show ((L + (j + 1) : Nat) : Int) = (A : Int) + 1 from by omega] at this
                  have near : ∀ W k, Mid2 r pb n w2 X L n W k → Near r pb w2 W := fun W k ⟨_, _, _, h, _⟩ => h
                  have Q := Lib.hid (And.intro P1 (And.intro P4 (And.intro hc near)))
                  clear P1 P4 hc near hA hd
                  go_wp2_with fail
                  refine Q.out.1.mono ?_
                  rintro e u1 ⟨rfl, k1⟩
                  have c3 := Q.out.2.2.1 u1 (Q.out.2.2.2 u1 _ k1)
                  go_wp2_with fail
                  refine (Q.out.2.1 _ k1).mono ?_
                  rintro e u2 ⟨rfl, rfl⟩
                  go_wp2
                  go_roundw
                  case rel => exact ⟨j + 1, by go_num, by omega, k1⟩
                  case measure => simp [intOf]; omega
                · have hjM' : j = n := by omega
                  rw [hjM'] at hd
                  have ho := hd.outer
                  clear hd hjM'
                  go_wp2
                  go_roundw
                  case rel => exact ⟨L + n, by go_num, by omega, by omega, ho⟩
                  case measure => simp [intOf]; omega
      · have c2' : ¬ (L : Int) < 40 := by omega
        have P1 := hO.drop (by omega) n9 n1
        have P2 : ∀ W, Outer r pb n w2 W L → Calls Try.prog 36 #[.pointer (some ⟨r, 0, none⟩)] W fun e w' => e = .returned (.int .i64 0) ∧ W = w' := fun W h => h.len
        have Q := Lib.hid (And.intro P1 P2)
        clear P1 P2 hO
        go_wp2_with fail
        refine Q.out.1.mono ?_
        rintro e u1 ⟨rfl, k1⟩
        go_wp2_with fail
        refine (Q.out.2 _ k1).mono ?_
        rintro e u2 ⟨rfl, rfl⟩
        go_wp2
        go_ret
        refine ⟨rfl, ?_⟩
        obtain ⟨_, _, _, hn, _⟩ := k1
        obtain ⟨e1, e2, e3, e4, e5, _, _⟩ := E.out
        exact (e1.trans (e2.mono (by have := e1.size; omega))).trans (hn.below (by have := e1.size; omega) (by have := e1.size; omega) (by have := e1.size; omega))
    · have P1 := hO.drop (by omega) n9 n1
      have P2 : ∀ W, Outer r pb n w2 W L → Calls Try.prog 36 #[.pointer (some ⟨r, 0, none⟩)] W fun e w' => e = .returned (.int .i64 0) ∧ W = w' := fun W h => h.len
      have Q := Lib.hid (And.intro P1 P2)
      clear P1 P2 hO
      go_wp2_with fail
      refine Q.out.1.mono ?_
      rintro e u1 ⟨rfl, k1⟩
      go_wp2_with fail
      refine (Q.out.2 _ k1).mono ?_
      rintro e u2 ⟨rfl, rfl⟩
      go_wp2
      go_ret
      refine ⟨rfl, ?_⟩
      obtain ⟨_, _, _, hn, _⟩ := k1
      obtain ⟨e1, e2, e3, e4, e5, _, _⟩ := E.out
      exact (e1.trans (e2.mono (by have := e1.size; omega))).trans (hn.below (by have := e1.size; omega) (by have := e1.size; omega) (by have := e1.size; omega))
set_option maxRecDepth 100000 in
set_option maxHeartbeats 1000000 in
theorem keeps_none (a0 a2 : Int) (a1 : Option Addr) (cap : Nat) (w : World) :
    Calls Try.prog 9 #[.int .i64 a0, .slice a1 0 cap, .int .i64 a2] w fun e w' => e = .returned (.bool true) ∧ Below w.heap.size w w' := by
  obtain ⟨R, r0, r9, HR⟩ := rest_any a0 9 (by decide) (by decide)
  obtain ⟨n, hn⟩ : ∃ n : Nat, 1 + R = (n : Int) := ⟨(1 + R).toNat, by omega⟩
  have n1 : 1 ≤ n := by omega
  have n9 : n ≤ 9 := by omega
  have H0 := Lib.hid (ring_awake w)
  have H1 := Lib.hid HR
  have HN := Lib.hid (new_ring n n1 n9)
  have en := Lib.hid hn
  clear HR hn
  go_enter Try.func9, Try.ntmps9
  go_wp2_with fail
  refine H0.out.mono ?_
  rintro e w1 ⟨rfl, b1⟩
  go_wp2_with fail
  refine (H1.out _).mono ?_
  rintro e w1' ⟨rfl, rfl⟩
  go_wp2_with fail
  rw [en.out]
  refine (HN.out _).mono ?_
  rintro e w2 ⟨rfl, ry, b2, s2⟩
  have hO : Outer (w1.heap.size + 1) w1.heap.size n w2 w2 0 := ⟨_, _, ry, Near.refl _ _ _, fun _ _ => rfl⟩
  have P1 := hO.drop (by omega) n9 n1
  have P2 : ∀ W, Outer (w1.heap.size + 1) w1.heap.size n w2 W 0 → Calls Try.prog 36 #[.pointer (some ⟨w1.heap.size + 1, 0, none⟩)] W fun e w' => e = .returned (.int .i64 0) ∧ W = w' := fun W h => h.len
  have Q := Lib.hid (And.intro P1 (And.intro P2 (And.intro b1 (And.intro b2 s2))))
  clear P1 P2 hO ry b1 b2 s2
  go_wp2_with fail
  refine wp_loop_rounds 1 ?_
  rw [rounds_succ]
  go_wp2_with fail
  refine Q.out.1.mono ?_
  rintro e u1 ⟨rfl, k1⟩
  go_wp2_with fail
  refine (Q.out.2.1 _ k1).mono ?_
  rintro e u2 ⟨rfl, rfl⟩
  go_wp2
  go_ret
  refine ⟨rfl, ?_⟩
  obtain ⟨_, _, _, hn, _⟩ := k1
  obtain ⟨_, _, b1, b2, s2⟩ := Q.out
  exact (b1.trans (b2.mono b1.size)).trans (hn.below (by have := b1.size; omega) b1.size (by have := b1.size; omega))
end Go.Proofs.Ytjfbjkgppnhaoaa
