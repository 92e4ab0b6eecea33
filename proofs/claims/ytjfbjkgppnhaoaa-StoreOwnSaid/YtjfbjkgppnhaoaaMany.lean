/-
  How many slots of a store are used, and held.
-/
import Derived.Test.YtjfbjkgppnhaoaaTake
namespace Go.Proofs.Ytjfbjkgppnhaoaa
open Go.ChangeShapes Go.WideShapes Go.ChangeAt Go.RowKit
set_option linter.unusedVariables false

/-- How many of the first k have it. -/
def cntB (p : Nat → Bool) : Nat → Nat
  | 0 => 0
  | k + 1 => cntB p k + (if p k then 1 else 0)
theorem cntB_le (p : Nat → Bool) (k : Nat) : cntB p k ≤ k := by
  induction k with
  | zero => exact Nat.le_refl _
  | succ k ih => unfold cntB; split <;> omega

theorem cl_used (e0 e1 e2 e3 e4 e5 c g : Int) (u : Bool) (w : World) : Calls Try.prog 74 #[.agg #[.int .i64 e0, .int .i64 e1, .int .i64 e2, .int .i64 e3, .int .i64 e4, .int .i64 e5, .bool u, .int .i64 c, .int .i64 g]] w fun e w' => e = .returned (.bool u) ∧ w' = w.alloc (.cells #[.int .i64 e0, .int .i64 e1, .int .i64 e2, .int .i64 e3, .int .i64 e4, .int .i64 e5, .bool u, .int .i64 c, .int .i64 g] 145) := by
  go_enter Try.func74, Try.ntmps74
  go_wp2
  go_ret
  exact ⟨rfl, rfl⟩
theorem cl_live (e0 e1 e2 e3 e4 e5 c g : Int) (u : Bool) (w : World) : Calls Try.prog 75 #[.agg #[.int .i64 e0, .int .i64 e1, .int .i64 e2, .int .i64 e3, .int .i64 e4, .int .i64 e5, .bool u, .int .i64 c, .int .i64 g]] w fun e w' => e = .returned (.bool (decide (0 < c))) ∧ w' = w.alloc (.cells #[.int .i64 e0, .int .i64 e1, .int .i64 e2, .int .i64 e3, .int .i64 e4, .int .i64 e5, .bool u, .int .i64 c, .int .i64 g] 145) := by
  go_enter Try.func75, Try.ntmps75
  go_wp2
  go_ret
  exact ⟨rfl, rfl⟩

def ManyRel (p : Nat → Bool) (w : World) (s sb n : Nat) (ev : Nat → Nat → Int) (used : Nat → Bool) (count gen : Nat → Int) (v5 v11 : Value) (wr : World) : Prop :=
  ∃ i : Nat, v11 = .int .i64 (i : Int) ∧ v5 = .int .i64 (cntB p i : Int) ∧ i ≤ n ∧ Storey wr s sb n ev used count gen ∧ Near sb sb w wr

section
variable {w : World} {s sb n : Nat} {ev : Nat → Nat → Int} {used : Nat → Bool} {count gen : Nat → Int}

set_option maxRecDepth 100000 in
set_option maxHeartbeats 1000000 in
theorem Storey.many_used (h : Storey w s sb n ev used count gen) (hb : n ≤ 4096) :
    Calls Try.prog 73 #[.pointer (some ⟨s, 0, none⟩), .func (.func 74) #[] #[]] w fun e w' => e = .returned (.int .i64 (cntB used n : Int)) ∧ Storey w' s sb n ev used count gen ∧ Near sb sb w w' := by
  have hr := Lib.hid h.row
  have R0 : ManyRel used w s sb n ev used count gen (.int .i64 0) (.int .i64 0) w := ⟨0, rfl, rfl, Nat.zero_le _, h, Near.refl _ _ _⟩
  clear h
  go_enter Try.func73, Try.ntmps73
  go_wp2_with fail
  refine hr.out.mono ?_
  rintro e w1 ⟨rfl, rfl⟩
  go_wp2_with fail
  go_loopw [5, 11] (fun v i wr => ManyRel used w s sb n ev used count gen v i wr) (fun _ i _ => n - (intOf i).toNat)
  case atStart => exact R0
  case round =>
    clear R0
    obtain ⟨i, rfl, rfl, hi, hs, hn⟩ := hrel
    have hc := cntB_le used i
    have E := Lib.hid (And.intro hs hn)
    by_cases hin : i < n
    · have ce := hs.ce i hin
      have g0 : wr.cell? ⟨sb, i * 9, none⟩ = some (.int .i64 (ev i 0)) := ce 0 (by decide)
      have g1 := ce 1 (by decide)
      have g2 := ce 2 (by decide)
      have g3 := ce 3 (by decide)
      have g4 := ce 4 (by decide)
      have g5 := ce 5 (by decide)
      have g6 := hs.cu i hin
      have g7 := hs.cc i hin
      have g8 := hs.cg i hin
      have CL := Lib.hid (cl_used (ev i 0) (ev i 1) (ev i 2) (ev i 3) (ev i 4) (ev i 5) (count i) (gen i) (used i))
      have HS : Hid (cntB used (i + 1) = cntB used i + (if used i then 1 else 0)) := rfl
      clear ce hs hn
      generalize cntB used i = m at hc HS ⊢
      generalize ev i 0 = v0 at g0 CL
      generalize ev i 1 = v1 at g1 CL
      generalize ev i 2 = v2 at g2 CL
      generalize ev i 3 = v3 at g3 CL
      generalize ev i 4 = v4 at g4 CL
      generalize ev i 5 = v5 at g5 CL
      generalize gen i = gg at g8 CL
      generalize used i = u at g6 CL HS
      generalize count i = c at g7 CL
      cases u with
      | true =>
        have H2 := Lib.hid (show cntB used (i + 1) = m + 1 from by simpa using HS.out)
        clear HS
        go_wp2_with fail
        refine (CL.out _).mono ?_
        rintro e w2 ⟨rfl, rfl⟩
        go_wp2
        go_roundw
        case rel => exact ⟨i + 1, by go_num, by rw [H2.out]; try go_num, by omega, (E.out.1.alloc _).alloc _, (E.out.2.alloc _).alloc _⟩
        case measure => simp [intOf]; omega
      | false =>
        have H2 := Lib.hid (show cntB used (i + 1) = m from by simpa using HS.out)
        clear HS
        go_wp2_with fail
        refine (CL.out _).mono ?_
        rintro e w2 ⟨rfl, rfl⟩
        go_wp2
        go_roundw
        case rel => exact ⟨i + 1, by go_num, by rw [H2.out]; try go_num, by omega, (E.out.1.alloc _).alloc _, (E.out.2.alloc _).alloc _⟩
        case measure => simp [intOf]; omega
    · obtain rfl : i = n := by omega
      clear hs hn
      go_wp2
      go_ret
      exact ⟨rfl, E.out.1, E.out.2⟩

theorem Storey.used_is (h : Storey w s sb n ev used count gen) (hb : n ≤ 4096) :
    Calls Try.prog 45 #[.pointer (some ⟨s, 0, none⟩)] w fun e w' => e = .returned (.int .i64 (cntB used n : Int)) ∧ Storey w' s sb n ev used count gen ∧ Near sb sb w w' := by
  have H := Lib.hid (h.many_used hb)
  clear h
  go_enter Try.func45, Try.ntmps45
  go_wp2_with fail
  refine H.out.mono ?_
  rintro e w1 ⟨rfl, h1, n1⟩
  have E := Lib.hid (And.intro h1 n1)
  clear h1 n1
  go_wp2
  go_ret
  exact ⟨rfl, E.out.1, E.out.2⟩

set_option maxRecDepth 100000 in
set_option maxHeartbeats 1000000 in
theorem Storey.many_live (h : Storey w s sb n ev used count gen) (hb : n ≤ 4096) :
    Calls Try.prog 73 #[.pointer (some ⟨s, 0, none⟩), .func (.func 75) #[] #[]] w fun e w' => e = .returned (.int .i64 (cntB (fun k => decide (0 < count k)) n : Int)) ∧ Storey w' s sb n ev used count gen ∧ Near sb sb w w' := by
  have hr := Lib.hid h.row
  have R0 : ManyRel (fun k => decide (0 < count k)) w s sb n ev used count gen (.int .i64 0) (.int .i64 0) w := ⟨0, rfl, rfl, Nat.zero_le _, h, Near.refl _ _ _⟩
  clear h
  go_enter Try.func73, Try.ntmps73
  go_wp2_with fail
  refine hr.out.mono ?_
  rintro e w1 ⟨rfl, rfl⟩
  go_wp2_with fail
  go_loopw [5, 11] (fun v i wr => ManyRel (fun k => decide (0 < count k)) w s sb n ev used count gen v i wr) (fun _ i _ => n - (intOf i).toNat)
  case atStart => exact R0
  case round =>
    clear R0
    obtain ⟨i, rfl, rfl, hi, hs, hn⟩ := hrel
    have hc := cntB_le (fun k => decide (0 < count k)) i
    have E := Lib.hid (And.intro hs hn)
    by_cases hin : i < n
    · have ce := hs.ce i hin
      have g0 : wr.cell? ⟨sb, i * 9, none⟩ = some (.int .i64 (ev i 0)) := ce 0 (by decide)
      have g1 := ce 1 (by decide)
      have g2 := ce 2 (by decide)
      have g3 := ce 3 (by decide)
      have g4 := ce 4 (by decide)
      have g5 := ce 5 (by decide)
      have g6 := hs.cu i hin
      have g7 := hs.cc i hin
      have g8 := hs.cg i hin
      have CL := Lib.hid (cl_live (ev i 0) (ev i 1) (ev i 2) (ev i 3) (ev i 4) (ev i 5) (count i) (gen i) (used i))
      have HS : Hid (cntB (fun k => decide (0 < count k)) (i + 1) = cntB (fun k => decide (0 < count k)) i + (if decide (0 < count i) then 1 else 0)) := rfl
      clear ce hs hn
      generalize cntB (fun k => decide (0 < count k)) i = m at hc HS ⊢
      generalize ev i 0 = v0 at g0 CL
      generalize ev i 1 = v1 at g1 CL
      generalize ev i 2 = v2 at g2 CL
      generalize ev i 3 = v3 at g3 CL
      generalize ev i 4 = v4 at g4 CL
      generalize ev i 5 = v5 at g5 CL
      generalize gen i = gg at g8 CL
      generalize used i = u0 at g6 CL
      generalize count i = c at g7 CL HS
      generalize decide (0 < c) = u at CL HS
      cases u with
      | true =>
        have H2 := Lib.hid (show cntB (fun k => decide (0 < count k)) (i + 1) = m + 1 from by simpa using HS.out)
        clear HS
        go_wp2_with fail
        refine (CL.out _).mono ?_
        rintro e w2 ⟨rfl, rfl⟩
        go_wp2
        go_roundw
        case rel => exact ⟨i + 1, by go_num, by rw [H2.out]; try go_num, by omega, (E.out.1.alloc _).alloc _, (E.out.2.alloc _).alloc _⟩
        case measure => simp [intOf]; omega
      | false =>
        have H2 := Lib.hid (show cntB (fun k => decide (0 < count k)) (i + 1) = m from by simpa using HS.out)
        clear HS
        go_wp2_with fail
        refine (CL.out _).mono ?_
        rintro e w2 ⟨rfl, rfl⟩
        go_wp2
        go_roundw
        case rel => exact ⟨i + 1, by go_num, by rw [H2.out]; try go_num, by omega, (E.out.1.alloc _).alloc _, (E.out.2.alloc _).alloc _⟩
        case measure => simp [intOf]; omega
    · obtain rfl : i = n := by omega
      clear hs hn
      go_wp2
      go_ret
      exact ⟨rfl, E.out.1, E.out.2⟩

theorem Storey.live_is (h : Storey w s sb n ev used count gen) (hb : n ≤ 4096) :
    Calls Try.prog 46 #[.pointer (some ⟨s, 0, none⟩)] w fun e w' => e = .returned (.int .i64 (cntB (fun k => decide (0 < count k)) n : Int)) ∧ Storey w' s sb n ev used count gen ∧ Near sb sb w w' := by
  have H := Lib.hid (h.many_live hb)
  clear h
  go_enter Try.func46, Try.ntmps46
  go_wp2_with fail
  refine H.out.mono ?_
  rintro e w1 ⟨rfl, h1, n1⟩
  have E := Lib.hid (And.intro h1 n1)
  clear h1 n1
  go_wp2
  go_ret
  exact ⟨rfl, E.out.1, E.out.2⟩
end
end Go.Proofs.Ytjfbjkgppnhaoaa
