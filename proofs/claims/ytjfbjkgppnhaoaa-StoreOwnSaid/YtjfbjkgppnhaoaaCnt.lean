/-
  What StoreCounts goes by: two slots, of which one has a count that is told.
-/
import Derived.Test.YtjfbjkgppnhaoaaStoreAwake
namespace Go.Proofs.Ytjfbjkgppnhaoaa
open Go.ChangeShapes Go.WideShapes Go.ChangeAt Go.RowKit
set_option linter.unusedVariables false

theorem rest_store (x n : Int) (hn : 1 ≤ n) (hb : n ≤ 1000000) : ∃ R : Int, 0 ≤ R ∧ R < n ∧ ∀ w, Calls Try.prog 38 #[.int .i64 x, .int .i64 n] w fun e w' => e = .returned (.int .i64 R) ∧ w = w' := by
  have t1 : -n < x.tmod n := Int.lt_tmod_of_pos x (by omega)
  have t2 : x.tmod n < n := Int.tmod_lt_of_pos x (by omega)
  obtain ⟨y, hy⟩ : ∃ y, x.tmod n = y := ⟨_, rfl⟩
  rw [hy] at t1 t2
  have e1 : wrap64 (y + n) = y + n := by unfold wrap64; omega
  have e2 : (y + n).tmod n = (y + n) % n := Int.tmod_eq_emod_of_nonneg (by omega)
  refine ⟨y % n, Int.emod_nonneg _ (by omega), Int.emod_lt_of_pos _ (by omega), fun w => ?_⟩
  have nz : (n == 0) = false := by simp; omega
  have nn : ¬ n = 0 := by omega
  clear hb hn
  go_enter Try.func38, Try.ntmps38
  go_wp2
  go_ret
  exact ⟨rfl, rfl⟩

/-- Two slots are used, of which the first one has the count c; and both refs lie in boxes. -/
structure Cnt (s sb bR bO : Nat) (wL : World) (c : Int) (wr : World) : Prop where
  st : ∃ ev used count gen, Storey wr s sb 2 ev used count gen ∧ used 0 = true ∧ used 1 = true ∧ count 0 = c ∧ count 1 = 1 ∧ gen 0 = 0 ∧ gen 1 = 0
  near : Near sb sb wL wr
  r0 : wr.cell? ⟨bR, 0, none⟩ = some (.int .i64 0)
  r1 : wr.cell? ⟨bR, 1, none⟩ = some (.int .i64 0)
  o0 : wr.cell? ⟨bO, 0, none⟩ = some (.int .i64 1)
  o1 : wr.cell? ⟨bO, 1, none⟩ = some (.int .i64 0)
  nr : bR ≠ sb
  no : bO ≠ sb

section
variable {s sb bR bO : Nat} {wL wr : World} {c : Int}

theorem Cnt.on (h : Cnt s sb bR bO wL c wr) {w' : World} {c' : Int} (hn : Near sb sb wr w') (hs : ∃ ev used count gen, Storey w' s sb 2 ev used count gen ∧ used 0 = true ∧ used 1 = true ∧ count 0 = c' ∧ count 1 = 1 ∧ gen 0 = 0 ∧ gen 1 = 0) : Cnt s sb bR bO wL c' w' :=
  ⟨hs, h.near.trans hn, hn.cell1 h.nr h.nr h.r0, hn.cell1 h.nr h.nr h.r1, hn.cell1 h.no h.no h.o0, hn.cell1 h.no h.no h.o1, h.nr, h.no⟩

theorem Cnt.add_yes (h : Cnt s sb bR bO wL c wr) (y c2 : Int) (hp : 0 < c) (hb : c ≤ 1000) (hy : y ≤ 1000) (e : c + y = c2) (h2 : 0 ≤ c2) :
    Calls Try.prog 42 #[.pointer (some ⟨s, 0, none⟩), .agg #[.int .i64 0, .int .i64 0], .int .i64 y] wr fun e w' => e = .returned (.tuple #[.int .i64 c2, .bool true]) ∧ Cnt s sb bR bO wL c2 w' := by
  subst e
  obtain ⟨ev, used, count, gen, hs, u0, u1, c0, c1, g0, g1⟩ := h.st
  have K := hs.add_yes (S := 0) (G := 0) ⟨by decide, by decide, u0, g0⟩ y c c0 hp (by omega) h2 (by omega)
  exact K.mono fun e w' ⟨a, b, n⟩ => ⟨a, h.on n ⟨ev, used, _, gen, b, u0, u1, upd_at _ _ _, (upd_off _ _ (by decide)).trans c1, g0, g1⟩⟩
theorem Cnt.add_under (h : Cnt s sb bR bO wL c wr) (y : Int) (hp : 0 < c) (hb : c ≤ 1000) (h2 : c + y < 0) :
    Calls Try.prog 42 #[.pointer (some ⟨s, 0, none⟩), .agg #[.int .i64 0, .int .i64 0], .int .i64 y] wr fun e w' => e = .returned (.tuple #[.int .i64 0, .bool false]) ∧ Cnt s sb bR bO wL c w' := by
  obtain ⟨ev, used, count, gen, hs, u0, u1, c0, c1, g0, g1⟩ := h.st
  have K := hs.add_under (S := 0) (G := 0) ⟨by decide, by decide, u0, g0⟩ y c c0 hp (by omega) h2
  exact K.mono fun e w' ⟨a, b, n⟩ => ⟨a, h.on n ⟨ev, used, _, gen, b, u0, u1, c0, c1, g0, g1⟩⟩
theorem Cnt.add_dead (h : Cnt s sb bR bO wL 0 wr) (y : Int) :
    Calls Try.prog 42 #[.pointer (some ⟨s, 0, none⟩), .agg #[.int .i64 0, .int .i64 0], .int .i64 y] wr fun e w' => e = .returned (.tuple #[.int .i64 0, .bool false]) ∧ Cnt s sb bR bO wL 0 w' := by
  obtain ⟨ev, used, count, gen, hs, u0, u1, c0, c1, g0, g1⟩ := h.st
  have K := hs.add_dead (S := 0) (G := 0) ⟨by decide, by decide, u0, g0⟩ y c0
  exact K.mono fun e w' ⟨a, b, n⟩ => ⟨a, h.on n ⟨ev, used, _, gen, b, u0, u1, c0, c1, g0, g1⟩⟩
theorem Cnt.count0 (h : Cnt s sb bR bO wL c wr) :
    Calls Try.prog 44 #[.pointer (some ⟨s, 0, none⟩), .agg #[.int .i64 0, .int .i64 0]] wr fun e w' => e = .returned (.int .i64 c) ∧ Cnt s sb bR bO wL c w' := by
  obtain ⟨ev, used, count, gen, hs, u0, u1, c0, c1, g0, g1⟩ := h.st
  have K := hs.count_is (S := 0) (G := 0) ⟨by decide, by decide, u0, g0⟩
  rw [c0] at K
  exact K.mono fun e w' ⟨a, b, n⟩ => ⟨a, h.on n ⟨ev, used, _, gen, b, u0, u1, c0, c1, g0, g1⟩⟩
theorem Cnt.count1 (h : Cnt s sb bR bO wL c wr) :
    Calls Try.prog 44 #[.pointer (some ⟨s, 0, none⟩), .agg #[.int .i64 1, .int .i64 0]] wr fun e w' => e = .returned (.int .i64 1) ∧ Cnt s sb bR bO wL c w' := by
  obtain ⟨ev, used, count, gen, hs, u0, u1, c0, c1, g0, g1⟩ := h.st
  have K := hs.count_is (S := 1) (G := 0) ⟨by decide, by decide, u1, g1⟩
  rw [c1] at K
  exact K.mono fun e w' ⟨a, b, n⟩ => ⟨a, h.on n ⟨ev, used, _, gen, b, u0, u1, c0, c1, g0, g1⟩⟩
theorem Cnt.used (h : Cnt s sb bR bO wL c wr) :
    Calls Try.prog 45 #[.pointer (some ⟨s, 0, none⟩)] wr fun e w' => e = .returned (.int .i64 2) ∧ Cnt s sb bR bO wL c w' := by
  obtain ⟨ev, used, count, gen, hs, u0, u1, c0, c1, g0, g1⟩ := h.st
  have K := hs.used_is (by decide)
  rw [show cntB used 2 = 2 from by simp [cntB, u0, u1]] at K
  exact K.mono fun e w' ⟨a, b, n⟩ => ⟨a, h.on n ⟨ev, used, _, gen, b, u0, u1, c0, c1, g0, g1⟩⟩
theorem Cnt.free (h : Cnt s sb bR bO wL c wr) (hp : 0 < c) :
    Calls Try.prog 41 #[.pointer (some ⟨s, 0, none⟩), .agg #[.int .i64 0, .int .i64 0]] wr fun e w' => e = .returned (.bool false) ∧ Cnt s sb bR bO wL c w' := by
  obtain ⟨ev, used, count, gen, hs, u0, u1, c0, c1, g0, g1⟩ := h.st
  have K := hs.free_live (S := 0) (G := 0) ⟨by decide, by decide, u0, g0⟩ (by omega)
  exact K.mono fun e w' ⟨a, b, n⟩ => ⟨a, h.on n ⟨ev, used, _, gen, b, u0, u1, c0, c1, g0, g1⟩⟩
theorem Cnt.live2 (h : Cnt s sb bR bO wL c wr) (hp : 0 < c) :
    Calls Try.prog 46 #[.pointer (some ⟨s, 0, none⟩)] wr fun e w' => e = .returned (.int .i64 2) ∧ Cnt s sb bR bO wL c w' := by
  obtain ⟨ev, used, count, gen, hs, u0, u1, c0, c1, g0, g1⟩ := h.st
  have K := hs.live_is (by decide)
  rw [show cntB (fun k => decide (0 < count k)) 2 = 2 from by simp [cntB, c0, c1, hp]] at K
  exact K.mono fun e w' ⟨a, b, n⟩ => ⟨a, h.on n ⟨ev, used, _, gen, b, u0, u1, c0, c1, g0, g1⟩⟩
theorem Cnt.live1 (h : Cnt s sb bR bO wL 0 wr) :
    Calls Try.prog 46 #[.pointer (some ⟨s, 0, none⟩)] wr fun e w' => e = .returned (.int .i64 1) ∧ Cnt s sb bR bO wL 0 w' := by
  obtain ⟨ev, used, count, gen, hs, u0, u1, c0, c1, g0, g1⟩ := h.st
  have K := hs.live_is (by decide)
  rw [show cntB (fun k => decide (0 < count k)) 2 = 1 from by simp [cntB, c0, c1]] at K
  exact K.mono fun e w' ⟨a, b, n⟩ => ⟨a, h.on n ⟨ev, used, _, gen, b, u0, u1, c0, c1, g0, g1⟩⟩
end
end Go.Proofs.Ytjfbjkgppnhaoaa
