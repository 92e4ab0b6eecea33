/-
  Are two slices of refs the same, and what is left of a number: contracts for the walks of the statements of layer 12.
-/
import Derived.Test.YtibmimdlgbhdnaaRipe2
namespace Go.Proofs.Ytibmimdlgbhdnaa
open Go.ChangeShapes Go.WideShapes Go.ChangeAt Go.RowKit
set_option linter.unusedVariables false

theorem cells2_len : ∀ (l : List (Int × Int)), (cells2 l).length = l.length * 2
  | [] => rfl
  | y :: l => by simp [cells2, cells2_len l]; omega
theorem own2_at {w : World} {b k : Nat} {v : Value} {l : List (Int × Int)} {q : Int × Int} (h : w.ownsRow b 51 2 v l.length (cells2 l)) (hk : l[k]? = some q) :
    ∃ g cap, v = .slice (some ⟨g, 0, none⟩) l.length cap ∧ w.cell? ⟨g, k * 2, none⟩ = some (.int .i64 q.1) ∧ w.cell? ⟨g, k * 2 + 1, none⟩ = some (.int .i64 q.2) := by
  have hl := (List.getElem?_eq_some_iff.1 hk).1
  obtain ⟨a, b⟩ := cells2_at l k q hk
  rcases h.2 with ⟨_, e⟩ | ⟨g, cap, cur, rfl, _⟩
  · omega
  · exact ⟨g, cap, rfl, (h.cellAt (k * 2) (by omega)).trans a, (h.cellAt (k * 2 + 1) (by omega)).trans b⟩

def SameRel (w : World) (l m : List (Int × Int)) (gh : Nat) (v : Value) (wr : World) : Prop := ∃ k : Nat, v = .int .i64 (k : Int) ∧ k ≤ l.length ∧ gh = l.length - k ∧ (∀ j, j < k → l[j]? = m[j]?) ∧ Turn (fun _ => False) w wr

theorem same_len (w : World) (a1 a2 : Option Addr) (n1 n2 c1 c2 : Nat) (h : n1 ≠ n2) : Calls Try.prog 39 #[.slice a1 n1 c1, .slice a2 n2 c2] w fun e w' => e = .returned (.bool false) ∧ w = w' := by
  have hne : ((n1 : Int) != (n2 : Int)) = true := by simp; omega
  go_enter Try.func39, Try.ntmps39
  go_wp2
  go_ret
  exact ⟨rfl, rfl⟩

set_option maxHeartbeats 1000000 in
theorem same_any {w : World} {b1 b2 N : Nat} {v1 v2 : Value} {l m : List (Int × Int)} (h1 : w.ownsRow b1 51 2 v1 l.length (cells2 l)) (h2 : w.ownsRow b2 51 2 v2 m.length (cells2 m)) (hl : l.length = N) (hm : m.length = N) (hs : N ≤ 1000000) :
    Calls Try.prog 39 #[v1, v2] w fun e w' => e = .returned (.bool (decide (l = m))) ∧ Turn (fun _ => False) w w' := by
  obtain ⟨a1, c1, rfl, _⟩ := own_slice h1
  obtain ⟨a2, c2, rfl, _⟩ := own_slice h2
  have O := Lib.hid (And.intro h1 (And.intro h2 (And.intro hl hm)))
  have R0 : SameRel w l m N (.int .i64 0) w := ⟨0, rfl, Nat.zero_le _, by rw [hl]; rfl, fun j hj => absurd hj (Nat.not_lt_zero j), Turn.refl _ _⟩
  rw [hl, hm]
  clear h1 h2 hl hm
  go_enter Try.func39, Try.ntmps39
  go_wp2_with fail
  go_loopg [5] N (fun gh v5 wr => SameRel w l m gh v5 wr)
  case atStart => exact R0
  case round =>
    clear R0
    obtain ⟨k, rfl, hk, hg, hok, ht⟩ := hrel
    obtain ⟨_, _, hl, hm⟩ := O.out
    rw [hl] at hk hg
    by_cases hkl : k < N
    · obtain ⟨⟨q0, q1⟩, hq⟩ : ∃ q, l[k]? = some q := ⟨_, List.getElem?_eq_getElem (by omega)⟩
      obtain ⟨⟨r0, r1⟩, hr⟩ : ∃ q, m[k]? = some q := ⟨_, List.getElem?_eq_getElem (by omega)⟩
      obtain ⟨g1, k1, e1, x0, x1⟩ := own2_at (own_turn O.out.1 ht (fun _ _ => id)) hq
      obtain ⟨g2, k2, e2, y0, y1⟩ := own2_at (own_turn O.out.2.1 ht (fun _ _ => id)) hr
      injection e1 with e1 _ e3
      injection e2 with e2 _ e4
      subst e1
      subst e2
      simp only at x0 x1 y0 y1
      have E := Lib.hid (And.intro hq (And.intro hr (And.intro hok (And.intro hg (And.intro ht (And.intro hl hm))))))
      by_cases he : q0 = r0 ∧ q1 = r1
      · obtain ⟨rfl, rfl⟩ := he
        clear hq hr hok hg ht e3 e4 hl hm
        go_wp2_with fail
        go_quiet (fail)
        go_wp2_with fail
        go_roundg (N - (k + 1))
        case measure => have := E.out.2.2.2.1; omega
        case rel =>
          obtain ⟨hq, hr, hok, _, ht, hl, hm⟩ := E.out
          refine ⟨k + 1, by go_num, by omega, by rw [hl], fun j hj => ?_, ht.drewN _⟩
          by_cases e : j = k
          · rw [e, hq, hr]
          · exact hok j (by omega)
      · have E2 := Lib.hid (show l ≠ m from fun e => he (by
          rw [e, hr] at hq
          injection hq with e5
          injection e5 with e6 e7
          exact ⟨e6.symm, e7.symm⟩))
        by_cases h0 : q0 = r0
        · subst h0
          have hb : (q1 == r1) = false := by simpa using he
          clear hq hr hok hg ht e3 e4 he hl hm
          go_wp2_with fail
          go_quiet (fail)
          go_wp2
          go_ret
          exact ⟨by rw [decide_eq_false E2.out]; rfl, E.out.2.2.2.2.1.drewN _⟩
        · have hb : (q0 == r0) = false := by simpa using h0
          clear hq hr hok hg ht e3 e4 he hl hm h0
          go_wp2_with fail
          go_quiet (fail)
          go_wp2
          go_ret
          exact ⟨by rw [decide_eq_false E2.out]; rfl, E.out.2.2.2.2.1.drewN _⟩
    · have E := Lib.hid (And.intro hok (And.intro ht (And.intro hl hm)))
      clear hok ht hg hl hm
      go_wp2
      go_ret
      refine ⟨?_, E.out.2.1⟩
      obtain ⟨hok, _, hl, hm⟩ := E.out
      have hlm : l = m := List.ext_getElem? fun j => by
        by_cases hj : j < k
        · exact hok j hj
        · rw [List.getElem?_eq_none (by omega), List.getElem?_eq_none (by omega)]
      rw [decide_eq_true hlm]
      rfl
theorem rest_epo (x n : Int) (hn : 1 ≤ n) (hb : n ≤ 1000000) : ∃ R : Int, 0 ≤ R ∧ R < n ∧ ∀ w, Calls Try.prog 30 #[.int .i64 x, .int .i64 n] w fun e w' => e = .returned (.int .i64 R) ∧ w = w' := by
  have t1 : -n < x.tmod n := Int.lt_tmod_of_pos x (by omega)
  have t2 : x.tmod n < n := Int.tmod_lt_of_pos x (by omega)
  obtain ⟨y, hy⟩ : ∃ y, x.tmod n = y := ⟨_, rfl⟩
  rw [hy] at t1 t2
  have e1 : wrap64 (y + n) = y + n := by unfold wrap64; omega
  have e2 : (y + n).tmod n = (y + n) % n := Int.tmod_eq_emod_of_nonneg (by omega)
  refine ⟨y % n, Int.emod_nonneg _ (by omega), Int.emod_lt_of_pos _ (by omega), fun w => ?_⟩
  have nz : (n == 0) = false := by simp; omega
  have nn : ¬ n = 0 := by omega
  clear hb hn
  go_enter Try.func30, Try.ntmps30
  go_wp2
  go_ret
  exact ⟨rfl, rfl⟩
end Go.Proofs.Ytibmimdlgbhdnaa
