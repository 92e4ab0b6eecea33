/-
  The places and things of a ring, that All has copied, one by one; and the items that the statements make of them.
-/
import Derived.Test.YtjfbjkgppnhaoaaAll
namespace Go.Proofs.Ytjfbjkgppnhaoaa
open Go.ChangeShapes Go.WideShapes Go.ChangeAt Go.RowKit Go.Shelf
set_option linter.unusedVariables false
attribute [local go_sem] Oper.semAt_some

theorem row_slice {w : World} {base size n : Nat} {t : TypeId} {v : Value} {xs : List Value} (h : w.ownsRow base t size v n xs) : ∃ a cap, v = .slice a n cap ∧ (0 < n → ∃ g, a = some ⟨g, 0, none⟩) := by
  rcases h.2 with ⟨rfl, rfl⟩ | ⟨g, cap, cur, rfl, _⟩
  · exact ⟨none, 0, rfl, fun h => absurd h (Nat.lt_irrefl 0)⟩
  · exact ⟨_, _, rfl, fun _ => ⟨g, rfl⟩⟩
/-- What the rounds must leave as it is. -/
def AllS (B2 : Nat) (v1 v2 : Value) (k : Nat) : Prop := k = B2 ∨ v1.ownBlock = some k ∨ v2.ownBlock = some k
def ARel (W : World) (S : Nat → Prop) (l : List (Int × Int)) (J : List (Int × Int) → World → Prop) (v : Value) (wr : World) : Prop :=
  ∃ k : Nat, v = .int .i64 (k : Int) ∧ k ≤ l.length ∧ J (l.take k) wr ∧ KeepS S W wr

set_option maxRecDepth 100000 in
set_option maxHeartbeats 2000000 in
theorem all1_in (n : Nat) (hn : 1 ≤ n) (lo B1 B2 n₀ : Nat) (l : List (Int × Int)) (hl : l.length ≤ 9) (v1 v2 : Value) (J Jx : List (Int × Int) → World → Prop)
    (hY : ∀ pre e W, J pre W → pre.length < 9 → YieldAt Fence.wide (n - 1) Try.prog lo (encs e) W fun en W' =>
      (en = .returned (.bool true) ∧ J (pre ++ [e]) W' ∧ KeepS (AllS B2 v1 v2) W W') ∨ (en = .returned (.bool false) ∧ Jx (pre ++ [e]) W'))
    (W : World) (hC : Col W B1 B2 n₀ v1 v2 (ats l) (things l)) (h0 : J [] W) :
    CallsIn Fence.wide n Try.prog 89 #[.func (.yield lo) #[] #[], .pointer (some ⟨B1, 0, none⟩), .pointer (some ⟨B2, 0, none⟩)] W fun e W' => (∃ v, e = .returned v) ∧
      ((∃ ys, ys = l ∧ J ys W') ∨ (∃ pre, Jx pre W')) := by
  refine callsIn_of_wp Try.func89 rfl trivial ?_ rfl
  simp only [Try.ntmps89, List.size_toArray, List.length_cons, List.length_nil, Nat.reduceAdd, Nat.reduceSub, Array.replicate_succ, Array.replicate_zero, List.push_toArray, List.append_toArray, List.nil_append, List.cons_append]
  obtain ⟨a1, c1, e1, s1⟩ := row_slice hC.r1
  obtain ⟨a2, c2, e2, s2⟩ := row_slice hC.r2
  have b1 := hC.b1.cell
  rw [e1] at b1
  have I0 : ARel W (AllS B2 v1 v2) l J (.int .i64 0) W := ⟨0, rfl, Nat.zero_le _, h0, keepS_refl _ _⟩
  rw [show (ats l).length = l.length from by simp [ats]] at b1
  have E := Lib.hid (And.intro e1 e2)
  clear e1 e2
  gi_wp2
  gi_loopw [8] (fun v wr => ARel W (AllS B2 v1 v2) l J v wr) (fun v _ => l.length - (intOf v).toNat)
  case atStart => exact I0
  case round =>
    clear I0
    obtain ⟨k, rfl, hk, hJs, hnx⟩ := hrel
    by_cases hkl : k < l.length
    · obtain ⟨⟨x, y⟩, hx⟩ : ∃ q, l[k]? = some q := ⟨_, List.getElem?_eq_getElem hkl⟩
      obtain ⟨g1, h1⟩ := s1 (by simp [ats]; omega)
      obtain ⟨g2, h2⟩ := s2 (by simp [things]; omega)
      subst h1
      subst h2
      have la : (ats l).length = l.length := by simp [ats]
      have lt' : (things l).length = l.length := by simp [things]
      have z1 : wr.cell? ⟨g1, k, none⟩ = some (.int .i64 x) := by
        refine keepS_cell hnx (.inr (.inl (by rw [E.out.1]; rfl))) ?_
        have := hC.r1
        rw [E.out.1] at this
        refine (this.cellAt k (by rw [la]; omega)).trans ?_
        simp [ats, hx]
      have z2 : wr.cell? ⟨g2, k, none⟩ = some (.int .i64 y) := by
        refine keepS_cell hnx (.inr (.inr (by rw [E.out.2]; rfl))) ?_
        have := hC.r2
        rw [E.out.2] at this
        refine (this.cellAt k (by rw [lt']; omega)).trans ?_
        simp [things, hx]
      have b2 : wr.cell? ⟨B2, 0, none⟩ = some (.slice (some ⟨g2, 0, none⟩) l.length c2) := by
        have h := keepS_cell hnx (.inl rfl) hC.b2.cell
        rw [E.out.2, lt'] at h
        exact h
      have ht : l.take (k + 1) = l.take k ++ [(x, y)] := by
        rw [List.take_add_one, hx]
        rfl
      obtain ⟨fn, tmps, assign, body, hy, hRd⟩ := hY _ (x, y) _ hJs (by have := List.length_take_le k l; omega)
      dsimp only [encs] at hy
      have X := Lib.hid (And.intro hnx ht)
      clear la lt' hx ht hnx hJs
      gi_wp2
      refine hRd.mono ?_
      rintro e W3 (⟨rfl, hJ3, hk3⟩ | ⟨rfl, hJx3⟩)
      · gi_wp2
        go_roundw
        case rel => exact ⟨k + 1, by go_num, by omega, by rw [X.out.2]; exact hJ3, keepS_t X.out.1 hk3⟩
        case measure => simp [intOf]; omega
      · gi_wp2
        refine bodyPost_ret (results_none rfl _ _ _) rfl ?_
        exact ⟨⟨_, rfl⟩, .inr ⟨_, hJx3⟩⟩
    · have e : l.take k = l := List.take_of_length_le (by omega)
      have X := Lib.hid (And.intro hJs e)
      clear hJs e
      gi_wp2
      go_end0
      exact ⟨⟨_, rfl⟩, .inl ⟨_, X.out.2, X.out.1⟩⟩
theorem all1_stops (n : Nat) (hn : 1 ≤ n) (B1 B2 n₀ : Nat) (l : List (Int × Int)) (hl : l.length ≤ 9) (v1 v2 : Value) (w : World) (hC : Col w B1 B2 n₀ v1 v2 (ats l) (things l)) :
    SeqStopsK Fence.wide n Try.prog 89 #[.pointer (some ⟨B1, 0, none⟩), .pointer (some ⟨B2, 0, none⟩)] encs (KeepS (AllS B2 v1 v2)) (fun ys => ys = l) (fun _ => True) 9 w := fun lo J Jx W hW hJ _ hY h0 => by
  have hC' : Col W B1 B2 n₀ v1 v2 (ats l) (things l) := hC.keep (hW.block B1 hC.b1.lt) (hW.block B2 hC.b2.lt) (fun k hk => hW.block k (row_cells hC.r1 hk).2.1) (fun k hk => hW.block k (row_cells hC.r2 hk).2.1)
  refine (all1_in n hn lo B1 B2 n₀ l hl v1 v2 J Jx (fun pre e W1 hj hl => hY pre e W1 hj hl) W hC' h0).mono ?_
  rintro e W' ⟨he, ⟨ys, rfl, hj⟩ | ⟨pre, hj⟩⟩
  · exact ⟨he, .inl ⟨_, rfl, hj⟩⟩
  · exact ⟨he, .inr ⟨_, trivial, hj⟩⟩
end Go.Proofs.Ytjfbjkgppnhaoaa
