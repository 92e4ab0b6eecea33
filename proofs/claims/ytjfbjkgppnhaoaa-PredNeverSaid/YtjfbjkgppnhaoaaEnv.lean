/-
  The sets that codes are reckoned of: what set, field, and num.Do answer.
-/
import Derived.Test.YtjfbjkgppnhaoaaPd
namespace Go.Proofs.Ytjfbjkgppnhaoaa
open Go.ChangeShapes Go.WideShapes Go.ChangeAt Go.RowKit
set_option linter.unusedVariables false

/-- A set: how many events, and the numbers of the last one. -/
structure SetAt (w : World) (ea : Option Addr) (n : Nat) (last : Int → Int) : Prop where
  le : n ≤ 1000
  at_ : 0 < n → ∃ h, ea = some ⟨h, 0, none⟩ ∧ ∀ f : Nat, f < 4 → w.cell? ⟨h, (n - 1) * 6 + 2 + f, none⟩ = some (.int .i64 (last (f : Int)))
/-- Sets in memory. -/
structure EnvAt (w : World) (a : Option Addr) (m : Nat) (v : Env) : Prop where
  le : m ≤ 1000
  out : ∀ p : Int, (p < 0 ∨ (m : Int) ≤ p) → v.cnt p = 0
  at_ : ∀ k : Nat, k < m → ∃ g ea n c, a = some ⟨g, 0, none⟩ ∧ w.cell? ⟨g, k, none⟩ = some (.slice ea n c) ∧ v.cnt (k : Int) = (n : Int) ∧ SetAt w ea n (v.last (k : Int))

section
variable {w w' : World} {ea a : Option Addr} {n m : Nat} {last : Int → Int} {v : Env}
theorem SetAt.keep (h : SetAt w ea n last) (hb : Below w.heap.size w w') : SetAt w' ea n last :=
  ⟨h.le, fun hn => by
    obtain ⟨b, e, hc⟩ := h.at_ hn
    exact ⟨b, e, fun f hf => (hb.cell (p := ⟨b, (n - 1) * 6 + 2 + f, none⟩) (block_lt_of_cell (hc f hf))).trans (hc f hf)⟩⟩
theorem EnvAt.keep (h : EnvAt w a m v) (hb : Below w.heap.size w w') : EnvAt w' a m v :=
  ⟨h.le, h.out, fun k hk => by
    obtain ⟨g, ea, n, c, e1, e2, e3, e4⟩ := h.at_ k hk
    exact ⟨g, ea, n, c, e1, (hb.cell (p := ⟨g, k, none⟩) (block_lt_of_cell e2)).trans e2, e3, e4.keep hb⟩⟩

theorem set_out (a : Option Addr) (m cap : Nat) (p : Int) (w : World) (hp : p < 0 ∨ (m : Int) ≤ p) : Calls Try.prog 58 #[.slice a m cap, .int .i64 p] w fun e w' => e = .returned (.slice none 0 0) ∧ w = w' := by
  by_cases h0 : p < 0
  · have h1 : decide (p < 0) = true := by simpa using h0
    clear hp
    go_enter Try.func58, Try.ntmps58
    go_wp2
    go_ret
    exact ⟨rfl, rfl⟩
  · have h1 : decide (p < 0) = false := by simpa using h0
    have h2 : decide ((m : Int) ≤ p) = true := by simp; omega
    clear hp h0
    go_enter Try.func58, Try.ntmps58
    go_wp2
    go_ret
    exact ⟨rfl, rfl⟩
theorem set_in (g m cap k : Nat) (u : Value) (w : World) (hk : k < m) (hc : w.cell? ⟨g, k, none⟩ = some u) : Calls Try.prog 58 #[.slice (some ⟨g, 0, none⟩) m cap, .int .i64 (k : Int)] w fun e w' => e = .returned u ∧ w = w' := by
  have h1 : decide (((k : Nat) : Int) < 0) = false := by simp
  have h2 : decide (((m : Nat) : Int) ≤ ((k : Nat) : Int)) = false := by simp; omega
  have h3 : decide (m ≤ k) = false := by simp; omega
  go_enter Try.func58, Try.ntmps58
  go_wp2
  go_ret
  exact ⟨rfl, rfl⟩
/-- The set of a place. -/
theorem EnvAt.set (h : EnvAt w a m v) (cap : Nat) (p : Int) : ∃ ea n c, v.cnt p = ((n : Nat) : Int) ∧ SetAt w ea n (v.last p) ∧ Calls Try.prog 58 #[.slice a m cap, .int .i64 p] w fun e w' => e = .returned (.slice ea n c) ∧ w = w' := by
  by_cases hp : p < 0 ∨ (m : Int) ≤ p
  · exact ⟨none, 0, 0, h.out p hp, ⟨Nat.zero_le _, fun h => absurd h (Nat.lt_irrefl 0)⟩, set_out a m cap p w hp⟩
  · obtain ⟨k, rfl⟩ : ∃ k : Nat, p = (k : Int) := ⟨p.toNat, by omega⟩
    obtain ⟨g, ea, n, c, rfl, e2, e3, e4⟩ := h.at_ k (by omega)
    exact ⟨ea, n, c, e3, e4, set_in g m cap k _ w (by omega) e2⟩
theorem fld_no (ea : Option Addr) (n c : Nat) (f : Int) (w : World) (h : n = 0 ∨ f < 0 ∨ 4 ≤ f) : Calls Try.prog 59 #[.slice ea n c, .int .i64 f] w fun e w' => e = .returned (.tuple #[.int .i64 0, .bool false]) ∧ w = w' := by
  by_cases h0 : n = 0
  · subst h0
    clear h
    go_enter Try.func59, Try.ntmps59
    go_wp2
    go_ret2
    exact ⟨rfl, rfl⟩
  · have g0 : (((n : Nat) : Int) == 0) = false := by simpa using h0
    by_cases h1 : f < 0
    · have g1 : decide (f < 0) = true := by simpa using h1
      clear h h0 h1
      go_enter Try.func59, Try.ntmps59
      go_wp2
      go_ret2
      exact ⟨rfl, rfl⟩
    · have g1 : decide (f < 0) = false := by simpa using h1
      have g2 : decide (4 ≤ f) = true := by simp; omega
      clear h h0 h1
      go_enter Try.func59, Try.ntmps59
      go_wp2
      go_ret2
      exact ⟨rfl, rfl⟩
theorem SetAt.field (h : SetAt w ea n last) (hn : 0 < n) (c k : Nat) (hk : k < 4) : Calls Try.prog 59 #[.slice ea n c, .int .i64 (k : Int)] w fun e w' => e = .returned (.tuple #[.int .i64 (last (k : Int)), .bool true]) ∧ w = w' := by
  obtain ⟨b, rfl, hc⟩ := h.at_ hn
  have hcell := hc k hk
  have hle := h.le
  obtain ⟨n', rfl⟩ : ∃ n', n = n' + 1 := ⟨n - 1, by omega⟩
  rw [Nat.add_sub_cancel] at hcell
  have g0 : ((((n' + 1 : Nat) : Int)) == 0) = false := by simp; omega
  have g0' : (((n' : Nat) : Int) + 1 == 0) = false := by simp; omega
  have g1 : decide (((k : Nat) : Int) < 0) = false := by simp
  have g2 : decide ((4 : Int) ≤ ((k : Nat) : Int)) = false := by simp; omega
  have k4 : ((k : Nat) : Int) < 4 := by omega
  clear h hc hn
  generalize last (k : Int) = x at hcell
  go_enter Try.func59, Try.ntmps59
  go_wp2
  go_ret2
  exact ⟨rfl, rfl⟩
end

/-! ### num.Do -/
theorem pdo_add (a b : Int) (w : World) : Calls Try.prog 60 #[.int .i64 1, .int .i64 a, .int .i64 b] w fun e w' => e = .returned (.tuple #[.int .i64 (wrap64 (a + b)), .bool true]) ∧ w = w' := by
  go_enter Try.func60, Try.ntmps60
  go_wp2
  go_ret2
  exact ⟨rfl, rfl⟩
theorem pdo_sub (a b : Int) (w : World) : Calls Try.prog 60 #[.int .i64 2, .int .i64 a, .int .i64 b] w fun e w' => e = .returned (.tuple #[.int .i64 (wrap64 (a + wrap64 (-b))), .bool true]) ∧ w = w' := by
  go_enter Try.func60, Try.ntmps60
  go_wp2
  go_ret2
  exact ⟨rfl, rfl⟩
theorem pdo_mul (a b : Int) (w : World) : Calls Try.prog 60 #[.int .i64 3, .int .i64 a, .int .i64 b] w fun e w' => e = .returned (.tuple #[.int .i64 (wrap64 (a * b)), .bool true]) ∧ w = w' := by
  go_enter Try.func60, Try.ntmps60
  go_wp2
  go_ret2
  exact ⟨rfl, rfl⟩
theorem pdo_div0 (a : Int) (w : World) : Calls Try.prog 60 #[.int .i64 4, .int .i64 a, .int .i64 0] w fun e w' => e = .returned (.tuple #[.int .i64 0, .bool false]) ∧ w = w' := by
  go_enter Try.func60, Try.ntmps60
  go_wp2
  go_ret2
  exact ⟨rfl, rfl⟩
theorem pdo_rem0 (a : Int) (w : World) : Calls Try.prog 60 #[.int .i64 5, .int .i64 a, .int .i64 0] w fun e w' => e = .returned (.tuple #[.int .i64 0, .bool false]) ∧ w = w' := by
  go_enter Try.func60, Try.ntmps60
  go_wp2
  go_ret2
  exact ⟨rfl, rfl⟩
theorem pdo_div (a b : Int) (w : World) (hn : ¬ b = 0) : Calls Try.prog 60 #[.int .i64 4, .int .i64 a, .int .i64 b] w fun e w' => e = .returned (.tuple #[.int .i64 (wrap64 (a.tdiv b)), .bool true]) ∧ w = w' := by
  have hb : (b == 0) = false := by simpa using hn
  go_enter Try.func60, Try.ntmps60
  go_wp2
  go_ret2
  exact ⟨rfl, rfl⟩
theorem pdo_rem (a b : Int) (w : World) (hn : ¬ b = 0) : Calls Try.prog 60 #[.int .i64 5, .int .i64 a, .int .i64 b] w fun e w' => e = .returned (.tuple #[.int .i64 (a.tmod b), .bool true]) ∧ w = w' := by
  have hb : (b == 0) = false := by simpa using hn
  go_enter Try.func60, Try.ntmps60
  go_wp2
  go_ret2
  exact ⟨rfl, rfl⟩
/-- What num.Do answers, of any of its five. -/
theorem pdo_any (op a b : Int) (w : World) (h : 1 ≤ op ∧ op ≤ 5) : Calls Try.prog 60 #[.int .i64 op, .int .i64 a, .int .i64 b] w fun e w' => e = .returned (.tuple #[.int .i64 ((doOp op a b).getD 0), .bool (doOp op a b).isSome]) ∧ w = w' := by
  have ho : op = 1 ∨ op = 2 ∨ op = 3 ∨ op = 4 ∨ op = 5 := by omega
  rcases ho with rfl | rfl | rfl | rfl | rfl
  · exact pdo_add a b w
  · exact pdo_sub a b w
  · exact pdo_mul a b w
  · by_cases hb : b = 0
    · subst hb
      exact pdo_div0 a w
    · have e : doOp 4 a b = some (wrap64 (a.tdiv b)) := by simp [doOp, hb]
      rw [e]
      exact pdo_div a b w hb
  · by_cases hb : b = 0
    · subst hb
      exact pdo_rem0 a w
    · have e : doOp 5 a b = some (a.tmod b) := by simp [doOp, hb]
      rw [e]
      exact pdo_rem a b w hb
end Go.Proofs.Ytjfbjkgppnhaoaa
