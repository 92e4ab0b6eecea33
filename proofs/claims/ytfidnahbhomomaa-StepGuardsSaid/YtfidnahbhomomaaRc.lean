/-
  The sets that codes are reckoned of: what set, field, and num.Do answer.
-/
import Derived.Test.YtfidnahbhomomaaRb
import Derived.Test.YtfidnahbhomomaaSe
namespace Go.Proofs.Ytfidnahbhomomaa
open Go.ChangeShapes Go.WideShapes Go.ChangeAt Go.RowKit
set_option linter.unusedVariables false
set_option linter.unusedSimpArgs false

def Ev.num (e : Ev) (f : Int) : Int := if f = 0 then e.a else if f = 1 then e.b else if f = 2 then e.c else e.d
def setE (X : List (List Ev)) (p : Int) : List Ev := if p < 0 then [] else X.getD p.toNat []
def lastE (l : List Ev) (f : Int) : Int := match l.getLast? with
  | some e => e.num f
  | none => 0
def envE (X : List (List Ev)) : Env := ⟨fun p => ((setE X p).length : Int), fun p f => lastE (setE X p) f⟩
/-- A set: how many events, and the numbers of the last one. -/
def SetAt (w : World) (ea : Option Addr) (n c : Nat) (last : Int → Int) : Prop := ∃ l : List Ev, EvsAt w (.slice ea n c) l ∧ n ≤ 100000 ∧ last = lastE l
/-- Sets in memory. -/
def EnvAt (w : World) (a : Option Addr) (m cap : Nat) (v : Env) : Prop := ∃ X : List (List Ev), ESetsAt w (.slice a m cap) X ∧ v = envE X ∧ m ≤ 1000 ∧ ∀ l ∈ X, l.length ≤ 100000
theorem slice_len {a b : Option Addr} {n m c d : Nat} (h : Value.slice a n c = .slice b m d) : n = m := by injection h
theorem SetAt.le {w : World} {ea : Option Addr} {n c : Nat} {last : Int → Int} (h : SetAt w ea n c last) : n ≤ 100000 := by
  obtain ⟨l, _, h, _⟩ := h
  exact h
section
variable {w w' : World} {ea a : Option Addr} {n m c cap : Nat} {last : Int → Int} {v : Env}
theorem SetAt.keep (h : SetAt w ea n c last) (hb : Below w.heap.size w w') : SetAt w' ea n c last := by
  obtain ⟨l, h1, h2, h3⟩ := h
  exact ⟨l, h1.turn (Turn.of_below (S := fun _ => False) hb) (fun _ _ f => f), h2, h3⟩
theorem EnvAt.keep (h : EnvAt w a m cap v) (hb : Below w.heap.size w w') : EnvAt w' a m cap v := by
  obtain ⟨X, h1, h2, h3⟩ := h
  exact ⟨X, h1.turn (Turn.of_below hb), h2, h3⟩

theorem set_out (a : Option Addr) (m cap : Nat) (p : Int) (w : World) (hp : p < 0 ∨ (m : Int) ≤ p) : Calls Try.prog 81 #[.slice a m cap, .int .i64 p] w fun e w' => e = .returned (.slice none 0 0) ∧ w = w' := by
  by_cases h0 : p < 0
  · have h1 : decide (p < 0) = true := by simpa using h0
    clear hp
    go_enter Try.func81, Try.ntmps81
    go_wp2
    go_ret
    exact ⟨rfl, rfl⟩
  · have h1 : decide (p < 0) = false := by simpa using h0
    have h2 : decide ((m : Int) ≤ p) = true := by simp; omega
    clear hp h0
    go_enter Try.func81, Try.ntmps81
    go_wp2
    go_ret
    exact ⟨rfl, rfl⟩
theorem set_in (g off m cap k : Nat) (u : Value) (w : World) (hk : k < m) (hc : w.cell? ⟨g, off + k, none⟩ = some u) : Calls Try.prog 81 #[.slice (some ⟨g, off, none⟩) m cap, .int .i64 (k : Int)] w fun e w' => e = .returned u ∧ w = w' := by
  have h1 : decide (((k : Nat) : Int) < 0) = false := by simp
  have h2 : decide (((m : Nat) : Int) ≤ ((k : Nat) : Int)) = false := by simp; omega
  have h3 : decide (m ≤ k) = false := by simp; omega
  have h4 : (0 : Int) ≤ (k : Int) := Int.natCast_nonneg k
  have h5 : (k : Int) < (m : Int) := Int.ofNat_lt.2 hk
  go_enter Try.func81, Try.ntmps81
  go_wp2
  go_ret
  exact ⟨rfl, rfl⟩
/-- The set of a place. -/
theorem EnvAt.set (h : EnvAt w a m cap v) (p : Int) : ∃ ea n c, v.cnt p = ((n : Nat) : Int) ∧ SetAt w ea n c (v.last p) ∧ Calls Try.prog 81 #[.slice a m cap, .int .i64 p] w fun e w' => e = .returned (.slice ea n c) ∧ w = w' := by
  obtain ⟨X, hX, rfl, -, hs⟩ := h
  obtain ⟨a', b, off, cap', e, ha, hx⟩ := hX
  have hm : m = X.length := slice_len e
  have hc : cap = cap' := by injection e
  have ha2 : a = a' := by injection e
  subst hm hc ha2
  clear e
  by_cases hp : p < 0 ∨ (X.length : Int) ≤ p
  · have he : setE X p = [] := by
      unfold setE
      by_cases h0 : p < 0
      · rw [if_pos h0]
      · rw [if_neg h0, List.getD_eq_getElem?_getD, List.getElem?_eq_none (by omega)]
        rfl
    refine ⟨none, 0, 0, ?_, ⟨[], ⟨none, 0, 0, 0, rfl, Nat.le_refl _, .inl rfl, fun k e h => by simp at h⟩, Nat.zero_le _, ?_⟩, set_out a X.length cap p w hp⟩
    · show ((setE X p).length : Int) = _
      rw [he]
      rfl
    · show (fun f => lastE (setE X p) f) = _
      rw [he]
  · obtain ⟨k, rfl⟩ : ∃ k : Nat, p = (k : Int) := ⟨p.toNat, by omega⟩
    have hk : k < X.length := by omega
    obtain ⟨l, hl⟩ : ∃ l, X[k]? = some l := ⟨_, List.getElem?_eq_getElem hk⟩
    obtain ⟨rfl, -⟩ := ha.resolve_left (fun e => by rw [e] at hk; exact absurd hk (Nat.not_lt_zero k))
    obtain ⟨r, h1, h2⟩ := hx k l hl
    obtain ⟨ra, rc, rfl⟩ := h2.sl
    have he : setE X (k : Int) = l := by
      unfold setE
      rw [if_neg (by omega), Int.toNat_natCast, List.getD_eq_getElem?_getD, hl]
      rfl
    refine ⟨ra, l.length, rc, ?_, ⟨l, h2, hs l (List.mem_of_getElem? hl), ?_⟩, set_in b off X.length cap k _ w hk h1⟩
    · show ((setE X (k : Int)).length : Int) = _
      rw [he]
    · show (fun f => lastE (setE X (k : Int)) f) = _
      rw [he]
theorem fld_no (ea : Option Addr) (n c : Nat) (f : Int) (w : World) (h : n = 0 ∨ f < 0 ∨ 4 ≤ f) : Calls Try.prog 82 #[.slice ea n c, .int .i64 f] w fun e w' => e = .returned (.tuple #[.int .i64 0, .bool false]) ∧ w = w' := by
  by_cases h0 : n = 0
  · subst h0
    clear h
    go_enter Try.func82, Try.ntmps82
    go_wp2
    go_ret2
    exact ⟨rfl, rfl⟩
  · have g0 : (((n : Nat) : Int) == 0) = false := by simpa using h0
    by_cases h1 : f < 0
    · have g1 : decide (f < 0) = true := by simpa using h1
      clear h h0 h1
      go_enter Try.func82, Try.ntmps82
      go_wp2
      go_ret2
      exact ⟨rfl, rfl⟩
    · have g1 : decide (f < 0) = false := by simpa using h1
      have g2 : decide (4 ≤ f) = true := by simp; omega
      clear h h0 h1
      go_enter Try.func82, Try.ntmps82
      go_wp2
      go_ret2
      exact ⟨rfl, rfl⟩
theorem num_cell (e : Ev) (k : Nat) (hk : k < 4) : e.cells[2 + k]? = some (.int .i64 (e.num (k : Int))) := by
  have h : k = 0 ∨ k = 1 ∨ k = 2 ∨ k = 3 := by omega
  rcases h with rfl | rfl | rfl | rfl <;> rfl
theorem SetAt.field (h : SetAt w ea n c last) (hn : 0 < n) (k : Nat) (hk : k < 4) : Calls Try.prog 82 #[.slice ea n c, .int .i64 (k : Int)] w fun e w' => e = .returned (.tuple #[.int .i64 (last (k : Int)), .bool true]) ∧ w = w' := by
  obtain ⟨l, h1, h2, rfl⟩ := h
  obtain ⟨_, _, e⟩ := h1.sl
  have hnl : n = l.length := slice_len e
  clear e
  obtain ⟨n', rfl⟩ : ∃ n', n = n' + 1 := ⟨n - 1, by omega⟩
  obtain ⟨x, hx⟩ : ∃ x, l[n']? = some x := ⟨_, List.getElem?_eq_getElem (by omega)⟩
  have hlast : lastE l (k : Int) = x.num (k : Int) := by
    unfold lastE
    rw [List.getLast?_eq_getElem?, show l.length - 1 = n' by omega, hx]
  obtain ⟨b, off, cap', e, -, hr⟩ := h1.at hx
  have ea2 : ea = some ⟨b, off, none⟩ := by injection e
  subst ea2
  rw [hlast]
  have hcell := hr (2 + k) _ (num_cell x k hk)
  rw [← Nat.add_assoc] at hcell
  have g0 : ((((n' + 1 : Nat) : Int)) == 0) = false := by simp; omega
  have g0' : (((n' : Nat) : Int) + 1 == 0) = false := by simp; omega
  have g1 : decide (((k : Nat) : Int) < 0) = false := by simp
  have g2 : decide ((4 : Int) ≤ ((k : Nat) : Int)) = false := by simp; omega
  have k4 : ((k : Nat) : Int) < 4 := by omega
  clear h1 hn e hr hx hlast hnl
  generalize x.num (k : Int) = y at hcell
  go_enter Try.func82, Try.ntmps82
  go_wp2
  go_ret2
  exact ⟨rfl, rfl⟩
end

/-! ### num.Do -/
theorem pdo_add (a b : Int) (w : World) : Calls Try.prog 83 #[.int .i64 1, .int .i64 a, .int .i64 b] w fun e w' => e = .returned (.tuple #[.int .i64 (wrap64 (a + b)), .bool true]) ∧ w = w' := by
  go_enter Try.func83, Try.ntmps83
  go_wp2
  go_ret2
  exact ⟨rfl, rfl⟩
theorem pdo_sub (a b : Int) (w : World) : Calls Try.prog 83 #[.int .i64 2, .int .i64 a, .int .i64 b] w fun e w' => e = .returned (.tuple #[.int .i64 (wrap64 (a + wrap64 (-b))), .bool true]) ∧ w = w' := by
  go_enter Try.func83, Try.ntmps83
  go_wp2
  go_ret2
  exact ⟨rfl, rfl⟩
theorem pdo_mul (a b : Int) (w : World) : Calls Try.prog 83 #[.int .i64 3, .int .i64 a, .int .i64 b] w fun e w' => e = .returned (.tuple #[.int .i64 (wrap64 (a * b)), .bool true]) ∧ w = w' := by
  go_enter Try.func83, Try.ntmps83
  go_wp2
  go_ret2
  exact ⟨rfl, rfl⟩
theorem pdo_div0 (a : Int) (w : World) : Calls Try.prog 83 #[.int .i64 4, .int .i64 a, .int .i64 0] w fun e w' => e = .returned (.tuple #[.int .i64 0, .bool false]) ∧ w = w' := by
  go_enter Try.func83, Try.ntmps83
  go_wp2
  go_ret2
  exact ⟨rfl, rfl⟩
theorem pdo_rem0 (a : Int) (w : World) : Calls Try.prog 83 #[.int .i64 5, .int .i64 a, .int .i64 0] w fun e w' => e = .returned (.tuple #[.int .i64 0, .bool false]) ∧ w = w' := by
  go_enter Try.func83, Try.ntmps83
  go_wp2
  go_ret2
  exact ⟨rfl, rfl⟩
theorem pdo_div (a b : Int) (w : World) (hn : ¬ b = 0) : Calls Try.prog 83 #[.int .i64 4, .int .i64 a, .int .i64 b] w fun e w' => e = .returned (.tuple #[.int .i64 (wrap64 (a.tdiv b)), .bool true]) ∧ w = w' := by
  have hb : (b == 0) = false := by simpa using hn
  go_enter Try.func83, Try.ntmps83
  go_wp2
  go_ret2
  exact ⟨rfl, rfl⟩
theorem pdo_rem (a b : Int) (w : World) (hn : ¬ b = 0) : Calls Try.prog 83 #[.int .i64 5, .int .i64 a, .int .i64 b] w fun e w' => e = .returned (.tuple #[.int .i64 (a.tmod b), .bool true]) ∧ w = w' := by
  have hb : (b == 0) = false := by simpa using hn
  go_enter Try.func83, Try.ntmps83
  go_wp2
  go_ret2
  exact ⟨rfl, rfl⟩
/-- What num.Do answers, of any of its five. -/
theorem pdo_any (op a b : Int) (w : World) (h : 1 ≤ op ∧ op ≤ 5) : Calls Try.prog 83 #[.int .i64 op, .int .i64 a, .int .i64 b] w fun e w' => e = .returned (.tuple #[.int .i64 ((doOp op a b).getD 0), .bool (doOp op a b).isSome]) ∧ w = w' := by
  have ho : op = 1 ∨ op = 2 ∨ op = 3 ∨ op = 4 ∨ op = 5 := by omega
  rcases ho with rfl | rfl | rfl | rfl | rfl
  · exact pdo_add a b w
  · exact pdo_sub a b w
  · exact pdo_mul a b w
  · by_cases hb : b = 0
    · subst hb
      exact pdo_div0 a w
    · have e : doOp 4 a b = some (wrap64 (a.tdiv b)) := by simp [doOp, hb]
      rw [e]
      exact pdo_div a b w hb
  · by_cases hb : b = 0
    · subst hb
      exact pdo_rem0 a w
    · have e : doOp 5 a b = some (a.tmod b) := by simp [doOp, hb]
      rw [e]
      exact pdo_rem a b w hb
end Go.Proofs.Ytfidnahbhomomaa
