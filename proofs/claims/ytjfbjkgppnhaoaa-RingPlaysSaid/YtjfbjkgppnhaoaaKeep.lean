/-
  A new ring of one to nine places: contracts for the walks of the statements of layer 10.
-/
import Derived.Test.YtjfbjkgppnhaoaaNew
namespace Go.Proofs.Ytjfbjkgppnhaoaa
open Go.ChangeShapes Go.WideShapes Go.ChangeAt Go.RowKit
set_option linter.unusedVariables false

theorem new_1 (w : World) : Calls Try.prog 26 #[.int .i64 1] w fun e w' => e = .returned (.pointer (some ⟨w.heap.size + 1, 0, none⟩)) ∧ Ringy w' (w.heap.size + 1) w.heap.size 1 0 0 (fun _ => 0) (fun _ => false) ∧ Below w.heap.size w w' ∧ w'.heap.size = w.heap.size + 2 := by
  have hmk : ∀ w, (Instr.makeSlice 130 (.int .i64 1) (.int .i64 1)).run Try.prog w = .ok (.slice (some ⟨w.heap.size, 0, none⟩) 1 1) (w.alloc (.cells #[.int .i64 0, .bool false] 134)) := fun _ => by kernel_rfl
  go_enter Try.func26, Try.ntmps26
  go_wp2
  go_ret
  refine ⟨rfl, ringy_new w 1 _ _ _ ?_, by go_grown, by simp⟩
  intro k hk
  have hk' : k = 0 := by omega
  subst hk'
  exact ⟨rfl, rfl⟩

theorem new_2 (w : World) : Calls Try.prog 26 #[.int .i64 2] w fun e w' => e = .returned (.pointer (some ⟨w.heap.size + 1, 0, none⟩)) ∧ Ringy w' (w.heap.size + 1) w.heap.size 2 0 0 (fun _ => 0) (fun _ => false) ∧ Below w.heap.size w w' ∧ w'.heap.size = w.heap.size + 2 := by
  have hmk : ∀ w, (Instr.makeSlice 130 (.int .i64 2) (.int .i64 2)).run Try.prog w = .ok (.slice (some ⟨w.heap.size, 0, none⟩) 2 2) (w.alloc (.cells #[.int .i64 0, .bool false, .int .i64 0, .bool false] 134)) := fun _ => by kernel_rfl
  go_enter Try.func26, Try.ntmps26
  go_wp2
  go_ret
  refine ⟨rfl, ringy_new w 2 _ _ _ ?_, by go_grown, by simp⟩
  intro k hk
  have hk' : k = 0 ∨ k = 1 := by omega
  rcases hk' with rfl | rfl <;> exact ⟨rfl, rfl⟩

theorem new_3 (w : World) : Calls Try.prog 26 #[.int .i64 3] w fun e w' => e = .returned (.pointer (some ⟨w.heap.size + 1, 0, none⟩)) ∧ Ringy w' (w.heap.size + 1) w.heap.size 3 0 0 (fun _ => 0) (fun _ => false) ∧ Below w.heap.size w w' ∧ w'.heap.size = w.heap.size + 2 := by
  have hmk : ∀ w, (Instr.makeSlice 130 (.int .i64 3) (.int .i64 3)).run Try.prog w = .ok (.slice (some ⟨w.heap.size, 0, none⟩) 3 3) (w.alloc (.cells #[.int .i64 0, .bool false, .int .i64 0, .bool false, .int .i64 0, .bool false] 134)) := fun _ => by kernel_rfl
  go_enter Try.func26, Try.ntmps26
  go_wp2
  go_ret
  refine ⟨rfl, ringy_new w 3 _ _ _ ?_, by go_grown, by simp⟩
  intro k hk
  have hk' : k = 0 ∨ k = 1 ∨ k = 2 := by omega
  rcases hk' with rfl | rfl | rfl <;> exact ⟨rfl, rfl⟩

theorem new_4 (w : World) : Calls Try.prog 26 #[.int .i64 4] w fun e w' => e = .returned (.pointer (some ⟨w.heap.size + 1, 0, none⟩)) ∧ Ringy w' (w.heap.size + 1) w.heap.size 4 0 0 (fun _ => 0) (fun _ => false) ∧ Below w.heap.size w w' ∧ w'.heap.size = w.heap.size + 2 := by
  have hmk : ∀ w, (Instr.makeSlice 130 (.int .i64 4) (.int .i64 4)).run Try.prog w = .ok (.slice (some ⟨w.heap.size, 0, none⟩) 4 4) (w.alloc (.cells #[.int .i64 0, .bool false, .int .i64 0, .bool false, .int .i64 0, .bool false, .int .i64 0, .bool false] 134)) := fun _ => by kernel_rfl
  go_enter Try.func26, Try.ntmps26
  go_wp2
  go_ret
  refine ⟨rfl, ringy_new w 4 _ _ _ ?_, by go_grown, by simp⟩
  intro k hk
  have hk' : k = 0 ∨ k = 1 ∨ k = 2 ∨ k = 3 := by omega
  rcases hk' with rfl | rfl | rfl | rfl <;> exact ⟨rfl, rfl⟩

theorem new_5 (w : World) : Calls Try.prog 26 #[.int .i64 5] w fun e w' => e = .returned (.pointer (some ⟨w.heap.size + 1, 0, none⟩)) ∧ Ringy w' (w.heap.size + 1) w.heap.size 5 0 0 (fun _ => 0) (fun _ => false) ∧ Below w.heap.size w w' ∧ w'.heap.size = w.heap.size + 2 := by
  have hmk : ∀ w, (Instr.makeSlice 130 (.int .i64 5) (.int .i64 5)).run Try.prog w = .ok (.slice (some ⟨w.heap.size, 0, none⟩) 5 5) (w.alloc (.cells #[.int .i64 0, .bool false, .int .i64 0, .bool false, .int .i64 0, .bool false, .int .i64 0, .bool false, .int .i64 0, .bool false] 134)) := fun _ => by kernel_rfl
  go_enter Try.func26, Try.ntmps26
  go_wp2
  go_ret
  refine ⟨rfl, ringy_new w 5 _ _ _ ?_, by go_grown, by simp⟩
  intro k hk
  have hk' : k = 0 ∨ k = 1 ∨ k = 2 ∨ k = 3 ∨ k = 4 := by omega
  rcases hk' with rfl | rfl | rfl | rfl | rfl <;> exact ⟨rfl, rfl⟩

theorem new_6 (w : World) : Calls Try.prog 26 #[.int .i64 6] w fun e w' => e = .returned (.pointer (some ⟨w.heap.size + 1, 0, none⟩)) ∧ Ringy w' (w.heap.size + 1) w.heap.size 6 0 0 (fun _ => 0) (fun _ => false) ∧ Below w.heap.size w w' ∧ w'.heap.size = w.heap.size + 2 := by
  have hmk : ∀ w, (Instr.makeSlice 130 (.int .i64 6) (.int .i64 6)).run Try.prog w = .ok (.slice (some ⟨w.heap.size, 0, none⟩) 6 6) (w.alloc (.cells #[.int .i64 0, .bool false, .int .i64 0, .bool false, .int .i64 0, .bool false, .int .i64 0, .bool false, .int .i64 0, .bool false, .int .i64 0, .bool false] 134)) := fun _ => by kernel_rfl
  go_enter Try.func26, Try.ntmps26
  go_wp2
  go_ret
  refine ⟨rfl, ringy_new w 6 _ _ _ ?_, by go_grown, by simp⟩
  intro k hk
  have hk' : k = 0 ∨ k = 1 ∨ k = 2 ∨ k = 3 ∨ k = 4 ∨ k = 5 := by omega
  rcases hk' with rfl | rfl | rfl | rfl | rfl | rfl <;> exact ⟨rfl, rfl⟩

theorem new_7 (w : World) : Calls Try.prog 26 #[.int .i64 7] w fun e w' => e = .returned (.pointer (some ⟨w.heap.size + 1, 0, none⟩)) ∧ Ringy w' (w.heap.size + 1) w.heap.size 7 0 0 (fun _ => 0) (fun _ => false) ∧ Below w.heap.size w w' ∧ w'.heap.size = w.heap.size + 2 := by
  have hmk : ∀ w, (Instr.makeSlice 130 (.int .i64 7) (.int .i64 7)).run Try.prog w = .ok (.slice (some ⟨w.heap.size, 0, none⟩) 7 7) (w.alloc (.cells #[.int .i64 0, .bool false, .int .i64 0, .bool false, .int .i64 0, .bool false, .int .i64 0, .bool false, .int .i64 0, .bool false, .int .i64 0, .bool false, .int .i64 0, .bool false] 134)) := fun _ => by kernel_rfl
  go_enter Try.func26, Try.ntmps26
  go_wp2
  go_ret
  refine ⟨rfl, ringy_new w 7 _ _ _ ?_, by go_grown, by simp⟩
  intro k hk
  have hk' : k = 0 ∨ k = 1 ∨ k = 2 ∨ k = 3 ∨ k = 4 ∨ k = 5 ∨ k = 6 := by omega
  rcases hk' with rfl | rfl | rfl | rfl | rfl | rfl | rfl <;> exact ⟨rfl, rfl⟩

theorem new_8 (w : World) : Calls Try.prog 26 #[.int .i64 8] w fun e w' => e = .returned (.pointer (some ⟨w.heap.size + 1, 0, none⟩)) ∧ Ringy w' (w.heap.size + 1) w.heap.size 8 0 0 (fun _ => 0) (fun _ => false) ∧ Below w.heap.size w w' ∧ w'.heap.size = w.heap.size + 2 := by
  have hmk : ∀ w, (Instr.makeSlice 130 (.int .i64 8) (.int .i64 8)).run Try.prog w = .ok (.slice (some ⟨w.heap.size, 0, none⟩) 8 8) (w.alloc (.cells #[.int .i64 0, .bool false, .int .i64 0, .bool false, .int .i64 0, .bool false, .int .i64 0, .bool false, .int .i64 0, .bool false, .int .i64 0, .bool false, .int .i64 0, .bool false, .int .i64 0, .bool false] 134)) := fun _ => by kernel_rfl
  go_enter Try.func26, Try.ntmps26
  go_wp2
  go_ret
  refine ⟨rfl, ringy_new w 8 _ _ _ ?_, by go_grown, by simp⟩
  intro k hk
  have hk' : k = 0 ∨ k = 1 ∨ k = 2 ∨ k = 3 ∨ k = 4 ∨ k = 5 ∨ k = 6 ∨ k = 7 := by omega
  rcases hk' with rfl | rfl | rfl | rfl | rfl | rfl | rfl | rfl <;> exact ⟨rfl, rfl⟩

theorem new_9 (w : World) : Calls Try.prog 26 #[.int .i64 9] w fun e w' => e = .returned (.pointer (some ⟨w.heap.size + 1, 0, none⟩)) ∧ Ringy w' (w.heap.size + 1) w.heap.size 9 0 0 (fun _ => 0) (fun _ => false) ∧ Below w.heap.size w w' ∧ w'.heap.size = w.heap.size + 2 := by
  have hmk : ∀ w, (Instr.makeSlice 130 (.int .i64 9) (.int .i64 9)).run Try.prog w = .ok (.slice (some ⟨w.heap.size, 0, none⟩) 9 9) (w.alloc (.cells #[.int .i64 0, .bool false, .int .i64 0, .bool false, .int .i64 0, .bool false, .int .i64 0, .bool false, .int .i64 0, .bool false, .int .i64 0, .bool false, .int .i64 0, .bool false, .int .i64 0, .bool false, .int .i64 0, .bool false] 134)) := fun _ => by kernel_rfl
  go_enter Try.func26, Try.ntmps26
  go_wp2
  go_ret
  refine ⟨rfl, ringy_new w 9 _ _ _ ?_, by go_grown, by simp⟩
  intro k hk
  have hk' : k = 0 ∨ k = 1 ∨ k = 2 ∨ k = 3 ∨ k = 4 ∨ k = 5 ∨ k = 6 ∨ k = 7 ∨ k = 8 := by omega
  rcases hk' with rfl | rfl | rfl | rfl | rfl | rfl | rfl | rfl | rfl <;> exact ⟨rfl, rfl⟩

theorem new_ring (n : Nat) (h1 : 1 ≤ n) (h9 : n ≤ 9) (w : World) : Calls Try.prog 26 #[.int .i64 (n : Int)] w fun e w' => e = .returned (.pointer (some ⟨w.heap.size + 1, 0, none⟩)) ∧ Ringy w' (w.heap.size + 1) w.heap.size n 0 0 (fun _ => 0) (fun _ => false) ∧ Below w.heap.size w w' ∧ w'.heap.size = w.heap.size + 2 := by
  have hn : n = 1 ∨ n = 2 ∨ n = 3 ∨ n = 4 ∨ n = 5 ∨ n = 6 ∨ n = 7 ∨ n = 8 ∨ n = 9 := by omega
  rcases hn with rfl | rfl | rfl | rfl | rfl | rfl | rfl | rfl | rfl
  · exact new_1 w
  · exact new_2 w
  · exact new_3 w
  · exact new_4 w
  · exact new_5 w
  · exact new_6 w
  · exact new_7 w
  · exact new_8 w
  · exact new_9 w

/-! ### The plain arithmetic of places that go round -/
theorem mod_inj {L u v n : Nat} (hu : u < n) (hv : v < n) (h : (L + u) % n = (L + v) % n) : u = v := by
  rcases Nat.le_total u v with hl | hl
  · have := Nat.sub_mod_eq_zero_of_mod_eq h.symm
    rw [Nat.add_sub_add_left, Nat.mod_eq_of_lt (by omega)] at this
    omega
  · have := Nat.sub_mod_eq_zero_of_mod_eq h
    rw [Nat.add_sub_add_left, Nat.mod_eq_of_lt (by omega)] at this
    omega
theorem mod_hit {F q M : Nat} (hF : F < M) (hq : q < M) : (F + (q + M - F) % M) % M = q := by
  rw [Nat.add_mod_mod, show F + (q + M - F) = q + M from by omega, Nat.add_mod_right, Nat.mod_eq_of_lt hq]
theorem at_of {n L a : Nat} (h1 : L ≤ a) (h2 : a < L + n) (h3 : a ≤ 1000000) : At n (L : Int) (a : Int) (a % n) :=
  ⟨by omega, by omega, by omega, by omega, by rw [← Int.natCast_emod]; exact Int.toNat_natCast _⟩

/-- While things are put: i of them lie where they should, and nothing else. -/
def Mid1 (r pb n : Nat) (w2 : World) (X : Nat → Int) (L M F : Nat) (wr : World) (i : Nat) : Prop :=
  ∃ (x : Nat → Int) (t : Nat → Bool), Ringy wr r pb n (L : Int) (i : Int) x t ∧ Near r pb w2 wr ∧ (∀ k, k < n → t k = true → ∃ j, j < i ∧ k = (L + (F + j) % M) % n) ∧
    (∀ j, j < i → t ((L + (F + j) % M) % n) = true ∧ x ((L + (F + j) % M) % n) = X (L + (F + j) % M))
/-- While things are dropped: all but i of them lie where they should, and nothing else. -/
def Mid2 (r pb n : Nat) (w2 : World) (X : Nat → Int) (L M : Nat) (wr : World) (i : Nat) : Prop :=
  ∃ (x : Nat → Int) (t : Nat → Bool), Ringy wr r pb n ((L + i : Nat) : Int) ((M : Int) - (i : Int)) x t ∧ Near r pb w2 wr ∧ (∀ k, k < n → t k = true → ∃ q, i ≤ q ∧ q < M ∧ k = (L + q) % n) ∧
    (∀ q, i ≤ q → q < M → t ((L + q) % n) = true ∧ x ((L + q) % n) = X (L + q))
/-- Between: nothing is there. -/
def Outer (r pb n : Nat) (w2 wr : World) (L : Nat) : Prop :=
  ∃ (x : Nat → Int) (t : Nat → Bool), Ringy wr r pb n (L : Int) 0 x t ∧ Near r pb w2 wr ∧ ∀ k, k < n → t k = false

theorem Outer.mid1 {r pb n : Nat} {w2 wr : World} {L : Nat} (h : Outer r pb n w2 wr L) (X : Nat → Int) (M F : Nat) : Mid1 r pb n w2 X L M F wr 0 := by
  obtain ⟨x, t, h1, h2, h3⟩ := h
  exact ⟨x, t, h1, h2, fun k hk ht => by rw [h3 k hk] at ht; exact absurd ht (by decide), fun j hj => absurd hj (Nat.not_lt_zero j)⟩

theorem Mid1.mid2 {r pb n : Nat} {w2 wr : World} {X : Nat → Int} {L M F : Nat} (h : Mid1 r pb n w2 X L M F wr M) (hF : F < M) : Mid2 r pb n w2 X L M wr 0 := by
  obtain ⟨x, t, h1, h2, h3, h4⟩ := h
  refine ⟨x, t, by simpa using h1, h2, fun k hk ht => ?_, fun q _ hq => ?_⟩
  · obtain ⟨j, hj, e⟩ := h3 k hk ht
    exact ⟨(F + j) % M, Nat.zero_le _, Nat.mod_lt _ (by omega), e⟩
  · have := h4 ((q + M - F) % M) (Nat.mod_lt _ (by omega))
    rwa [mod_hit hF hq] at this

theorem Mid2.outer {r pb n : Nat} {w2 wr : World} {X : Nat → Int} {L M : Nat} (h : Mid2 r pb n w2 X L M wr M) : Outer r pb n w2 wr (L + M) := by
  obtain ⟨x, t, h1, h2, h3, _⟩ := h
  refine ⟨x, t, by simpa using h1, h2, fun k hk => ?_⟩
  cases ht : t k with
  | false => rfl
  | true =>
    obtain ⟨q, hq, hq2, _⟩ := h3 k hk ht
    omega

/-- What a round of putting asks of the ring: the first call puts, the second does not, and it is there. -/
theorem Mid1.put {r pb n : Nat} {w2 wr : World} {X : Nat → Int} {L M F i : Nat} (h : Mid1 r pb n w2 X L M F wr i) (hi : i < M) (hM : M ≤ n) (hL : L ≤ 100) (hn : n ≤ 9) :
    Calls Try.prog 29 #[.pointer (some ⟨r, 0, none⟩), .int .i64 ((L + (F + i) % M : Nat) : Int), .int .i64 (X (L + (F + i) % M))] wr fun e w' => e = .returned (.bool true) ∧ Mid1 r pb n w2 X L M F w' (i + 1) := by
  obtain ⟨x, t, h1, h2, h3, h4⟩ := h
  have hu : (F + i) % M < M := Nat.mod_lt _ (by omega)
  have ha : At n (L : Int) ((L + (F + i) % M : Nat) : Int) ((L + (F + i) % M) % n) := at_of (by omega) (by omega) (by omega)
  have kn := ha.kn
  have far : ∀ j, j < i → (L + (F + j) % M) % n ≠ (L + (F + i) % M) % n := fun j hj e => by
    have := mod_inj (Nat.lt_of_lt_of_le (Nat.mod_lt _ (by omega)) hM) (Nat.lt_of_lt_of_le hu hM) e
    have := mod_inj (by omega) hi this
    omega
  have ht : t ((L + (F + i) % M) % n) = false := by
    cases ht : t ((L + (F + i) % M) % n) with
    | false => rfl
    | true =>
      obtain ⟨j, hj, e⟩ := h3 _ kn ht
      exact absurd e.symm (far j hj)
  refine (h1.put ha ht (by omega) _).mono fun e w' ⟨he, hr, hn⟩ => ⟨he, _, _, by simpa using hr, h2.trans hn, fun k hk hk2 => ?_, fun j hj => ?_⟩
  · by_cases e : k = (L + (F + i) % M) % n
    · exact ⟨i, by omega, e⟩
    · rw [upd_off _ _ e] at hk2
      obtain ⟨j, hj, e2⟩ := h3 k hk hk2
      exact ⟨j, by omega, e2⟩
  · by_cases e : j = i
    · subst e
      rw [upd_at, upd_at]
      exact ⟨rfl, rfl⟩
    · rw [upd_off _ _ (far j (by omega)), upd_off _ _ (far j (by omega))]
      exact h4 j (by omega)

theorem Mid1.again {r pb n : Nat} {w2 wr : World} {X : Nat → Int} {L M F i : Nat} (h : Mid1 r pb n w2 X L M F wr (i + 1)) (hi : i < M) (hM : M ≤ n) (hL : L ≤ 100) (hn : n ≤ 9) (v : Int) :
    Calls Try.prog 29 #[.pointer (some ⟨r, 0, none⟩), .int .i64 ((L + (F + i) % M : Nat) : Int), .int .i64 v] wr fun e w' => e = .returned (.bool false) ∧ Mid1 r pb n w2 X L M F w' (i + 1) := by
  obtain ⟨x, t, h1, h2, h3, h4⟩ := h
  have hu : (F + i) % M < M := Nat.mod_lt _ (by omega)
  have ha : At n (L : Int) ((L + (F + i) % M : Nat) : Int) ((L + (F + i) % M) % n) := at_of (by omega) (by omega) (by omega)
  refine (h1.put_used ha (h4 i (by omega)).1 v).mono fun e w' ⟨he, d, hw⟩ => ⟨he, ?_⟩
  subst hw
  exact ⟨x, t, h1.drewN d, h2.trans (Near.drewN d), h3, h4⟩

theorem Mid1.got {r pb n : Nat} {w2 wr : World} {X : Nat → Int} {L M F i : Nat} (h : Mid1 r pb n w2 X L M F wr (i + 1)) (hi : i < M) (hM : M ≤ n) (hL : L ≤ 100) (hn : n ≤ 9) :
    Calls Try.prog 31 #[.pointer (some ⟨r, 0, none⟩), .int .i64 ((L + (F + i) % M : Nat) : Int)] wr fun e w' => e = .returned (.tuple #[.int .i64 (X (L + (F + i) % M)), .bool true]) ∧ Mid1 r pb n w2 X L M F w' (i + 1) := by
  obtain ⟨x, t, h1, h2, h3, h4⟩ := h
  have hu : (F + i) % M < M := Nat.mod_lt _ (by omega)
  have ha : At n (L : Int) ((L + (F + i) % M : Nat) : Int) ((L + (F + i) % M) % n) := at_of (by omega) (by omega) (by omega)
  have hg := h1.get ha
  rw [(h4 i (by omega)).1, (h4 i (by omega)).2] at hg
  refine hg.mono fun e w' ⟨he, d, hw⟩ => ⟨he, ?_⟩
  subst hw
  exact ⟨x, t, h1.drewN d, h2.trans (Near.drewN d), h3, h4⟩

theorem Mid1.len {r pb n : Nat} {w2 wr : World} {X : Nat → Int} {L M F i : Nat} (h : Mid1 r pb n w2 X L M F wr i) :
    Calls Try.prog 36 #[.pointer (some ⟨r, 0, none⟩)] wr fun e w' => e = .returned (.int .i64 (i : Int)) ∧ wr = w' := by
  obtain ⟨x, t, h1, _⟩ := h
  exact h1.len_is

theorem Mid2.drop {r pb n : Nat} {w2 wr : World} {X : Nat → Int} {L M i : Nat} (h : Mid2 r pb n w2 X L M wr i) (hi : i < M) (hM : M ≤ n) (hL : L ≤ 100) (hn : n ≤ 9) :
    Calls Try.prog 27 #[.pointer (some ⟨r, 0, none⟩)] wr fun e w' => e = .returned (.tuple #[.int .i64 (X (L + i)), .bool true]) ∧ Mid2 r pb n w2 X L M w' (i + 1) := by
  obtain ⟨x, t, h1, h2, h3, h4⟩ := h
  have ha : At n ((L + i : Nat) : Int) ((L + i : Nat) : Int) ((L + i) % n) := at_of (by omega) (by omega) (by omega)
  have hd := h1.drop ha (h4 i (by omega) hi).1 (by omega)
  rw [(h4 i (by omega) hi).2] at hd
  have far : ∀ q, i + 1 ≤ q → q < M → (L + q) % n ≠ (L + i) % n := fun q h1 h2 e => by
    have := mod_inj (by omega) (by omega) e
    omega
  refine hd.mono fun e w' ⟨he, hr, hnn⟩ => ⟨he, upd x ((L + i) % n) 0, upd t ((L + i) % n) false, ?_, h2.trans hnn, fun k hk hk2 => ?_, fun q hq hq2 => ?_⟩
  · rw [show ((L + (i + 1) : Nat) : Int) = ((L + i : Nat) : Int) + 1 from by omega, show (M : Int) - ((i + 1 : Nat) : Int) = (M : Int) - (i : Int) - 1 from by omega]
    exact hr
  · by_cases e : k = (L + i) % n
    · subst e
      rw [upd_at] at hk2
      exact absurd hk2 (by decide)
    · rw [upd_off _ _ e] at hk2
      obtain ⟨q, hq, hq2, e2⟩ := h3 k hk hk2
      refine ⟨q, ?_, hq2, e2⟩
      rcases Nat.lt_or_ge i q with hh | hh
      · omega
      · have : q = i := by omega
        subst this
        exact absurd e2 e
  · rw [upd_off _ _ (far q hq hq2), upd_off _ _ (far q hq hq2)]
    exact h4 q (by omega) hq2

theorem Mid2.low {r pb n : Nat} {w2 wr : World} {X : Nat → Int} {L M i : Nat} (h : Mid2 r pb n w2 X L M wr i) :
    Calls Try.prog 35 #[.pointer (some ⟨r, 0, none⟩)] wr fun e w' => e = .returned (.int .i64 ((L + i : Nat) : Int)) ∧ wr = w' := by
  obtain ⟨x, t, h1, _⟩ := h
  exact h1.low_is

theorem Outer.drop {r pb n : Nat} {w2 wr : World} {L : Nat} (h : Outer r pb n w2 wr L) (hL : L ≤ 100) (hn : n ≤ 9) (h1n : 1 ≤ n) :
    Calls Try.prog 27 #[.pointer (some ⟨r, 0, none⟩)] wr fun e w' => e = .returned (.tuple #[.int .i64 0, .bool false]) ∧ Outer r pb n w2 w' L := by
  obtain ⟨x, t, h1, h2, h3⟩ := h
  have ha : At n (L : Int) (L : Int) (L % n) := at_of (by omega) (by omega) (by omega)
  refine (h1.drop_no ha (h3 _ ha.kn)).mono fun e w' ⟨he, d, hw⟩ => ⟨he, ?_⟩
  subst hw
  exact ⟨x, t, h1.drewN d, h2.trans (Near.drewN d), h3⟩
theorem Outer.len {r pb n : Nat} {w2 wr : World} {L : Nat} (h : Outer r pb n w2 wr L) :
    Calls Try.prog 36 #[.pointer (some ⟨r, 0, none⟩)] wr fun e w' => e = .returned (.int .i64 0) ∧ wr = w' := by
  obtain ⟨x, t, h1, _⟩ := h
  exact h1.len_is
end Go.Proofs.Ytjfbjkgppnhaoaa
