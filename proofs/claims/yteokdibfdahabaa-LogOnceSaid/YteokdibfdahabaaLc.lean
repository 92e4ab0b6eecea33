/-
  What LogAnswers goes by: rests; a row of integers that came in; what a log knows behind so many rounds.
-/
import Derived.Test.YteokdibfdahabaaRows
import Derived.Test.YteokdibfdahabaaLb
import Derived.Test.YteokdibfdahabaaLg9
import Derived.WalkKit
import Derived.ProofKit
import Derived.OpenShut
namespace Go.Proofs.Yteokdibfdahabaa
open Go.ChangeShapes Go.WideShapes Go.ChangeAt Go.RowKit
set_option linter.unusedVariables false
def IntArg (w : World) (a : Option Addr) (len : Nat) : Prop :=
  ∃ (b off : Nat) (X : Nat → Int), (len = 0 ∨ a = some ⟨b, off, none⟩) ∧ (∀ i, i < len → w.cell? ⟨b, off + i, none⟩ = some (.int .i64 (X i))) ∧ (0 < len → b < w.heap.size) ∧ len ≤ 9223372036854775807 ∧ ∀ i, i < len → (Lit.int .i64 (X i)).wf = true
theorem open_intarg {H : Type} {enc : TypeId × Value → H} {W : World} {a : Option Addr} {len cap : Nat} {d : DataW H} {p : List MemPlace} (h : DataW.Trod enc Try.prog W 0 (fun _ => true) true 55 (.slice a len cap) d p) : IntArg W a len := by
  by_cases h0 : len = 0
  · subst h0
    exact ⟨0, 0, fun _ => 0, .inl rfl, fun i hi => absurd hi (Nat.not_lt_zero i), fun h => absurd h (Nat.lt_irrefl 0), by omega, fun i hi => absurd hi (Nat.not_lt_zero i)⟩
  · obtain ⟨fuel, hf⟩ := h
    rcases open_ints Try.underlying55 Try.underlying3 (by kernel_rfl) hf with ⟨hcs, _⟩ | ⟨x, l, c, zs, hcs, _, hl, hm, hz, _, hcell, hwz⟩
    · simp [Value.cells] at hcs
      exact absurd hcs.2.1 h0
    · simp [Value.cells] at hcs
      obtain ⟨rfl, rfl, rfl⟩ := hcs
      have hz : zs.length = cap := by simpa using hz
      obtain ⟨b, off, rfl, hc⟩ := ints_at hcell (by omega)
      unfold maxLen at hm
      exact ⟨b, off, fun i => zs.getD i 0, .inr rfl, fun i hi => hc i (by omega), fun h => block_lt_of_cell (hc 0 (by omega)), by omega, fun i hi => hwz _ (by
        have : zs.getD i 0 = zs[i]'(by omega) := by simp [List.getD, List.getElem?_eq_getElem (show i < zs.length by omega)]
        show zs.getD i 0 ∈ zs
        rw [this]
        exact List.getElem_mem _)⟩
def restN (x : Int) (n : Nat) : Nat := ((x.tmod n + n) % n).toNat
theorem restN_lt (x : Int) {n : Nat} (h1 : 1 ≤ n) : restN x n < n := by
  have e3 : 0 ≤ (x.tmod n + n) % (n : Int) := Int.emod_nonneg _ (by omega)
  have e4 : (x.tmod n + n) % (n : Int) < n := Int.emod_lt_of_pos _ (by omega)
  unfold restN
  omega
set_option maxRecDepth 100000 in
theorem rest_is (w : World) (x : Int) {n : Nat} (h1 : 1 ≤ n) (h2 : n ≤ 100000) : Calls Try.prog 20 #[.int .i64 x, .int .i64 (n : Int)] w fun e w' => e = .returned (.int .i64 (restN x n : Int)) ∧ w = w' := by
  have t1 : -(n : Int) < x.tmod n := Int.lt_tmod_of_pos x (by omega)
  have t2 : x.tmod n < n := Int.tmod_lt_of_pos x (by omega)
  have e3 : 0 ≤ (x.tmod n + n) % (n : Int) := Int.emod_nonneg _ (by omega)
  have er : (restN x n : Int) = (x.tmod n + n) % (n : Int) := by unfold restN; omega
  obtain ⟨y, hy⟩ : ∃ y, x.tmod n = y := ⟨_, rfl⟩
  rw [hy] at t1 t2 er
  have e1 : wrap64 (y + n) = y + n := by unfold wrap64; omega
  have e2 : (y + n).tmod n = (restN x n : Int) := by rw [er]; exact Int.tmod_eq_emod_of_nonneg (by omega)
  have nz : ((n : Int) == 0) = false := by simp; omega
  have nn : ¬ (n : Int) = 0 := by omega
  generalize restN x n = R at *
  clear h1 h2 t1 t2 e3 er
  go_enter Try.func20, Try.ntmps20
  go_wp2
  go_ret
  exact ⟨rfl, rfl⟩
def cB : Cf := ⟨1, 2, 1, 1, 1, 1, 99⟩
theorem cB_ok : cB.Ok := ⟨by decide, by decide, by decide, by decide, by decide, by decide, by decide, by decide, by decide, by decide, by decide, by decide, by decide, by decide⟩
/-- What a log of one worker knows behind i commands, all done. -/
structure AnsInv (s : LSt) (K : Nat → Int) (i : Nat) : Prop where
  tail : s.tail = i
  low : s.low = i
  closed : s.closed = false
  X : ∀ j, s.X j = none
  cur : s.cur 0 = i
  left : s.left 0 = false
  rl : s.rl 0 = i
  Y : ∀ j, s.Y 0 j = none
  cnt : s.cnt ≤ i
  G : ∀ j : Int, s.G j = if 0 ≤ j ∧ j < i ∧ K j.toNat ≠ 1 then some ⟨0, 100 + j⟩ else none
theorem AnsInv.zero (K : Nat → Int) : AnsInv LSt.zero K 0 := ⟨rfl, rfl, rfl, fun _ => rfl, rfl, rfl, rfl, fun _ => rfl, Nat.le_refl _, fun j => by
  rw [if_neg (by omega)]
  rfl⟩
def an1 (s : LSt) : LSt := { s with tail := s.tail + 1, closed := s.closed || false }
def an2 (s : LSt) (i : Nat) (k : Int) : LSt := { an1 s with X := updI (an1 s).X (i : Int) (some (k, 0)) }
def an3 (s : LSt) (i : Nat) (k : Int) : LSt := { an2 s i k with cur := upd (an2 s i k).cur 0 ((an2 s i k).cur 0 + 1), Y := upd (an2 s i k).Y 0 (updI ((an2 s i k).Y 0) ((an2 s i k).cur 0) (some none)) }
section
variable {s : LSt} {K : Nat → Int} {i : Nat}
theorem AnsInv.x3 (h : AnsInv s K i) : (an3 s i (K i)).X ((an3 s i (K i)).low : Nat) = some (K i, 0) := by
  show updI s.X (i : Int) (some (K i, 0)) (s.low : Int) = _
  rw [h.low, updI_at]
theorem AnsInv.ready (h : AnsInv s K i) (hk : K i ≠ 5) : readyB cB (an3 s i (K i)) = true := by
  unfold readyB
  rw [h.x3]
  show allTold (an3 s i (K i)) (K i) 1 = true
  unfold allTold allTold told
  rw [h.x3]
  have e1 : (an3 s i (K i)).cur 0 = i + 1 := by
    show upd s.cur 0 (s.cur 0 + 1) 0 = _
    rw [upd_at, h.cur]
  have e2 : (an3 s i (K i)).low = i := h.low
  have e3 : (an3 s i (K i)).left 0 = false := h.left
  rw [e1, e2, e3]
  simp [hk]
theorem AnsInv.next (h : AnsInv s K i) : AnsInv (replied cB (an3 s i (K i)) 0 (100 + i)) K (i + 1) := by
  have hc : (an2 s i (K i)).cur 0 = i := h.cur
  have y3 : (an3 s i (K i)).Y 0 = updI (s.Y 0) (i : Int) (some none) := by
    show upd s.Y 0 (updI (s.Y 0) (s.cur 0) (some none)) 0 = _
    rw [upd_at, h.cur]
  have r3 : (an3 s i (K i)).rl 0 = i := h.rl
  have hd : ((an3 s i (K i)).Y 0 ((an3 s i (K i)).rl 0)).isSome = true := by rw [y3, r3, updI_at]; rfl
  refine ⟨?_, ?_, ?_, fun j => ?_, ?_, ?_, ?_, fun j => ?_, ?_, fun j => ?_⟩
  · show s.tail + 1 = i + 1
    rw [h.tail]
  · show s.low + 1 = i + 1
    rw [h.low]
  · show (s.closed || false) = false
    rw [h.closed]
    rfl
  · show updI (updI s.X (i : Int) (some (K i, 0))) (s.low : Int) none j = none
    rw [h.low]
    by_cases e : j = (i : Int)
    · subst e
      rw [updI_at]
    · rw [updI_off _ _ e, updI_off _ _ e]
      exact h.X j
  · show upd s.cur 0 (s.cur 0 + 1) 0 = i + 1
    rw [upd_at, h.cur]
  · exact h.left
  · show (if 0 < cB.sh ∧ ((an3 s i (K i)).Y 0 ((an3 s i (K i)).rl 0)).isSome = true then (an3 s i (K i)).rl 0 + 1 else (an3 s i (K i)).rl 0) = i + 1
    rw [if_pos ⟨by decide, hd⟩, r3]
  · show (if 0 < cB.sh ∧ ((an3 s i (K i)).Y 0 ((an3 s i (K i)).rl 0)).isSome = true then updI ((an3 s i (K i)).Y 0) ((an3 s i (K i)).rl 0) none else (an3 s i (K i)).Y 0) j = none
    rw [if_pos ⟨by decide, hd⟩, r3, y3]
    by_cases e : j = (i : Int)
    · subst e
      rw [updI_at]
    · rw [updI_off _ _ e, updI_off _ _ e]
      exact h.Y j
  · show s.cnt + 1 ≤ i + 1
    have := h.cnt
    omega
  · show (if ((an3 s i (K i)).X ((an3 s i (K i)).low : Nat) |>.getD (0, 0)).1 = 1 then s.G else updI s.G (s.low : Int) (some ⟨0, 100 + i⟩)) j = _
    rw [h.x3, h.low]
    show (if K i = 1 then s.G else updI s.G (i : Int) (some ⟨0, 100 + i⟩)) j = _
    by_cases hk : K i = 1
    · rw [if_pos hk, h.G j]
      by_cases e : j = (i : Int)
      · subst e
        rw [if_neg (by omega), if_neg (fun q => q.2.2 (by rw [Int.toNat_natCast]; exact hk))]
      · by_cases hj : 0 ≤ j ∧ j < i ∧ K j.toNat ≠ 1
        · rw [if_pos hj, if_pos ⟨hj.1, by omega, hj.2.2⟩]
        · rw [if_neg hj, if_neg (fun q => hj ⟨q.1, by omega, q.2.2⟩)]
    · rw [if_neg hk]
      by_cases e : j = (i : Int)
      · subst e
        rw [updI_at, if_pos ⟨by omega, by omega, by rw [Int.toNat_natCast]; exact hk⟩]
      · rw [updI_off _ _ e, h.G j]
        by_cases hj : 0 ≤ j ∧ j < i ∧ K j.toNat ≠ 1
        · rw [if_pos hj, if_pos ⟨hj.1, by omega, hj.2.2⟩]
        · rw [if_neg hj, if_neg (fun q => hj ⟨q.1, by omega, q.2.2⟩)]
end
/-- The answers that wait, of those of n commands of which some were asked for. -/
def AskInv (s : LSt) (K : Nat → Int) (n r k : Nat) : Prop := ∀ j : Int, s.G j = if 0 ≤ j ∧ j < n ∧ K j.toNat ≠ 1 ∧ ∀ q, q < k → j ≠ (((r + q) % n : Nat) : Int) then some ⟨0, 100 + j⟩ else none
theorem AskInv.next {s : LSt} {K : Nat → Int} {n r k : Nat} (h : AskInv s K n r k) (hk : k < n) :
    (s.G (((r + k) % n : Nat) : Int) = if K ((r + k) % n) ≠ 1 then some ⟨0, 100 + (((r + k) % n : Nat) : Int)⟩ else none) ∧ AskInv { s with G := updI (updI s.G (((r + k) % n : Nat) : Int) none) (((r + k) % n : Nat) : Int) none } K n r (k + 1) := by
  have hm : (r + k) % n < n := Nat.mod_lt _ (by omega)
  refine ⟨?_, fun j => ?_⟩
  · rw [h]
    by_cases hK : K ((r + k) % n) ≠ 1
    · rw [if_pos hK, if_pos ⟨by omega, by omega, by rw [Int.toNat_natCast]; exact hK, fun q hq e => mod_apart (n := n) (low := r) (i := r + k) (j := r + q) (by omega) (by omega) (by omega) (by omega) (by omega) (by omega) (by omega)⟩]
    · rw [if_neg hK, if_neg (fun q => hK (by have := q.2.2.1; rwa [Int.toNat_natCast] at this))]
  · show updI (updI s.G (((r + k) % n : Nat) : Int) none) (((r + k) % n : Nat) : Int) none j = _
    by_cases e : j = (((r + k) % n : Nat) : Int)
    · rw [e, updI_at, if_neg (fun q => q.2.2.2 k (Nat.lt_succ_self k) rfl)]
    · rw [updI_off _ _ e, updI_off _ _ e, h j]
      by_cases hj : 0 ≤ j ∧ j < n ∧ K j.toNat ≠ 1 ∧ ∀ q, q < k → j ≠ (((r + q) % n : Nat) : Int)
      · have h2 : ∀ q, q < k + 1 → j ≠ (((r + q) % n : Nat) : Int) := fun q hq => by
          by_cases hqk : q = k
          · rw [hqk]
            exact e
          · exact hj.2.2.2 q (by omega)
        rw [if_pos hj, if_pos ⟨hj.1, hj.2.1, hj.2.2.1, h2⟩]
      · rw [if_neg hj, if_neg (fun q => hj ⟨q.1, q.2.1, q.2.2.1, fun x hx => q.2.2.2 x (by omega)⟩)]
theorem AnsInv.ask {s : LSt} {K : Nat → Int} {n : Nat} (h : AnsInv s K n) (r : Nat) : AskInv s K n r 0 := fun j => by
  rw [h.G j]
  by_cases hj : 0 ≤ j ∧ j < n ∧ K j.toNat ≠ 1
  · rw [if_pos hj, if_pos ⟨hj.1, hj.2.1, hj.2.2, fun q hq => absurd hq (Nat.not_lt_zero q)⟩]
  · rw [if_neg hj, if_neg (fun q => hj ⟨q.1, q.2.1, q.2.2.1⟩)]
end Go.Proofs.Yteokdibfdahabaa
