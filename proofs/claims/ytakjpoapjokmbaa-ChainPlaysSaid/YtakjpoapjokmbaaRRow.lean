/-
  Rows of refs that a drop tells; what lies behind a key.
-/
import Derived.Test.YtakjpoapjokmbaaPush
import Derived.Deep.AppendLies
namespace Go.Proofs.Ytakjpoapjokmbaa
open Go.ChangeShapes Go.WideShapes Go.ChangeAt Go.RowKit
set_option linter.unusedVariables false

def rcells : List (Int × Int) → List Value
  | [] => []
  | e :: l => .int .i64 e.1 :: .int .i64 e.2 :: rcells l
theorem rcells_app : ∀ (l m : List (Int × Int)), rcells (l ++ m) = rcells l ++ rcells m
  | [], m => rfl
  | q :: l, m => by
    show _ :: _ :: rcells (l ++ m) = _ :: _ :: (rcells l ++ rcells m)
    rw [rcells_app l m]
theorem rcells_len : ∀ (l : List (Int × Int)), (rcells l).length = l.length * 2
  | [] => rfl
  | q :: l => by simp [rcells, rcells_len l]; omega
theorem rcells_one : ∀ (l : List (Int × Int)), ∀ v ∈ rcells l, v.oneCell' = true
  | [], v, h => absurd h (by simp [rcells])
  | c :: l, v, h => by
    rw [rcells] at h
    rcases List.mem_cons.1 h with h | h
    · subst h; rfl
    · rcases List.mem_cons.1 h with h | h
      · subst h; rfl
      · exact rcells_one l v h
theorem info39 : (Try.prog.info? 39).map (fun i => (i.zero, i.size, i.bytes)) = some (some (.agg #[.int .i64 0, .int .i64 0]), 2, 16) := by kernel_rfl
theorem rrow_lt {w : World} {base e size n : Nat} {v : Value} {xs : List Value} (h : w.ownsRow base e size v n xs) {k : Nat} (hk : v.ownBlock = some k) : base ≤ k ∧ k < w.heap.size := by
  rcases h.2 with ⟨rfl, _⟩ | ⟨g, cap, cur, rfl, hg, hgg, rest⟩
  · cases hk
  · obtain rfl : g = k := by simpa [Value.ownBlock] using hk
    exact ⟨hg, (Array.getElem?_eq_some_iff.1 hgg).1⟩
theorem rrow_keep {w w' : World} {base e size n : Nat} {v : Value} {xs : List Value} (h : w.ownsRow base e size v n xs) (hk : ∀ k, v.ownBlock = some k → w'.heap[k]? = w.heap[k]?) : w'.ownsRow base e size v n xs := by
  refine ⟨h.1, ?_⟩
  rcases h.2 with h0 | ⟨g, cap, cur, rfl, hg, hgg, rest⟩
  · exact .inl h0
  · exact .inr ⟨g, cap, cur, rfl, hg, (hk g rfl).trans hgg, rest⟩
theorem rrow_slice {w : World} {base e size n : Nat} {v : Value} {xs : List Value} (h : w.ownsRow base e size v n xs) : ∃ a cap, v = .slice a n cap ∧ (0 < n → ∃ g, a = some ⟨g, 0, none⟩) := by
  rcases h.2 with ⟨rfl, rfl⟩ | ⟨g, cap, cur, rfl, _⟩
  · exact ⟨none, 0, rfl, fun h => absurd h (Nat.lt_irrefl 0)⟩
  · exact ⟨_, _, rfl, fun _ => ⟨g, rfl⟩⟩
/-- One ref more. -/
theorem ref_app {w : World} {base : Nat} {v : Value} {l : List (Int × Int)} (h : w.ownsRow base 39 2 v l.length (rcells l)) (s g : Int) (ad : Nat) (h0 : w.cell? ⟨ad, 0, none⟩ = some (.int .i64 s)) (h1 : w.cell? ⟨ad, 1, none⟩ = some (.int .i64 g)) (hl : l.length ≤ 1000) (hb : base ≤ w.heap.size) :
    ∃ v' w', (Builtin.append_ #[43, 43] 43 #[v, .slice (some ⟨ad, 0, none⟩) 1 1]).run Try.prog w = .ok v' w' ∧ w'.ownsRow base 39 2 v' (l ++ [(s, g)]).length (rcells (l ++ [(s, g)])) ∧ w.grownBy w' v.ownBlock := by
  obtain ⟨i3, j1, j2, j3, j4⟩ := info_parts info39
  obtain ⟨v', w', hr, ho, hg2, _⟩ := run_append_own w base 43 43 39 i3 _ 2 16 Try.underlying43 j1 j2 j3 j4 rfl (by decide) v l.length (rcells l) h ⟨ad, 0, none⟩ 1 1 [.int .i64 s, .int .i64 g] rfl (fun j u hu => by
    match j, hu with
    | 0, hu => simp at hu; subst hu; exact h0
    | 1, hu => simp at hu; subst hu; exact h1
    | j + 2, hu => simp at hu) (fun u hu => by simp at hu; rcases hu with rfl | rfl <;> rfl) (by unfold maxLen; omega) (by omega) hb
  exact ⟨v', w', hr, by rw [rcells_app, List.length_append]; exact ho, hg2⟩
section
variable {w : World} {c mb n m : Nat} {nx : Int} {G : Int → Option Nd}
theorem Nds.look0 {P : Program} {k e t : TypeId} (h : Nds P k w mb n m G) (hk : P.underlying k = some (.int .i64)) (ht : P.underlying t = some (.map k e)) (hz : (zeroValue e).run P w = .ok Nd.zero.val w) {i : Int} (hi : (Lit.int .i64 i).wf = true) :
    (Instr.lookup t (.map (some mb)) (.int .i64 i) false).run P w = .ok ((G i).getD Nd.zero).val w := by
  obtain ⟨D, h1, h2, h3⟩ := h.ex
  obtain ⟨v, ps, hrun, hv⟩ := h1.lookup (Go.Maps.int_keyed hk) ht hz (ndElem_val _) (Go.Maps.keyOf_int_mk hk hi)
  obtain ⟨a1, a2⟩ := h3 i hi
  rw [hrun]
  cases hG : G i with
  | some q =>
    rw [a2 q hG] at hv
    rw [ndElem_inv hv]
    rfl
  | none =>
    rw [hG] at a1
    rw [Maps.atKey_of_not_has a1] at hv
    rw [ndElem_inv hv]
    rfl
end
end Go.Proofs.Ytakjpoapjokmbaa
