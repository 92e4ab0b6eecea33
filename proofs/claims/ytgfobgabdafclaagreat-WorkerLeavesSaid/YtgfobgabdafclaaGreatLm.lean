/-
  A map from numbers to answers that have no matches, in memory: looked up, written, taken out of, counted.
-/
import Derived.Maps.OwnSet
namespace Go.Proofs.YtgfobgabdafclaaGreat
open Go Go.Maps Go.WideShapes
set_option linter.unusedVariables false

structure Nd where
  err : Int
  n : Int
def Nd.val (q : Nd) : Value := .agg #[.int .i64 q.err, .int .i64 q.n, .slice none 0 0]
def Nd.dat {H : Type} (q : Nd) : DataW H := .agg [.lit (.int .i64 q.err), .lit (.int .i64 q.n)]
def Nd.zero : Nd := ⟨0, 0⟩
theorem Nd.val_inj {q r : Nd} (h : q.val = r.val) : q = r := by
  cases q
  cases r
  simpa [Nd.val] using h
theorem Nd.dat_inj {H : Type} {q r : Nd} (h : (q.dat : DataW H) = r.dat) : q = r := by
  cases q
  cases r
  simpa [Nd.dat] using h
open Classical in
noncomputable def ndElem {H : Type} (v : Value) : Option (DataW H × List MemPlace) := if h : ∃ q : Nd, v = q.val then some ((Classical.choose h).dat, []) else none
theorem ndElem_val {H : Type} (q : Nd) : ndElem (H := H) q.val = some (q.dat, []) := by
  have h : ∃ r : Nd, q.val = r.val := ⟨q, rfl⟩
  unfold ndElem
  rw [dif_pos h]
  have e := Nd.val_inj (Classical.choose_spec h)
  rw [← e]
theorem ndElem_inv {H : Type} {v : Value} {q : Nd} {ps : List MemPlace} (h : ndElem (H := H) v = some (q.dat, ps)) : v = q.val := by
  unfold ndElem at h
  split at h
  · rename_i hx
    injection h with h
    injection h with h _
    have e := Nd.dat_inj h
    rw [← e]
    exact Classical.choose_spec hx
  · cases h
/-- What lies at each number, and how many there are. -/
structure Nds (P : Program) (k : TypeId) (w : World) (mb n m : Nat) (G : Int → Option Nd) : Prop where
  ex : ∃ D : DataW Unit, w.ownsMap P k ndElem mb n D ∧ Maps.size D = m ∧ ∀ i, (Lit.int .i64 i).wf = true → Maps.has D (.int .i64 i) = (G i).isSome ∧ ∀ q, G i = some q → ∀ z, D.atKey (.int .i64 i) z = q.dat
section
variable {P : Program} {k e t : TypeId} {w : World} {mb n m : Nat} {G : Int → Option Nd}
theorem Nds.lt (h : Nds P k w mb n m G) : mb < w.heap.size := by
  obtain ⟨D, h1, _⟩ := h.ex
  exact h1.lt
theorem Nds.kept {w' : World} {row : Option Nat} (h : Nds P k w mb n m G) (hg : w.grownBy w' row) (hne : some mb ≠ row) : Nds P k w' mb n m G := by
  obtain ⟨D, h1, h2⟩ := h.ex
  exact ⟨D, h1.kept hg hne, h2⟩
theorem Nds.block {w' : World} (h : Nds P k w mb n m G) (hb : w'.heap[mb]? = w.heap[mb]?) : Nds P k w' mb n m G := by
  obtain ⟨D, ⟨es, clock, h0, F, hs, hD⟩, h2⟩ := h.ex
  exact ⟨D, ⟨es, clock, hb.trans h0, F, hs, hD⟩, h2⟩
theorem Nds.made (w : World) : Nds P k (w.alloc (.map #[] 0)) w.heap.size 0 0 (fun _ => none) :=
  ⟨.map [], World.ownsMap_made w P k ndElem, rfl, fun i hi => ⟨rfl, fun q hq => by cases hq⟩⟩
theorem Nds.look (h : Nds P k w mb n m G) (hk : P.underlying k = some (.int .i64)) (ht : P.underlying t = some (.map k e)) (hz : (zeroValue e).run P w = .ok Nd.zero.val w) {i : Int} (hi : (Lit.int .i64 i).wf = true) :
    (Instr.lookup t (.map (some mb)) (.int .i64 i) true).run P w = .ok (.tuple #[((G i).getD Nd.zero).val, .bool (G i).isSome]) w := by
  obtain ⟨D, h1, h2, h3⟩ := h.ex
  obtain ⟨v, ps, hrun, hv⟩ := h1.look_ok (int_keyed hk) ht hz (ndElem_val _) (keyOf_int_mk hk hi)
  obtain ⟨a1, a2⟩ := h3 i hi
  rw [hrun, a1]
  cases hG : G i with
  | some q =>
    rw [a2 q hG] at hv
    rw [ndElem_inv hv]
    rfl
  | none =>
    rw [hG] at a1
    rw [Maps.atKey_of_not_has a1] at hv
    rw [ndElem_inv hv]
    rfl
theorem Nds.store (h : Nds P k w mb n m G) (hk : P.underlying k = some (.int .i64)) (ht : P.underlying t = some (.map k e)) (hn : n < maxLen) {i : Int} (hi : (Lit.int .i64 i).wf = true) (q : Nd) :
    ∃ w', (Instr.mapUpdate t (.map (some mb)) (.int .i64 i) q.val).run P w = .ok () w' ∧ Nds P k w' mb (n + 1) (if (G i).isSome then m else m + 1) (fun j => if j = i then some q else G j) ∧ w.grownBy w' (some mb) := by
  obtain ⟨D, h1, h2, h3⟩ := h.ex
  obtain ⟨w', hrun, hown, hg⟩ := h1.update (int_keyed hk) ht hn (keyOf_int_mk hk hi) (ndElem_val q)
  have tidy := h1.tidy (int_keyed hk)
  refine ⟨w', hrun, ⟨_, hown, ?_, fun j hj => ?_⟩, hg⟩
  · rw [Maps.size_put tidy, (h3 i hi).1, h2]
  · by_cases e : j = i
    · subst e
      rw [if_pos rfl]
      exact ⟨Maps.has_put_same tidy.isMap (by trivial) _, fun r hr z => by
        injection hr with hr
        subst hr
        exact Maps.atKey_put_same tidy.isMap (by trivial) _ _⟩
    · rw [if_neg e]
      have hne : (Lit.int .i64 j) ≠ Lit.int .i64 i := fun he => e (by injection he)
      refine ⟨(Maps.has_put_other hne _).trans (h3 j hj).1, fun r hr z => ?_⟩
      rw [Maps.atKey_put_other hne]
      exact (h3 j hj).2 r hr z
theorem Nds.take (h : Nds P k w mb n m G) (hk : P.underlying k = some (.int .i64)) (ht : P.underlying t = some (.map k e)) {i : Int} (hi : (Lit.int .i64 i).wf = true) (ty : TypeId) :
    ∃ w', (Builtin.delete_ #[t, k] ty #[.map (some mb), .int .i64 i]).run P w = .ok (.tuple #[]) w' ∧ Nds P k w' mb n (if (G i).isSome then m - 1 else m) (fun j => if j = i then none else G j) ∧ w.grownBy w' (some mb) := by
  obtain ⟨D, h1, h2, h3⟩ := h.ex
  obtain ⟨w', hrun, hown, ht'⟩ := h1.drop (int_keyed hk) ht (keyOf_int_mk hk hi) ty
  have tidy := h1.tidy (int_keyed hk)
  refine ⟨w', hrun, ⟨_, hown, ?_, fun j hj => ?_⟩, ht'.grown⟩
  · have := Maps.size_del (k := .int .i64 i) tidy
    rw [(h3 i hi).1, h2] at this
    split <;> simp_all <;> omega
  · by_cases e : j = i
    · subst e
      rw [if_pos rfl]
      exact ⟨Maps.has_del_same, fun r hr => by cases hr⟩
    · rw [if_neg e]
      have hne : (Lit.int .i64 j) ≠ Lit.int .i64 i := fun he => e (by injection he)
      refine ⟨(Maps.has_del_other hne).trans (h3 j hj).1, fun r hr z => ?_⟩
      rw [Maps.atKey_del_other hne]
      exact (h3 j hj).2 r hr z
theorem Nds.len (h : Nds P k w mb n m G) (ht : P.underlying t = some (.map k e)) (ty : TypeId) : (Builtin.len_ #[t] ty #[.map (some mb)]).run P w = .ok (.int .i64 (m : Int)) w := by
  obtain ⟨D, h1, h2, h3⟩ := h.ex
  rw [h1.len ht ty, h2]
end
end Go.Proofs.YtgfobgabdafclaaGreat
