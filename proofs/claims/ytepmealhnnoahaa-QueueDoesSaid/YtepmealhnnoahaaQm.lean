/-
  A map from numbers to what waits (a row of matches, and whether some are lost), in memory: looked up, written, taken out of, counted.
-/
import Derived.Maps.OwnSet
namespace Go.Proofs.Ytepmealhnnoahaa
open Go Go.Maps Go.WideShapes
set_option linter.unusedVariables false

/-- What waits: the row's block, how many, its room; lost or not. -/
structure Wt where
  blk : Option Nat
  n : Nat
  cap : Nat
  lost : Bool
def Wt.sl (q : Wt) : Value := .slice (q.blk.map fun b => ⟨b, 0, none⟩) q.n q.cap
def Wt.val (q : Wt) : Value := .agg #[q.sl, .bool q.lost]
def Wt.num (q : Wt) : Int := match q.blk with
  | none => -1
  | some b => b
def Wt.dat {H : Type} (q : Wt) : DataW H := .agg [.lit (.int .i64 q.num), .lit (.int .i64 q.n), .lit (.int .i64 q.cap), .lit (.bool q.lost)]
def Wt.zero : Wt := ⟨none, 0, 0, false⟩
theorem Wt.val_inj {q r : Wt} (h : q.val = r.val) : q = r := by
  obtain ⟨b, n, c, l⟩ := q
  obtain ⟨b', n', c', l'⟩ := r
  cases b <;> cases b' <;> simp_all [Wt.val, Wt.sl]
theorem Wt.dat_inj {H : Type} {q r : Wt} (h : (q.dat : DataW H) = r.dat) : q = r := by
  obtain ⟨b, n, c, l⟩ := q
  obtain ⟨b', n', c', l'⟩ := r
  cases b <;> cases b' <;> simp [Wt.dat, Wt.num] at h <;> simp_all <;> omega
open Classical in
noncomputable def wtElem {H : Type} (v : Value) : Option (DataW H × List MemPlace) := if h : ∃ q : Wt, v = q.val then some ((Classical.choose h).dat, []) else none
theorem wtElem_val {H : Type} (q : Wt) : wtElem (H := H) q.val = some (q.dat, []) := by
  have h : ∃ r : Wt, q.val = r.val := ⟨q, rfl⟩
  unfold wtElem
  rw [dif_pos h]
  have e := Wt.val_inj (Classical.choose_spec h)
  rw [← e]
theorem wtElem_inv {H : Type} {v : Value} {q : Wt} {ps : List MemPlace} (h : wtElem (H := H) v = some (q.dat, ps)) : v = q.val := by
  unfold wtElem at h
  split at h
  · rename_i hx
    injection h with h
    injection h with h _
    have e := Wt.dat_inj h
    rw [← e]
    exact Classical.choose_spec hx
  · cases h
/-- What lies at each number, and how many there are. -/
structure Wts (P : Program) (k : TypeId) (w : World) (mb n m : Nat) (G : Int → Option Wt) : Prop where
  ex : ∃ D : DataW Unit, w.ownsMap P k wtElem mb n D ∧ Maps.size D = m ∧ ∀ i, (Lit.int .i64 i).wf = true → Maps.has D (.int .i64 i) = (G i).isSome ∧ ∀ q, G i = some q → ∀ z, D.atKey (.int .i64 i) z = q.dat
section
variable {P : Program} {k e t : TypeId} {w : World} {mb n m : Nat} {G : Int → Option Wt}
theorem Wts.lt (h : Wts P k w mb n m G) : mb < w.heap.size := by
  obtain ⟨D, h1, _⟩ := h.ex
  exact h1.lt
theorem Wts.kept {w' : World} {row : Option Nat} (h : Wts P k w mb n m G) (hg : w.grownBy w' row) (hne : some mb ≠ row) : Wts P k w' mb n m G := by
  obtain ⟨D, h1, h2⟩ := h.ex
  exact ⟨D, h1.kept hg hne, h2⟩
theorem Wts.block {w' : World} (h : Wts P k w mb n m G) (hb : w'.heap[mb]? = w.heap[mb]?) : Wts P k w' mb n m G := by
  obtain ⟨D, ⟨es, clock, h0, F, hs, hD⟩, h2⟩ := h.ex
  exact ⟨D, ⟨es, clock, hb.trans h0, F, hs, hD⟩, h2⟩
theorem Wts.made (w : World) : Wts P k (w.alloc (.map #[] 0)) w.heap.size 0 0 (fun _ => none) :=
  ⟨.map [], World.ownsMap_made w P k wtElem, rfl, fun i hi => ⟨rfl, fun q hq => by cases hq⟩⟩
theorem Wts.look (h : Wts P k w mb n m G) (hk : P.underlying k = some (.int .i64)) (ht : P.underlying t = some (.map k e)) (hz : (zeroValue e).run P w = .ok Wt.zero.val w) {i : Int} (hi : (Lit.int .i64 i).wf = true) :
    (Instr.lookup t (.map (some mb)) (.int .i64 i) true).run P w = .ok (.tuple #[((G i).getD Wt.zero).val, .bool (G i).isSome]) w := by
  obtain ⟨D, h1, h2, h3⟩ := h.ex
  obtain ⟨v, ps, hrun, hv⟩ := h1.look_ok (int_keyed hk) ht hz (wtElem_val _) (keyOf_int_mk hk hi)
  obtain ⟨a1, a2⟩ := h3 i hi
  rw [hrun, a1]
  cases hG : G i with
  | some q =>
    rw [a2 q hG] at hv
    rw [wtElem_inv hv]
    rfl
  | none =>
    rw [hG] at a1
    rw [Maps.atKey_of_not_has a1] at hv
    rw [wtElem_inv hv]
    rfl
theorem Wts.look1 (h : Wts P k w mb n m G) (hk : P.underlying k = some (.int .i64)) (ht : P.underlying t = some (.map k e)) (hz : (zeroValue e).run P w = .ok Wt.zero.val w) {i : Int} (hi : (Lit.int .i64 i).wf = true) :
    (Instr.lookup t (.map (some mb)) (.int .i64 i) false).run P w = .ok ((G i).getD Wt.zero).val w := by
  obtain ⟨D, h1, h2, h3⟩ := h.ex
  obtain ⟨v, ps, hrun, hv⟩ := h1.lookup (int_keyed hk) ht hz (wtElem_val _) (keyOf_int_mk hk hi)
  obtain ⟨a1, a2⟩ := h3 i hi
  rw [hrun]
  cases hG : G i with
  | some q =>
    rw [a2 q hG] at hv
    rw [wtElem_inv hv]
    rfl
  | none =>
    rw [hG] at a1
    rw [Maps.atKey_of_not_has a1] at hv
    rw [wtElem_inv hv]
    rfl
theorem Wts.store (h : Wts P k w mb n m G) (hk : P.underlying k = some (.int .i64)) (ht : P.underlying t = some (.map k e)) (hn : n < maxLen) {i : Int} (hi : (Lit.int .i64 i).wf = true) (q : Wt) :
    ∃ w', (Instr.mapUpdate t (.map (some mb)) (.int .i64 i) q.val).run P w = .ok () w' ∧ Wts P k w' mb (n + 1) (if (G i).isSome then m else m + 1) (fun j => if j = i then some q else G j) ∧ w.grownBy w' (some mb) := by
  obtain ⟨D, h1, h2, h3⟩ := h.ex
  obtain ⟨w', hrun, hown, hg⟩ := h1.update (int_keyed hk) ht hn (keyOf_int_mk hk hi) (wtElem_val q)
  have tidy := h1.tidy (int_keyed hk)
  refine ⟨w', hrun, ⟨_, hown, ?_, fun j hj => ?_⟩, hg⟩
  · rw [Maps.size_put tidy, (h3 i hi).1, h2]
  · by_cases e : j = i
    · subst e
      rw [if_pos rfl]
      exact ⟨Maps.has_put_same tidy.isMap (by trivial) _, fun r hr z => by
        injection hr with hr
        subst hr
        exact Maps.atKey_put_same tidy.isMap (by trivial) _ _⟩
    · rw [if_neg e]
      have hne : (Lit.int .i64 j) ≠ Lit.int .i64 i := fun he => e (by injection he)
      refine ⟨(Maps.has_put_other hne _).trans (h3 j hj).1, fun r hr z => ?_⟩
      rw [Maps.atKey_put_other hne]
      exact (h3 j hj).2 r hr z
theorem Wts.take (h : Wts P k w mb n m G) (hk : P.underlying k = some (.int .i64)) (ht : P.underlying t = some (.map k e)) {i : Int} (hi : (Lit.int .i64 i).wf = true) (ty : TypeId) :
    ∃ w', (Builtin.delete_ #[t, k] ty #[.map (some mb), .int .i64 i]).run P w = .ok (.tuple #[]) w' ∧ Wts P k w' mb n (if (G i).isSome then m - 1 else m) (fun j => if j = i then none else G j) ∧ w.grownBy w' (some mb) := by
  obtain ⟨D, h1, h2, h3⟩ := h.ex
  obtain ⟨w', hrun, hown, ht'⟩ := h1.drop (int_keyed hk) ht (keyOf_int_mk hk hi) ty
  have tidy := h1.tidy (int_keyed hk)
  refine ⟨w', hrun, ⟨_, hown, ?_, fun j hj => ?_⟩, ht'.grown⟩
  · have := Maps.size_del (k := .int .i64 i) tidy
    rw [(h3 i hi).1, h2] at this
    split <;> simp_all <;> omega
  · by_cases e : j = i
    · subst e
      rw [if_pos rfl]
      exact ⟨Maps.has_del_same, fun r hr => by cases hr⟩
    · rw [if_neg e]
      have hne : (Lit.int .i64 j) ≠ Lit.int .i64 i := fun he => e (by injection he)
      refine ⟨(Maps.has_del_other hne).trans (h3 j hj).1, fun r hr z => ?_⟩
      rw [Maps.atKey_del_other hne]
      exact (h3 j hj).2 r hr z
theorem Wts.len (h : Wts P k w mb n m G) (ht : P.underlying t = some (.map k e)) (ty : TypeId) : (Builtin.len_ #[t] ty #[.map (some mb)]).run P w = .ok (.int .i64 (m : Int)) w := by
  obtain ⟨D, h1, h2, h3⟩ := h.ex
  rw [h1.len ht ty, h2]
end
end Go.Proofs.Ytepmealhnnoahaa
