/-
  A region that draws, and whose last store writes what its loads read: the condition on the world holds up to that store alone.
-/
import Derived.Test.YtadogobdlcionaaDoorBase
import Derived.Deep.RegionHeld3
namespace Go.Proofs.YtadogobdlcionaaDoor
open Go.ChangeShapes Go.WideShapes Go.ChangeAt Go.RowKit
set_option linter.unusedVariables false
set_option linter.unusedSimpArgs false
section
variable {P : Program} {ops : Array Oper} {Q : Exit → Act → World → Prop} {F : Bool → World → Prop} {st : Nat}
/-- Whatever order is picked; behind each operation F holds, told whether operation st is done. -/
def LAny (P : Program) (ops : Array Oper) (Q : Exit → Act → World → Prop) (F : Bool → World → Prop) (st : Nat) : Nat → Array Bool → Act → World → Prop
  | 0, li, a, w => Region.ready .any ops li = [] ∧ Q .normal a w
  | n + 1, li, a, w => (Region.ready .any ops li = [] → Q .normal a w) ∧ ∀ i ∈ Region.ready .any ops li, wpOp P ops Q i (fun a' w' => F ((li.setIfInBounds i true).getD st true) w' ∧ LAny P ops Q F st n (li.setIfInBounds i true) a' w') a w
theorem LAny.any : ∀ (n : Nat) (li : Array Bool) (a : Act) (w : World), LAny P ops Q F st n li a w → wpAny P .any ops Q n li a w
  | 0, _, _, _, h => h
  | n + 1, _, _, _, h => ⟨h.1, fun i hi => wpOp_mono (fun a' w' q => LAny.any n _ a' w' q.2) (h.2 i hi)⟩
theorem lany_start {id : Nat} {a : Act} {w : World} (st : Nat) (F : Bool → World → Prop) (hm : P.follows .mixedOrders = true) (hF : F false w.drew) (h : F false w.drew → LAny P ops Q F st ops.size (Array.replicate ops.size false) a w.drew) : (Code.region id ops true).wp P Q a w :=
  wp_region_any hm (LAny.any _ _ _ _ (h hF))
/-- What waits for i does not come up ahead of it. -/
theorem waits_not {i j : Nat} {li : Array Bool} (hi : li.getD i true = false) (hj : j ∈ Region.ready .any ops li) : ∃ o, ops[j]? = some o ∧ ∀ e ∈ o.after, Region.binds .any e = true → e.on ≠ i := by
  obtain ⟨_, o, ho, hall⟩ := mem_ready.1 hj
  refine ⟨o, ho, fun e he hb q => ?_⟩
  have h1 := hall e he hb
  rw [q] at h1
  rw [Array.getD_eq_getD_getElem?] at hi h1
  cases hl : li[i]? with
  | none => rw [hl] at hi; cases hi
  | some b => rw [hl] at hi h1; exact absurd (h1.symm.trans hi) (by simp)
/-- An operation that reads is taken first, if operation st, which writes what it reads, waits for it. -/
theorem LAny.first {i : Nat} {oi : Oper} {v : Value} (hi : ops[i]? = some oi) (hsel : ∀ (j : Nat) (o : Oper) (cs : Array SelectCase) (b : Bool), ops[j]? = some o → o.op ≠ .select cs b) (hQ : ∀ c a w, Q (.panic c) (a.put oi.dst v) w → Q (.panic c) a w)
    (hst : i ≠ st) (hw : ∀ o, ops[st]? = some o → ∃ e ∈ o.after, Region.binds .any e = true ∧ e.on = i) :
    ∀ (n : Nat) (li : Array Bool) (a : Act) (w : World), (∀ j oj, ops[j]? = some oj → j ≠ i → li.getD j true = false → (∀ e ∈ oj.after, Region.binds .any e = true → e.on ≠ i) → oi.apart ops oj = true) →
      i ∈ Region.ready .any ops li → li.getD st true = false → YieldsIf P ops (F false) oi v a → F false w → LAny P ops Q F st n (li.setIfInBounds i true) (a.put oi.dst v) w → LAny P ops Q F st (n + 1) li a w := by
  intro n
  induction n with
  | zero =>
    intro li a w _ hr hs hy hF H
    refine ⟨fun q => (by rw [q] at hr; cases hr), fun j hj => ?_⟩
    by_cases e : j = i
    · subst e
      exact hy.wpOp hi hF ⟨by rw [getD_set_ne true hst, hs]; exact hF, H⟩
    · have h0 := ready_mono hj e
      rw [H.1] at h0
      cases h0
  | succ n ih =>
    intro li a w hfree hr hs hy hF H
    refine ⟨fun q => (by rw [q] at hr; cases hr), fun j hj => ?_⟩
    by_cases e : j = i
    · subst e
      exact hy.wpOp hi hF ⟨by rw [getD_set_ne true hst, hs]; exact hF, H⟩
    · have hun := (mem_ready.1 hr).1
      obtain ⟨oj, hoj, hno⟩ := waits_not hun hj
      have hjst : j ≠ st := fun q => by
        subst q
        obtain ⟨ed, h1, h2, h3⟩ := hw oj hoj
        exact hno ed h1 h2 h3
      have hju := (mem_ready.1 hj).1
      have h2 := wpOp_putIf hoj (hfree j oj hoj e hju hno) (fun cs b => hsel i oi cs b hi) (fun cs b => hsel j oj cs b hoj) hQ hy (H.2 j (ready_mono hj e))
      have hs2 : (li.setIfInBounds j true).getD st true = false := by rw [getD_set_ne true hjst]; exact hs
      refine wpOp_mono (fun a' w' q => ?_) h2
      obtain ⟨q1, q2, q3⟩ := q
      rw [getD_set_ne true hjst, getD_set_ne true hst, hs] at q2
      rw [Array.setIfInBounds_comm _ _ (fun z => e z.symm)] at q3
      refine ⟨by rw [hs2]; exact q2, ih _ a' w' (fun k ok hk hki hku hkn => hfree k ok hk hki ?_ hkn) (ready_mono hr (fun z => e z.symm)) hs2 q1 q2 q3⟩
      by_cases z : j = k
      · subst z; exact hju
      · rw [getD_set_ne true z] at hku; exact hku
theorem LAny.take {i : Nat} {oi : Oper} {v : Value} {n : Nat} {li : Array Bool} {a : Act} {w : World} (hi : ops[i]? = some oi) (hs : Region.noSelect ops = true) (hf : Region.free .any ops li i = true) (hr : (Region.ready .any ops li).contains i = true)
    (hq : (li.getD st true == false && i != st && (match ops[st]? with | none => true | some o => o.after.any (fun e => Region.binds .any e && e.on == i))) = true) (hQ : ∀ c a w, Q (.panic c) (a.put oi.dst v) w → Q (.panic c) a w) (hy : YieldsIf P ops (F false) oi v a) (hF : F false w)
    (h : LAny P ops Q F st n (li.setIfInBounds i true) (a.put oi.dst v) w) : LAny P ops Q F st (n + 1) li a w := by
  simp only [Bool.and_eq_true, beq_iff_eq, bne_iff_ne] at hq
  obtain ⟨⟨q1, q2⟩, q3⟩ := hq
  refine LAny.first hi (Region.noSelect_spec hs) hQ q2 (fun o ho => ?_) n li a w (Region.free_spec hi hf) (by simpa using hr) q1 hy hF h
  rw [ho] at q3
  simp only [Array.any_eq_true, Bool.and_eq_true, beq_iff_eq] at q3
  obtain ⟨k, hk, z1, z2⟩ := q3
  exact ⟨_, Array.getElem_mem hk, z1, z2⟩
/-- One operation alone may come up. -/
theorem LAny.one {i : Nat} {o : Oper} {b : Bool} {n : Nat} {li : Array Bool} {a : Act} {w : World} (hr : Region.ready .any ops li = [i]) (ho : ops[i]? = some o) (hb : (li.setIfInBounds i true).getD st true = b)
    (h : ∀ K' : Act → World → Prop, Shut (∀ a w, F b w → (F b w → LAny P ops Q F st n (li.setIfInBounds i true) a w) → K' a w) → if Region.wanted o (yielded ops a.tmps) = true then Oper.wp P o a w K' Q else K' (a.put o.dst undef) w) : LAny P ops Q F st (n + 1) li a w :=
  ⟨fun q => (by rw [hr] at q; cases q), fun j hj => by
    rw [hr] at hj
    obtain rfl : j = i := by simpa using hj
    exact wpOp_step ho (fun K' hK => h K' (fun a w hS hW => hK a w ⟨by rw [hb]; exact hS, hW hS⟩))⟩
theorem LAny.done {li : Array Bool} {a : Act} {w : World} (hr : Region.ready .any ops li = []) (h : Q .normal a w) : ∀ n, LAny P ops Q F st n li a w
  | 0 => ⟨hr, h⟩
  | _ + 1 => ⟨fun _ => h, by rw [hr]; simp⟩
end
end Go.Proofs.YtadogobdlcionaaDoor
