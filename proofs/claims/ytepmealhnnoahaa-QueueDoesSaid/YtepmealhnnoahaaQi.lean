/-
  What waits of each query: rows of what was found.
-/
import Derived.Test.YtepmealhnnoahaaQh
import Derived.Test.YtepmealhnnoahaaQr
namespace Go.Proofs.Ytepmealhnnoahaa
open Go.ChangeShapes Go.WideShapes Go.ChangeAt Go.RowKit
set_option linter.unusedVariables false
def fcells : List (Value × Value) → List Value
  | [] => []
  | p :: l => p.1 :: p.2 :: fcells l
theorem fcells_len : ∀ l : List (Value × Value), (fcells l).length = l.length * 2
  | [] => rfl
  | p :: l => by simp only [fcells, List.length_cons]; rw [fcells_len l]; omega
theorem fcells_app : ∀ (l m : List (Value × Value)), fcells (l ++ m) = fcells l ++ fcells m
  | [], m => rfl
  | p :: l, m => by simp only [List.cons_append, fcells]; rw [fcells_app l m]
/-- A row of what was found; M has the blocks of the copies. -/
structure FRow (w : World) (base : Nat) (M : Nat → Prop) (v : Value) (l : List Fnd) : Prop where
  ex : ∃ ps : List (Value × Value), ps.length = l.length ∧ w.ownsRow base 71 2 v l.length (fcells ps) ∧ ∀ (j : Nat) (f : Fnd) (p : Value × Value), l[j]? = some f → ps[j]? = some p → FoundAt w (fun k => ¬ M k) p.1 p.2 f
theorem FRow.turn {S M : Nat → Prop} {w w' : World} {base : Nat} {v : Value} {l : List Fnd} (h : FRow w base M v l) (T : Turn S w w') (hM : ∀ k, M k → ¬ S k) (hv : ∀ k, v.ownBlock = some k → ¬ S k) : FRow w' base M v l := by
  obtain ⟨ps, h1, h2, h3⟩ := h.ex
  exact ⟨ps, h1, own_turn h2 T hv, fun j f p hf hp => (h3 j f p hf hp).turn T (fun k _ q m => hM k m q)⟩
theorem FoundAt.weak {N N' : Nat → Prop} {w : World} {vs vr : Value} {f : Fnd} (h : FoundAt w N vs vr f) (hn : ∀ k, N' k → N k) : FoundAt w N' vs vr f :=
  ⟨h.sets.weak hn, h.refs, fun k hk q => h.apart k hk (hn k q), h.s1, h.s2, h.r1, h.r2⟩
theorem FRow.more {M M' : Nat → Prop} {w : World} {base : Nat} {v : Value} {l : List Fnd} (h : FRow w base M v l) (hM : ∀ k, M k → M' k) : FRow w base M' v l := by
  obtain ⟨ps, h1, h2, h3⟩ := h.ex
  exact ⟨ps, h1, h2, fun j f p hf hp => (h3 j f p hf hp).weak (fun k q m => q (hM k m))⟩
/-- What waits: of each query its row; each row in a block of its own, none of them among the copies'. -/
structure HoldAt (w : World) (base : Nat) (M : Nat → Prop) (Q : Int → Option Wt) (F : Int → List Fnd) : Prop where
  row : ∀ (i : Int) (q : Wt), Q i = some q → q.n = (F i).length ∧ FRow w base M q.sl (F i)
  apart : ∀ (i j : Int) (q r : Wt) (k : Nat), i ≠ j → Q i = some q → Q j = some r → q.sl.ownBlock = some k → r.sl.ownBlock ≠ some k
  mlt : ∀ k, M k → k < w.heap.size
  mno : ∀ (i : Int) (q : Wt) (k : Nat), Q i = some q → q.sl.ownBlock = some k → ¬ M k
  gap : ∀ i, Q i = none → F i = []
theorem HoldAt.turn {S M : Nat → Prop} {w w' : World} {base : Nat} {Q : Int → Option Wt} {F : Int → List Fnd} (h : HoldAt w base M Q F) (T : Turn S w w') (hM : ∀ k, M k → ¬ S k)
    (hR : ∀ (i : Int) (q : Wt) (k : Nat), Q i = some q → q.sl.ownBlock = some k → ¬ S k) : HoldAt w' base M Q F :=
  ⟨fun i q hq => ⟨(h.row i q hq).1, (h.row i q hq).2.turn T hM (fun k hk => hR i q k hq hk)⟩, h.apart, fun k m => Nat.lt_of_lt_of_le (h.mlt k m) T.size, h.mno, h.gap⟩
theorem HoldAt.lose {M : Nat → Prop} {w : World} {base : Nat} {Q : Int → Option Wt} {F : Int → List Fnd} (h : HoldAt w base M Q F) {i : Int} {q : Wt} (hq : Q i = some q) : HoldAt w base M (updI Q i (some { q with lost := true })) F := by
  have K : ∀ (j : Int) (r : Wt), updI Q i (some { q with lost := true }) j = some r → ∃ s, Q j = some s ∧ s.sl = r.sl ∧ s.n = r.n := fun j r hr => by
    unfold updI at hr
    split at hr
    · rename_i e
      cases hr
      exact ⟨q, by rw [e]; exact hq, rfl, rfl⟩
    · exact ⟨r, hr, rfl, rfl⟩
  refine ⟨fun j r hr => ?_, fun j l r s k hne hr hs hk => ?_, h.mlt, fun j r k hr hk => ?_, fun j hj => ?_⟩
  · obtain ⟨s, hs, e1, e2⟩ := K j r hr
    rw [← e1, ← e2]
    exact h.row j s hs
  · obtain ⟨r', hr', e1, _⟩ := K j r hr
    obtain ⟨s', hs', e2, _⟩ := K l s hs
    rw [← e2]
    exact h.apart j l r' s' k hne hr' hs' (e1 ▸ hk)
  · obtain ⟨s, hs, e1, _⟩ := K j r hr
    exact h.mno j s k hs (e1 ▸ hk)
  · unfold updI at hj
    split at hj
    · cases hj
    · exact h.gap j hj
end Go.Proofs.Ytepmealhnnoahaa
