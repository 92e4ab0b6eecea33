/-
  A region that draws its order, within a round of a range over a function: as anywhere, if it defers nothing.
-/
import Derived.Test.YtakjpoapjokmbaaVals
import Derived.Deep.RegionHeld3
namespace Go.Proofs.Ytakjpoapjokmbaa
open Go
set_option linter.unusedVariables false

def onlyN (R : Act → World → Prop) : Exit → Act → World → Prop
  | .normal, a, w => R a w
  | _, _, _ => False
theorem rows_wide {P : Program} {row : String} {args : Array Value} {w : World} {R : Value → World → Prop} (l n : Nat) (h : Rows P row args w R) : RowsIn (Fence.wide.inRound l) n P row args w R := fun c cs _ =>
  let ⟨v, w', r, s⟩ := h c cs
  ⟨v, w', r, stepsIn_wide.2 s⟩
theorem op_round {P : Program} {ops : Array Oper} (hd : ∀ (j : Nat) (o : Oper) c, ops[j]? = some o → o.op ≠ .defer c) (l n : Nat) {R : Act → World → Prop} {Q : Exit → Act → World → Prop} (hQ : ∀ a w, R a w → Q .normal a w) {i : Nat} {K K' : Act → World → Prop} (hK : ∀ a w, K a w → K' a w) {a : Act} {w : World}
    (h : wpOp P ops (onlyN R) i K a w) : wpOpIn (Fence.wide.inRound l) n P ops Q i K' a w := by
  unfold wpOp at h
  unfold wpOpIn
  cases ho : ops[i]? with
  | none =>
    rw [ho] at h
    exact hK _ _ h
  | some o =>
    rw [ho] at h
    simp only at h ⊢
    have hfn : ∀ f, o.about P w a.eval = some f → (Fence.wide.inRound l).fn f := fun f _ => trivial
    split at h
    · rename_i hw
      rw [if_pos hw]
      refine ⟨hfn, ?_⟩
      rcases h with h | ⟨_, a', w', h⟩
      · unfold Oper.wp at h
        rw [Oper.semAt_eq _ _ _ (fun c => hd i o c ho)]
        generalize (execOp a.eval o).run P w = r at *
        cases r with
        | ok x w' =>
          cases x with
          | value v => exact hK _ _ h
          | skip => exact hK _ _ h
          | defer d => exact hK _ _ h
          | enter f args =>
            refine ⟨fun hh => by simp [Fence.wide] at hh, ?_⟩
            refine (CallsIn.inRound l (callsIn_wide.2 h)).mono ?_
            intro e w2 he
            cases e with
            | returned v => exact hK _ _ he
            | panicked c => exact he.elim
            | outgrown =>
              obtain ⟨a', w', h⟩ := he
              exact h.elim
          | row row args =>
            refine ⟨fun hh => by simp [Fence.wide] at hh, ?_⟩
            exact (rows_wide l (n - 1) h).mono (fun v w2 hh => hK _ _ hh)
          | _ => exact h.elim
        | halt e w' =>
          cases e with
          | panic v => exact h.elim
          | _ => exact h.elim
      · exact h.elim
    · rename_i hw
      rw [if_neg hw]
      exact ⟨hfn, hK _ _ h⟩
theorem any_round {P : Program} {md : Region.Mode} {ops : Array Oper} (hd : ∀ (j : Nat) (o : Oper) c, ops[j]? = some o → o.op ≠ .defer c) (l n : Nat) {R : Act → World → Prop} {Q : Exit → Act → World → Prop} (hQ : ∀ a w, R a w → Q .normal a w) :
    ∀ (fuel : Nat) (listed : Array Bool) (a : Act) (w : World), wpAny P md ops (onlyN R) fuel listed a w → wpAnyIn (Fence.wide.inRound l) n P md ops Q fuel listed a w
  | 0, _, _, _, h => ⟨h.1, hQ _ _ h.2⟩
  | fuel + 1, _, _, _, h => ⟨fun he => hQ _ _ (h.1 he), fun i hi => op_round hd l n hQ (fun a w hh => any_round hd l n hQ fuel _ a w hh) (h.2 i hi)⟩
/-- The region, taken as held.py takes it. -/
theorem region_round {P : Program} {id : Nat} {ops : List Oper} {a : Act} {w : World} {S : World → Prop} {R : Act → World → Prop} {Q : Exit → Act → World → Prop} (l n : Nat) (hm : P.follows .mixedOrders = true) (hd : ops.all (fun o => match o.op with | .defer _ => false | _ => true) = true)
    (hS : S w.drew) (h : S w.drew → wpAnyH P .any ops.toArray (onlyN R) S ops.toArray.size (Array.replicate ops.toArray.size false) a w.drew) (hQ : ∀ a w, R a w → Q .normal a w) :
    (Code.region id ops.toArray true).wpIn (Fence.wide.inRound l) n P Q a w := by
  refine wpIn_region_any hm (any_round ?_ l n hQ _ _ _ _ (wpAny_of_held _ _ _ _ (h hS)))
  intro j o c hj he
  have := List.all_eq_true.1 hd o (by rw [List.getElem?_toArray] at hj; exact List.mem_of_getElem? hj)
  rw [he] at this
  cases this
end Go.Proofs.Ytakjpoapjokmbaa
