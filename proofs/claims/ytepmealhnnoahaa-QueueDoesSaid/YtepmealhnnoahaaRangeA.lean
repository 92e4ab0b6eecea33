/-
  A range over a function whose iterator writes rows of its own, where what is yielded goes into a block of its own.
-/
import Derived.RangeFuncNested
import Derived.RangeFuncBound
import Derived.RangeFuncCalls
import Derived.RangeFuncLeaves
import Derived.RangeFuncBox
import Derived.Test.YtepmealhnnoahaaRangeT
namespace Go.Proofs.Ytepmealhnnoahaa
open Go.RowKit
set_option linter.unusedVariables false

theorem range_a {α : Type} {P : Program} {n : Nat} {e : TypeId} {g : Operand} {ps : Array Tmp} {assign body : Code} {Q : Exit → Act → World → Prop} {a : Act} {w : World}
    (h1 : 1 ≤ n) {gf : Nat} {lb : Array Value} (hg : a.eval g = .func (.func gf) #[] lb) (eg : ∀ args w, (callFunc gf args).run P w = .ok (.enter gf args) w)
    {encs : α → Array Value} {Kp : World → World → Prop} {out : List α} {w0 : World} (hseq : GivesT e (n - 1) P gf lb encs Kp out w0) (hb0 : Below w0.heap.size w0 w) (hps : ∀ x, (encs x).size = ps.size)
    (hKt : ∀ {A B C : World}, Kp A B → Kp B C → Kp A C) (hKb : ∀ (W : World) (l : Nat) (o o' : Obj), w.heap.size ≤ l → W.heap[l]? = some o → o.isCells = false → Kp W (W.putObj l o'))
    (hKg : ∀ {A B : World}, A.grownBy B none → Kp A B) (AS : α → Act → World → Prop) (hAS : ∀ x a W l o o', AS x a W → W.heap[l]? = some o → o.isCells = false → AS x a (W.putObj l o'))
    (I : List α → World → Prop) (hI : OwnFrom w.heap.size I) (hIT : BearsT e w.heap.size I) (h0 : I [] w)
    (hassign : ∀ (l : Nat) (x : α) (W : World) (K : Act → World → Prop), (∀ a' W1, W.grownBy W1 none → AS x a' W1 → K a' W1) →
      assign.wpIn (Fence.wide.inRound l) (n - 1 - 1) P (Exit.then K (fun _ _ _ => False)) { tmps := (ps.zip (encs x)).foldl (fun t (p, v) => t.setIfInBounds p v) a.tmps, defers := [] } W)
    (hbody : ∀ (l : Nat) (pre : List α) (x : α) (a' : Act) (W : World), I pre W → AS x a' W → (∃ r, pre ++ x :: r = out) → body.wpIn (Fence.wide.inRound l) (n - 1 - 1) P (ownPostG w.heap.size Kp I (fun _ _ _ => False) (pre ++ [x]) W) a' W)
    (hdone : ∀ (D : Nat) (W : World), w.heap.size ≤ D → I out W → W.heap[D]? = some (.deferred (some [])) → Q .normal { a with defers := { target := .collected D, args := #[] } :: a.defers } W) :
    (Code.rangeFunc g ps assign body).wpIn Fence.wide n P Q a w := by
  refine wpIn_rangeFunc fun fn hfn => ?_
  obtain ⟨lp, hlp⟩ : ∃ lp : LoopState → Option Code → Loop, lp = fun st pe => { state := st, pending := pe, fn, tmps := a.tmps, params := ps, assign, body, defers := w.heap.size } := ⟨_, rfl⟩
  generalize hD : w.heap.size = D at *
  obtain ⟨V, hV⟩ : ∃ V, (w.alloc (.deferred (some []))).alloc (.loop (lp .ready none)) = V := ⟨_, rfl⟩
  have vz : V.heap.size = D + 2 := by rw [← hV]; simp [hD]
  have vd : V.heap[D]? = some (.deferred (some [])) := by
    rw [← hV, ← hD]
    exact (Below.heap_alloc _ _ _ (by simp)).trans (World.alloc_heap_new w _)
  have vl : V.heap[D + 1]? = some (.loop (lp .ready none)) := by
    have := World.alloc_heap_new (w.alloc (.deferred (some []))) (.loop (lp .ready none))
    rw [World.size_alloc, hD, hV] at this
    exact this
  have vi : I [] V := by
    rw [← hV]
    exact hI.alloc _ (hI.alloc _ h0)
  have vb : Below w0.heap.size w0 V := by
    rw [← hV]
    exact hb0.trans ((((Below.refl _ w).alloc (Nat.le_refl _) _).alloc (by simp) _).mono hb0.size)
  -- the caller's own, the loop's record, the block of what is deferred
  obtain ⟨J, hJ⟩ : ∃ J : List α → World → Prop, J = fun pre W => I pre W ∧ W.heap[D + 1]? = some (.loop (lp .ready none)) ∧ W.heap[D]? = some (.deferred (some [])) := ⟨_, rfl⟩
  refine ⟨D + 1, [{ target := .collected D, args := #[] }], V, { target := .fn (.func gf) lb, args := #[.func (.yield (D + 1)) #[] #[]] }, V, gf, #[.func (.yield (D + 1)) #[] #[]] ++ lb, V, ?_, ?_, fun _ _ => trivial, ?_, fun _ => h1, ?_⟩
  · rw [← hV, hlp, ← hD]
    exact run_enterLoop_outer _ _ _ _ _
  · simp only [resolve, hg]
    simp [go_sem]
  · simp [invoke, go_sem, eg]
  refine (hseq (D + 1) J V vb ?_ ?_ ?_).mono ?_
  · rw [hJ, vz]
    rintro s A B row ⟨h, hl, hd⟩ hgr hr
    have keep : ∀ (k : Nat) (o : Obj), A.heap[k]? = some o → o.isCells = false → B.heap[k]? = some o := fun k o hk ho =>
      (hgr.block k (Array.getElem?_eq_some_iff.1 hk).1 (fun q => by
        obtain ⟨_, cs, qq, h2⟩ := hr k q.symm
        rw [hk] at h2
        cases h2
        cases ho)).trans hk
    exact ⟨hIT s A B row h hgr (fun r q => ⟨by have := (hr r q).1; omega, (hr r q).2⟩), keep _ _ hl rfl, keep _ _ hd rfl⟩
  · rw [hJ]
    rintro pre x W ⟨hi, hl, hd⟩ hlen
    have lt := (Array.getElem?_eq_some_iff.1 hl).1
    have hy := run_yield (P := P) (args := encs x) hl (by rw [hlp]; exact hps x)
    rw [hlp] at hy
    refine ⟨fn, _, assign, body, hy, roundIn_of_wpIn hfn (hassign _ x W _ fun a' W1 hg1 has1 => ?_)⟩
    have same : ∀ (k : Nat) (o : Obj), W.heap[k]? = some o → W1.heap[k]? = some o := fun k o hk => (hg1.block k (Array.getElem?_eq_some_iff.1 hk).1 (by simp)).trans hk
    have hl0 := hl
    have hl := same _ _ hl
    have hd := same _ _ hd
    have lt := (Array.getElem?_eq_some_iff.1 hl).1
    have hi := hI _ _ _ none hi hg1 (fun r e => by cases e)
    refine ⟨_, run_beginRound hl (by rw [hlp]), ?_⟩
    have k01 : Kp W W1 := hKg hg1
    generalize hX : W1.putObj (D + 1) (.loop { lp .ready none with state := .busy }) = X
    have xl : X.heap[D + 1]? = some (.loop { lp .ready none with state := .busy }) := by rw [← hX]; exact World.putObj_heap_same lt
    have xd : X.heap[D]? = some (.deferred (some [])) := by rw [← hX]; exact (World.putObj_heap_other (by omega)).trans hd
    have xk : Kp W X := by rw [← hX]; exact hKt k01 (hKb _ _ _ _ (by omega) hl rfl)
    have xa : AS x a' X := by rw [← hX]; exact hAS _ _ _ _ _ _ has1 hl rfl
    have xi : I pre X := by rw [← hX]; exact hI.putObj _ hi (by omega) hl rfl
    refine wpIn_mono (hbody _ pre x a' X xi xa hlen) ?_
    rintro en a3 Z hp
    cases en with
    | normal =>
      obtain ⟨k3, kp, hi3⟩ := hp
      have zl := k3.same _ _ (by omega) xl rfl
      have hend := run_endRound (P := P) none zl
      refine ⟨_, _, hend, rfl, ⟨hI.putObj _ hi3 (by omega) zl rfl, ?_, (World.putObj_heap_other (by omega)).trans (k3.same _ _ (Nat.le_refl _) xd rfl)⟩, hKt (hKt xk kp) (hKb _ _ _ _ (by omega) zl rfl)⟩
      refine (World.putObj_heap_same (Array.getElem?_eq_some_iff.1 zl).1).trans ?_
      rw [hlp]
      rfl
    | ret => exact hp.2.elim
    | exit id => exact hp.2.elim
    | goto t => exact hp.2.elim
    | panic ch => exact hp.elim
    | outgrown => exact hp.elim
  · rw [hJ]
    exact ⟨vi, vl, vd⟩
  · rw [hJ]
    rintro en Z ⟨⟨v, rfl⟩, hi, hl, hd⟩
    have hend := run_endLoop (P := P) hl (by rw [hlp]; simp)
    rw [hlp] at hend
    exact ⟨none, _, hend, hdone D _ (Nat.le_refl _) (hI.putObj _ hi (by omega) hl rfl) ((World.putObj_heap_other (by omega)).trans hd)⟩
end Go.Proofs.Ytepmealhnnoahaa
