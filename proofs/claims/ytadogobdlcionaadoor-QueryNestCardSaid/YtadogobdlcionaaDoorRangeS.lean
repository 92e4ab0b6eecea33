/-
  A range over a function whose iterator writes a row of its own in each round, and reads it behind the round; the body collects, and may return.
-/
import Derived.RangeFuncNested
import Derived.RangeFuncBound
import Derived.RangeFuncCalls
import Derived.RangeFuncLeaves
import Derived.RangeFuncBox
import Derived.Test.YtadogobdlcionaaDoorBase
namespace Go.Proofs.YtadogobdlcionaaDoor
open Go.RowKit
set_option linter.unusedVariables false

/-- It bears new blocks, and a turn of one block from B on that holds cells of type e. -/
def BearsT {β : Type} (e : TypeId) (B : Nat) (J : β → World → Prop) : Prop :=
  ∀ s W W' row, J s W → W.grownBy W' row → (∀ r, row = some r → B ≤ r ∧ ∃ cs q, W.heap[r]? = some (.cells cs e q)) → J s W'
/-- What lay from a place on, as it lay. -/
def KeepsHi (m : Nat) (W W' : World) : Prop := ∀ k o, m ≤ k → W.heap[k]? = some o → W'.heap[k]? = some o
/-- What an iterator gives; a number beside what has come: below it lies all that a round may write. -/
def GivesS {α : Type} (e : TypeId) (n : Nat) (P : Program) (gf : Nat) (lb : Array Value) (encs : α → Array Value) (Kp : World → World → Prop) (out : List α) (w0 : World) : Prop :=
  ∀ (lo B : Nat) (J : List α × Nat → World → Prop) (Jx : List α → World → Prop) (W : World), Below w0.heap.size w0 W → Kp w0 W → B ≤ W.heap.size → (∀ pre m, BearsT e m (fun (_ : Unit) => J (pre, m))) →
    (∀ pre x m W1, J (pre, m) W1 → m ≤ W1.heap.size → (∃ r, pre ++ x :: r = out) → YieldAt Fence.wide (n - 1) P lo (encs x) W1 fun en W' =>
      (en = .returned (.bool true) ∧ J (pre ++ [x], W'.heap.size) W' ∧ Kp W1 W' ∧ KeepsHi m W1 W') ∨ (en = .returned (.bool false) ∧ Jx (pre ++ [x]) W')) →
    J ([], W.heap.size) W → CallsIn Fence.wide n P gf (#[.func (.yield lo) #[] #[]] ++ lb) W fun en W' => (∃ v, en = .returned v) ∧ ((∃ m, J (out, m) W') ∨ ∃ pre r, pre ++ r = out ∧ Jx pre W')
/-- How a round's body may end. -/
def postS {α : Type} (B m : Nat) (Kp : World → World → Prop) (I : List α × Nat → World → Prop) (Ix : List α → World → Prop) (xs : List α) (W : World) : Exit → Act → World → Prop
  | .normal, _, W' => KeepsFrom B W W' ∧ Kp W W' ∧ KeepsHi m W W' ∧ I (xs, W'.heap.size) W'
  | .ret, _, W' => KeepsFrom B W W' ∧ Ix xs W'
  | _, _, _ => False
theorem range_s {α : Type} {P : Program} {n : Nat} {e : TypeId} {g : Operand} {ps : Array Tmp} {assign body : Code} {Q : Exit → Act → World → Prop} {a : Act} {w : World}
    (h1 : 1 ≤ n) {gf : Nat} {lb : Array Value} (hg : a.eval g = .func (.func gf) #[] lb) (eg : ∀ args w, (callFunc gf args).run P w = .ok (.enter gf args) w)
    {encs : α → Array Value} {Kp : World → World → Prop} {out : List α} {w0 : World} (hseq : GivesS e (n - 1) P gf lb encs Kp out w0) (hb0 : Below w0.heap.size w0 w) (hk0 : Kp w0 w) (hps : ∀ x, (encs x).size = ps.size)
    (hKt : ∀ {A B C : World}, Kp A B → Kp B C → Kp A C) (hKb : ∀ (W : World) (l : Nat) (o o' : Obj), w.heap.size ≤ l → W.heap[l]? = some o → o.isCells = false → Kp W (W.putObj l o'))
    (hKg : ∀ {A B : World}, A.grownBy B none → Kp A B) (AS : Nat → α → Act → World → Prop) (hAS : ∀ z x a W l o o', AS z x a W → W.heap[l]? = some o → o.isCells = false → AS z x a (W.putObj l o'))
    (I : List α × Nat → World → Prop) (hI : OwnFrom w.heap.size I) (hIT : ∀ pre m, BearsT e m (fun (_ : Unit) => I (pre, m))) (h0 : I ([], w.heap.size + 2) w)
    (Ix : List α → World → Prop) (hIx : OwnFrom w.heap.size Ix)
    (hassign : ∀ (l : Nat) (x : α) (W : World) (K : Act → World → Prop), (∀ a' W1, W.grownBy W1 none → AS W.heap.size x a' W1 → K a' W1) →
      assign.wpIn (Fence.wide.inRound l) (n - 1 - 1) P (Exit.then K (fun _ _ _ => False)) { tmps := (ps.zip (encs x)).foldl (fun t (p, v) => t.setIfInBounds p v) a.tmps, defers := [] } W)
    (hbody : ∀ (l : Nat) (pre : List α) (x : α) (m z : Nat) (a' : Act) (W : World), I (pre, m) W → w.heap.size + 2 ≤ m → m ≤ z → z ≤ W.heap.size → AS z x a' W → (∃ r, pre ++ x :: r = out) → body.wpIn (Fence.wide.inRound l) (n - 1 - 1) P (postS w.heap.size m Kp I Ix (pre ++ [x]) W) a' W)
    (hdone : ∀ (D m : Nat) (W : World), w.heap.size ≤ D → I (out, m) W → W.heap[D]? = some (.deferred (some [])) → Q .normal { a with defers := { target := .collected D, args := #[] } :: a.defers } W)
    (hstop : ∀ (D : Nat) (pre r : List α) (W : World), w.heap.size ≤ D → pre ++ r = out → Ix pre W → W.heap[D]? = some (.deferred (some [])) → Code.ret.wpIn Fence.wide n P Q { a with defers := { target := .collected D, args := #[] } :: a.defers } W) :
    (Code.rangeFunc g ps assign body).wpIn Fence.wide n P Q a w := by
  refine wpIn_rangeFunc fun fn hfn => ?_
  obtain ⟨lp, hlp⟩ : ∃ lp : LoopState → Option Code → Loop, lp = fun st pe => { state := st, pending := pe, fn, tmps := a.tmps, params := ps, assign, body, defers := w.heap.size } := ⟨_, rfl⟩
  generalize hD : w.heap.size = D at *
  obtain ⟨V, hV⟩ : ∃ V, (w.alloc (.deferred (some []))).alloc (.loop (lp .ready none)) = V := ⟨_, rfl⟩
  have vz : V.heap.size = D + 2 := by rw [← hV]; simp [hD]
  have vd : V.heap[D]? = some (.deferred (some [])) := by
    rw [← hV, ← hD]
    exact (Below.heap_alloc _ _ _ (by simp)).trans (World.alloc_heap_new w _)
  have vl : V.heap[D + 1]? = some (.loop (lp .ready none)) := by
    have := World.alloc_heap_new (w.alloc (.deferred (some []))) (.loop (lp .ready none))
    rw [World.size_alloc, hD, hV] at this
    exact this
  have vi : I ([], D + 2) V := by
    rw [← hV]
    exact hI.alloc _ (hI.alloc _ h0)
  have vb : Below w0.heap.size w0 V := by
    rw [← hV]
    exact hb0.trans ((((Below.refl _ w).alloc (Nat.le_refl _) _).alloc (by simp) _).mono hb0.size)
  have vk : Kp w0 V := by
    rw [← hV]
    exact hKt hk0 (hKt (hKg (World.grownBy_alloc _ _ none)) (hKg (World.grownBy_alloc _ _ none)))
  -- the caller's own, the loop's record, the block of what is deferred
  obtain ⟨J, hJ⟩ : ∃ J : List α × Nat → World → Prop, J = fun s W => I s W ∧ D + 2 ≤ s.2 ∧ W.heap[D + 1]? = some (.loop (lp .ready none)) ∧ W.heap[D]? = some (.deferred (some [])) := ⟨_, rfl⟩
  obtain ⟨Jx, hJx⟩ : ∃ J : List α → World → Prop, J = fun pre W => Ix pre W ∧ W.heap[D + 1]? = some (.loop (lp .done (some .ret))) ∧ W.heap[D]? = some (.deferred (some [])) := ⟨_, rfl⟩
  refine ⟨D + 1, [{ target := .collected D, args := #[] }], V, { target := .fn (.func gf) lb, args := #[.func (.yield (D + 1)) #[] #[]] }, V, gf, #[.func (.yield (D + 1)) #[] #[]] ++ lb, V, ?_, ?_, fun _ _ => trivial, ?_, fun _ => h1, ?_⟩
  · rw [← hV, hlp, ← hD]
    exact run_enterLoop_outer _ _ _ _ _
  · simp only [resolve, hg]
    simp [go_sem]
  · simp [invoke, go_sem, eg]
  refine (hseq (D + 1) (D + 2) J Jx V vb vk (by omega) ?_ ?_ ?_).mono ?_
  · rw [hJ]
    rintro pre m s A B row ⟨h, hm, hl, hd⟩ hgr hr
    have keep : ∀ (k : Nat) (o : Obj), A.heap[k]? = some o → o.isCells = false → B.heap[k]? = some o := fun k o hk ho =>
      (hgr.block k (Array.getElem?_eq_some_iff.1 hk).1 (fun q => by
        obtain ⟨_, cs, qq, h2⟩ := hr k q.symm
        rw [hk] at h2
        cases h2
        cases ho)).trans hk
    exact ⟨hIT pre m s A B row h hgr hr, hm, keep _ _ hl rfl, keep _ _ hd rfl⟩
  · rw [hJ, hJx]
    rintro pre x m W ⟨hi, hm, hl, hd⟩ hmW hlen
    simp only at hm
    have lt := (Array.getElem?_eq_some_iff.1 hl).1
    have hy := run_yield (P := P) (args := encs x) hl (by rw [hlp]; exact hps x)
    rw [hlp] at hy
    refine ⟨fn, _, assign, body, hy, roundIn_of_wpIn hfn (hassign _ x W _ fun a' W1 hg1 has1 => ?_)⟩
    have same : ∀ (k : Nat) (o : Obj), W.heap[k]? = some o → W1.heap[k]? = some o := fun k o hk => (hg1.block k (Array.getElem?_eq_some_iff.1 hk).1 (by simp)).trans hk
    have hl0 := hl
    have hl := same _ _ hl
    have hd := same _ _ hd
    have lt := (Array.getElem?_eq_some_iff.1 hl).1
    have hi := hI _ _ _ none hi hg1 (fun r e => by cases e)
    refine ⟨_, run_beginRound hl (by rw [hlp]), ?_⟩
    have k01 : Kp W W1 := hKg hg1
    have hz1 := hg1.size
    generalize hX : W1.putObj (D + 1) (.loop { lp .ready none with state := .busy }) = X
    have xl : X.heap[D + 1]? = some (.loop { lp .ready none with state := .busy }) := by rw [← hX]; exact World.putObj_heap_same lt
    have xd : X.heap[D]? = some (.deferred (some [])) := by rw [← hX]; exact (World.putObj_heap_other (by omega)).trans hd
    have xk : Kp W X := by rw [← hX]; exact hKt k01 (hKb _ _ _ _ (by omega) hl rfl)
    have xa : AS W.heap.size x a' X := by rw [← hX]; exact hAS _ _ _ _ _ _ _ has1 hl rfl
    have xi : I (pre, m) X := by rw [← hX]; exact hI.putObj _ hi (by omega) hl rfl
    have xs : X.heap.size = W1.heap.size := by rw [← hX]; simp [World.putObj]
    have xh : KeepsHi m W X := fun k o hk ho => by
      rw [← hX]
      exact (World.putObj_heap_other (by omega)).trans (same _ _ ho)
    refine wpIn_mono (hbody _ pre x m _ a' X xi hm hmW (by omega) xa hlen) ?_
    rintro en a3 Z hp
    cases en with
    | normal =>
      obtain ⟨k3, kp, kh, hi3⟩ := hp
      have zl := k3.same _ _ (by omega) xl rfl
      have hend := run_endRound (P := P) none zl
      refine ⟨_, _, hend, .inl ⟨rfl, ⟨?_, ?_, ?_, (World.putObj_heap_other (by omega)).trans (k3.same _ _ (Nat.le_refl _) xd rfl)⟩, hKt (hKt xk kp) (hKb _ _ _ _ (by omega) zl rfl), fun k o hk ho => ?_⟩⟩
      · have := hI.putObj (.loop { (lp .ready none) with state := if (none : Option Code).isNone then .ready else .done, pending := none }) hi3 (by omega) zl rfl
        simpa [World.putObj] using this
      · have : D + 1 < Z.heap.size := (Array.getElem?_eq_some_iff.1 zl).1
        simp [World.putObj]
        omega
      · refine (World.putObj_heap_same (Array.getElem?_eq_some_iff.1 zl).1).trans ?_
        rw [hlp]
        rfl
      · exact (World.putObj_heap_other (by omega)).trans (kh k o hk (xh k o hk ho))
    | ret =>
      obtain ⟨k3, hi3⟩ := hp
      have zl := k3.same _ _ (by omega) xl rfl
      have hend := run_endRound (P := P) (some .ret) zl
      refine ⟨_, _, hend, .inr ⟨rfl, hIx.putObj _ hi3 (by omega) zl rfl, ?_, (World.putObj_heap_other (by omega)).trans (k3.same _ _ (Nat.le_refl _) xd rfl)⟩⟩
      refine (World.putObj_heap_same (Array.getElem?_eq_some_iff.1 zl).1).trans ?_
      rw [hlp]
      rfl
    | exit id => exact hp.elim
    | goto t => exact hp.elim
    | panic ch => exact hp.elim
    | outgrown => exact hp.elim
  · rw [hJ, vz]
    exact ⟨vi, Nat.le_refl _, vl, vd⟩
  · rw [hJ, hJx]
    rintro en Z ⟨⟨v, rfl⟩, ⟨m, hi, hm, hl, hd⟩ | ⟨pre, r, hpr, hi, hl, hd⟩⟩
    · have hend := run_endLoop (P := P) hl (by rw [hlp]; simp)
      rw [hlp] at hend
      exact ⟨none, _, hend, hdone D m _ (Nat.le_refl _) (hI.putObj _ hi (by omega) hl rfl) ((World.putObj_heap_other (by omega)).trans hd)⟩
    · have hend := run_endLoop (P := P) hl (by rw [hlp]; simp)
      rw [hlp] at hend
      exact ⟨some .ret, _, hend, hstop D pre r _ (Nat.le_refl _) hpr (hIx.putObj _ hi (by omega) hl rfl) ((World.putObj_heap_other (by omega)).trans hd)⟩
end Go.Proofs.YtadogobdlcionaaDoor
