/-
  The same law, where the loop's own variable is boxed (each round lays a block ahead of the body), where what is told is known by a relation alone, and where the iterator may range within itself.
-/
import Derived.Test.YtbpcocobimdcnaaRangeT
namespace Go.Proofs.Ytbpcocobimdcnaa
open Go.RowKit
set_option linter.unusedVariables false

/-- It bears new blocks, and a turn of one block from B on that holds cells of type e, or no cells at all. -/
def BearsR {β : Type} (e : TypeId) (B : Nat) (J : β → World → Prop) : Prop :=
  ∀ s W W' row, J s W → W.grownBy W' row → (∀ r, row = some r → B ≤ r ∧ ∃ o, W.heap[r]? = some o ∧ ((∃ cs q, o = .cells cs e q) ∨ o.isCells = false)) → J s W'
/-- What an iterator gives: rows that S knows, each thing as Px says, N at most. -/
def GivesR {α : Type} (e : TypeId) (n : Nat) (P : Program) (gf : Nat) (lb : Array Value) (encs : α → Array Value) (Kp : World → World → Prop) (S : List α → Prop) (Px : α → World → Prop) (N : Nat) (w0 : World) : Prop :=
  ∀ (lo : Nat) (J : List α → World → Prop) (W : World), Below w0.heap.size w0 W → BearsR e W.heap.size J →
    (∀ pre x W1, J pre W1 → pre.length < N → Px x W1 → YieldAt Fence.wide (n - 1) P lo (encs x) W1 fun en W' => en = .returned (.bool true) ∧ J (pre ++ [x]) W' ∧ Kp W1 W' ∧ KeepsFrom W.heap.size W1 W') →
    J [] W → CallsIn Fence.wide n P gf (#[.func (.yield lo) #[] #[]] ++ lb) W fun en W' => (∃ v, en = .returned v) ∧ ∃ ys, S ys ∧ J ys W'
theorem range_tR {α : Type} {P : Program} {n : Nat} {e : TypeId} {g : Operand} {ps : Array Tmp} {assign body : Code} {Q : Exit → Act → World → Prop} {a : Act} {w : World}
    (h1 : 1 ≤ n) {gf : Nat} {lb : Array Value} (hg : a.eval g = .func (.func gf) #[] lb) (eg : ∀ args w, (callFunc gf args).run P w = .ok (.enter gf args) w)
    {encs : α → Array Value} {Kp : World → World → Prop} {S : List α → Prop} {Px : α → World → Prop} {N : Nat} {w0 : World} (hseq : GivesR e (n - 1) P gf lb encs Kp S Px N w0) (hb0 : Below w0.heap.size w0 w) (hps : ∀ x, (encs x).size = ps.size)
    (hKt : ∀ {A B C : World}, Kp A B → Kp B C → Kp A C) (hKb : ∀ (W : World) (l : Nat) (o o' : Obj), w.heap.size ≤ l → W.heap[l]? = some o → o.isCells = false → Kp W (W.putObj l o'))
    (I : List α → World → Prop) (hI : OwnFrom w.heap.size I) (hIT : BearsR e w.heap.size I) (hPa : ∀ (x : α) (W : World) (o : Obj), Px x W → Px x (W.alloc o)) (hPb : ∀ (x : α) (W : World) (l : Nat) (o o' : Obj), Px x W → W.heap[l]? = some o → o.isCells = false → Px x (W.putObj l o')) (h0 : I [] w) (a₁ : α → Nat → Act) (o : α → Obj) (hKa : ∀ (W : World) (x : α), w.heap.size ≤ W.heap.size → Kp W (W.alloc (o x)))
    (hassign : ∀ (l : Nat) (x : α) (W : World) (K : Act → World → Prop), Px x W → K (a₁ x W.heap.size) (W.alloc (o x)) →
      assign.wpIn (Fence.wide.inRound l) (n - 1 - 1) P (Exit.then K (fun _ _ _ => False)) { tmps := (ps.zip (encs x)).foldl (fun t (p, v) => t.setIfInBounds p v) a.tmps, defers := [] } W)
    (hbody : ∀ (l k : Nat) (pre : List α) (x : α) (W : World), I pre W → W.heap[k]? = some (o x) → w.heap.size ≤ k → pre.length < N → Px x W → body.wpIn (Fence.wide.inRound l) (n - 1 - 1) P (ownPostG w.heap.size Kp I (fun _ _ _ => False) (pre ++ [x]) W) (a₁ x k) W)
    (hdone : ∀ (D : Nat) (ys : List α) (W : World), w.heap.size ≤ D → S ys → I ys W → W.heap[D]? = some (.deferred (some [])) → Q .normal { a with defers := { target := .collected D, args := #[] } :: a.defers } W) :
    (Code.rangeFunc g ps assign body).wpIn Fence.wide n P Q a w := by
  refine wpIn_rangeFunc fun fn hfn => ?_
  obtain ⟨lp, hlp⟩ : ∃ lp : LoopState → Option Code → Loop, lp = fun st pe => { state := st, pending := pe, fn, tmps := a.tmps, params := ps, assign, body, defers := w.heap.size } := ⟨_, rfl⟩
  generalize hD : w.heap.size = D at *
  obtain ⟨V, hV⟩ : ∃ V, (w.alloc (.deferred (some []))).alloc (.loop (lp .ready none)) = V := ⟨_, rfl⟩
  have vz : V.heap.size = D + 2 := by rw [← hV]; simp [hD]
  have vd : V.heap[D]? = some (.deferred (some [])) := by
    rw [← hV, ← hD]
    exact (Below.heap_alloc _ _ _ (by simp)).trans (World.alloc_heap_new w _)
  have vl : V.heap[D + 1]? = some (.loop (lp .ready none)) := by
    have := World.alloc_heap_new (w.alloc (.deferred (some []))) (.loop (lp .ready none))
    rw [World.size_alloc, hD, hV] at this
    exact this
  have vi : I [] V := by
    rw [← hV]
    exact hI.alloc _ (hI.alloc _ h0)
  have vb : Below w0.heap.size w0 V := by
    rw [← hV]
    exact hb0.trans ((((Below.refl _ w).alloc (Nat.le_refl _) _).alloc (by simp) _).mono hb0.size)
  -- the caller's own, the loop's record, the block of what is deferred
  obtain ⟨J, hJ⟩ : ∃ J : List α → World → Prop, J = fun pre W => I pre W ∧ W.heap[D + 1]? = some (.loop (lp .ready none)) ∧ W.heap[D]? = some (.deferred (some [])) := ⟨_, rfl⟩
  refine ⟨D + 1, [{ target := .collected D, args := #[] }], V, { target := .fn (.func gf) lb, args := #[.func (.yield (D + 1)) #[] #[]] }, V, gf, #[.func (.yield (D + 1)) #[] #[]] ++ lb, V, ?_, ?_, fun _ _ => trivial, ?_, fun _ => h1, ?_⟩
  · rw [← hV, hlp, ← hD]
    exact run_enterLoop_outer _ _ _ _ _
  · simp only [resolve, hg]
    simp [go_sem]
  · simp [invoke, go_sem, eg]
  refine (hseq (D + 1) J V vb ?_ ?_ ?_).mono ?_
  · rw [hJ, vz]
    rintro s A B row ⟨h, hl, hd⟩ hgr hr
    have keep : ∀ (k : Nat) (o : Obj), A.heap[k]? = some o → k < D + 2 → B.heap[k]? = some o := fun k o hk ho =>
      (hgr.block k (Array.getElem?_eq_some_iff.1 hk).1 (fun q => by have := (hr k q.symm).1; omega)).trans hk
    exact ⟨hIT s A B row h hgr (fun r q => ⟨by have := (hr r q).1; omega, (hr r q).2⟩), keep _ _ hl (by omega), keep _ _ hd (by omega)⟩
  · rw [hJ]
    rintro pre x W ⟨hi, hl, hd⟩ hlen hpx
    have lt0 := (Array.getElem?_eq_some_iff.1 hl).1
    have hl' : (W.alloc (o x)).heap[D + 1]? = some (.loop (lp .ready none)) := (Below.heap_alloc W _ _ lt0).trans hl
    have hd' : (W.alloc (o x)).heap[D]? = some (.deferred (some [])) := (Below.heap_alloc W _ _ (Array.getElem?_eq_some_iff.1 hd).1).trans hd
    have lt := (Array.getElem?_eq_some_iff.1 hl').1
    have hy := run_yield (P := P) (args := encs x) hl (by rw [hlp]; exact hps x)
    rw [hlp] at hy
    refine ⟨fn, _, assign, body, hy, roundIn_of_wpIn hfn (hassign _ x W _ hpx ⟨_, run_beginRound hl' (by rw [hlp]), ?_⟩)⟩
    generalize hX : (W.alloc (o x)).putObj (D + 1) (.loop { lp .ready none with state := .busy }) = X
    have xl : X.heap[D + 1]? = some (.loop { lp .ready none with state := .busy }) := by rw [← hX]; exact World.putObj_heap_same lt
    have xd : X.heap[D]? = some (.deferred (some [])) := by rw [← hX]; exact (World.putObj_heap_other (by omega)).trans hd'
    have xk : Kp W X := by rw [← hX]; exact hKt (hKa W x (by omega)) (hKb _ _ _ _ (by omega) hl' rfl)
    have xi : I pre X := by rw [← hX]; exact hI.putObj _ (hI.alloc _ hi) (by omega) hl' rfl
    have xo : X.heap[W.heap.size]? = some (o x) := by rw [← hX]; exact (World.putObj_heap_other (by omega)).trans (World.alloc_heap_new W _)
    have xp : Px x X := by rw [← hX]; exact hPb _ _ _ _ _ (hPa _ _ _ hpx) hl' rfl
    refine wpIn_mono (hbody _ W.heap.size pre x X xi xo (by omega) hlen xp) ?_
    rintro en a3 Z hp
    cases en with
    | normal =>
      obtain ⟨k3, kp, hi3⟩ := hp
      have zl := k3.same _ _ (by omega) xl rfl
      have hend := run_endRound (P := P) none zl
      have kf : ∀ ob', KeepsFrom V.heap.size W (Z.putObj (D + 1) ob') := fun ob' => by
        have xs : W.heap.size ≤ X.heap.size := by rw [← hX]; exact Nat.le_trans (by simp) (grownBy_putObj' (W.alloc (o x)) (D + 1) _).size
        refine ⟨Nat.le_trans (Nat.le_trans xs k3.size) (grownBy_putObj' Z (D + 1) _).size, fun k ob hk g1 g2 => ?_⟩
        have gx : X.heap[k]? = some ob := by
          rw [← hX]
          exact (World.putObj_heap_other (by omega)).trans ((Below.heap_alloc W _ k (Array.getElem?_eq_some_iff.1 g1).1).trans g1)
        exact (World.putObj_heap_other (by omega)).trans (k3.same k ob (by omega) gx g2)
      refine ⟨_, _, hend, rfl, ⟨hI.putObj _ hi3 (by omega) zl rfl, ?_, (World.putObj_heap_other (by omega)).trans (k3.same _ _ (Nat.le_refl _) xd rfl)⟩, hKt (hKt xk kp) (hKb _ _ _ _ (by omega) zl rfl), kf _⟩
      refine (World.putObj_heap_same (Array.getElem?_eq_some_iff.1 zl).1).trans ?_
      rw [hlp]
      rfl
    | ret => exact hp.2.elim
    | exit id => exact hp.2.elim
    | goto t => exact hp.2.elim
    | panic ch => exact hp.elim
    | outgrown => exact hp.elim
  · rw [hJ]
    exact ⟨vi, vl, vd⟩
  · rw [hJ]
    rintro en Z ⟨⟨v, rfl⟩, ys, hys, hi, hl, hd⟩
    have hend := run_endLoop (P := P) hl (by rw [hlp]; simp)
    rw [hlp] at hend
    exact ⟨none, _, hend, hdone D ys _ (Nat.le_refl _) hys (hI.putObj _ hi (by omega) hl rfl) ((World.putObj_heap_other (by omega)).trans hd)⟩
end Go.Proofs.Ytbpcocobimdcnaa
