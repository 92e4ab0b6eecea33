/-
  What stays in memory: all blocks but some are as they were; rows of a call's own that stay.
  A range over a function whose iterator writes a row of its own in each round, and reads it behind the round; the body collects, and may return.
  Tokens of texts, in Lean: plain functions on lists of bytes.
-/
import Derived.Test.YtadogobdlcionaaGreatDoorRows
import Derived.WalkKit
import Derived.ProofKit
import Derived.OpenShut
import Derived.Handy
import Derived.WalkLawsBesides
import Derived.BigQuiet
import Derived.IntWalk
import Derived.Lib.Hide
import Derived.Laws.AppendOwn
import Derived.Laws.OwnMore
import Derived.Laws.MakeOwn
import Derived.StillTailTactics
import Derived.Deep.DeepCutAuto
import Derived.Deep.LoopGhost
import Derived.Deep.RegionHeld3
import Derived.Deep.AppendLies
import Derived.Deep.RegionLaw
import Derived.RangeFuncNested
import Derived.RangeFuncBound
import Derived.RangeFuncCalls
import Derived.RangeFuncLeaves
import Derived.RangeFuncBox
import Derived.Lib.ParseIntB
set_option linter.unusedSimpArgs false
namespace Go.Proofs.YtadogobdlcionaaGreatDoor
open Go.ChangeShapes Go.WideShapes Go.ChangeAt Go.RowKit
set_option linter.unusedVariables false

/-- All blocks but those of S are as they were. -/
structure Turn (S : Nat → Prop) (w w' : World) : Prop where
  os : w'.os = w.os
  tape : w'.tape = w.tape
  output : w'.output = w.output
  size : w.heap.size ≤ w'.heap.size
  block : ∀ k, k < w.heap.size → ¬ S k → w'.heap[k]? = w.heap[k]?

section
variable {S S' : Nat → Prop} {a b c w w' : World}
theorem Turn.refl (S : Nat → Prop) (w : World) : Turn S w w := ⟨rfl, rfl, rfl, Nat.le_refl _, fun _ _ _ => rfl⟩
theorem Turn.trans (h : Turn S a b) (k : Turn S b c) : Turn S a c :=
  ⟨k.os.trans h.os, k.tape.trans h.tape, k.output.trans h.output, Nat.le_trans h.size k.size, fun i hi h1 => (k.block i (Nat.lt_of_lt_of_le hi h.size) h1).trans (h.block i hi h1)⟩
theorem Turn.more (h : Turn S a b) (hs : ∀ k, k < a.heap.size → S k → S' k) : Turn S' a b :=
  ⟨h.os, h.tape, h.output, h.size, fun k hk hn => h.block k hk fun e => hn (hs k hk e)⟩
theorem Turn.drewN (h : Turn S a w) (d : Nat) : Turn S a (w.drewN d) := h.trans ⟨rfl, rfl, rfl, Nat.le_refl _, fun _ _ _ => rfl⟩
theorem Turn.alloc (h : Turn S a w) (o : Obj) : Turn S a (w.alloc o) :=
  h.trans ⟨rfl, rfl, rfl, by simp, fun k hk _ => ((Below.refl w.heap.size w).alloc (Nat.le_refl _) o).block k hk⟩
theorem Turn.setCell (h : Turn S a w) {p : Addr} (hp : S p.block ∨ a.heap.size ≤ p.block) (u : Value) : Turn S a (w.setCell p u) :=
  ⟨h.os, h.tape, h.output, by simpa [World.setCell] using h.size, fun k hk h1 => (Below.heap_setCell _ _ _ _ (fun e => by
    rcases hp with hp | hp
    · exact h1 (by rw [e]; exact hp)
    · omega)).trans (h.block k hk h1)⟩
theorem Turn.grown (h : Turn S a w) {row : Option Nat} (hg : w.grownBy w' row) (hr : ∀ k, row = some k → S k ∨ a.heap.size ≤ k) : Turn S a w' :=
  ⟨hg.os.trans h.os, hg.tape.trans h.tape, hg.output.trans h.output, Nat.le_trans h.size hg.size, fun k hk h1 => (hg.block k (Nat.lt_of_lt_of_le hk h.size) (fun e => by
    rcases hr k e.symm with q | q
    · exact h1 q
    · omega)).trans (h.block k hk h1)⟩
theorem Turn.below {B : Nat} (h : Turn S a b) (hB : ∀ k, k < B → k < a.heap.size ∧ ¬ S k) : Below B a b :=
  ⟨h.os, h.tape, h.output, h.size, fun k hk => h.block k (hB k hk).1 (hB k hk).2⟩
theorem Turn.cell (h : Turn S a b) {k i : Nat} {v : Value} (h1 : ¬ S k) (hc : a.cell? ⟨k, i, none⟩ = some v) : b.cell? ⟨k, i, none⟩ = some v :=
  (World.cell?_of_block (w := a) (h.block k (block_lt_of_cell hc) h1)).trans hc
theorem Turn.comp (h : Turn S a b) (k : Turn S' b c) (hs : ∀ i, i < a.heap.size → S' i → S i) : Turn S a c :=
  ⟨k.os.trans h.os, k.tape.trans h.tape, k.output.trans h.output, Nat.le_trans h.size k.size, fun i hi h1 => (k.block i (Nat.lt_of_lt_of_le hi h.size) (fun e => h1 (hs i hi e))).trans (h.block i hi h1)⟩
theorem Turn.of_below (h : Below w.heap.size w w') : Turn S w w' := ⟨h.os, h.tape, h.output, h.size, fun k hk _ => h.block k hk⟩
end

theorem past {w : World} {o : Obj} {b i : Nat} {v : Value} (h : w.cell? ⟨b, i, none⟩ = some v) : (w.alloc o).cell? ⟨b, i, none⟩ = some v := (World.cell?_alloc_lt w o _ (block_lt_of_cell h)).trans h
theorem cell_off (w : World) (sb i j : Nat) (u : Value) (h : i ≠ j) : (w.setCell ⟨sb, i, none⟩ u).cell? ⟨sb, j, none⟩ = w.cell? ⟨sb, j, none⟩ :=
  World.cell?_setCell_other _ _ _ _ (fun e => h (by injection e))
theorem cell_far (w : World) (b c i j : Nat) (u : Value) (h : b ≠ c) : (w.setCell ⟨b, i, none⟩ u).cell? ⟨c, j, none⟩ = w.cell? ⟨c, j, none⟩ :=
  World.cell?_setCell_other _ _ _ _ (fun e => h (by injection e))
theorem fz (w : World) {b i : Nat} (hb : w.heap.size ≤ b) : w.frozen? ⟨b, i, none⟩ = false := by
  unfold World.frozen?
  rw [Array.getElem?_eq_none hb]
def upd {α : Type} (f : Nat → α) (k : Nat) (v : α) : Nat → α := fun j => if j = k then v else f j
theorem upd_at {α : Type} (f : Nat → α) (k : Nat) (v : α) : upd f k v k = v := by simp [upd]
theorem upd_off {α : Type} (f : Nat → α) {k j : Nat} (v : α) (h : j ≠ k) : upd f k v j = f j := by simp [upd, h]

section
variable {w w' : World} {base base' : Nat} {e e' : TypeId} {size size' : Nat} {v v' : Value} {n n' : Nat} {xs xs' : List Value}
theorem own_keep (h : w.ownsRow base e size v n xs) (hk : ∀ k, v.ownBlock = some k → w'.heap[k]? = w.heap[k]?) : w'.ownsRow base e size v n xs := by
  refine ⟨h.1, ?_⟩
  rcases h.2 with h0 | ⟨g, cap, cur, rfl, hg, hgg, rest⟩
  · exact .inl h0
  · exact .inr ⟨g, cap, cur, rfl, hg, (hk g rfl).trans hgg, rest⟩
theorem own_turn {S : Nat → Prop} (h : w.ownsRow base e size v n xs) (ht : Turn S w w') (hs : ∀ k, v.ownBlock = some k → ¬ S k) : w'.ownsRow base e size v n xs :=
  own_keep h fun k hk => ht.block k (h.lt k hk).2 (hs k hk)
theorem own_apart (h : w.ownsRow base e size v n xs) (h' : w.ownsRow base' e' size' v' n' xs') (hne : e ≠ e') : v.ownBlock = none ∨ v.ownBlock ≠ v'.ownBlock := by
  rcases h.2 with ⟨rfl, _⟩ | ⟨g, cap, cur, rfl, hg, hgg, rest⟩
  · exact .inl rfl
  · refine .inr ?_
    rcases h'.2 with ⟨rfl, _⟩ | ⟨g', cap', cur', rfl, hg', hgg', rest'⟩
    · simp [Value.ownBlock]
    · intro e
      simp [Value.ownBlock] at e
      subst e
      rw [hgg] at hgg'
      injection hgg' with h1
      injection h1 with _ h2
      exact hne h2
theorem own_slice (h : w.ownsRow base e size v n xs) : ∃ a cap, v = .slice a n cap ∧ (0 < n → ∃ g, a = some ⟨g, 0, none⟩) := by
  rcases h.2 with ⟨rfl, rfl⟩ | ⟨g, cap, cur, rfl, _⟩
  · exact ⟨none, 0, rfl, fun h => absurd h (Nat.lt_irrefl 0)⟩
  · exact ⟨_, _, rfl, fun _ => ⟨g, rfl⟩⟩
end

theorem cells_new (w : World) (l : List Value) (t : TypeId) (b : Nat) (hb : b = w.heap.size) : ∀ j u, l[j]? = some u → (w.alloc (.cells l.toArray t)).cell? ((⟨b, 0, none⟩ : Addr).add j) = some u := by
  subst hb
  intro j u h
  have : ((⟨w.heap.size, 0, none⟩ : Addr).add j) = ⟨w.heap.size, j, none⟩ := by unfold Addr.add; split <;> simp_all
  rw [this, World.cell?_alloc_new]
  simpa using h

theorem wp_tail_any {P : Program} {id : Nat} {Q : Exit → Act → World → Prop} {a : Act} {w : World} {l : List Oper} (n : Nat) (hm : P.follows .mixedOrders = true) (hB : Region.lexTailB .any l.toArray n = true)
    (h : ∀ W, W = w.drew → wpStill P l.toArray W (fun a' => wpList P l.toArray Q (l.drop n) a' W) (l.take n) a) : (Code.region id l.toArray true).wp P Q a w :=
  wp_region_still_tail n hm hB (h _ rfl)

/-- A block of cells of a type. -/
def Blk (w : World) (b : Nat) (t : TypeId) : Prop := ∃ cs, w.heap[b]? = some (.cells cs t (0, 0))
section
variable {w w' : World} {b c : Nat} {t u : TypeId}
theorem Blk.ne (h : Blk w b t) (k : Blk w c u) (hne : t ≠ u) : b ≠ c := fun e => by
  subst e
  obtain ⟨cs, h⟩ := h
  obtain ⟨cs', k⟩ := k
  rw [h] at k
  injection k with k
  injection k with _ k
  exact hne k
theorem Blk.lt (h : Blk w b t) : b < w.heap.size := by
  obtain ⟨cs, h⟩ := h
  exact (Array.getElem?_eq_some_iff.1 h).1
theorem Blk.fz (h : Blk w b t) (i : Nat) : w.frozen? ⟨b, i, none⟩ = false := by
  obtain ⟨cs, h⟩ := h
  unfold World.frozen?
  rw [h]
  rfl
theorem Blk.turn {S : Nat → Prop} (h : Blk w b t) (T : Turn S w w') (hs : ¬ S b) : Blk w' b t := by
  obtain ⟨cs, h⟩ := h
  exact ⟨cs, (T.block b (Array.getElem?_eq_some_iff.1 h).1 hs).trans h⟩
theorem Blk.set (h : Blk w b t) (p : Addr) (v : Value) : Blk (w.setCell p v) b t := by
  obtain ⟨cs, h⟩ := h
  refine ⟨if p.block = b then (if p.spot.isSome then cs else cs.setIfInBounds p.off v) else cs, ?_⟩
  simp only [World.setCell, Array.getElem?_modify, h, Option.map_some]
  split <;> rfl
theorem Blk.new (w : World) (l : List Value) (t : TypeId) : Blk (w.alloc (.cells l.toArray t)) w.heap.size t := ⟨_, by show (Array.push _ _)[_]? = _; simp; rfl⟩
end
theorem Turn.setCells {S : Nat → Prop} {b : Nat} : ∀ (vs : List Value) (o : Nat) {a w : World}, Turn S a w → (S b ∨ a.heap.size ≤ b) → Turn S a (w.setCells b o vs)
  | [], _, _, _, h, _ => h
  | v :: r, o, _, _, h, hb => Turn.setCells r (o + 1) (h.setCell (p := ⟨b, o, none⟩) hb v) hb
theorem Blk.setCells {b c : Nat} {t : TypeId} : ∀ (vs : List Value) (o : Nat) {w : World}, Blk w b t → Blk (w.setCells c o vs) b t
  | [], _, _, h => h
  | v :: r, o, _, h => Blk.setCells r (o + 1) (h.set ⟨c, o, none⟩ v)
theorem range_new (w : World) (l : List Value) (t : TypeId) : (w.alloc (.cells l.toArray t)).rangeAt w.heap.size 0 l := fun j v hv => by rw [Nat.zero_add]; exact (World.cell?_alloc_new w l.toArray t j).trans (by simpa using hv)
theorem range_turn {S : Nat → Prop} {w w' : World} {b o : Nat} {l : List Value} (h : w.rangeAt b o l) (T : Turn S w w') (hs : ¬ S b) : w'.rangeAt b o l := fun j v hv => T.cell hs (h j v hv)
theorem range_there {w : World} {b o n : Nat} {l : List Value} {t : TypeId} (h : w.rangeAt b o l) (hl : l.length = n) (B : Blk w b t) : w.there b o n := fun j hj =>
  ⟨by rw [h j _ (List.getElem?_eq_getElem (by omega))]; rfl, B.fz _⟩
theorem res_cell_tmp {fn : Func} {tmps : Array Value} {w : World} {b k a : Nat} {ty : TypeId} {v v2 : Value} (hr : fn.results = #[.cell a ty, .tmp k]) (hp : tmps.getD a undef = .pointer (some ⟨b, 0, none⟩)) (hk : tmps.getD k undef = v2)
    (hl : (loadVar ty ⟨b, 0, none⟩).run Tryz.prog w = .ok v w) : (results fn tmps).run Tryz.prog w = .ok (.tuple #[v, v2]) w := by
  unfold results
  rw [hr]
  simp only [List.mapM_toArray, List.mapM_cons, List.mapM_nil, bind_assoc, pure_bind, map_eq_pure_bind, hp, hk, asAddr]
  simp [Sem.run_bind, hl]
theorem res_cell {fn : Func} {tmps : Array Value} {w : World} {b a : Nat} {ty : TypeId} {v : Value} (hr : fn.results = #[.cell a ty]) (hp : tmps.getD a undef = .pointer (some ⟨b, 0, none⟩))
    (hl : (loadVar ty ⟨b, 0, none⟩).run Tryz.prog w = .ok v w) : (results fn tmps).run Tryz.prog w = .ok v w := by
  unfold results
  rw [hr]
  simp only [List.mapM_toArray, List.mapM_cons, List.mapM_nil, bind_assoc, pure_bind, map_eq_pure_bind, hp, asAddr]
  simp [Sem.run_bind, hl]
theorem Turn.put (w : World) (b i : Nat) (v : Value) : Turn (fun k => k = b) w (w.setCell ⟨b, i, none⟩ v) :=
  (show Turn (fun k => k = b) w w from Turn.refl _ w).setCell (p := ⟨b, i, none⟩) (.inl rfl) v
def updI {α : Type} (f : Int → α) (k : Int) (v : α) : Int → α := fun j => if j = k then v else f j
theorem updI_at {α : Type} (f : Int → α) (k : Int) (v : α) : updI f k v k = v := by simp [updI]
theorem updI_off {α : Type} (f : Int → α) {k j : Int} (v : α) (h : j ≠ k) : updI f k v j = f j := by simp [updI, h]
theorem mod_apart {n low i j : Nat} (hn : 1 ≤ n) (h1 : low ≤ i) (h2 : i < low + n) (h3 : low ≤ j) (h4 : j < low + n) (hne : i ≠ j) : i % n ≠ j % n := fun e => by
  have d1 := Nat.div_add_mod i n
  have d2 := Nat.div_add_mod j n
  rw [e] at d1
  rcases Nat.lt_trichotomy (i / n) (j / n) with q | q | q
  · have := Nat.mul_le_mul_left n (show i / n + 1 ≤ j / n from q)
    rw [Nat.mul_add, Nat.mul_one] at this
    omega
  · rw [q] at d1
    omega
  · have := Nat.mul_le_mul_left n (show j / n + 1 ≤ i / n from q)
    rw [Nat.mul_add, Nat.mul_one] at this
    omega
theorem rl_build {P : Program} {w : World} {ops : Array Oper} {rest : List Oper} {o : Oper} {a : Act} {Q : Exit → Act → World → Prop} (hgd : o.guard = none) (t : TypeId) (parts : Array (Nat × Operand))
    (ho : o.op = .build t parts) {vs : Array (Nat × Value)} {v : Value} (hs : parts.map (fun p => (p.1, a.eval p.2)) = vs) (hr : (Instr.build t vs).run P w = .ok v w) (h : wpList P ops Q rest (a.put o.dst v) w) : wpList P ops Q (o :: rest) a w :=
  wpList_plain hgd fun _ hK => by
    unfold Oper.wp execOp
    simp only [ho, hs, Sem.run_bind, Sem.run_pure, Result.andThen_ok, hr]
    exact hK _ _ h
theorem rl_val {P : Program} {w w' : World} {ops : Array Oper} {rest : List Oper} {o : Oper} {a : Act} {Q : Exit → Act → World → Prop} (hgd : o.guard = none) {v : Value}
    (hr : (execOp a.eval o).run P w = .ok (.value v) w') (h : wpList P ops Q rest (a.put o.dst v) w') : wpList P ops Q (o :: rest) a w :=
  wpList_plain hgd fun _ hK => by
    unfold Oper.wp
    simp only [hr]
    exact hK _ _ h
theorem rl_append_run {P : Program} {w w' : World} {ops : Array Oper} {rest : List Oper} {o : Oper} {a : Act} {Q : Exit → Act → World → Prop} (hgd : o.guard = none) (s x : Operand) (t : TypeId)
    (ho : o.op = .call { callee := .builtin .append, args := #[s, x], argTypes := #[t, t] }) {v v1 v2 : Value} (hs : a.eval s = v1) (hx : a.eval x = v2)
    (hr : (Builtin.append_ #[t, t] o.type #[v1, v2]).run P w = .ok v w') (h : wpList P ops Q rest (a.put o.dst v) w') : wpList P ops Q (o :: rest) a w :=
  wpList_plain hgd fun _ hK => by
    unfold Oper.wp execOp
    simp only [ho, resolve, invoke, builtin, Sem.run_bind, Sem.run_pure, Result.andThen_ok, List.map_toArray, List.map_cons, List.map_nil, hs, hx, hr]
    exact hK _ _ h
theorem rs_append_run {P : Program} {w w' : World} {ops : Array Oper} {o : Oper} {a : Act} {K : Act → World → Prop} {Q : Exit → Act → World → Prop} {E : Prop} (hgd : o.guard = none) (s x : Operand) (t : TypeId)
    (ho : o.op = .call { callee := .builtin .append, args := #[s, x], argTypes := #[t, t] }) {v v1 v2 : Value} (hs : a.eval s = v1) (hx : a.eval x = v2)
    (hr : (Builtin.append_ #[t, t] o.type #[v1, v2]).run P w = .ok v w') (h : K (a.put o.dst v) w') : if Region.wanted o (yielded ops a.tmps) = true then Oper.wp P o a w K Q else E := by
  have hw : Region.wanted o (yielded ops a.tmps) = true := by simp [Region.wanted, hgd]
  rw [if_pos hw]
  unfold Oper.wp execOp
  simp only [ho, resolve, invoke, builtin, Sem.run_bind, Sem.run_pure, Result.andThen_ok, List.map_toArray, List.map_cons, List.map_nil, hs, hx, hr]
  exact h
end Go.Proofs.YtadogobdlcionaaGreatDoor
namespace Go.Proofs.YtadogobdlcionaaGreatDoor
open Go.RowKit
set_option linter.unusedVariables false

/-- It bears new blocks, and a turn of one block from B on that holds cells of type e. -/
def BearsT {β : Type} (e : TypeId) (B : Nat) (J : β → World → Prop) : Prop :=
  ∀ s W W' row, J s W → W.grownBy W' row → (∀ r, row = some r → B ≤ r ∧ ∃ cs q, W.heap[r]? = some (.cells cs e q)) → J s W'
/-- What lay from a place on, as it lay. -/
def KeepsHi (m : Nat) (W W' : World) : Prop := ∀ k o, m ≤ k → W.heap[k]? = some o → W'.heap[k]? = some o
/-- What an iterator gives; a number beside what has come: below it lies all that a round may write. -/
def GivesS {α : Type} (e : TypeId) (n : Nat) (P : Program) (gf : Nat) (lb : Array Value) (encs : α → Array Value) (Kp : World → World → Prop) (out : List α) (w0 : World) : Prop :=
  ∀ (lo B : Nat) (J : List α × Nat → World → Prop) (Jx : List α → World → Prop) (W : World), Below w0.heap.size w0 W → Kp w0 W → B ≤ W.heap.size → (∀ pre m, BearsT e m (fun (_ : Unit) => J (pre, m))) →
    (∀ pre x m W1, J (pre, m) W1 → m ≤ W1.heap.size → (∃ r, pre ++ x :: r = out) → YieldAt Fence.wide (n - 1) P lo (encs x) W1 fun en W' =>
      (en = .returned (.bool true) ∧ J (pre ++ [x], W'.heap.size) W' ∧ Kp W1 W' ∧ KeepsHi m W1 W') ∨ (en = .returned (.bool false) ∧ Jx (pre ++ [x]) W')) →
    J ([], W.heap.size) W → CallsIn Fence.wide n P gf (#[.func (.yield lo) #[] #[]] ++ lb) W fun en W' => (∃ v, en = .returned v) ∧ ((∃ m, J (out, m) W') ∨ ∃ pre r, pre ++ r = out ∧ Jx pre W')
/-- How a round's body may end. -/
def postS {α : Type} (B m : Nat) (Kp : World → World → Prop) (I : List α × Nat → World → Prop) (Ix : List α → World → Prop) (xs : List α) (W : World) : Exit → Act → World → Prop
  | .normal, _, W' => KeepsFrom B W W' ∧ Kp W W' ∧ KeepsHi m W W' ∧ I (xs, W'.heap.size) W'
  | .ret, _, W' => KeepsFrom B W W' ∧ Ix xs W'
  | _, _, _ => False
theorem range_s {α : Type} {P : Program} {n : Nat} {e : TypeId} {g : Operand} {ps : Array Tmp} {assign body : Code} {Q : Exit → Act → World → Prop} {a : Act} {w : World}
    (h1 : 1 ≤ n) {gf : Nat} {lb : Array Value} (hg : a.eval g = .func (.func gf) #[] lb) (eg : ∀ args w, (callFunc gf args).run P w = .ok (.enter gf args) w)
    {encs : α → Array Value} {Kp : World → World → Prop} {out : List α} {w0 : World} (hseq : GivesS e (n - 1) P gf lb encs Kp out w0) (hb0 : Below w0.heap.size w0 w) (hk0 : Kp w0 w) (hps : ∀ x, (encs x).size = ps.size)
    (hKt : ∀ {A B C : World}, Kp A B → Kp B C → Kp A C) (hKb : ∀ (W : World) (l : Nat) (o o' : Obj), w.heap.size ≤ l → W.heap[l]? = some o → o.isCells = false → Kp W (W.putObj l o'))
    (hKg : ∀ {A B : World}, A.grownBy B none → Kp A B) (AS : Nat → α → Act → World → Prop) (hAS : ∀ z x a W l o o', AS z x a W → W.heap[l]? = some o → o.isCells = false → AS z x a (W.putObj l o'))
    (I : List α × Nat → World → Prop) (hI : OwnFrom w.heap.size I) (hIT : ∀ pre m, BearsT e m (fun (_ : Unit) => I (pre, m))) (h0 : I ([], w.heap.size + 2) w)
    (Ix : List α → World → Prop) (hIx : OwnFrom w.heap.size Ix)
    (hassign : ∀ (l : Nat) (x : α) (W : World) (K : Act → World → Prop), (∀ a' W1, W.grownBy W1 none → AS W.heap.size x a' W1 → K a' W1) →
      assign.wpIn (Fence.wide.inRound l) (n - 1 - 1) P (Exit.then K (fun _ _ _ => False)) { tmps := (ps.zip (encs x)).foldl (fun t (p, v) => t.setIfInBounds p v) a.tmps, defers := [] } W)
    (hbody : ∀ (l : Nat) (pre : List α) (x : α) (m z : Nat) (a' : Act) (W : World), I (pre, m) W → w.heap.size + 2 ≤ m → m ≤ z → z ≤ W.heap.size → AS z x a' W → (∃ r, pre ++ x :: r = out) → body.wpIn (Fence.wide.inRound l) (n - 1 - 1) P (postS w.heap.size m Kp I Ix (pre ++ [x]) W) a' W)
    (hdone : ∀ (D m : Nat) (W : World), w.heap.size ≤ D → I (out, m) W → W.heap[D]? = some (.deferred (some [])) → Q .normal { a with defers := { target := .collected D, args := #[] } :: a.defers } W)
    (hstop : ∀ (D : Nat) (pre r : List α) (W : World), w.heap.size ≤ D → pre ++ r = out → Ix pre W → W.heap[D]? = some (.deferred (some [])) → Code.ret.wpIn Fence.wide n P Q { a with defers := { target := .collected D, args := #[] } :: a.defers } W) :
    (Code.rangeFunc g ps assign body).wpIn Fence.wide n P Q a w := by
  refine wpIn_rangeFunc fun fn hfn => ?_
  obtain ⟨lp, hlp⟩ : ∃ lp : LoopState → Option Code → Loop, lp = fun st pe => { state := st, pending := pe, fn, tmps := a.tmps, params := ps, assign, body, defers := w.heap.size } := ⟨_, rfl⟩
  generalize hD : w.heap.size = D at *
  obtain ⟨V, hV⟩ : ∃ V, (w.alloc (.deferred (some []))).alloc (.loop (lp .ready none)) = V := ⟨_, rfl⟩
  have vz : V.heap.size = D + 2 := by rw [← hV]; simp [hD]
  have vd : V.heap[D]? = some (.deferred (some [])) := by
    rw [← hV, ← hD]
    exact (Below.heap_alloc _ _ _ (by simp)).trans (World.alloc_heap_new w _)
  have vl : V.heap[D + 1]? = some (.loop (lp .ready none)) := by
    have := World.alloc_heap_new (w.alloc (.deferred (some []))) (.loop (lp .ready none))
    rw [World.size_alloc, hD, hV] at this
    exact this
  have vi : I ([], D + 2) V := by
    rw [← hV]
    exact hI.alloc _ (hI.alloc _ h0)
  have vb : Below w0.heap.size w0 V := by
    rw [← hV]
    exact hb0.trans ((((Below.refl _ w).alloc (Nat.le_refl _) _).alloc (by simp) _).mono hb0.size)
  have vk : Kp w0 V := by
    rw [← hV]
    exact hKt hk0 (hKt (hKg (World.grownBy_alloc _ _ none)) (hKg (World.grownBy_alloc _ _ none)))
  -- the caller's own, the loop's record, the block of what is deferred
  obtain ⟨J, hJ⟩ : ∃ J : List α × Nat → World → Prop, J = fun s W => I s W ∧ D + 2 ≤ s.2 ∧ W.heap[D + 1]? = some (.loop (lp .ready none)) ∧ W.heap[D]? = some (.deferred (some [])) := ⟨_, rfl⟩
  obtain ⟨Jx, hJx⟩ : ∃ J : List α → World → Prop, J = fun pre W => Ix pre W ∧ W.heap[D + 1]? = some (.loop (lp .done (some .ret))) ∧ W.heap[D]? = some (.deferred (some [])) := ⟨_, rfl⟩
  refine ⟨D + 1, [{ target := .collected D, args := #[] }], V, { target := .fn (.func gf) lb, args := #[.func (.yield (D + 1)) #[] #[]] }, V, gf, #[.func (.yield (D + 1)) #[] #[]] ++ lb, V, ?_, ?_, fun _ _ => trivial, ?_, fun _ => h1, ?_⟩
  · rw [← hV, hlp, ← hD]
    exact run_enterLoop_outer _ _ _ _ _
  · simp only [resolve, hg]
    simp [go_sem]
  · simp [invoke, go_sem, eg]
  refine (hseq (D + 1) (D + 2) J Jx V vb vk (by omega) ?_ ?_ ?_).mono ?_
  · rw [hJ]
    rintro pre m s A B row ⟨h, hm, hl, hd⟩ hgr hr
    have keep : ∀ (k : Nat) (o : Obj), A.heap[k]? = some o → o.isCells = false → B.heap[k]? = some o := fun k o hk ho =>
      (hgr.block k (Array.getElem?_eq_some_iff.1 hk).1 (fun q => by
        obtain ⟨_, cs, qq, h2⟩ := hr k q.symm
        rw [hk] at h2
        cases h2
        cases ho)).trans hk
    exact ⟨hIT pre m s A B row h hgr hr, hm, keep _ _ hl rfl, keep _ _ hd rfl⟩
  · rw [hJ, hJx]
    rintro pre x m W ⟨hi, hm, hl, hd⟩ hmW hlen
    simp only at hm
    have lt := (Array.getElem?_eq_some_iff.1 hl).1
    have hy := run_yield (P := P) (args := encs x) hl (by rw [hlp]; exact hps x)
    rw [hlp] at hy
    refine ⟨fn, _, assign, body, hy, roundIn_of_wpIn hfn (hassign _ x W _ fun a' W1 hg1 has1 => ?_)⟩
    have same : ∀ (k : Nat) (o : Obj), W.heap[k]? = some o → W1.heap[k]? = some o := fun k o hk => (hg1.block k (Array.getElem?_eq_some_iff.1 hk).1 (by simp)).trans hk
    have hl0 := hl
    have hl := same _ _ hl
    have hd := same _ _ hd
    have lt := (Array.getElem?_eq_some_iff.1 hl).1
    have hi := hI _ _ _ none hi hg1 (fun r e => by cases e)
    refine ⟨_, run_beginRound hl (by rw [hlp]), ?_⟩
    have k01 : Kp W W1 := hKg hg1
    have hz1 := hg1.size
    generalize hX : W1.putObj (D + 1) (.loop { lp .ready none with state := .busy }) = X
    have xl : X.heap[D + 1]? = some (.loop { lp .ready none with state := .busy }) := by rw [← hX]; exact World.putObj_heap_same lt
    have xd : X.heap[D]? = some (.deferred (some [])) := by rw [← hX]; exact (World.putObj_heap_other (by omega)).trans hd
    have xk : Kp W X := by rw [← hX]; exact hKt k01 (hKb _ _ _ _ (by omega) hl rfl)
    have xa : AS W.heap.size x a' X := by rw [← hX]; exact hAS _ _ _ _ _ _ _ has1 hl rfl
    have xi : I (pre, m) X := by rw [← hX]; exact hI.putObj _ hi (by omega) hl rfl
    have xs : X.heap.size = W1.heap.size := by rw [← hX]; simp [World.putObj]
    have xh : KeepsHi m W X := fun k o hk ho => by
      rw [← hX]
      exact (World.putObj_heap_other (by omega)).trans (same _ _ ho)
    refine wpIn_mono (hbody _ pre x m _ a' X xi hm hmW (by omega) xa hlen) ?_
    rintro en a3 Z hp
    cases en with
    | normal =>
      obtain ⟨k3, kp, kh, hi3⟩ := hp
      have zl := k3.same _ _ (by omega) xl rfl
      have hend := run_endRound (P := P) none zl
      refine ⟨_, _, hend, .inl ⟨rfl, ⟨?_, ?_, ?_, (World.putObj_heap_other (by omega)).trans (k3.same _ _ (Nat.le_refl _) xd rfl)⟩, hKt (hKt xk kp) (hKb _ _ _ _ (by omega) zl rfl), fun k o hk ho => ?_⟩⟩
      · have := hI.putObj (.loop { (lp .ready none) with state := if (none : Option Code).isNone then .ready else .done, pending := none }) hi3 (by omega) zl rfl
        simpa [World.putObj] using this
      · have : D + 1 < Z.heap.size := (Array.getElem?_eq_some_iff.1 zl).1
        simp [World.putObj]
        omega
      · refine (World.putObj_heap_same (Array.getElem?_eq_some_iff.1 zl).1).trans ?_
        rw [hlp]
        rfl
      · exact (World.putObj_heap_other (by omega)).trans (kh k o hk (xh k o hk ho))
    | ret =>
      obtain ⟨k3, hi3⟩ := hp
      have zl := k3.same _ _ (by omega) xl rfl
      have hend := run_endRound (P := P) (some .ret) zl
      refine ⟨_, _, hend, .inr ⟨rfl, hIx.putObj _ hi3 (by omega) zl rfl, ?_, (World.putObj_heap_other (by omega)).trans (k3.same _ _ (Nat.le_refl _) xd rfl)⟩⟩
      refine (World.putObj_heap_same (Array.getElem?_eq_some_iff.1 zl).1).trans ?_
      rw [hlp]
      rfl
    | exit id => exact hp.elim
    | goto t => exact hp.elim
    | panic ch => exact hp.elim
    | outgrown => exact hp.elim
  · rw [hJ, vz]
    exact ⟨vi, Nat.le_refl _, vl, vd⟩
  · rw [hJ, hJx]
    rintro en Z ⟨⟨v, rfl⟩, ⟨m, hi, hm, hl, hd⟩ | ⟨pre, r, hpr, hi, hl, hd⟩⟩
    · have hend := run_endLoop (P := P) hl (by rw [hlp]; simp)
      rw [hlp] at hend
      exact ⟨none, _, hend, hdone D m _ (Nat.le_refl _) (hI.putObj _ hi (by omega) hl rfl) ((World.putObj_heap_other (by omega)).trans hd)⟩
    · have hend := run_endLoop (P := P) hl (by rw [hlp]; simp)
      rw [hlp] at hend
      exact ⟨some .ret, _, hend, hstop D pre r _ (Nat.le_refl _) hpr (hIx.putObj _ hi (by omega) hl rfl) ((World.putObj_heap_other (by omega)).trans hd)⟩
end Go.Proofs.YtadogobdlcionaaGreatDoor
namespace Go.Proofs.YtadogobdlcionaaGreatDoor
open Go
def isSmall (c : UInt8) : Bool := decide (97 ≤ c.toNat) && decide (c.toNat ≤ 122)
def isDigit (c : UInt8) : Bool := decide (48 ≤ c.toNat) && decide (c.toNat ≤ 57)
def isCap (c : UInt8) : Bool := decide (65 ≤ c.toNat) && decide (c.toNat ≤ 90)
def isLetter (c : UInt8) : Bool := isSmall c || isCap c
def isWord (c : UInt8) : Bool := isSmall c || isDigit c
def isBoth (c : UInt8) : Bool := isLetter c || isDigit c
def isBlank (c : UInt8) : Bool := decide (c.toNat = 32) || decide (c.toNat = 9) || decide (c.toNat = 10)
def isSign (c : UInt8) : Bool := [44, 43, 45, 42, 47, 37, 61, 60, 62, 46, 35, 33, 40, 41].contains c.toNat
/-- How many bytes at the head are so. -/
def spanB (p : UInt8 → Bool) : List UInt8 → Nat
  | [] => 0
  | c :: r => if p c then spanB p r + 1 else 0
theorem spanB_le (p : UInt8 → Bool) : ∀ l : List UInt8, spanB p l ≤ l.length
  | [] => Nat.le_refl 0
  | c :: r => by
    have := spanB_le p r
    unfold spanB
    split
    · simp only [List.length_cons]; omega
    · exact Nat.zero_le _
theorem spanB_all (p : UInt8 → Bool) : ∀ (l : List UInt8) (j : Nat) (c : UInt8), j < spanB p l → l[j]? = some c → p c = true
  | [], j, c, h, _ => by simp [spanB] at h
  | x :: r, j, c, h, hc => by
    unfold spanB at h
    split at h
    · next hx =>
      cases j with
      | zero => simp at hc; subst hc; exact hx
      | succ j => exact spanB_all p r j c (by omega) (by simpa using hc)
    · omega
theorem spanB_end (p : UInt8 → Bool) : ∀ (l : List UInt8) (c : UInt8), l[spanB p l]? = some c → p c = false
  | [], c, h => by simp at h
  | x :: r, c, h => by
    unfold spanB at h
    split at h
    · exact spanB_end p r c (by simpa using h)
    · next hx => simp at h; subst h; simpa using hx
/-- The same, told by what stands there. -/
theorem spanB_is (p : UInt8 → Bool) : ∀ (l : List UInt8) (n : Nat), n ≤ l.length → (∀ j c, j < n → l[j]? = some c → p c = true) → (∀ c, l[n]? = some c → p c = false) → spanB p l = n
  | [], n, hn, _, _ => by simp at hn; simp [spanB, hn]
  | x :: r, 0, _, _, h => by
    have := h x rfl
    simp [spanB, this]
  | x :: r, n + 1, hn, h, h' => by
    have hx := h 0 x (by omega) rfl
    have := spanB_is p r n (by simp at hn; omega) (fun j c hj hc => h (j + 1) c (by omega) (by simpa using hc)) (fun c hc => h' c (by simpa using hc))
    simp [spanB, hx, this]
def headB (p : UInt8 → Bool) : List UInt8 → Bool
  | [] => false
  | c :: _ => p c
/-- The length of the longest sign at the head. -/
def signB : List UInt8 → Nat
  | [] => 0
  | [c] => if isSign c then 1 else 0
  | c :: d :: _ => if d.toNat = 61 ∧ (c.toNat = 33 ∨ c.toNat = 60 ∨ c.toNat = 62) then 2 else if isSign c then 1 else 0
/-- What digits spell. -/
def decV (a : Nat) (l : List UInt8) : Nat := l.foldl (fun a c => a * 10 + (c.toNat - 48)) a
structure Tok where
  kind : Nat
  len : Nat
  n : Nat
  deriving DecidableEq, Repr
/-- The token at the head, if one stands there. -/
def findB : List UInt8 → Option Tok
  | [] => none
  | c :: r =>
    if isSmall c then some ⟨1, spanB isWord (c :: r), 0⟩
    else if 65 ≤ c.toNat ∧ c.toNat < 73 then (if headB isBoth r then none else some ⟨2, 1, c.toNat - 65⟩)
    else if isDigit c then
      (if decV 0 ((c :: r).take (spanB isDigit (c :: r))) < 9223372036854775808 ∧ headB isLetter ((c :: r).drop (spanB isDigit (c :: r))) = false
        then some ⟨3, spanB isDigit (c :: r), decV 0 ((c :: r).take (spanB isDigit (c :: r)))⟩ else none)
    else if signB (c :: r) = 0 then none else some ⟨4, signB (c :: r), 0⟩
theorem signB_le : ∀ l : List UInt8, signB l ≤ l.length
  | [] => Nat.le_refl 0
  | [c] => by simp only [signB]; split <;> simp
  | c :: d :: r => by
    simp only [signB]
    split
    · simp
    · split <;> simp
theorem findB_len {l : List UInt8} {t : Tok} (h : findB l = some t) : 1 ≤ t.len ∧ t.len ≤ l.length := by
  cases l with
  | nil => simp [findB] at h
  | cons c r =>
    simp only [findB] at h
    split at h
    · next hs =>
      simp at h
      subst h
      refine ⟨?_, spanB_le _ _⟩
      have : isWord c = true := by simp [isWord, hs]
      simp [spanB, this]
    · split at h
      · split at h
        · cases h
        · simp at h
          subst h
          simp
      · split at h
        · next hd =>
          split at h
          · simp at h
            subst h
            refine ⟨?_, spanB_le _ _⟩
            simp [spanB, hd]
          · cases h
        · split at h
          · cases h
          · simp at h
            subst h
            exact ⟨by show 1 ≤ signB _; omega, signB_le _⟩
/-- The tokens from a place on. -/
def eachB : Nat → Nat → List UInt8 → List (Nat × Tok)
  | 0, _, _ => []
  | f + 1, i, l =>
    match findB (l.drop (i + spanB isBlank (l.drop i))) with
    | none => []
    | some t => (i + spanB isBlank (l.drop i), t) :: eachB f (i + spanB isBlank (l.drop i) + t.len) l
/-- A text's tokens. -/
def toksB (l : List UInt8) : List (Nat × Tok) := eachB (l.length + 1) 0 l
def skipB (i : Nat) (l : List UInt8) : Nat := i + spanB isBlank (l.drop i)
theorem skipB_le {i : Nat} {l : List UInt8} (h : i ≤ l.length) : skipB i l ≤ l.length := by
  have := spanB_le isBlank (l.drop i)
  rw [List.length_drop] at this
  unfold skipB
  omega
theorem eachB_none {f i : Nat} {l : List UInt8} (h : findB (l.drop (skipB i l)) = none) : eachB f i l = [] := by
  cases f with
  | zero => rfl
  | succ f =>
    unfold eachB
    unfold skipB at h
    rw [h]
theorem eachB_some {f i : Nat} {l : List UInt8} {t : Tok} (h : findB (l.drop (skipB i l)) = some t) : eachB (f + 1) i l = (skipB i l, t) :: eachB f (skipB i l + t.len) l := by
  unfold skipB at *
  rw [eachB, h]
/-- With enough fuel more does nothing. -/
theorem eachB_fuel : ∀ (f g i : Nat) (l : List UInt8), l.length < i + f → l.length < i + g → eachB f i l = eachB g i l
  | 0, g, i, l, hf, _ => by
    have : findB (l.drop (skipB i l)) = none := by
      rw [List.drop_eq_nil_of_le (by unfold skipB; omega)]
      rfl
    rw [eachB_none this, eachB_none this]
  | f + 1, g, i, l, hf, hg => by
    cases h : findB (l.drop (skipB i l)) with
    | none => rw [eachB_none h, eachB_none h]
    | some t =>
      have hl := findB_len h
      have hs : i ≤ skipB i l := by unfold skipB; omega
      cases g with
      | zero =>
        have : findB (l.drop (skipB i l)) = none := by
          rw [List.drop_eq_nil_of_le (by unfold skipB; omega)]
          rfl
        rw [this] at h
        cases h
      | succ g => rw [eachB_some h, eachB_some h, eachB_fuel f g _ l (by omega) (by omega)]
/-- The end of the last token. -/
def endB : List (Nat × Tok) → Nat
  | [] => 0
  | [x] => x.1 + x.2.len
  | _ :: y :: r => endB (y :: r)
theorem endB_snoc : ∀ (L : List (Nat × Tok)) (x : Nat × Tok), endB (L ++ [x]) = x.1 + x.2.len
  | [], x => rfl
  | [a], x => rfl
  | a :: b :: r, x => by
    show endB (b :: (r ++ [x])) = _
    have := endB_snoc (b :: r) x
    exact this
/-! ### What digits spell, and how a parse of them ends -/
theorem decV_le : ∀ (l : List UInt8) (a : Nat), a ≤ decV a l
  | [], a => Nat.le_refl a
  | c :: r, a => by
    have := decV_le r (a * 10 + (c.toNat - 48))
    show a ≤ decV (a * 10 + (c.toNat - 48)) r
    omega
theorem decV_app (l m : List UInt8) (a : Nat) : decV a (l ++ m) = decV (decV a l) m := by
  unfold decV
  rw [List.foldl_append]
theorem parseM_digits : ∀ (l : List UInt8) (a : Nat), (∀ c ∈ l, isDigit c = true) → a ≤ 18446744073709551615 →
    Lib.parseUintM 18446744073709551615 a l = if decV a l ≤ 18446744073709551615 then .ok (decV a l) else .range
  | [], a, _, ha => by
    show Lib.NumEnd.ok a = _
    rw [if_pos (show decV a [] ≤ _ from ha)]
    rfl
  | c :: r, a, h, ha => by
    have hc := h c (List.mem_cons_self ..)
    have hd : 48 ≤ c.toNat ∧ c.toNat ≤ 57 := by simpa [isDigit] using hc
    have hle := decV_le r (a * 10 + (c.toNat - 48))
    show Lib.parseUintM _ a (c :: r) = if decV (a * 10 + (c.toNat - 48)) r ≤ _ then .ok (decV (a * 10 + (c.toNat - 48)) r) else .range
    unfold Lib.parseUintM
    rw [if_pos hd]
    split
    · rw [if_neg (by omega)]
    · split
      · rw [if_neg (by omega)]
      · exact parseM_digits r _ (fun x hx => h x (List.mem_cons_of_mem _ hx)) (by omega)
theorem parseI_digits {c : UInt8} {r : List UInt8} (h : ∀ x ∈ c :: r, isDigit x = true) :
    Lib.parseIntB 64 (c :: r) = if decV 0 (c :: r) < 9223372036854775808 then .ok (decV 0 (c :: r) : Int) else .range := by
  have hd : 48 ≤ c.toNat ∧ c.toNat ≤ 57 := by simpa [isDigit] using h c (List.mem_cons_self ..)
  have hM : Lib.parseUintB 64 (c :: r) = if decV 0 (c :: r) ≤ 18446744073709551615 then .ok (decV 0 (c :: r)) else .range := by
    unfold Lib.parseUintB
    rw [if_neg (by simp)]
    exact parseM_digits (c :: r) 0 h (by omega)
  unfold Lib.parseIntB
  have n1 : ¬ (c.toNat = 43 ∨ c.toNat = 45) := by omega
  have n2 : ¬ c.toNat = 45 := by omega
  have n3 : ¬ c.toNat = 43 := by omega
  simp only [n3, n2, or_self, if_false, hM]
  generalize decV 0 (c :: r) = V
  by_cases h1 : V ≤ 18446744073709551615
  · rw [if_pos h1]
    by_cases h2 : V < 9223372036854775808
    · rw [if_pos h2]
      simp
      omega
    · rw [if_neg h2]
      simp
      omega
  · rw [if_neg h1, if_neg (by omega)]
/-! ### Texts of the statements -/
theorem skipB_zero {i : Nat} {l : List UInt8} (h : ∀ c, l[i]? = some c → isBlank c = false) : skipB i l = i := by
  unfold skipB
  rw [spanB_is isBlank (l.drop i) 0 (Nat.zero_le _) (fun j c hj _ => absurd hj (Nat.not_lt_zero j)) (fun c hc => h c (by simpa using hc))]
  rfl
theorem findB_digits {D : List UInt8} (hd : ∀ c ∈ D, isDigit c = true) (hne : D ≠ []) : findB D = if decV 0 D < 9223372036854775808 then some ⟨3, D.length, decV 0 D⟩ else none := by
  cases D with
  | nil => exact absurd rfl hne
  | cons c r =>
    have hc : 48 ≤ c.toNat ∧ c.toNat ≤ 57 := by simpa [isDigit] using hd c (List.mem_cons_self ..)
    have hs : spanB isDigit (c :: r) = (c :: r).length := spanB_is isDigit (c :: r) _ (Nat.le_refl _) (fun j x _ hx => hd x (List.mem_of_getElem? hx)) (fun x hx => by simp at hx)
    have n1 : isSmall c = false := by simp [isSmall]; omega
    have n2 : ¬ (65 ≤ c.toNat ∧ c.toNat < 73) := by omega
    have n3 : isDigit c = true := hd c (List.mem_cons_self ..)
    simp only [findB, n1, n2, n3, hs, List.take_length, List.drop_length, headB]
    simp
theorem digit_blank {c : UInt8} (h : isDigit c = true) : isBlank c = false := by
  have hc : 48 ≤ c.toNat ∧ c.toNat ≤ 57 := by simpa [isDigit] using h
  simp [isBlank]
  omega
theorem toks_digits {D : List UInt8} (hd : ∀ c ∈ D, isDigit c = true) (hne : D ≠ []) : toksB D = if decV 0 D < 9223372036854775808 then [(0, ⟨3, D.length, decV 0 D⟩)] else [] := by
  have h0 : skipB 0 D = 0 := skipB_zero (fun c hc => digit_blank (hd c (List.mem_of_getElem? hc)))
  have hf := findB_digits hd hne
  unfold toksB
  by_cases hv : decV 0 D < 9223372036854775808
  · rw [if_pos hv] at hf ⊢
    rw [eachB_some (t := ⟨3, D.length, decV 0 D⟩) (by rw [h0]; exact hf), h0, Nat.zero_add]
    rw [eachB_none]
    rw [List.drop_eq_nil_of_le (by unfold skipB; show D.length ≤ D.length + _; omega)]
    rfl
  · rw [if_neg hv] at hf ⊢
    exact eachB_none (by rw [h0]; exact hf)
theorem decV_zeros : ∀ z : Nat, decV 0 (List.replicate z (48 : UInt8)) = 0
  | 0 => rfl
  | z + 1 => by
    rw [List.replicate_succ]
    show decV (0 * 10 + ((48 : UInt8).toNat - 48)) (List.replicate z 48) = 0
    exact decV_zeros z
/-- n signs, g blanks behind each. -/
def manyL (n g : Nat) : List UInt8 := (List.range (n * (1 + g))).map fun j => if j % (1 + g) = 0 then 43 else 32
theorem manyL_len (n g : Nat) : (manyL n g).length = n * (1 + g) := by simp [manyL]
theorem manyL_at {n g j : Nat} (h : j < n * (1 + g)) : (manyL n g)[j]? = some (if j % (1 + g) = 0 then 43 else 32) := by
  unfold manyL
  rw [List.getElem?_map, List.getElem?_range h]
  rfl
theorem manyL_succ (n g : Nat) : manyL (n + 1) g = manyL n g ++ ([43] ++ List.replicate g 32) := by
  apply List.ext_getElem?
  intro j
  by_cases h : j < n * (1 + g)
  · rw [List.getElem?_append_left (by rw [manyL_len]; exact h), manyL_at h, manyL_at (by rw [Nat.succ_mul]; omega)]
  · rw [List.getElem?_append_right (by rw [manyL_len]; omega), manyL_len]
    by_cases h2 : j < (n + 1) * (1 + g)
    · rw [manyL_at h2]
      rw [Nat.succ_mul] at h2
      obtain ⟨k, rfl⟩ : ∃ k, j = n * (1 + g) + k := ⟨j - n * (1 + g), by omega⟩
      rw [Nat.add_sub_cancel_left, Nat.mul_add_mod_self_right]
      have hk : k < 1 + g := by omega
      rw [Nat.mod_eq_of_lt hk]
      cases k with
      | zero => rfl
      | succ k =>
        simp only [List.cons_append, List.nil_append, List.getElem?_cons_succ]
        rw [List.getElem?_replicate]
        simp
        omega
    · rw [List.getElem?_eq_none (by rw [manyL_len]; omega), List.getElem?_eq_none]
      rw [Nat.succ_mul] at h2
      simp
      omega
theorem mul_mod_one (i g : Nat) : i * (1 + g) % (1 + g) = 0 := Nat.mul_mod_left i (1 + g)
theorem many_skip {n g i : Nat} (h : i ≤ n) {k : Nat} (hk : k = 0 ∨ (k = g ∧ 1 ≤ i)) : skipB (i * (1 + g) - k) (manyL n g) = i * (1 + g) := by
  have hkk : k ≤ i * (1 + g) := by
    rcases hk with rfl | ⟨rfl, hi⟩
    · omega
    · have := Nat.mul_le_mul_right (1 + k) hi; omega
  have hle : i * (1 + g) ≤ n * (1 + g) := Nat.mul_le_mul_right _ h
  unfold skipB
  rw [spanB_is isBlank _ k]
  · omega
  · rw [List.length_drop, manyL_len]
    omega
  · intro j c hj hc
    rw [List.getElem?_drop, manyL_at (by omega)] at hc
    injection hc with hc
    have hg : k = g := by omega
    have h1 : 1 ≤ i := by omega
    subst hg
    obtain ⟨m, rfl⟩ : ∃ m, i = m + 1 := ⟨i - 1, by omega⟩
    rw [Nat.succ_mul] at hc
    have e : m * (1 + k) + (1 + k) - k + j = m * (1 + k) + (1 + j) := by omega
    rw [e, Nat.mul_add_mod_self_right, Nat.mod_eq_of_lt (by omega), if_neg (by omega)] at hc
    rw [← hc]
    decide
  · intro c hc
    rw [List.getElem?_drop, show i * (1 + g) - k + k = i * (1 + g) by omega] at hc
    by_cases hlt : i * (1 + g) < n * (1 + g)
    · rw [manyL_at hlt, mul_mod_one, if_pos rfl] at hc
      injection hc with hc
      rw [← hc]
      decide
    · rw [List.getElem?_eq_none (by rw [manyL_len]; omega)] at hc
      cases hc
theorem many_find {n g i : Nat} (h : i < n) : findB ((manyL n g).drop (i * (1 + g))) = some ⟨4, 1, 0⟩ := by
  have hlt : i * (1 + g) < n * (1 + g) := Nat.mul_lt_mul_of_pos_right h (by omega)
  have h0 : ((manyL n g).drop (i * (1 + g)))[0]? = some 43 := by
    rw [List.getElem?_drop, Nat.add_zero, manyL_at hlt, mul_mod_one, if_pos rfl]
  cases hD : (manyL n g).drop (i * (1 + g)) with
  | nil => rw [hD] at h0; cases h0
  | cons c r =>
    rw [hD] at h0
    simp at h0
    subst h0
    have hs : signB (43 :: r) = 1 := by
      cases r with
      | nil => decide
      | cons d r =>
        simp only [signB]
        rw [if_neg (by simp), if_pos (by decide)]
    simp only [findB, hs]
    rw [if_neg (by decide), if_neg (by decide), if_neg (by decide), if_neg (by decide)]
theorem many_each {n g : Nat} : ∀ (m i f k : Nat), n = i + m → m < f → (k = 0 ∨ (k = g ∧ 1 ≤ i)) → eachB f (i * (1 + g) - k) (manyL n g) = (List.range' i m).map fun j => (j * (1 + g), (⟨4, 1, 0⟩ : Tok))
  | 0, i, f, k, hn, hf, hk => by
    have hs := many_skip (n := n) (g := g) (i := i) (by omega) hk
    rw [eachB_none]
    · rfl
    · rw [hs, List.drop_eq_nil_of_le (by rw [manyL_len]; simp at hn; rw [hn]; omega)]
      rfl
  | m + 1, i, f, k, hn, hf, hk => by
    have hs := many_skip (n := n) (g := g) (i := i) (by omega) hk
    obtain ⟨f, rfl⟩ : ∃ f', f = f' + 1 := ⟨f - 1, by omega⟩
    rw [eachB_some (t := ⟨4, 1, 0⟩) (by rw [hs]; exact many_find (by omega)), hs]
    rw [show i * (1 + g) + (⟨4, 1, 0⟩ : Tok).len = (i + 1) * (1 + g) - g by rw [Nat.succ_mul]; show _ + 1 = _; omega]
    rw [many_each m (i + 1) f g (by omega) (by omega) (.inr ⟨rfl, by omega⟩)]
    rfl
theorem many_toks (n g : Nat) : toksB (manyL n g) = (List.range n).map fun j => (j * (1 + g), (⟨4, 1, 0⟩ : Tok)) := by
  unfold toksB
  have := many_each (n := n) (g := g) n 0 ((manyL n g).length + 1) 0 (by omega) (by rw [manyL_len]; have := Nat.le_mul_of_pos_right n (show 0 < 1 + g by omega); omega) (.inl rfl)
  rw [Nat.zero_mul, Nat.zero_sub] at this
  rw [this, List.range_eq_range']
end Go.Proofs.YtadogobdlcionaaGreatDoor
