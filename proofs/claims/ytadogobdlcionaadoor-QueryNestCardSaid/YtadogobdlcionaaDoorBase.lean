/-
  What stays in memory: all blocks but some are as they were; rows of a call's own that stay.
-/
import Derived.Test.YtadogobdlcionaaDoorRows
import Derived.WalkKit
import Derived.ProofKit
import Derived.OpenShut
import Derived.Handy
import Derived.WalkLawsBesides
import Derived.BigQuiet
import Derived.IntWalk
import Derived.Lib.Hide
import Derived.Laws.AppendOwn
import Derived.Laws.OwnMore
import Derived.Laws.MakeOwn
import Derived.StillTailTactics
import Derived.Deep.DeepCutAuto
import Derived.Deep.LoopGhost
import Derived.Deep.RegionHeld3
import Derived.Deep.AppendLies
import Derived.Deep.RegionLaw
namespace Go.Proofs.YtadogobdlcionaaDoor
open Go.ChangeShapes Go.WideShapes Go.ChangeAt Go.RowKit
set_option linter.unusedVariables false

/-- All blocks but those of S are as they were. -/
structure Turn (S : Nat → Prop) (w w' : World) : Prop where
  os : w'.os = w.os
  tape : w'.tape = w.tape
  output : w'.output = w.output
  size : w.heap.size ≤ w'.heap.size
  block : ∀ k, k < w.heap.size → ¬ S k → w'.heap[k]? = w.heap[k]?

section
variable {S S' : Nat → Prop} {a b c w w' : World}
theorem Turn.refl (S : Nat → Prop) (w : World) : Turn S w w := ⟨rfl, rfl, rfl, Nat.le_refl _, fun _ _ _ => rfl⟩
theorem Turn.trans (h : Turn S a b) (k : Turn S b c) : Turn S a c :=
  ⟨k.os.trans h.os, k.tape.trans h.tape, k.output.trans h.output, Nat.le_trans h.size k.size, fun i hi h1 => (k.block i (Nat.lt_of_lt_of_le hi h.size) h1).trans (h.block i hi h1)⟩
theorem Turn.more (h : Turn S a b) (hs : ∀ k, k < a.heap.size → S k → S' k) : Turn S' a b :=
  ⟨h.os, h.tape, h.output, h.size, fun k hk hn => h.block k hk fun e => hn (hs k hk e)⟩
theorem Turn.drewN (h : Turn S a w) (d : Nat) : Turn S a (w.drewN d) := h.trans ⟨rfl, rfl, rfl, Nat.le_refl _, fun _ _ _ => rfl⟩
theorem Turn.alloc (h : Turn S a w) (o : Obj) : Turn S a (w.alloc o) :=
  h.trans ⟨rfl, rfl, rfl, by simp, fun k hk _ => ((Below.refl w.heap.size w).alloc (Nat.le_refl _) o).block k hk⟩
theorem Turn.setCell (h : Turn S a w) {p : Addr} (hp : S p.block ∨ a.heap.size ≤ p.block) (u : Value) : Turn S a (w.setCell p u) :=
  ⟨h.os, h.tape, h.output, by simpa [World.setCell] using h.size, fun k hk h1 => (Below.heap_setCell _ _ _ _ (fun e => by
    rcases hp with hp | hp
    · exact h1 (by rw [e]; exact hp)
    · omega)).trans (h.block k hk h1)⟩
theorem Turn.grown (h : Turn S a w) {row : Option Nat} (hg : w.grownBy w' row) (hr : ∀ k, row = some k → S k ∨ a.heap.size ≤ k) : Turn S a w' :=
  ⟨hg.os.trans h.os, hg.tape.trans h.tape, hg.output.trans h.output, Nat.le_trans h.size hg.size, fun k hk h1 => (hg.block k (Nat.lt_of_lt_of_le hk h.size) (fun e => by
    rcases hr k e.symm with q | q
    · exact h1 q
    · omega)).trans (h.block k hk h1)⟩
theorem Turn.below {B : Nat} (h : Turn S a b) (hB : ∀ k, k < B → k < a.heap.size ∧ ¬ S k) : Below B a b :=
  ⟨h.os, h.tape, h.output, h.size, fun k hk => h.block k (hB k hk).1 (hB k hk).2⟩
theorem Turn.cell (h : Turn S a b) {k i : Nat} {v : Value} (h1 : ¬ S k) (hc : a.cell? ⟨k, i, none⟩ = some v) : b.cell? ⟨k, i, none⟩ = some v :=
  (World.cell?_of_block (w := a) (h.block k (block_lt_of_cell hc) h1)).trans hc
theorem Turn.comp (h : Turn S a b) (k : Turn S' b c) (hs : ∀ i, i < a.heap.size → S' i → S i) : Turn S a c :=
  ⟨k.os.trans h.os, k.tape.trans h.tape, k.output.trans h.output, Nat.le_trans h.size k.size, fun i hi h1 => (k.block i (Nat.lt_of_lt_of_le hi h.size) (fun e => h1 (hs i hi e))).trans (h.block i hi h1)⟩
theorem Turn.of_below (h : Below w.heap.size w w') : Turn S w w' := ⟨h.os, h.tape, h.output, h.size, fun k hk _ => h.block k hk⟩
end

theorem past {w : World} {o : Obj} {b i : Nat} {v : Value} (h : w.cell? ⟨b, i, none⟩ = some v) : (w.alloc o).cell? ⟨b, i, none⟩ = some v := (World.cell?_alloc_lt w o _ (block_lt_of_cell h)).trans h
theorem cell_off (w : World) (sb i j : Nat) (u : Value) (h : i ≠ j) : (w.setCell ⟨sb, i, none⟩ u).cell? ⟨sb, j, none⟩ = w.cell? ⟨sb, j, none⟩ :=
  World.cell?_setCell_other _ _ _ _ (fun e => h (by injection e))
theorem cell_far (w : World) (b c i j : Nat) (u : Value) (h : b ≠ c) : (w.setCell ⟨b, i, none⟩ u).cell? ⟨c, j, none⟩ = w.cell? ⟨c, j, none⟩ :=
  World.cell?_setCell_other _ _ _ _ (fun e => h (by injection e))
theorem fz (w : World) {b i : Nat} (hb : w.heap.size ≤ b) : w.frozen? ⟨b, i, none⟩ = false := by
  unfold World.frozen?
  rw [Array.getElem?_eq_none hb]
def upd {α : Type} (f : Nat → α) (k : Nat) (v : α) : Nat → α := fun j => if j = k then v else f j
theorem upd_at {α : Type} (f : Nat → α) (k : Nat) (v : α) : upd f k v k = v := by simp [upd]
theorem upd_off {α : Type} (f : Nat → α) {k j : Nat} (v : α) (h : j ≠ k) : upd f k v j = f j := by simp [upd, h]

section
variable {w w' : World} {base base' : Nat} {e e' : TypeId} {size size' : Nat} {v v' : Value} {n n' : Nat} {xs xs' : List Value}
theorem own_keep (h : w.ownsRow base e size v n xs) (hk : ∀ k, v.ownBlock = some k → w'.heap[k]? = w.heap[k]?) : w'.ownsRow base e size v n xs := by
  refine ⟨h.1, ?_⟩
  rcases h.2 with h0 | ⟨g, cap, cur, rfl, hg, hgg, rest⟩
  · exact .inl h0
  · exact .inr ⟨g, cap, cur, rfl, hg, (hk g rfl).trans hgg, rest⟩
theorem own_turn {S : Nat → Prop} (h : w.ownsRow base e size v n xs) (ht : Turn S w w') (hs : ∀ k, v.ownBlock = some k → ¬ S k) : w'.ownsRow base e size v n xs :=
  own_keep h fun k hk => ht.block k (h.lt k hk).2 (hs k hk)
theorem own_apart (h : w.ownsRow base e size v n xs) (h' : w.ownsRow base' e' size' v' n' xs') (hne : e ≠ e') : v.ownBlock = none ∨ v.ownBlock ≠ v'.ownBlock := by
  rcases h.2 with ⟨rfl, _⟩ | ⟨g, cap, cur, rfl, hg, hgg, rest⟩
  · exact .inl rfl
  · refine .inr ?_
    rcases h'.2 with ⟨rfl, _⟩ | ⟨g', cap', cur', rfl, hg', hgg', rest'⟩
    · simp [Value.ownBlock]
    · intro e
      simp [Value.ownBlock] at e
      subst e
      rw [hgg] at hgg'
      injection hgg' with h1
      injection h1 with _ h2
      exact hne h2
theorem own_slice (h : w.ownsRow base e size v n xs) : ∃ a cap, v = .slice a n cap ∧ (0 < n → ∃ g, a = some ⟨g, 0, none⟩) := by
  rcases h.2 with ⟨rfl, rfl⟩ | ⟨g, cap, cur, rfl, _⟩
  · exact ⟨none, 0, rfl, fun h => absurd h (Nat.lt_irrefl 0)⟩
  · exact ⟨_, _, rfl, fun _ => ⟨g, rfl⟩⟩
end

theorem cells_new (w : World) (l : List Value) (t : TypeId) (b : Nat) (hb : b = w.heap.size) : ∀ j u, l[j]? = some u → (w.alloc (.cells l.toArray t)).cell? ((⟨b, 0, none⟩ : Addr).add j) = some u := by
  subst hb
  intro j u h
  have : ((⟨w.heap.size, 0, none⟩ : Addr).add j) = ⟨w.heap.size, j, none⟩ := by unfold Addr.add; split <;> simp_all
  rw [this, World.cell?_alloc_new]
  simpa using h

theorem wp_tail_any {P : Program} {id : Nat} {Q : Exit → Act → World → Prop} {a : Act} {w : World} {l : List Oper} (n : Nat) (hm : P.follows .mixedOrders = true) (hB : Region.lexTailB .any l.toArray n = true)
    (h : ∀ W, W = w.drew → wpStill P l.toArray W (fun a' => wpList P l.toArray Q (l.drop n) a' W) (l.take n) a) : (Code.region id l.toArray true).wp P Q a w :=
  wp_region_still_tail n hm hB (h _ rfl)

/-- A block of cells of a type. -/
def Blk (w : World) (b : Nat) (t : TypeId) : Prop := ∃ cs, w.heap[b]? = some (.cells cs t (0, 0))
section
variable {w w' : World} {b c : Nat} {t u : TypeId}
theorem Blk.ne (h : Blk w b t) (k : Blk w c u) (hne : t ≠ u) : b ≠ c := fun e => by
  subst e
  obtain ⟨cs, h⟩ := h
  obtain ⟨cs', k⟩ := k
  rw [h] at k
  injection k with k
  injection k with _ k
  exact hne k
theorem Blk.lt (h : Blk w b t) : b < w.heap.size := by
  obtain ⟨cs, h⟩ := h
  exact (Array.getElem?_eq_some_iff.1 h).1
theorem Blk.fz (h : Blk w b t) (i : Nat) : w.frozen? ⟨b, i, none⟩ = false := by
  obtain ⟨cs, h⟩ := h
  unfold World.frozen?
  rw [h]
  rfl
theorem Blk.turn {S : Nat → Prop} (h : Blk w b t) (T : Turn S w w') (hs : ¬ S b) : Blk w' b t := by
  obtain ⟨cs, h⟩ := h
  exact ⟨cs, (T.block b (Array.getElem?_eq_some_iff.1 h).1 hs).trans h⟩
theorem Blk.set (h : Blk w b t) (p : Addr) (v : Value) : Blk (w.setCell p v) b t := by
  obtain ⟨cs, h⟩ := h
  refine ⟨if p.block = b then (if p.spot.isSome then cs else cs.setIfInBounds p.off v) else cs, ?_⟩
  simp only [World.setCell, Array.getElem?_modify, h, Option.map_some]
  split <;> rfl
theorem Blk.new (w : World) (l : List Value) (t : TypeId) : Blk (w.alloc (.cells l.toArray t)) w.heap.size t := ⟨_, by show (Array.push _ _)[_]? = _; simp; rfl⟩
end
theorem Turn.setCells {S : Nat → Prop} {b : Nat} : ∀ (vs : List Value) (o : Nat) {a w : World}, Turn S a w → (S b ∨ a.heap.size ≤ b) → Turn S a (w.setCells b o vs)
  | [], _, _, _, h, _ => h
  | v :: r, o, _, _, h, hb => Turn.setCells r (o + 1) (h.setCell (p := ⟨b, o, none⟩) hb v) hb
theorem Blk.setCells {b c : Nat} {t : TypeId} : ∀ (vs : List Value) (o : Nat) {w : World}, Blk w b t → Blk (w.setCells c o vs) b t
  | [], _, _, h => h
  | v :: r, o, _, h => Blk.setCells r (o + 1) (h.set ⟨c, o, none⟩ v)
theorem range_new (w : World) (l : List Value) (t : TypeId) : (w.alloc (.cells l.toArray t)).rangeAt w.heap.size 0 l := fun j v hv => by rw [Nat.zero_add]; exact (World.cell?_alloc_new w l.toArray t j).trans (by simpa using hv)
theorem range_turn {S : Nat → Prop} {w w' : World} {b o : Nat} {l : List Value} (h : w.rangeAt b o l) (T : Turn S w w') (hs : ¬ S b) : w'.rangeAt b o l := fun j v hv => T.cell hs (h j v hv)
theorem range_there {w : World} {b o n : Nat} {l : List Value} {t : TypeId} (h : w.rangeAt b o l) (hl : l.length = n) (B : Blk w b t) : w.there b o n := fun j hj =>
  ⟨by rw [h j _ (List.getElem?_eq_getElem (by omega))]; rfl, B.fz _⟩
theorem res_cell_tmp {fn : Func} {tmps : Array Value} {w : World} {b k a : Nat} {ty : TypeId} {v v2 : Value} (hr : fn.results = #[.cell a ty, .tmp k]) (hp : tmps.getD a undef = .pointer (some ⟨b, 0, none⟩)) (hk : tmps.getD k undef = v2)
    (hl : (loadVar ty ⟨b, 0, none⟩).run Tryd.prog w = .ok v w) : (results fn tmps).run Tryd.prog w = .ok (.tuple #[v, v2]) w := by
  unfold results
  rw [hr]
  simp only [List.mapM_toArray, List.mapM_cons, List.mapM_nil, bind_assoc, pure_bind, map_eq_pure_bind, hp, hk, asAddr]
  simp [Sem.run_bind, hl]
theorem res_cell {fn : Func} {tmps : Array Value} {w : World} {b a : Nat} {ty : TypeId} {v : Value} (hr : fn.results = #[.cell a ty]) (hp : tmps.getD a undef = .pointer (some ⟨b, 0, none⟩))
    (hl : (loadVar ty ⟨b, 0, none⟩).run Tryd.prog w = .ok v w) : (results fn tmps).run Tryd.prog w = .ok v w := by
  unfold results
  rw [hr]
  simp only [List.mapM_toArray, List.mapM_cons, List.mapM_nil, bind_assoc, pure_bind, map_eq_pure_bind, hp, asAddr]
  simp [Sem.run_bind, hl]
theorem Turn.put (w : World) (b i : Nat) (v : Value) : Turn (fun k => k = b) w (w.setCell ⟨b, i, none⟩ v) :=
  (show Turn (fun k => k = b) w w from Turn.refl _ w).setCell (p := ⟨b, i, none⟩) (.inl rfl) v
def updI {α : Type} (f : Int → α) (k : Int) (v : α) : Int → α := fun j => if j = k then v else f j
theorem updI_at {α : Type} (f : Int → α) (k : Int) (v : α) : updI f k v k = v := by simp [updI]
theorem updI_off {α : Type} (f : Int → α) {k j : Int} (v : α) (h : j ≠ k) : updI f k v j = f j := by simp [updI, h]
theorem mod_apart {n low i j : Nat} (hn : 1 ≤ n) (h1 : low ≤ i) (h2 : i < low + n) (h3 : low ≤ j) (h4 : j < low + n) (hne : i ≠ j) : i % n ≠ j % n := fun e => by
  have d1 := Nat.div_add_mod i n
  have d2 := Nat.div_add_mod j n
  rw [e] at d1
  rcases Nat.lt_trichotomy (i / n) (j / n) with q | q | q
  · have := Nat.mul_le_mul_left n (show i / n + 1 ≤ j / n from q)
    rw [Nat.mul_add, Nat.mul_one] at this
    omega
  · rw [q] at d1
    omega
  · have := Nat.mul_le_mul_left n (show j / n + 1 ≤ i / n from q)
    rw [Nat.mul_add, Nat.mul_one] at this
    omega
theorem rl_build {P : Program} {w : World} {ops : Array Oper} {rest : List Oper} {o : Oper} {a : Act} {Q : Exit → Act → World → Prop} (hgd : o.guard = none) (t : TypeId) (parts : Array (Nat × Operand))
    (ho : o.op = .build t parts) {vs : Array (Nat × Value)} {v : Value} (hs : parts.map (fun p => (p.1, a.eval p.2)) = vs) (hr : (Instr.build t vs).run P w = .ok v w) (h : wpList P ops Q rest (a.put o.dst v) w) : wpList P ops Q (o :: rest) a w :=
  wpList_plain hgd fun _ hK => by
    unfold Oper.wp execOp
    simp only [ho, hs, Sem.run_bind, Sem.run_pure, Result.andThen_ok, hr]
    exact hK _ _ h
theorem rl_val {P : Program} {w w' : World} {ops : Array Oper} {rest : List Oper} {o : Oper} {a : Act} {Q : Exit → Act → World → Prop} (hgd : o.guard = none) {v : Value}
    (hr : (execOp a.eval o).run P w = .ok (.value v) w') (h : wpList P ops Q rest (a.put o.dst v) w') : wpList P ops Q (o :: rest) a w :=
  wpList_plain hgd fun _ hK => by
    unfold Oper.wp
    simp only [hr]
    exact hK _ _ h
theorem rl_append_run {P : Program} {w w' : World} {ops : Array Oper} {rest : List Oper} {o : Oper} {a : Act} {Q : Exit → Act → World → Prop} (hgd : o.guard = none) (s x : Operand) (t : TypeId)
    (ho : o.op = .call { callee := .builtin .append, args := #[s, x], argTypes := #[t, t] }) {v v1 v2 : Value} (hs : a.eval s = v1) (hx : a.eval x = v2)
    (hr : (Builtin.append_ #[t, t] o.type #[v1, v2]).run P w = .ok v w') (h : wpList P ops Q rest (a.put o.dst v) w') : wpList P ops Q (o :: rest) a w :=
  wpList_plain hgd fun _ hK => by
    unfold Oper.wp execOp
    simp only [ho, resolve, invoke, builtin, Sem.run_bind, Sem.run_pure, Result.andThen_ok, List.map_toArray, List.map_cons, List.map_nil, hs, hx, hr]
    exact hK _ _ h
theorem rs_append_run {P : Program} {w w' : World} {ops : Array Oper} {o : Oper} {a : Act} {K : Act → World → Prop} {Q : Exit → Act → World → Prop} {E : Prop} (hgd : o.guard = none) (s x : Operand) (t : TypeId)
    (ho : o.op = .call { callee := .builtin .append, args := #[s, x], argTypes := #[t, t] }) {v v1 v2 : Value} (hs : a.eval s = v1) (hx : a.eval x = v2)
    (hr : (Builtin.append_ #[t, t] o.type #[v1, v2]).run P w = .ok v w') (h : K (a.put o.dst v) w') : if Region.wanted o (yielded ops a.tmps) = true then Oper.wp P o a w K Q else E := by
  have hw : Region.wanted o (yielded ops a.tmps) = true := by simp [Region.wanted, hgd]
  rw [if_pos hw]
  unfold Oper.wp execOp
  simp only [ho, resolve, invoke, builtin, Sem.run_bind, Sem.run_pure, Result.andThen_ok, List.map_toArray, List.map_cons, List.map_nil, hs, hx, hr]
  exact h
end Go.Proofs.YtadogobdlcionaaDoor
