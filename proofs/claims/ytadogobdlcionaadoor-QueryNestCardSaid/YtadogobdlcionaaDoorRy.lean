/-
  A query under way, in memory.
-/
import Derived.Test.YtadogobdlcionaaDoorRx
namespace Go.Proofs.YtadogobdlcionaaDoor
open Go.ChangeShapes Go.WideShapes Go.ChangeAt Go.RowKit Go.Shelf
set_option linter.unusedVariables false
theorem CnsO.other {base : Nat} {W W' : World} {v : Value} {C : List CN} {S : Nat → Prop} {t : TypeId} (h : CnsO base W v C) (T : Turn S W W') (hs : ∀ k, S k → Blk W k t) (h1 : t ≠ 59) (h2 : t ≠ 95) : CnsO base W' v C := by
  obtain ⟨xs, ho, hx⟩ := h
  refine ⟨xs, own_turn ho T (fun k hk q => (own_blk ho hk).1.ne (hs k q) h1.symm rfl), fun k c hc => ?_⟩
  obtain ⟨lv, rv, a, b, d, e, f⟩ := hx k c hc
  exact ⟨lv, rv, a, b, d, own_turn e T (fun k hk q => (own_blk e hk).1.ne (hs k q) h2.symm rfl), own_turn f T (fun k hk q => (own_blk f hk).1.ne (hs k q) h2.symm rfl)⟩
/-- A query's cells. -/
def quL (ev cv : Value) (wd : Int) (by_ : Bool) : List Value := [ev, cv, .int .i64 wd, .bool by_]
theorem size27 : (Tryd.prog.info? 27).map (fun i => i.size) = some 4 := by kernel_rfl
structure QS (w : World) (p base : Nat) (s : ByteArray) (L : List (Nat × Tok)) (v : Value) (e : Nat) (W : World) (E : List EL) (C : List CN) (ev cv : Value) (wd : Int) (by_ : Bool) (i : Nat) : Prop where
  par : ParAt W p base s L v i e 0
  rr : W.rangeAt w.heap.size 0 (quL (.slice none 0 0) (.slice none 0 0) 0 false)
  br : Blk W w.heap.size 27
  rq : W.rangeAt (w.heap.size + 1) 0 (quL ev cv wd by_)
  bq : Blk W (w.heap.size + 1) 27
  eo : W.ownsRow w.heap.size 50 4 ev E.length (elsC E)
  co : CnsO w.heap.size W cv C
  tu : Turn (fun k => k = p) w W
  lt : p < w.heap.size
  low : ∀ k, v.ownBlock = some k → k < w.heap.size
  en : E.length ≤ i
  cn : C.length ≤ i
  il : i ≤ L.length
section
variable {w W W' : World} {p base : Nat} {s : ByteArray} {L : List (Nat × Tok)} {v : Value} {e : Nat} {E : List EL} {C : List CN} {ev cv : Value} {wd : Int} {by_ : Bool} {i j : Nat}
theorem QS.eb (h : QS w p base s L v e W E C ev cv wd by_ i) {k : Nat} (hk : ev.ownBlock = some k) : Blk W k 50 ∧ w.heap.size ≤ k := own_blk h.eo hk
theorem QS.cb (h : QS w p base s L v e W E C ev cv wd by_ i) {k : Nat} (hk : cv.ownBlock = some k) : Blk W k 59 ∧ w.heap.size ≤ k := by
  obtain ⟨xs, ho, -⟩ := h.co
  exact own_blk ho hk
theorem QS.go (h : QS w p base s L v e W E C ev cv wd by_ i) (T : Turn (fun k => k = p) W W') (P : ParAt W' p base s L v j e 0) (hij : i ≤ j) (hj : j ≤ L.length) : QS w p base s L v e W' E C ev cv wd by_ j :=
  have hlt := h.lt
  ⟨P, range_turn h.rr T (by omega), h.br.turn T (by omega), range_turn h.rq T (by omega), h.bq.turn T (by omega), own_turn h.eo T (fun k hk q => by have := (h.eb hk).2; omega),
    h.co.turn T (fun k hk q => by omega), h.tu.trans T, h.lt, h.low, Nat.le_trans h.en hij, Nat.le_trans h.cn hij, hj⟩
theorem QS.quiet (h : QS w p base s L v e W E C ev cv wd by_ i) (T : Turn (fun _ => False) W W') : QS w p base s L v e W' E C ev cv wd by_ i :=
  h.go (T.more (fun _ _ f => f.elim)) (h.par.turn T) (Nat.le_refl _) h.il
theorem QS.c (h : QS w p base s L v e W E C ev cv wd by_ i) : W.cell? ⟨w.heap.size + 1, 0, none⟩ = some ev ∧ W.cell? ⟨w.heap.size + 1, 1, none⟩ = some cv ∧ W.cell? ⟨w.heap.size + 1, 2, none⟩ = some (.int .i64 wd) ∧ W.cell? ⟨w.heap.size + 1, 3, none⟩ = some (.bool by_) :=
  ⟨h.rq 0 _ rfl, h.rq 1 _ rfl, h.rq 2 _ rfl, h.rq 3 _ rfl⟩
/-- Its box is written. -/
theorem QS.put (h : QS w p base s L v e W E C ev cv wd by_ i) {k : Nat} {x : Value} {wd' : Int} {by' : Bool} (hk : k < 4) (hx : (quL ev cv wd by_).set k x = quL ev cv wd' by') : QS w p base s L v e (W.setCell ⟨w.heap.size + 1, k, none⟩ x) E C ev cv wd' by' i :=
  have hlt := h.lt
  have TP := Turn.put W (w.heap.size + 1) k x
  have hb : ∀ k, k = w.heap.size + 1 → Blk W k 27 := fun k hk => by rw [hk]; exact h.bq
  ⟨h.par.turnS TP (by omega) (fun k hk q => by have := h.low k hk; omega), range_far h.rr (by omega) x, h.br.turn TP (by omega), by rw [← hx]; exact range_set h.rq hk x, h.bq.set _ _,
    own_turn h.eo TP (fun k hk q => (h.eb hk).1.ne (hb k q) (by decide) rfl), h.co.other TP hb (by decide) (by decide), h.tu.comp TP (fun k hk q => by omega), h.lt, h.low, h.en, h.cn, h.il⟩
theorem put_elems {W2 : World} (h : QS w p base s L v e W E C ev cv wd by_ i) (T : Turn (fun k => ev.ownBlock = some k) W W2) {E' : List EL} {ev' : Value} (ho : W2.ownsRow w.heap.size 50 4 ev' E'.length (elsC E')) (hl : E'.length ≤ i) :
    W2.cell? ⟨w.heap.size + 1, 0, none⟩ = some ev ∧ W2.frozen? ⟨w.heap.size + 1, 0, none⟩ = false ∧ QS w p base s L v e (W2.setCell ⟨w.heap.size + 1, 0, none⟩ ev') E' C ev' cv wd by_ i := by
  have hlt := h.lt
  have n1 : ¬ ev.ownBlock = some (w.heap.size + 1) := fun q => (h.eb q).1.ne h.bq (by decide) rfl
  have n0 : ¬ ev.ownBlock = some w.heap.size := fun q => (h.eb q).1.ne h.br (by decide) rfl
  have np : ¬ ev.ownBlock = some p := fun q => by have := (h.eb q).2; omega
  have B2 := h.bq.turn T n1
  have TP := Turn.put W2 (w.heap.size + 1) 0 ev'
  have hb : ∀ k, k = w.heap.size + 1 → Blk W2 k 27 := fun k hk => by rw [hk]; exact B2
  refine ⟨T.cell n1 h.c.1, B2.fz _, (h.par.turnS T np (fun k hk q => by have := h.low k hk; have := (h.eb q).2; omega)).turnS TP (by omega) (fun k hk q => by have := h.low k hk; omega), range_far (range_turn h.rr T n0) (by omega) _, (h.br.turn T n0).turn TP (by omega), ?_, B2.set _ _,
    own_turn ho TP (fun k hk q => (own_blk ho hk).1.ne (hb k q) (by decide) rfl), (h.co.other T (fun k q => (h.eb q).1) (by decide) (by decide)).other TP hb (by decide) (by decide), (h.tu.comp T (fun k hk q => by have := (h.eb q).2; omega)).comp TP (fun k hk q => by omega), h.lt, h.low, hl, h.cn, h.il⟩
  exact range_set (range_turn h.rq T n1) (by show 0 < 4; omega) ev'
theorem put_conds {W2 : World} (h : QS w p base s L v e W E C ev cv wd by_ i) (T : Turn (fun k => cv.ownBlock = some k) W W2) {C' : List CN} {cv' : Value} (ho : CnsO w.heap.size W2 cv' C') (hl : C'.length ≤ i) :
    W2.cell? ⟨w.heap.size + 1, 1, none⟩ = some cv ∧ W2.frozen? ⟨w.heap.size + 1, 1, none⟩ = false ∧ QS w p base s L v e (W2.setCell ⟨w.heap.size + 1, 1, none⟩ cv') E C' ev cv' wd by_ i := by
  have hlt := h.lt
  have n1 : ¬ cv.ownBlock = some (w.heap.size + 1) := fun q => (h.cb q).1.ne h.bq (by decide) rfl
  have n0 : ¬ cv.ownBlock = some w.heap.size := fun q => (h.cb q).1.ne h.br (by decide) rfl
  have np : ¬ cv.ownBlock = some p := fun q => by have := (h.cb q).2; omega
  have B2 := h.bq.turn T n1
  have TP := Turn.put W2 (w.heap.size + 1) 1 cv'
  have hb : ∀ k, k = w.heap.size + 1 → Blk W2 k 27 := fun k hk => by rw [hk]; exact B2
  have ho2 := own_turn h.eo T (fun k hk q => (h.eb hk).1.ne (h.cb q).1 (by decide) rfl)
  refine ⟨T.cell n1 h.c.2.1, B2.fz _, (h.par.turnS T np (fun k hk q => by have := h.low k hk; have := (h.cb q).2; omega)).turnS TP (by omega) (fun k hk q => by have := h.low k hk; omega), range_far (range_turn h.rr T n0) (by omega) _, (h.br.turn T n0).turn TP (by omega), ?_, B2.set _ _,
    own_turn ho2 TP (fun k hk q => (own_blk ho2 hk).1.ne (hb k q) (by decide) rfl), ho.other TP hb (by decide) (by decide), (h.tu.comp T (fun k hk q => by have := (h.cb q).2; omega)).comp TP (fun k hk q => by omega), h.lt, h.low, h.en, hl, h.il⟩
  exact range_set (range_turn h.rq T n1) (by show 1 < 4; omega) cv'
/-- A query as it lies. -/
def quV (b : Nat) (q : QU) (w : World) (x : Value) : Prop := ∃ ev cv, x = .agg (quL ev cv q.window q.byKey).toArray ∧ w.ownsRow b 50 4 ev q.elems.length (elsC q.elems) ∧ CnsO b w cv q.conds
theorem QS.end_ {q : QU} {Q : Ending → World → Prop} (h : QS w p base s L v e W q.elems q.conds ev cv q.window q.byKey i) {a : Act} (hd : a.defers = []) (hp : a.tmps.getD 2 undef = .pointer (some ⟨w.heap.size, 0, none⟩))
    (hq : ∀ x W', quV w.heap.size q W' x → Turn (fun k => k = p) w W' → ParAt W' p base s L v i e 0 → Q (.returned x) W') :
    bodyPost Tryd.prog Tryd.f9 Q Exit.ret a ((((W.setCell ⟨w.heap.size, 0, none⟩ ev).setCell ⟨w.heap.size, 1, none⟩ cv).setCell ⟨w.heap.size, 2, none⟩ (.int .i64 q.window)).setCell ⟨w.heap.size, 3, none⟩ (.bool q.byKey)) :=
  have R2 := World.rangeAt_setCells_same W w.heap.size 0 (quL ev cv q.window q.byKey) (range_there h.rr rfl h.br)
  have hlt := h.lt
  have TE : Turn (fun k => k = w.heap.size) W (W.setCells w.heap.size 0 (quL ev cv q.window q.byKey)) := Turn.setCells _ 0 (Turn.refl _ _) (.inl rfl)
  have hb : ∀ k, k = w.heap.size → Blk W k 27 := fun k hk => by rw [hk]; exact h.br
  bodyPost_ret (v := .agg (quL ev cv q.window q.byKey).toArray) (res_cell (a := 2) rfl hp (run_loadVar_mid _ w.heap.size 0 27 _ _ R2 Tryd.underlying27 rfl size27)) hd
    (hq _ _ ⟨ev, cv, rfl, own_turn h.eo TE (fun k hk q => (h.eb hk).1.ne (hb k q) (by decide) rfl), h.co.other TE hb (by decide) (by decide)⟩ (h.tu.comp TE (fun k hk q => by omega)) (h.par.turnS TE (by omega) (fun k hk q => by have := h.low k hk; omega)))
end
end Go.Proofs.YtadogobdlcionaaDoor
