/-
  The document's own log, in memory.
-/
import Derived.Test.YteokdibfdahabaaLg10
namespace Go.Proofs.Yteokdibfdahabaa
open Go.ChangeShapes Go.WideShapes Go.ChangeAt Go.RowKit
set_option linter.unusedVariables false

/-- Rows of as many cells, one behind the other. -/
def flat (g : Nat → List Value) : Nat → List Value
  | 0 => []
  | k + 1 => flat g k ++ g k
theorem flat_len {g : Nat → List Value} {m : Nat} (hg : ∀ i, (g i).length = m) : ∀ k, (flat g k).length = k * m
  | 0 => by simp [flat]
  | k + 1 => by
    show (flat g k ++ g k).length = _
    rw [List.length_append, flat_len hg k, hg k, Nat.succ_mul]
theorem flat_at {g : Nat → List Value} {m : Nat} (hg : ∀ i, (g i).length = m) {i j : Nat} (hj : j < m) : ∀ {k : Nat}, i < k → (flat g k)[i * m + j]? = (g i)[j]?
  | 0, h => absurd h (Nat.not_lt_zero _)
  | k + 1, h => by
    show (flat g k ++ g k)[i * m + j]? = _
    by_cases e : i < k
    · have : i * m + j < k * m := by
        have := Nat.mul_le_mul_right m (show i + 1 ≤ k from e)
        rw [Nat.succ_mul] at this
        omega
      rw [List.getElem?_append_left (by rw [flat_len hg]; exact this)]
      exact flat_at hg hj e
    · obtain rfl : i = k := by omega
      rw [List.getElem?_append_right (by rw [flat_len hg]; omega), flat_len hg, Nat.add_sub_cancel_left]
theorem flat_congr {g g' : Nat → List Value} : ∀ {k : Nat}, (∀ i, i < k → g i = g' i) → flat g k = flat g' k
  | 0, _ => rfl
  | k + 1, h => by
    show flat g k ++ g k = flat g' k ++ g' k
    rw [flat_congr (fun i hi => h i (by omega)), h k (by omega)]
theorem flat_set {g : Nat → List Value} {m : Nat} (hg : ∀ i, (g i).length = m) {i j : Nat} (hj : j < m) (u : Value) : ∀ {k : Nat}, i < k → (flat g k).set (i * m + j) u = flat (upd g i ((g i).set j u)) k
  | 0, h => absurd h (Nat.not_lt_zero _)
  | k + 1, h => by
    show (flat g k ++ g k).set (i * m + j) u = flat (upd g i ((g i).set j u)) k ++ upd g i ((g i).set j u) k
    by_cases e : i < k
    · have : i * m + j < k * m := by
        have := Nat.mul_le_mul_right m (show i + 1 ≤ k from e)
        rw [Nat.succ_mul] at this
        omega
      rw [List.set_append_left _ _ (by rw [flat_len hg]; exact this), flat_set hg hj u e, upd_off _ _ (by omega)]
    · obtain rfl : i = k := by omega
      rw [List.set_append_right _ _ (by rw [flat_len hg]; omega), flat_len hg, Nat.add_sub_cancel_left, upd_at]
      congr 1
      exact flat_congr (fun q hq => by rw [upd_off _ _ (by omega)])
/-- What is put over some cells of a list. -/
def setL : List Value → Nat → List Value → List Value
  | xs, _, [] => xs
  | xs, o, v :: r => setL (xs.set o v) (o + 1) r
theorem setL_len : ∀ (vs xs : List Value) (o : Nat), (setL xs o vs).length = xs.length
  | [], _, _ => rfl
  | v :: r, xs, o => by
    show (setL (xs.set o v) (o + 1) r).length = _
    rw [setL_len r, List.length_set]
theorem flat_setL {m : Nat} : ∀ (vs : List Value) {g : Nat → List Value} (hg : ∀ i, (g i).length = m) {i k j : Nat} (h : i < k) (hj : j + vs.length ≤ m), setL (flat g k) (i * m + j) vs = flat (upd g i (setL (g i) j vs)) k
  | [], g, hg, i, k, j, h, hj => by
    show flat g k = flat (upd g i (g i)) k
    refine flat_congr (fun q _ => ?_)
    by_cases e : q = i
    · rw [e, upd_at]
    · rw [upd_off _ _ e]
  | v :: r, g, hg, i, k, j, h, hj => by
    simp only [List.length_cons] at hj
    show setL ((flat g k).set (i * m + j) v) (i * m + j + 1) r = flat (upd g i (setL ((g i).set j v) (j + 1) r)) k
    rw [flat_set hg (by omega) v h, Nat.add_assoc, flat_setL r (g := upd g i ((g i).set j v)) (fun q => by
      by_cases e : q = i
      · rw [e, upd_at, List.length_set]
        exact hg i
      · rw [upd_off _ _ e]
        exact hg q) h (by omega), upd_at]
    refine flat_congr (fun q _ => ?_)
    by_cases e : q = i
    · rw [e, upd_at, upd_at]
    · rw [upd_off _ _ e, upd_off _ _ e, upd_off _ _ e]
theorem own_sets {base : Nat} {e : TypeId} {size g n cap : Nat} : ∀ (vs : List Value) {w : World} {xs : List Value} (o : Nat), w.ownsRow base e size (.slice (some ⟨g, 0, none⟩) n cap) n xs → (w.setCells g o vs).ownsRow base e size (.slice (some ⟨g, 0, none⟩) n cap) n (setL xs o vs)
  | [], _, _, _, h => h
  | v :: r, _, _, o, h => own_sets r (o + 1) (h.stored o v).1
/-- A stamp's cell. -/
structure DC where
  fl : Bool
  wt : Bool
  p : Int × Int
  ob : Nat
  q : Nd
def DC.cells (n : Nat) (d : DC) : List Value := .bool d.fl :: .bool d.wt :: (cmdL d.p ++ [.slice (some ⟨d.ob, 0, none⟩) n n, .int .i64 d.q.err, .int .i64 d.q.n, .slice none 0 0])
theorem DC.len (n : Nat) (d : DC) : (d.cells n).length = 20 := rfl
theorem DC.set_fl (n : Nat) (d : DC) (b : Bool) : (d.cells n).set 0 (.bool b) = ({ d with fl := b } : DC).cells n := rfl
theorem DC.set_wt (n : Nat) (d : DC) (b : Bool) : (d.cells n).set 1 (.bool b) = ({ d with wt := b } : DC).cells n := rfl
theorem DC.set_p (n : Nat) (d : DC) (p : Int × Int) : setL (d.cells n) 2 (cmdL p) = ({ d with p := p } : DC).cells n := rfl
theorem DC.set_q (n : Nat) (d : DC) (q : Nd) : setL (d.cells n) 17 [.int .i64 q.err, .int .i64 q.n, .slice none 0 0] = ({ d with q := q } : DC).cells n := rfl
/-- The blocks of a log. -/
structure RB where
  r : Nat
  wk : Nat
  v : Value
  D : Nat → DC
  base : Nat
/-- What a worker told, in the cells of its place. -/
def OutC (w : World) (b k : Nat) (o : Option Int) : Prop := ∃ a n m, w.rangeAt b (k * 4) [.slice none 0 0, .slice a n m, .slice none 0 0, .slice none 0 0] ∧ OutV w (.slice a n m) o
theorem OutC.turn {S : Nat → Prop} {w w' : World} {b k : Nat} {o : Option Int} (h : OutC w b k o) (T : Turn S w w') (hb : ¬ S b) (h3 : ∀ b, Blk w b 3 → ¬ S b) : OutC w' b k o := by
  obtain ⟨a, n, m, hr, hv⟩ := h
  exact ⟨a, n, m, range_turn hr T hb, hv.turn T h3⟩
structure RefAt (w : World) (R : RB) (c : Cf) (s : LSt) : Prop where
  br : Blk w R.r 101
  k0 : w.cell? ⟨R.r, 0, none⟩ = some (.int .i64 (c.sh : Int))
  k1 : w.cell? ⟨R.r, 1, none⟩ = some (.int .i64 (c.ib : Int))
  k6 : w.cell? ⟨R.r, 6, none⟩ = some (.int .i64 c.st)
  k7 : w.cell? ⟨R.r, 7, none⟩ = some R.v
  k8 : w.cell? ⟨R.r, 8, none⟩ = some (.bool s.closed)
  k9 : w.cell? ⟨R.r, 9, none⟩ = some (.int .i64 (s.low : Int))
  k10 : ∃ cap, w.cell? ⟨R.r, 10, none⟩ = some (.slice (some ⟨R.wk, 0, none⟩) c.sh cap)
  bk : Blk w R.wk 128
  w0 : ∀ i, i < c.sh → w.cell? ⟨R.wk, i * 2, none⟩ = some (.int .i64 (s.cur i : Int))
  w1 : ∀ i, i < c.sh → w.cell? ⟨R.wk, i * 2 + 1, none⟩ = some (.bool (s.left i))
  own : w.ownsRow R.base 126 20 R.v s.tail (flat (fun k => (R.D k).cells c.sh) s.tail)
  ob : ∀ i, i < s.tail → Blk w (R.D i).ob 62 ∧ R.base ≤ (R.D i).ob
  obne : ∀ i j, i < s.tail → j < s.tail → i ≠ j → (R.D i).ob ≠ (R.D j).ob
  b1 : R.base ≤ R.r
  b2 : R.base ≤ R.wk
  fl : ∀ i, i < s.tail → s.low ≤ i → (R.D i).fl = (s.X (i : Int)).isSome
  cm : ∀ i, i < s.tail → s.low ≤ i → ∀ p, s.X (i : Int) = some p → (R.D i).p = p
  wt : ∀ i, i < s.tail → (R.D i).wt = (s.G (i : Int)).isSome
  an : ∀ i, i < s.tail → ∀ q, s.G (i : Int) = some q → (R.D i).q = q
  outs : ∀ i, i < s.tail → s.low ≤ i → ∀ k, k < c.sh → OutC w (R.D i).ob k ((s.Y k (i : Int)).getD none)
/-- The blocks that may turn: of the document's types, and new ones. -/
def RS (base : Nat) (w : World) (b : Nat) : Prop := base ≤ b ∧ (Blk w b 101 ∨ Blk w b 128 ∨ Blk w b 126 ∨ Blk w b 62)
theorem RS.ne {base : Nat} {w : World} {b : Nat} {t : TypeId} (hb : Blk w b t) (h1 : t ≠ 101) (h2 : t ≠ 128) (h3 : t ≠ 126) (h4 : t ≠ 62) : ¬ RS base w b := fun ⟨_, h⟩ => by
  rcases h with h | h | h | h
  · exact hb.ne h h1 rfl
  · exact hb.ne h h2 rfl
  · exact hb.ne h h3 rfl
  · exact hb.ne h h4 rfl
theorem RS.trans {base : Nat} {a b d : World} (h : Turn (RS base a) a b) (k : Turn (RS base b) b d) : Turn (RS base a) a d :=
  h.comp k (fun i hi ⟨q1, q2⟩ => by
    by_cases e : RS base a i
    · exact e
    · have eb := h.block i hi e
      have back : ∀ t, Blk b i t → Blk a i t := fun t ⟨cs, hc⟩ => ⟨cs, eb.symm.trans hc⟩
      exact ⟨q1, q2.imp (back _) (fun q => q.imp (back _) (fun q => q.imp (back _) (back _)))⟩)
section
variable {w w' : World} {R : RB} {c : Cf} {s : LSt}
theorem RefAt.row (h : RefAt w R c s) {i : Nat} (hi : i < s.tail) : ∃ g cap, R.v = .slice (some ⟨g, 0, none⟩) s.tail cap ∧ Blk w g 126 ∧ R.base ≤ g ∧ ∀ j, j < s.tail → w.rangeAt g (j * 20) ((R.D j).cells c.sh) := by
  rcases h.own.2 with ⟨_, h0⟩ | ⟨g, cap, cur, e, hb, hg, _⟩
  · omega
  · refine ⟨g, cap, e, ⟨_, hg⟩, hb, fun j hj k u hk => ?_⟩
    have h1 := h.own
    rw [e] at h1
    have hk2 : k < 20 := by
      have := (List.getElem?_eq_some_iff.1 hk).1
      rw [DC.len] at this
      exact this
    rw [h1.cellAt _ (by omega), flat_at (fun i => DC.len c.sh (R.D i)) hk2 hj]
    exact hk
theorem RefAt.turn {S : Nat → Prop} (h : RefAt w R c s) (T : Turn S w w') (h1 : ∀ b, Blk w b 101 → ¬ S b) (h2 : ∀ b, Blk w b 128 → ¬ S b) (h3 : ∀ b, Blk w b 126 → ¬ S b) (h4 : ∀ b, Blk w b 62 → ¬ S b) (h5 : ∀ b, Blk w b 3 → ¬ S b) : RefAt w' R c s := by
  have hr := h1 _ h.br
  have hk := h2 _ h.bk
  obtain ⟨cap, k10⟩ := h.k10
  exact ⟨h.br.turn T hr, T.cell hr h.k0, T.cell hr h.k1, T.cell hr h.k6, T.cell hr h.k7, T.cell hr h.k8, T.cell hr h.k9, ⟨cap, T.cell hr k10⟩, h.bk.turn T hk, fun i hi => T.cell hk (h.w0 i hi), fun i hi => T.cell hk (h.w1 i hi),
    own_turn h.own T (fun k e => h3 k (own_blk h.own e)), fun i hi => ⟨(h.ob i hi).1.turn T (h4 _ (h.ob i hi).1), (h.ob i hi).2⟩, h.obne, h.b1, h.b2, h.fl, h.cm, h.wt, h.an, fun i hi hl k hk => (h.outs i hi hl k hk).turn T (h4 _ (h.ob i hi).1) h5⟩
theorem RefAt.keep (h : RefAt w R c s) (T : Turn (fun _ => False) w w') : RefAt w' R c s := h.turn T (fun _ _ f => f) (fun _ _ f => f) (fun _ _ f => f) (fun _ _ f => f) (fun _ _ f => f)
theorem RefAt.sr (h : RefAt w R c s) : RS R.base w R.r := ⟨h.b1, .inl h.br⟩
theorem RefAt.sk (h : RefAt w R c s) : RS R.base w R.wk := ⟨h.b2, .inr (.inl h.bk)⟩
end
end Go.Proofs.Yteokdibfdahabaa
