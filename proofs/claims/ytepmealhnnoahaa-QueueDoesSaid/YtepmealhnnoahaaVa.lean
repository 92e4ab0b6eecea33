/-
  The document's own desk, in memory: where a query stands, how many of its matches wait, whether it lost some.
  The document's own desk: what only reads.
  Matches of all rows in order, as the document has them: each behind all that are not behind it.
  The document's merge, in memory.
  The document's own desk: what is written into it.
  The document's own desk: an event.
  The document's own desk: what is left of a query's row is copied.
  The document's own desk: a query is taken out of the row.
-/
import Derived.Test.YtepmealhnnoahaaUz
import Derived.Test.YtepmealhnnoahaaSn
import Derived.Deep.DeepCutAuto
import Derived.Deep.CutBlock
import Derived.Deep.RegionHeld3
import Derived.BigQuiet
namespace Go.Proofs.Ytepmealhnnoahaa
set_option linter.unusedSimpArgs false
open Go.ChangeShapes Go.WideShapes Go.ChangeAt Go.RowKit
set_option linter.unusedVariables false
def updN {α : Type} (g : Nat → α) (i : Nat) (v : α) : Nat → α := fun j => if j = i then v else g j
theorem updN_at {α : Type} (g : Nat → α) (i : Nat) (v : α) : updN g i v i = v := by simp [updN]
theorem updN_off {α : Type} (g : Nat → α) {i j : Nat} (v : α) (h : j ≠ i) : updN g i v j = g j := by simp [updN, h]
/-- Rows of as many cells, one behind the other. -/
def flatN (g : Nat → List Value) : Nat → List Value
  | 0 => []
  | k + 1 => flatN g k ++ g k
theorem flatN_len {g : Nat → List Value} {m : Nat} (hg : ∀ i, (g i).length = m) : ∀ k, (flatN g k).length = k * m
  | 0 => by simp [flatN]
  | k + 1 => by
    show (flatN g k ++ g k).length = _
    rw [List.length_append, flatN_len hg k, hg k, Nat.succ_mul]
theorem flatN_at {g : Nat → List Value} {m : Nat} (hg : ∀ i, (g i).length = m) {i j : Nat} (hj : j < m) : ∀ {k : Nat}, i < k → (flatN g k)[i * m + j]? = (g i)[j]?
  | 0, h => absurd h (Nat.not_lt_zero _)
  | k + 1, h => by
    show (flatN g k ++ g k)[i * m + j]? = _
    by_cases e : i < k
    · have : i * m + j < k * m := by
        have := Nat.mul_le_mul_right m (show i + 1 ≤ k from e)
        rw [Nat.succ_mul] at this
        omega
      rw [List.getElem?_append_left (by rw [flatN_len hg]; exact this)]
      exact flatN_at hg hj e
    · obtain rfl : i = k := by omega
      rw [List.getElem?_append_right (by rw [flatN_len hg]; omega), flatN_len hg, Nat.add_sub_cancel_left]
theorem flatN_congr {g g' : Nat → List Value} : ∀ {k : Nat}, (∀ i, i < k → g i = g' i) → flatN g k = flatN g' k
  | 0, _ => rfl
  | k + 1, h => by
    show flatN g k ++ g k = flatN g' k ++ g' k
    rw [flatN_congr (fun i hi => h i (by omega)), h k (by omega)]
theorem flatN_set {g : Nat → List Value} {m : Nat} (hg : ∀ i, (g i).length = m) {i j : Nat} (hj : j < m) (u : Value) : ∀ {k : Nat}, i < k → (flatN g k).set (i * m + j) u = flatN (updN g i ((g i).set j u)) k
  | 0, h => absurd h (Nat.not_lt_zero _)
  | k + 1, h => by
    show (flatN g k ++ g k).set (i * m + j) u = flatN (updN g i ((g i).set j u)) k ++ updN g i ((g i).set j u) k
    by_cases e : i < k
    · have : i * m + j < k * m := by
        have := Nat.mul_le_mul_right m (show i + 1 ≤ k from e)
        rw [Nat.succ_mul] at this
        omega
      rw [List.set_append_left _ _ (by rw [flatN_len hg]; exact this), flatN_set hg hj u e, updN_off _ _ (by omega)]
    · obtain rfl : i = k := by omega
      rw [List.set_append_right _ _ (by rw [flatN_len hg]; omega), flatN_len hg, Nat.add_sub_cancel_left, updN_at]
      congr 1
      exact flatN_congr (fun q hq => by rw [updN_off _ _ (by omega)])
def rowS (S : DS) (i : Int) : List Fnd := ((S i).getD ([], false)).1
/-- A query, as it lies. -/
def qrow (ids : List Int) (U : Nat → Value) (S : DS) (j : Nat) : List Value := [.int .i64 (ids.getD j 0), U j, .bool (lostS S (ids.getD j 0))]
theorem qrow_len (ids : List Int) (U : Nat → Value) (S : DS) (j : Nat) : (qrow ids U S j).length = 3 := rfl
/-- A row of queries: its own, or a full one of which the block has more behind it. -/
def QRow (w : World) (base : Nat) (v : Value) (n : Nat) (xs : List Value) : Prop :=
  w.ownsRow base 91 3 v n xs ∨ (xs.length = n * 3 ∧ ∃ g, v = .slice (some ⟨g, 0, none⟩) n n ∧ Blk w g 91 ∧ base ≤ g ∧ w.rangeAt g 0 xs)
section
variable {w w' : World} {base n : Nat} {v : Value} {xs : List Value}
theorem QRow.sl (h : QRow w base v n xs) : ∃ a cap, v = .slice a n cap ∧ (0 < n → ∃ g, a = some ⟨g, 0, none⟩) := by
  rcases h with h | ⟨_, g, e, _⟩
  · exact own_slice h
  · exact ⟨_, _, e, fun _ => ⟨g, rfl⟩⟩
theorem QRow.blk (h : QRow w base v n xs) {q : Nat} (hq : v.ownBlock = some q) : Blk w q 91 ∧ base ≤ q := by
  rcases h with h | ⟨_, g, e, hb, hg, _⟩
  · rcases h.2 with ⟨e1, _⟩ | ⟨g', cap', cur, e1, hb, hgg, _⟩
    · rw [e1] at hq; simp [Value.ownBlock] at hq
    · rw [e1] at hq
      have : g' = q := by simpa [Value.ownBlock] using hq
      subst this
      exact ⟨⟨_, hgg⟩, hb⟩
  · rw [e] at hq
    have : g = q := by simpa [Value.ownBlock] using hq
    subst this
    exact ⟨hb, hg⟩
theorem QRow.turn {Z : Nat → Prop} (h : QRow w base v n xs) (T : Turn Z w w') (hs : ∀ k, v.ownBlock = some k → ¬ Z k) : QRow w' base v n xs := by
  rcases h with h | ⟨hl, g, rfl, hb, hg, hr⟩
  · exact .inl (own_turn h T hs)
  · exact .inr ⟨hl, g, rfl, hb.turn T (hs g rfl), hg, range_turn hr T (hs g rfl)⟩
theorem QRow.cellAt {g cap : Nat} (h : QRow w base (.slice (some ⟨g, 0, none⟩) n cap) n xs) (j : Nat) (hj : j < n * 3) : w.cell? ⟨g, j, none⟩ = xs[j]? := by
  rcases h with h | ⟨hl, g', e, hb, hg, hr⟩
  · exact h.cellAt j hj
  · have : g = g' := by injection e with z1 z2 z3; injection z1 with z1; injection z1
    subst this
    obtain ⟨u, hu⟩ : ∃ u, xs[j]? = some u := ⟨_, List.getElem?_eq_getElem (by omega)⟩
    have := hr j u hu
    rw [Nat.zero_add] at this
    rw [this, hu]
theorem QRow.stored {g cap : Nat} (h : QRow w base (.slice (some ⟨g, 0, none⟩) n cap) n xs) (o : Nat) (u : Value) : QRow (w.setCell ⟨g, o, none⟩ u) base (.slice (some ⟨g, 0, none⟩) n cap) n (xs.set o u) := by
  rcases h with h | ⟨hl, g', e, hb, hg, hr⟩
  · exact .inl (h.stored o u).1
  · have e1 : g = g' ∧ cap = n := by injection e with z1 z2 z3; injection z1 with z1; injection z1 with z1; exact ⟨z1, z3⟩
    obtain ⟨rfl, rfl⟩ := e1
    refine .inr ⟨by rw [List.length_set]; exact hl, g, rfl, hb.set _ _, hg, fun j x hx => ?_⟩
    rw [Nat.zero_add]
    by_cases e : o = j
    · subst e
      have hj : o < xs.length := by have := (List.getElem?_eq_some_iff.1 hx).1; rwa [List.length_set] at this
      rw [List.getElem?_set_self hj] at hx
      cases hx
      have := hr o xs[o] (List.getElem?_eq_getElem hj)
      rw [Nat.zero_add] at this
      exact World.cell?_setCell_same w _ _ this
    · rw [cell_off _ _ _ _ _ e]
      rw [List.getElem?_set_ne e] at hx
      have := hr j x hx
      rw [Nat.zero_add] at this
      exact this
end
/-- The document's desk at block r: its queries in their order; no block of what waits is in N. -/
structure DocAt (w : World) (r base : Nat) (qu ou : Int) (N E : Nat → Prop) (ids : List Int) (S : DS) : Prop where
  bl : Blk w r 33
  c3 : w.cell? ⟨r, 3, none⟩ = some (.int .i64 qu)
  c5 : w.cell? ⟨r, 5, none⟩ = some (.int .i64 ou)
  ex : ∃ (v : Value) (U : Nat → Value), w.cell? ⟨r, 7, none⟩ = some v ∧ QRow w base v ids.length (flatN (qrow ids U S) ids.length) ∧
    (∀ j, j < ids.length → FRow w base (fun k => ¬ E k) (U j) (rowS S (ids.getD j 0)) ∧ ∀ k, (U j).ownBlock = some k → ¬ N k) ∧
    ∀ i j k, i < ids.length → j < ids.length → i ≠ j → (U i).ownBlock = some k → (U j).ownBlock ≠ some k
  nd : ids.Nodup
  dom : ∀ i, i ∈ ids ↔ (S i).isSome = true
  bs : base ≤ w.heap.size
section
variable {w w' : World} {r base : Nat} {qu ou : Int} {N N' E E' : Nat → Prop} {ids : List Int} {S : DS}
theorem FRow.next {w w' : World} {base : Nat} {E Z : Nat → Prop} {v : Value} {l : List Fnd} (h : FRow w base (fun k => ¬ E k) v l) (T : Turn Z w w') (hv : ∀ k, v.ownBlock = some k → ¬ Z k) (hz : ∀ k, Z k → MTy w k → E k) : FRow w' base (fun k => ¬ E k) v l := by
  obtain ⟨ps, h1, h2, h3⟩ := h.ex
  exact ⟨ps, h1, own_turn h2 T hv, fun j f p hf hp => ((h3 j f p hf hp).typed.turn T (fun k _ z => by
    by_cases t : MTy w k
    · exact .inl (fun n => n (hz k z t))
    · exact .inr t)).weak (fun k q => .inl q)⟩
theorem frow_b71 {w : World} {base : Nat} {M : Nat → Prop} {v : Value} {l : List Fnd} (h : FRow w base M v l) {q : Nat} (hq : v.ownBlock = some q) : Blk w q 71 := by
  obtain ⟨ps, _, ho, _⟩ := h.ex
  rcases ho.2 with ⟨e, _⟩ | ⟨g', cap', cur, e, _, hgg, _⟩
  · rw [e] at hq; simp [Value.ownBlock] at hq
  · rw [e] at hq
    have : g' = q := by simpa [Value.ownBlock] using hq
    subst this
    exact ⟨_, hgg⟩
theorem DocAt.turn {Z : Nat → Prop} (h : DocAt w r base qu ou N E ids S) (T : Turn Z w w') (hr : ¬ Z r) (h91 : ∀ k, Blk w k 91 → ¬ Z k) (h71 : ∀ k, Blk w k 71 → Z k → N k) (hz : ∀ k, Z k → MTy w k → E k) : DocAt w' r base qu ou N E ids S := by
  obtain ⟨v, U, h1, h2, h3, h4⟩ := h.ex
  refine ⟨h.bl.turn T hr, T.cell hr h.c3, T.cell hr h.c5, ⟨v, U, T.cell hr h1, h2.turn T (fun k hk => h91 k (h2.blk hk).1), fun j hj => ?_, h4⟩, h.nd, h.dom, Nat.le_trans h.bs T.size⟩
  obtain ⟨f1, f2⟩ := h3 j hj
  exact ⟨f1.next T (fun k hk z => f2 k hk (h71 k (frow_b71 f1 hk) z)) hz, f2⟩
/-- .. with other blocks that none is in. -/
theorem DocAt.other (h : DocAt w r base qu ou N E ids S) (hN : ∀ k, N' k → N k ∨ w.heap.size ≤ k) (hE : ∀ k, E' k → E k ∨ w.heap.size ≤ k) : DocAt w r base qu ou N' E' ids S := by
  obtain ⟨v, U, h1, h2, h3, h4⟩ := h.ex
  refine ⟨h.bl, h.c3, h.c5, ⟨v, U, h1, h2, fun j hj => ?_, h4⟩, h.nd, h.dom, h.bs⟩
  obtain ⟨f1, f2⟩ := h3 j hj
  obtain ⟨ps, p1, p2, p3⟩ := f1.ex
  refine ⟨⟨ps, p1, p2, fun j' f p hf hp => ((p3 j' f p hf hp).room).weak (fun k n => ?_)⟩, fun k hk n => (hN k n).elim (f2 k hk) (fun s => by have := (p2.lt k hk).2; omega)⟩
  rcases hE k (Classical.not_not.1 n) with q | q
  · exact .inl (fun x => x q)
  · exact .inr q
theorem DocAt.row_at (h : DocAt w r base qu ou N E ids S) {v : Value} {U : Nat → Value} (h2 : QRow w base v ids.length (flatN (qrow ids U S) ids.length)) {k : Nat} (hk : k < ids.length) : ∃ g cap, v = .slice (some ⟨g, 0, none⟩) ids.length cap ∧ w.rangeAt g (k * 3) (qrow ids U S k) := by
  obtain ⟨a, cap, rfl, ha⟩ := h2.sl
  obtain ⟨g, rfl⟩ := ha (by omega)
  refine ⟨g, cap, rfl, fun j u hu => ?_⟩
  have hj := (List.getElem?_eq_some_iff.1 hu).1
  have hj : j < 3 := hj
  have := flatN_at (g := qrow ids U S) (qrow_len ids U S) hj hk
  exact (h2.cellAt (k * 3 + j) (by omega)).trans (this.trans hu)
def FdRel (ids : List Int) (i : Int) (w : World) (gh : Nat) (v5 : Value) (wr : World) : Prop :=
  ∃ k : Nat, v5 = .int .i64 (k : Int) ∧ k ≤ ids.length ∧ gh = ids.length - k ∧ (∀ j, j < k → ids.getD j 0 ≠ i) ∧ wr = w
/-- Where a query stands. -/
def posD (ids : List Int) (i : Int) : Int := match (List.range ids.length).find? (fun j => ids.getD j 0 == i) with
  | some j => (j : Int)
  | none => -1
theorem posD_yes {ids : List Int} {i : Int} {k : Nat} (hk : k < ids.length) (h : ids.getD k 0 = i) (hn : ∀ j, j < k → ids.getD j 0 ≠ i) : posD ids i = (k : Int) := by
  have e : (List.range ids.length).find? (fun j => ids.getD j 0 == i) = some k := by
    rw [List.find?_eq_some_iff_append]
    refine ⟨by simpa using h, List.range k, (List.range ids.length).drop (k + 1), ?_, fun j hj => by simpa using hn j (List.mem_range.1 hj)⟩
    apply List.ext_getElem
    · simp; omega
    · intro n h1 h2
      simp at h1
      rw [List.getElem_append]
      split
      · rename_i hlt
        simp
      · rename_i hlt
        simp at hlt
        rw [List.getElem_cons]
        split
        · rename_i h0; simp at h0 ⊢; omega
        · rename_i h0; simp at h0 ⊢; omega
  unfold posD
  rw [e]
theorem posD_no {ids : List Int} {i : Int} (hn : ∀ j, j < ids.length → ids.getD j 0 ≠ i) : posD ids i = -1 := by
  have e : (List.range ids.length).find? (fun j => ids.getD j 0 == i) = none := List.find?_eq_none.2 (fun j hj => by simpa using hn j (List.mem_range.1 hj))
  unfold posD
  rw [e]
theorem wrapD {k n : Nat} (h : k < n) (hn : n ≤ 1000) : wrap64 ((k : Int) + 1) = (k : Int) + 1 := by unfold wrap64; omega
set_option maxRecDepth 100000 in
theorem DocAt.find (h : DocAt w r base qu ou N E ids S) (hn : ids.length ≤ 1000) (i : Int) : Calls Try.prog 33 #[.pointer (some ⟨r, 0, none⟩), .int .i64 i] w fun e w' => e = .returned (.int .i64 (posD ids i)) ∧ w = w' := by
  obtain ⟨v, U, h1, h2, h3, h4⟩ := h.ex
  have RA := Lib.hid (fun (k : Nat) (hk : k < ids.length) => h.row_at h2 hk)
  obtain ⟨va, vc, rfl, -⟩ := h2.sl
  have R0 : FdRel ids i w ids.length (.int .i64 0) w := ⟨0, rfl, Nat.zero_le _, rfl, fun j hj => absurd hj (Nat.not_lt_zero j), rfl⟩
  have HN := Lib.hid hn
  clear h h2 h3 h4 hn
  go_enter Try.func33, Try.ntmps33
  go_wp2_with fail
  go_loopg [5] ids.length (fun gh v5 wr => FdRel ids i w gh v5 wr)
  case atStart => exact R0
  case round =>
    clear R0
    obtain ⟨k, rfl, hk, hg, hno, rfl⟩ := hrel
    by_cases hkl : k < ids.length
    · obtain ⟨g, cap, e, hr⟩ := RA.out k hkl
      obtain ⟨e1, e2⟩ : va = some ⟨g, 0, none⟩ ∧ vc = cap := by injection e with z1 z2 z3; exact ⟨z1, z3⟩
      subst e1 e2
      have x0 := hr 0 _ rfl
      rw [Nat.add_zero] at x0
      have t1 : decide ((k : Int) < (ids.length : Int)) = true := decide_eq_true (Int.ofNat_lt.2 hkl)
      have t2 : decide (k < ids.length) = true := decide_eq_true hkl
      have k0 : (0 : Int) ≤ (k : Int) := Int.natCast_nonneg k
      have k1 : (k : Int) < (ids.length : Int) := Int.ofNat_lt.2 hkl
      have ek := wrapD hkl HN.out
      by_cases he : ids.getD k 0 = i
      · have te : (ids.getD k 0 == i) = true := beq_iff_eq.2 he
        have P := Lib.hid (posD_yes hkl he hno)
        clear hk hg hno hkl hr e he RA
        generalize ids.getD k 0 = q at *
        generalize ids.length = n at *
        go_wp2
        go_ret
        exact ⟨by rw [P.out]; rfl, rfl⟩
      · have te : (ids.getD k 0 == i) = false := beq_eq_false_iff_ne.2 he
        have STEP := Lib.hid (show FdRel ids i wr (ids.length - (k + 1)) (.int .i64 ((k : Int) + 1)) wr from ⟨k + 1, congrArg (Value.int .i64) (Int.natCast_succ k).symm, hkl, rfl, fun j hj => by
          by_cases e : j = k
          · subst e; exact he
          · exact hno j (by omega), rfl⟩)
        have G := Lib.hid (And.intro hg hkl)
        clear hk hg hno hkl hr e he
        generalize ids.getD k 0 = q at *
        go_wp2_with fail
        go_roundg (ids.length - (k + 1))
        case measure => have := G.out.1; have := G.out.2; omega
        case rel => first | exact STEP.out | (rw [ek]; exact STEP.out)
    · obtain rfl : k = ids.length := Nat.le_antisymm hk (Nat.not_lt.1 hkl)
      have t1 : decide ((ids.length : Int) < (ids.length : Int)) = false := decide_eq_false (Int.lt_irrefl _)
      have t2 : decide (ids.length < ids.length) = false := decide_eq_false (Nat.lt_irrefl _)
      have P := Lib.hid (posD_no hno)
      clear hk hg hno hkl RA
      go_wp2
      go_ret
      exact ⟨by rw [P.out]; rfl, rfl⟩
theorem DocAt.pos (h : DocAt w r base qu ou N E ids S) (i : Int) : (S i = none ∧ posD ids i = -1) ∨ ∃ k l lo, k < ids.length ∧ ids.getD k 0 = i ∧ posD ids i = (k : Int) ∧ S i = some (l, lo) := by
  by_cases hi : i ∈ ids
  · obtain ⟨k, hk, e⟩ := List.mem_iff_getElem.1 hi
    have eg : ids.getD k 0 = i := by rw [List.getD_eq_getElem?_getD, List.getElem?_eq_getElem hk]; exact e
    have hs := (h.dom i).1 hi
    obtain ⟨p, hp⟩ := Option.isSome_iff_exists.1 hs
    refine .inr ⟨k, p.1, p.2, hk, eg, posD_yes hk eg (fun j hj q => ?_), hp⟩
    rw [List.getD_eq_getElem?_getD, List.getElem?_eq_getElem (by omega)] at q
    have q : ids[j] = i := q
    have := (List.getElem_inj h.nd).1 (q.trans e.symm)
    omega
  · refine .inl ⟨?_, posD_no (fun j hj q => hi ?_)⟩
    · cases hs : S i with
      | none => rfl
      | some p => exact absurd ((h.dom i).2 (by rw [hs]; rfl)) hi
    · rw [List.getD_eq_getElem?_getD, List.getElem?_eq_getElem hj] at q
      have q : ids[j] = i := q
      rw [← q]
      exact List.getElem_mem _
end
end Go.Proofs.Ytepmealhnnoahaa
namespace Go.Proofs.Ytepmealhnnoahaa
set_option linter.unusedSimpArgs false
open Go.ChangeShapes Go.WideShapes Go.ChangeAt Go.RowKit
set_option linter.unusedVariables false
section
variable {w w' : World} {r base : Nat} {qu ou : Int} {N N' E E' : Nat → Prop} {ids : List Int} {S : DS}
/-- A query that is there, in memory. -/
theorem DocAt.at (h : DocAt w r base qu ou N E ids S) {k : Nat} (hk : k < ids.length) : ∃ (va : Option Addr) (vc g : Nat) (ua : Option Addr) (uc : Nat), va = some ⟨g, 0, none⟩ ∧ w.cell? ⟨r, 7, none⟩ = some (.slice va ids.length vc) ∧ Blk w g 91 ∧
    w.cell? ⟨g, k * 3, none⟩ = some (.int .i64 (ids.getD k 0)) ∧ w.cell? ⟨g, k * 3 + 1, none⟩ = some (.slice ua (rowS S (ids.getD k 0)).length uc) ∧ w.cell? ⟨g, k * 3 + 2, none⟩ = some (.bool (lostS S (ids.getD k 0))) ∧
    FRow w base (fun q => ¬ E q) (.slice ua (rowS S (ids.getD k 0)).length uc) (rowS S (ids.getD k 0)) ∧ (∀ q, (Value.slice ua (rowS S (ids.getD k 0)).length uc).ownBlock = some q → ¬ N q) := by
  obtain ⟨v, U, h1, h2, h3, h4⟩ := h.ex
  obtain ⟨g, cap, rfl, hr⟩ := h.row_at h2 hk
  obtain ⟨f1, f2⟩ := h3 k hk
  obtain ⟨ps, p1, p2, p3⟩ := f1.ex
  obtain ⟨ua, uc, e, -⟩ := own_slice p2
  have x0 := hr 0 _ rfl
  have x1 := hr 1 _ rfl
  have x2 := hr 2 _ rfl
  rw [Nat.add_zero] at x0
  rw [e] at x1 f1 f2
  have hb : Blk w g 91 := (h2.blk rfl).1
  exact ⟨_, cap, g, ua, uc, rfl, h1, hb, x0, x1, x2, f1, f2⟩
set_option maxRecDepth 100000 in
theorem DocAt.waiting (h : DocAt w r base qu ou N E ids S) (hn : ids.length ≤ 1000) (i : Int) : Calls Try.prog 21 #[.pointer (some ⟨r, 0, none⟩), .int .i64 i] w fun e w' => e = .returned (.int .i64 (lenS S i : Int)) ∧ w = w' := by
  have F := Lib.hid (h.find hn i)
  rcases h.pos i with ⟨hs, hp⟩ | ⟨k, l, lo, hk, hg, hp, hs⟩
  · have e : lenS S i = 0 := by unfold lenS; rw [hs]; rfl
    rw [hp] at F
    rw [e]
    clear h hs hp e
    go_enter Try.func21, Try.ntmps21
    go_wp2_with fail
    with_reducible refine F.out.mono ?_
    rintro en W1 ⟨rfl, rfl⟩
    go_wp2
    go_ret
    exact ⟨rfl, rfl⟩
  · obtain ⟨va, vc, g, ua, uc, rfl, y0, hb, y1, y2, y3, hf, -⟩ := h.at hk
    rw [hg] at y1 y2 y3
    have e : lenS S i = (rowS S i).length := rfl
    rw [e]
    rw [hp] at F
    have k0 : (0 : Int) ≤ (k : Int) := Int.natCast_nonneg k
    have k1 : (k : Int) < (ids.length : Int) := Int.ofNat_lt.2 hk
    have k2 : ¬ (k : Int) < 0 := Int.not_lt.2 k0
    have t1 : decide ((k : Int) < 0) = false := decide_eq_false k2
    clear h hs hp e hf hb hg
    generalize (rowS S i).length = n at *
    generalize ids.length = m at *
    go_enter Try.func21, Try.ntmps21
    go_wp2_with fail
    with_reducible refine F.out.mono ?_
    rintro en W1 ⟨rfl, rfl⟩
    clear F
    go_wp2
    go_ret
    exact ⟨rfl, rfl⟩
set_option maxRecDepth 100000 in
theorem DocAt.lost (h : DocAt w r base qu ou N E ids S) (hn : ids.length ≤ 1000) (i : Int) : Calls Try.prog 23 #[.pointer (some ⟨r, 0, none⟩), .int .i64 i] w fun e w' => e = .returned (.bool (lostS S i)) ∧ w = w' := by
  have F := Lib.hid (h.find hn i)
  rcases h.pos i with ⟨hs, hp⟩ | ⟨k, l, lo, hk, hg, hp, hs⟩
  · have e : lostS S i = false := by unfold lostS; rw [hs]; rfl
    rw [hp] at F
    rw [e]
    clear h hs hp e
    go_enter Try.func23, Try.ntmps23
    go_wp2_with fail
    with_reducible refine F.out.mono ?_
    rintro en W1 ⟨rfl, rfl⟩
    go_wp2
    go_ret
    exact ⟨rfl, rfl⟩
  · obtain ⟨va, vc, g, ua, uc, rfl, y0, hb, y1, y2, y3, hf, -⟩ := h.at hk
    rw [hg] at y1 y2 y3
    rw [hp] at F
    have k0 : (0 : Int) ≤ (k : Int) := Int.natCast_nonneg k
    have k1 : (k : Int) < (ids.length : Int) := Int.ofNat_lt.2 hk
    have t1 : decide ((0 : Int) ≤ (k : Int)) = true := decide_eq_true k0
    clear h hs hp hf hb hg
    generalize (rowS S i).length = n at *
    generalize ids.length = m at *
    generalize lostS S i = b at *
    go_enter Try.func23, Try.ntmps23
    go_wp2_with fail
    with_reducible refine F.out.mono ?_
    rintro en W1 ⟨rfl, rfl⟩
    clear F
    cases b with
    | true =>
      go_wp2
      go_ret
      exact ⟨rfl, rfl⟩
    | false =>
      go_wp2
      go_ret
      exact ⟨rfl, rfl⟩
def sumI (S : DS) (ids : List Int) : Nat := (ids.map (fun i => cellW (fun _ => 1) S i)).sum
theorem heldW_none {S : DS} (h : ∀ i, S i = none) : heldW (fun _ => 1) S = 0 := by
  have : ∀ n, sumN (fun k => cellW (fun _ => 1) S (k : Int)) n = 0 := fun n => by
    induction n with
    | zero => rfl
    | succ n ih =>
      simp only [sumN]
      rw [ih]
      unfold cellW
      rw [h]
      rfl
  exact this 41
/-- The refs of all queries, in whichever order. -/
theorem sumI_held : ∀ (ids : List Int) (S : DS), ids.Nodup → (∀ i, i ∈ ids ↔ (S i).isSome = true) → DomS S → sumI S ids = heldW (fun _ => 1) S
  | [], S, _, hd, _ => by
    rw [heldW_none (fun i => by
      cases e : S i with
      | none => rfl
      | some p => have := (hd i).2 (by rw [e]; rfl); simp at this)]
    rfl
  | i :: ids, S, hn, hd, hD => by
    obtain ⟨hn1, hn2⟩ := List.nodup_cons.1 hn
    have hi : (S i).isSome = true := (hd i).1 (by simp)
    have hi2 := hD i (by intro e; rw [e] at hi; cases hi)
    have ih := sumI_held ids (updI S i none) hn2 (fun j => by
      by_cases e : j = i
      · subst e
        rw [updI_at]
        exact ⟨fun h => absurd h hn1, fun h => by cases h⟩
      · rw [updI_off _ _ e, ← hd j]
        simp [e]) (hD.upd hi2 none)
    have h1 := heldW_upd (f := fun _ => 1) (S := S) hi2 none
    have e2 : sumI (updI S i none) ids = sumI S ids := by
      unfold sumI
      congr 1
      refine List.map_congr_left (fun j hj => ?_)
      have : j ≠ i := fun e => hn1 (e ▸ hj)
      unfold cellW
      rw [updI_off _ _ this]
    have e3 : sumI S (i :: ids) = cellW (fun _ => 1) S i + sumI S ids := by simp [sumI]
    have e4 : wtR (fun _ => 1) (frefs ((none : Option (List Fnd × Bool)).getD ([], false)).1) = 0 := rfl
    rw [e4] at h1
    omega
theorem sumI_step {S : DS} {ids : List Int} {k : Nat} (h : k < ids.length) : sumI S (ids.take (k + 1)) = sumI S (ids.take k) + (frefs (rowS S (ids.getD k 0))).length := by
  unfold sumI
  rw [List.take_add_one, List.getElem?_eq_getElem h, List.map_append, List.sum_append]
  have e : ids.getD k 0 = ids[k] := by rw [List.getD_eq_getElem?_getD, List.getElem?_eq_getElem h]; rfl
  rw [e]
  simp only [Option.toList, List.map_cons, List.map_nil, List.sum_cons, List.sum_nil, Nat.add_zero]
  congr 1
  unfold cellW rowS
  rw [wtR_one]
theorem sumI_le {S : DS} {B : Nat} (hB : ∀ i, (frefs (rowS S i)).length ≤ B) : ∀ ids : List Int, sumI S ids ≤ ids.length * B
  | [] => by simp [sumI]
  | i :: ids => by
    have ih := sumI_le hB ids
    have e : sumI S (i :: ids) = cellW (fun _ => 1) S i + sumI S ids := by simp [sumI]
    have h1 := hB i
    have e1 : cellW (fun _ => 1) S i = (frefs (rowS S i)).length := by unfold cellW rowS; rw [wtR_one]
    rw [e, e1, List.length_cons, Nat.succ_mul]
    omega
def DhRel (S : DS) (ids : List Int) (w : World) (gh : Nat) (v3 v4 : Value) (wr : World) : Prop :=
  ∃ k : Nat, v4 = .int .i64 (k : Int) ∧ v3 = .int .i64 (sumI S (ids.take k) : Int) ∧ k ≤ ids.length ∧ gh = ids.length - k ∧ wr = w
def DiRel (l : List Fnd) (s : Nat) (w : World) (gh : Nat) (v3 v5 : Value) (wr : World) : Prop :=
  ∃ j : Nat, v5 = .int .i64 (j : Int) ∧ v3 = .int .i64 ((s + (frefs (l.take j)).length : Nat) : Int) ∧ j ≤ l.length ∧ gh = l.length - j ∧ wr = w
theorem wrapB {j n : Nat} (h : j < n) (hn : n ≤ 1000000) : wrap64 ((j : Int) + 1) = (j : Int) + 1 := by unfold wrap64; omega
theorem wrapS {a b : Nat} (h : a + b ≤ 100000000) : wrap64 ((a : Int) + (b : Int)) = (a : Int) + (b : Int) := by unfold wrap64; omega
theorem sumB {a b : Nat} (h1 : a ≤ 20000000) (h2 : b ≤ 20000) : ((a + b : Nat) : Int) ≤ 30000000 := by omega
theorem sumC {a : Nat} (h1 : a ≤ 1000) : (a : Int) ≤ 30000000 := by omega
theorem sumD {a b c : Nat} (h1 : a ≤ 20000000) (h2 : b ≤ 20000) (h3 : c ≤ 1000) : a + b + c ≤ 100000000 := by omega
set_option maxRecDepth 100000 in
set_option maxHeartbeats 4000000 in
theorem DocAt.held (h : DocAt w r base qu ou N E ids S) (hn : ids.length ≤ 1000) (hD : DomS S) (hB : ∀ i l lo, S i = some (l, lo) → l.length ≤ 10000 ∧ (frefs l).length ≤ 20000) : Calls Try.prog 18 #[.pointer (some ⟨r, 0, none⟩)] w fun e w' => e = .returned (.int .i64 (heldW (fun _ => 1) S : Int)) ∧ w = w' := by
  have hE := sumI_held ids S h.nd h.dom hD
  have hR : ∀ i, (frefs (rowS S i)).length ≤ 20000 ∧ (rowS S i).length ≤ 10000 := fun i => by
    unfold rowS
    cases e : S i with
    | none => exact ⟨by simp [frefs], by simp⟩
    | some p => obtain ⟨l, lo⟩ := p; exact ⟨(hB i l lo e).2, (hB i l lo e).1⟩
  have hS : ∀ k, sumI S (ids.take k) ≤ 20000000 := fun k => by
    have h1 := sumI_le (fun i => (hR i).1) (ids.take k)
    rw [List.length_take] at h1
    have : min k ids.length * 20000 ≤ 1000 * 20000 := Nat.mul_le_mul_right _ (by omega)
    omega
  rw [← hE]
  obtain ⟨v0, U0, hv7, hown, -⟩ := h.ex
  obtain ⟨va, vc, rfl, -⟩ := hown.sl
  have H := Lib.hid (And.intro h (And.intro hn (And.intro hR hS)))
  have R0 : DhRel S ids w ids.length (.int .i64 0) (.int .i64 0) w := ⟨0, rfl, rfl, Nat.zero_le _, rfl, rfl⟩
  clear h hn hD hB hE hR hS hown
  go_enter Try.func18, Try.ntmps18
  go_wp2_with fail
  go_loopg [3, 4] ids.length (fun gh v3 v4 wr => DhRel S ids w gh v3 v4 wr)
  case atStart => exact R0
  case round =>
    clear R0
    obtain ⟨k, rfl, rfl, hk, hg, rfl⟩ := hrel
    by_cases hkl : k < ids.length
    · obtain ⟨h, hn, hR, hS⟩ := H.out
      obtain ⟨va', vc', g, ua, uc, hva, y0, hb, y1, y2, y3, hf, -⟩ := h.at hkl
      obtain ⟨e1, e2⟩ : va' = va ∧ vc' = vc := by
        rw [hv7] at y0
        injection y0 with y0
        injection y0 with z1 z2 z3
        exact ⟨z1.symm, z3.symm⟩
      subst e1 e2 hva
      have hst := sumI_step (S := S) hkl
      have hs0 := hS k
      obtain ⟨hr1, hr2⟩ := hR (ids.getD k 0)
      have t1 : decide ((k : Int) < (ids.length : Int)) = true := decide_eq_true (Int.ofNat_lt.2 hkl)
      have t2 : decide (k < ids.length) = true := decide_eq_true hkl
      have k0 : (0 : Int) ≤ (k : Int) := Int.natCast_nonneg k
      have k1 : (k : Int) < (ids.length : Int) := Int.ofNat_lt.2 hkl
      have ek := wrapD hkl hn
      have STEP := Lib.hid (show DhRel S ids wr (ids.length - (k + 1)) (.int .i64 ((sumI S (ids.take k) + (frefs (rowS S (ids.getD k 0))).length : Nat) : Int)) (.int .i64 ((k : Int) + 1)) wr from ⟨k + 1, congrArg (Value.int .i64) (Int.natCast_succ k).symm, by rw [hst], hkl, rfl, rfl⟩)
      have G := Lib.hid (And.intro hg (And.intro hkl (And.intro hf (And.intro hs0 (And.intro hr1 hr2)))))
      clear h hn hR hS hst hs0 hr1 hr2 hk hg hkl hf hb y3
      obtain ⟨l, hl⟩ : ∃ l, rowS S (ids.getD k 0) = l := ⟨_, rfl⟩
      rw [hl] at STEP G y2
      clear hl
      generalize ids.getD k 0 = q at *
      generalize sumI S (ids.take k) = s at *
      have R1 : DiRel l s wr l.length (.int .i64 (s : Int)) (.int .i64 0) wr := ⟨0, rfl, by simp [frefs], Nat.zero_le _, rfl, rfl⟩
      go_wp2_with fail
      go_loopg [3, 5] l.length (fun gh v3 v5 wv => DiRel l s wr gh v3 v5 wv)
      case atStart => exact R1
      case round =>
        clear R1
        obtain ⟨j, rfl, rfl, hj, hgj, rfl⟩ := hrel
        rename World => wv
        obtain ⟨hg, hkl, hf, hs0, hr1, hr2⟩ := G.out
        by_cases hjl : j < l.length
        · obtain ⟨f, hfl⟩ : ∃ f, l[j]? = some f := ⟨_, List.getElem?_eq_getElem hjl⟩
          obtain ⟨u, rfl⟩ : ∃ u : Nat, ua = some ⟨u, 0, none⟩ := by
            obtain ⟨ps, _, ho, _⟩ := hf.ex
            obtain ⟨a, c, e, hs⟩ := own_slice ho
            obtain ⟨g, hs⟩ := hs (by omega)
            exact ⟨g, by injection e with z1 z2 z3; rw [z1, hs]⟩
          obtain ⟨vs, vr, hra, hfa⟩ := hf.at hfl
          obtain ⟨ra, rc, er⟩ : ∃ ra rc, vr = .slice ra f.refs.length rc := by
            obtain ⟨b, cap, e, _⟩ := hfa.refs
            exact ⟨_, _, e⟩
          have x1 := hra 1 _ rfl
          rw [er] at x1
          have hfs := frefs_step hfl
          have hle := frefs_take l (j + 1)
          have hlen : (frefs (l.take (j + 1))).length = (frefs (l.take j)).length + f.refs.length := by rw [hfs, List.length_append]
          have u1 : decide ((j : Int) < (l.length : Int)) = true := decide_eq_true (Int.ofNat_lt.2 hjl)
          have u2 : decide (j < l.length) = true := decide_eq_true hjl
          have j0 : (0 : Int) ≤ (j : Int) := Int.natCast_nonneg j
          have j1 : (j : Int) < (l.length : Int) := Int.ofNat_lt.2 hjl
          have ej := wrapB hjl (by omega)
          have es := wrapS (a := s + (frefs (l.take j)).length) (b := f.refs.length) (sumD hs0 (Nat.le_trans (frefs_take l j) hr1) hfa.r2)
          have ST2 := Lib.hid (show DiRel l s wv (l.length - (j + 1)) (.int .i64 (((s + (frefs (l.take j)).length : Nat) : Int) + (f.refs.length : Int))) (.int .i64 ((j : Int) + 1)) wv from ⟨j + 1, congrArg (Value.int .i64) (Int.natCast_succ j).symm, congrArg (Value.int .i64) (by rw [hlen]; omega), hjl, rfl, rfl⟩)
          have G2 := Lib.hid (And.intro hgj hjl)
          have sn : (0 : Int) ≤ ((s + (frefs (l.take j)).length : Nat) : Int) := Int.natCast_nonneg _
          have sm : ((s + (frefs (l.take j)).length : Nat) : Int) ≤ 30000000 := sumB hs0 (Nat.le_trans (frefs_take l j) hr1)
          have fn : (f.refs.length : Int) ≤ 30000000 := sumC hfa.r2
          clear hg hkl hf hs0 hr1 hr2 hj hgj hfl hra hfa er hfs hle hlen hjl
          generalize s + (frefs (l.take j)).length = t at *
          generalize f.refs.length = fr at *
          generalize l.length = ln at *
          go_wp2_with fail
          go_roundg (ln - (j + 1))
          case measure => have := G2.out.1; have := G2.out.2; omega
          case rel => first | exact ST2.out | (rw [ej]; exact ST2.out) | (rw [es]; exact ST2.out) | (rw [es, ej]; exact ST2.out)
        · obtain rfl : j = l.length := Nat.le_antisymm hj (Nat.not_lt.1 hjl)
          have u1 : decide ((l.length : Int) < (l.length : Int)) = false := decide_eq_false (Int.lt_irrefl _)
          have u2 : decide (l.length < l.length) = false := decide_eq_false (Nat.lt_irrefl _)
          rw [List.take_length]
          have G2 := Lib.hid (And.intro hg hkl)
          clear hg hkl hf hs0 hr1 hr2 hj hgj hjl G
          generalize s + (frefs l).length = t at *
          generalize l.length = ln at *
          go_wp2_with fail
          go_roundg (ids.length - (k + 1))
          case measure => have := G2.out.1; have := G2.out.2; omega
          case rel => first | exact STEP.out | (rw [ek]; exact STEP.out)
    · obtain rfl : k = ids.length := Nat.le_antisymm hk (Nat.not_lt.1 hkl)
      have t1 : decide ((ids.length : Int) < (ids.length : Int)) = false := decide_eq_false (Int.lt_irrefl _)
      have t2 : decide (ids.length < ids.length) = false := decide_eq_false (Nat.lt_irrefl _)
      rw [List.take_length]
      clear hk hg hkl H
      go_wp2
      go_ret
      exact ⟨rfl, rfl⟩
end
end Go.Proofs.Ytepmealhnnoahaa
namespace Go.Proofs.Ytepmealhnnoahaa
set_option linter.unusedSimpArgs false
open Go.ChangeShapes Go.WideShapes Go.ChangeAt Go.RowKit
set_option linter.unusedVariables false
/-- Two rows in order that have the same of each number are the same. -/
theorem sort_same : ∀ (l m : List Ht), SortH l → SortH m → (∀ c : Int, l.filter (fun x => x.id == c) = m.filter (fun x => x.id == c)) → l = m
  | [], [], _, _, _ => rfl
  | [], y :: m, _, _, h => by have := h y.id; simp at this
  | x :: l, [], _, _, h => by have := h x.id; simp at this
  | x :: l, y :: m, hl, hm, h => by
    have h1 : x.id ≤ y.id := by
      have e := h y.id
      have hy : y ∈ (x :: l).filter (fun z => z.id == y.id) := by rw [e]; simp
      have hy := (List.mem_filter.1 hy).1
      rcases List.mem_cons.1 hy with q | q
      · rw [q]; exact Int.le_refl _
      · exact (List.pairwise_cons.1 hl).1 y q
    have h2 : y.id ≤ x.id := by
      have e := h x.id
      have hx : x ∈ (y :: m).filter (fun z => z.id == x.id) := by rw [← e]; simp
      have hx := (List.mem_filter.1 hx).1
      rcases List.mem_cons.1 hx with q | q
      · rw [q]; exact Int.le_refl _
      · exact (List.pairwise_cons.1 hm).1 x q
    have he : x.id = y.id := by omega
    have hx := h x.id
    have bx : (x.id == x.id) = true := by simp
    have by_ : (y.id == x.id) = true := by simp [he]
    rw [List.filter_cons, List.filter_cons, if_pos bx, if_pos by_] at hx
    injection hx with e1 e2
    subst e1
    rw [sort_same l m (List.pairwise_cons.1 hl).2 (List.pairwise_cons.1 hm).2 (fun c => by
      have hc := h c
      rw [List.filter_cons, List.filter_cons] at hc
      split at hc
      · injection hc
      · exact hc)]
theorem ins_filter {l : List Ht} {x : Ht} (h : SortH l) (c : Int) : (insK Ht.id l x).filter (fun z => z.id == c) = l.filter (fun z => z.id == c) ++ if x.id = c then [x] else [] := by
  unfold insK
  obtain ⟨p, hp⟩ : ∃ p, posK Ht.id l x.id l.length = p := ⟨_, rfl⟩
  rw [hp]
  have hd : ∀ y ∈ l.drop p, x.id < y.id := fun b hb => by
    obtain ⟨q, hq⟩ := List.mem_iff_getElem?.1 hb
    rw [List.getElem?_drop] at hq
    exact posK_after (key := Ht.id) (i := x.id) l.length (p + q) b (by omega) (List.getElem?_eq_some_iff.1 hq).1 hq
  have e : l.filter (fun z => z.id == c) = (l.take p).filter (fun z => z.id == c) ++ (l.drop p).filter (fun z => z.id == c) := by rw [← List.filter_append, List.take_append_drop]
  rw [List.filter_append, List.filter_cons, e]
  by_cases hc : x.id = c
  · have e0 : (l.drop p).filter (fun z => z.id == c) = [] := List.filter_eq_nil_iff.2 (fun y hy => by have := hd y hy; simp; omega)
    rw [if_pos hc, if_pos (by simpa using hc), e0]
    simp
  · rw [if_neg hc, if_neg (by simpa using hc), List.append_nil]
def insA (l : List Ht) (acc : List Ht) : List Ht := l.foldl (insK Ht.id) acc
theorem insA_snoc (l : List Ht) (x : Ht) (acc : List Ht) : insA (l ++ [x]) acc = insK Ht.id (insA l acc) x := by unfold insA; rw [List.foldl_append]; rfl
theorem insA_is : ∀ (l acc : List Ht), SortH acc → SortH (insA l acc) ∧ ∀ c : Int, (insA l acc).filter (fun z => z.id == c) = acc.filter (fun z => z.id == c) ++ l.filter (fun z => z.id == c)
  | [], acc, h => ⟨h, fun c => by simp [insA]⟩
  | x :: l, acc, h => by
    have hs : SortH (insK Ht.id acc x) := insK_sort h
    obtain ⟨h1, h2⟩ := insA_is l (insK Ht.id acc x) hs
    refine ⟨h1, fun c => ?_⟩
    have e : insA (x :: l) acc = insA l (insK Ht.id acc x) := rfl
    rw [e, h2, ins_filter h, List.filter_cons]
    by_cases hc : x.id = c
    · rw [if_pos hc, if_pos (by simpa using hc)]; simp
    · rw [if_neg hc, if_neg (by simpa using hc)]; simp
theorem merge_sort : ∀ (n : Nat) (S : List (List Ht)), total S = n → (∀ l ∈ S, SortH l) → SortH (mergeN ltH n S)
  | n, S, hn, hs => by
    rcases firstAt_or ltH S with h | ⟨i, x, l, h, e⟩
    · rw [mergeN_none h]; exact List.Pairwise.nil
    · have ht := total_set e
      cases n with
      | zero => omega
      | succ n =>
        obtain ⟨f1, f2⟩ := first_least h e
        have hs' : ∀ l' ∈ S.set i l, SortH l' := fun l' hl' => by
          rcases List.mem_or_eq_of_mem_set hl' with q | rfl
          · exact hs l' q
          · exact (List.pairwise_cons.1 (hs _ (List.mem_of_getElem? e))).2
        rw [mergeN_step h e]
        refine List.pairwise_cons.2 ⟨fun y hy => ?_, merge_sort n (S.set i l) (by omega) hs'⟩
        obtain ⟨l', hl', hy2⟩ := mergeN_mem _ _ _ _ hy
        clear hy
        rcases List.mem_or_eq_of_mem_set hl' with q | rfl
        · obtain ⟨k, hk⟩ := List.mem_iff_getElem?.1 q
          cases l' with
          | nil => simp at hy2
          | cons z l' =>
            have h1 := f1 k z l' hk
            rcases List.mem_cons.1 hy2 with rfl | hy3
            · exact h1
            · have := (List.pairwise_cons.1 (hs _ q)).1 y hy3
              omega
        · exact (List.pairwise_cons.1 (hs _ (List.mem_of_getElem? e))).1 y hy2
/-- The document's order is the program's. -/
theorem insA_merged {Os : List OutV} (h : ∀ o ∈ Os, SortH o.hits) : insA (hitsL Os).flatten [] = mergedH Os := by
  obtain ⟨h1, h2⟩ := insA_is (hitsL Os).flatten [] List.Pairwise.nil
  refine sort_same _ _ h1 (merge_sort _ _ rfl (fun l hl => by
    unfold hitsL at hl
    obtain ⟨o, ho, rfl⟩ := List.mem_map.1 hl
    exact h o ho)) (fun c => ?_)
  rw [h2, merged_filter h]
  simp
theorem insA_len (l : List Ht) : ∀ acc, (insA l acc).length = acc.length + l.length := by
  induction l with
  | nil => exact fun acc => rfl
  | cons x l ih =>
    intro acc
    have e : insA (x :: l) acc = insA l (insK Ht.id acc x) := rfl
    rw [e, ih, insK_len, List.length_cons]
    omega
theorem rest_someB {w : World} {base g vc P c : Nat} {L : List Ht} {A : Addr} (h : w.ownsRow base 73 3 (.slice (some ⟨g, 0, none⟩) L.length vc) L.length (hcells L)) (hP : P ≤ L.length) (hL : L.length ≤ 100) (hA : P < L.length → A = ⟨g, P * 3, none⟩) :
    ∃ v wx, (Builtin.append_ #[66, 66] 66 #[.slice (some ⟨w.heap.size, 0, none⟩) 0 0, .slice (some A) (L.length - P) c]).run Try.prog (w.alloc (.cells #[] 73)) = .ok v wx ∧ RestP w L P v wx := by
  obtain ⟨i3, j1, j2, j3, j4⟩ := info_parts info73
  have h0 := World.ownsRow_lit (base := w.heap.size) (e := 73) (size := 3) w #[] 0 (Nat.le_refl _) (by decide) rfl
  have T1 : Turn (fun _ => False) w (w.alloc (.cells #[] 73)) := (Turn.refl _ w).alloc _
  have hl : (hcells (L.drop P)).length = (L.length - P) * 3 := by rw [hcells_len, List.length_drop]
  obtain ⟨v', w', hr, ho, hg, hi⟩ := run_append_own (w.alloc (.cells #[] 73)) w.heap.size 66 66 73 i3 _ 3 56 Try.underlying66 j1 j2 j3 j4 rfl (by decide) _ 0 [] h0 A (L.length - P) c (hcells (L.drop P)) hl (fun j u hu => by
    have hj : j < (L.length - P) * 3 := by rw [← hl]; exact (List.getElem?_eq_some_iff.1 hu).1
    rw [hA (by omega), Go.WideShapes.add_plain]
    refine T1.cell id ((h.cellAt _ (by omega)).trans ?_)
    rw [← hcells_drop _ _ hP, List.getElem?_drop] at hu
    exact hu) (hcells_one _) (by unfold maxLen; omega) (by omega) (by simp)
  rw [Nat.zero_add, List.nil_append] at ho
  have T2 := turn_fresh T1 h0 ((Turn.refl _ _).grown hg (fun k hk => .inl hk))
  have hne : v' ≠ .slice none 0 0 := fun e => by have := (hi.1 e).1; simp at this
  rcases ho.2 with ⟨e, _⟩ | ⟨rg, rc, cu, rfl, _⟩
  · exact absurd e hne
  · exact ⟨_, _, hr, rg, rc, rfl, ho, T2⟩
theorem ins_runsB {V : World} {b0 base2 rg rc P : Nat} {L : List Ht} {x : Ht} {s : Value} (hs : (s = .slice none 0 0 ∧ P = 0) ∨ ∃ g base vc, s = .slice (some ⟨g, 0, none⟩) P P ∧ V.ownsRow base 73 3 (.slice (some ⟨g, 0, none⟩) L.length vc) L.length (hcells L)) (hP : P ≤ L.length) (n6 : L.length ≤ 100)
    (hr : V.ownsRow base2 73 3 (.slice (some ⟨rg, 0, none⟩) (L.length - P) rc) (L.length - P) (hcells (L.drop P))) (hb0 : b0 ≤ V.heap.size) :
    ∃ c1 cap1 V2, (Builtin.append_ #[66, 66] 66 #[s, .slice (some ⟨V.heap.size, 0, none⟩) 1 1]).run Try.prog (V.alloc (.cells #[.int .i64 x.id, .slice x.sa x.sn x.sc, .slice x.ra x.rn x.rc] 73)) = .ok (.slice (some ⟨c1, 0, none⟩) (P + 1) cap1) V2 ∧ Turn (fun _ => False) V V2 ∧
      ∃ ga gc V3, (Builtin.append_ #[66, 66] 66 #[.slice (some ⟨c1, 0, none⟩) (P + 1) cap1, .slice (some ⟨rg, 0, none⟩) (L.length - P) rc]).run Try.prog V2 = .ok (.slice ga (L.length + 1) gc) V3 ∧ V3.ownsRow b0 73 3 (.slice ga (L.length + 1) gc) (L.length + 1) (hcells (L.take P ++ x :: L.drop P)) ∧ Turn (fun _ => False) V V3 := by
  obtain ⟨i3, j1, j2, j3, j4⟩ := info_parts info73
  obtain ⟨V1, h1⟩ : ∃ V1, V1 = V.alloc (.cells #[.int .i64 x.id, .slice x.sa x.sn x.sc, .slice x.ra x.rn x.rc] 73) := ⟨_, rfl⟩
  rw [← h1]
  have T1 : Turn (fun _ => False) V V1 := by rw [h1]; exact (Turn.refl _ V).alloc _
  have R1 : V1.rangeAt V.heap.size 0 x.cells := by rw [h1]; exact range_new V x.cells 73
  have hlt : (hcells (L.take P)).length = P * 3 := by rw [hcells_len, List.length_take, Nat.min_eq_left hP]
  obtain ⟨cap1, V2, RUN1, own1, T2⟩ := app_full (W := V1) 66 73 Try.underlying66 j1 j2 j3 j4 rfl (s := s) (n := P) (m := 1) (c := 1) (a := ⟨V.heap.size, 0, none⟩) (olds := hcells (L.take P)) (news := x.cells) (by
    rcases hs with ⟨e, e0⟩ | ⟨g, base, vc, e, ho⟩
    · exact .inl ⟨e, e0, by rw [e0]; rfl⟩
    · refine .inr ⟨_, e, fun j u hu => ?_⟩
      have hj : j < P * 3 := by rw [← hlt]; exact (List.getElem?_eq_some_iff.1 hu).1
      rw [Go.WideShapes.add_plain, Nat.zero_add]
      refine T1.cell id ((ho.cellAt j (by omega)).trans ?_)
      rw [← hcells_take _ _ hP, List.getElem?_take, if_pos hj] at hu
      exact hu) hlt rfl (fun j u hu => by
    rw [Go.WideShapes.add_plain]
    exact R1 j u hu) (by omega) (by omega) (by omega)
  have T12 := T1.trans T2
  have hl : (hcells (L.drop P)).length = (L.length - P) * 3 := by rw [hcells_len, List.length_drop]
  obtain ⟨v', V3, hr3, ho, hg, hi⟩ := run_append_own V2 V1.heap.size 66 66 73 i3 _ 3 56 Try.underlying66 j1 j2 j3 j4 rfl (by decide) _ (P + 1) _ own1 ⟨rg, 0, none⟩ (L.length - P) rc (hcells (L.drop P)) hl (fun j u hu => by
    have hj : j < (L.length - P) * 3 := by rw [← hl]; exact (List.getElem?_eq_some_iff.1 hu).1
    rw [Go.WideShapes.add_plain, Nat.zero_add]
    exact T12.cell id ((hr.cellAt j hj).trans hu)) (hcells_one _) (by unfold maxLen; omega) (by omega) T2.size
  have T3 := turn_fresh T2 own1 ((Turn.refl _ _).grown hg (fun k hk => .inl hk))
  obtain ⟨ga, gc, rfl, _⟩ := own_slice ho
  have e1 : P + 1 + (L.length - P) = L.length + 1 := by omega
  rw [e1] at hr3 ho
  refine ⟨V1.heap.size, cap1, V2, RUN1, T12, ga, gc, V3, hr3, ?_, T1.trans T3⟩
  have e2 : hcells (L.take P) ++ x.cells ++ hcells (L.drop P) = hcells (L.take P ++ x :: L.drop P) := by
    rw [hcells_app, List.append_assoc]
    rfl
  rw [e2] at ho
  exact own_base ho (Nat.le_trans hb0 T1.size)
end Go.Proofs.Ytepmealhnnoahaa
namespace Go.Proofs.Ytepmealhnnoahaa
set_option linter.unusedSimpArgs false
open Go.ChangeShapes Go.WideShapes Go.ChangeAt Go.RowKit
set_option linter.unusedVariables false
def MOk (B : Nat) (L : List Ht) (v : Value) (w0 wr : World) : Prop := wr.ownsRow B 73 3 v L.length (hcells L) ∧ Turn (fun _ => False) w0 wr
def MOut (B : Nat) (Os : List OutV) (w0 : World) (gh : Nat) (v3 v4 : Value) (wr : World) : Prop :=
  ∃ k : Nat, v4 = .int .i64 (k : Int) ∧ k ≤ Os.length ∧ gh = Os.length - k ∧ MOk B (insA (hitsL (Os.take k)).flatten []) v3 w0 wr
def MHit (B : Nat) (L0 H : List Ht) (w0 : World) (gh : Nat) (v3 v5 : Value) (wr : World) : Prop :=
  ∃ j : Nat, v5 = .int .i64 (j : Int) ∧ j ≤ H.length ∧ gh = H.length - j ∧ MOk B (insA (H.take j) L0) v3 w0 wr
theorem flat_step {Os : List OutV} {k : Nat} {o : OutV} (h : Os[k]? = some o) : (hitsL (Os.take (k + 1))).flatten = (hitsL (Os.take k)).flatten ++ o.hits := by
  rw [List.take_add_one, h]
  unfold hitsL
  rw [List.map_append, List.flatten_append]
  simp
theorem insA_app (l m acc : List Ht) : insA (l ++ m) acc = insA m (insA l acc) := by unfold insA; rw [List.foldl_append]
theorem hits_le {Os : List OutV} (h : ∀ o ∈ Os, o.hits.length ≤ 6) : (hitsL Os).flatten.length ≤ Os.length * 6 := by
  induction Os with
  | nil => simp [hitsL]
  | cons o Os ih =>
    have h1 := h o (by simp)
    have h2 := ih (fun q hq => h q (by simp [hq]))
    have e : (hitsL (o :: Os)).flatten = o.hits ++ (hitsL Os).flatten := rfl
    rw [e, List.length_append, List.length_cons, Nat.succ_mul]
    omega
theorem acc_len {Os : List OutV} (hl : Os.length ≤ 3) (hh : ∀ o ∈ Os, o.hits.length ≤ 6) (k : Nat) : (insA (hitsL (Os.take k)).flatten []).length ≤ 18 := by
  have e1 := hits_le (Os := Os.take k) (fun o ho => hh o (List.mem_of_mem_take ho))
  rw [List.length_take] at e1
  rw [insA_len, List.length_nil]
  omega
theorem acc_len2 {L0 l : List Ht} (h0 : L0.length ≤ 18) (h : l.length ≤ 6) (j : Nat) : (insA (l.take j) L0).length ≤ 100 := by
  rw [insA_len, List.length_take]
  omega
theorem wrapD2 {k n : Nat} (h : k < n) (hn : n ≤ 1000) : wrap64 ((k : Int) + 1) = (k : Int) + 1 := wrapD h hn
theorem wrapM {k j : Nat} (h : k = j + 1) : wrap64 ((k : Int) - 1) = (j : Int) ∨ 1000000 < k := by unfold wrap64; omega
set_option maxRecDepth 100000 in
set_option maxHeartbeats 8000000 in
theorem merged_is {w : World} {N : Nat → Prop} {v : Value} {Os : List OutV} (h : OutsAt w N v Os) (hl : Os.length ≤ 3) (hh : ∀ o ∈ Os, o.hits.length ≤ 6) :
    Calls Try.prog 42 #[v] w fun e w' => ∃ v', e = .returned v' ∧ w'.ownsRow w.heap.size 73 3 v' (insA (hitsL Os).flatten []).length (hcells (insA (hitsL Os).flatten [])) ∧ Turn (fun _ => False) w w' := by
  obtain ⟨va, b, off, vc, rfl, h1, h2⟩ := h
  have HX := Lib.hid (And.intro h2 (And.intro hl hh))
  have R0 : MOut w.heap.size Os w Os.length (.slice none 0 0) (.int .i64 0) w := ⟨0, rfl, Nat.zero_le _, rfl, ⟨rfl, .inl ⟨rfl, rfl⟩⟩, Turn.refl _ _⟩
  clear h2 hl hh
  generalize hB : w.heap.size = B at *
  have HB := Lib.hid hB
  clear hB
  go_enter Try.func42, Try.ntmps42
  go_wp2_with fail
  go_loopg [3, 4] Os.length (fun gh v3 v4 wr => MOut B Os w gh v3 v4 wr)
  case atStart => exact R0
  case round =>
    clear R0
    obtain ⟨k, rfl, hk, hgk, own3, T3⟩ := hrel
    obtain ⟨oa, oc, rfl, -⟩ := own_slice own3
    obtain ⟨L0, hL0⟩ : ∃ L, insA (hitsL (Os.take k)).flatten [] = L := ⟨_, rfl⟩
    rw [hL0] at own3 ⊢
    by_cases hkl : k < Os.length
    · obtain ⟨o, hok⟩ : ∃ o, Os[k]? = some o := ⟨_, List.getElem?_eq_getElem hkl⟩
      obtain ⟨h2, hl, hh⟩ := HX.out
      obtain ⟨rfl, -⟩ := h1.resolve_left (fun e => by rw [e] at hkl; exact absurd hkl (Nat.not_lt_zero k))
      obtain ⟨vh, vl, ua, un, uc, da, dn, dc, hr, hh2, hlo⟩ := h2 k o hok
      obtain ⟨h4, hb, ho1, hc1, rfl, hcap, hrow, hx⟩ := hh2
      have no6 := hh o (List.mem_of_getElem? hok)
      have v1 : decide ((k : Int) < (Os.length : Int)) = true := decide_eq_true (Int.ofNat_lt.2 hkl)
      have v2 : decide (k < Os.length) = true := decide_eq_true hkl
      have v3 : (0 : Int) ≤ (k : Int) := Int.natCast_nonneg k
      have v4 : (k : Int) < (Os.length : Int) := Int.ofNat_lt.2 hkl
      have ek := wrapD2 hkl (Nat.le_trans hl (by decide))
      have lL0 : L0.length ≤ 18 := hL0 ▸ acc_len hl hh k
      have R3 : MHit B L0 o.hits w o.hits.length (.slice oa L0.length oc) (.int .i64 0) wr := ⟨0, rfl, Nat.zero_le _, rfl, own3, T3⟩
      have G3 := Lib.hid (And.intro hgk (And.intro hkl (And.intro hok (And.intro hL0 (And.intro hr (And.intro hrow (And.intro hx (And.intro no6 lL0))))))))
      clear hgk hok hL0 hr hrow hx no6 lL0 own3 T3 hk h2 hl hh hlo hcap
      go_wp2_with fail
      go_loopg [3, 5] o.hits.length (fun gh v3 v5 wv => MHit B L0 o.hits w gh v3 v5 wv)
      case atStart => exact R3
      case round =>
        clear R3
        obtain ⟨j, rfl, hj, hgj, own5, T5⟩ := hrel
        rename World => wj
        obtain ⟨oa, oc, rfl, hvg⟩ := own_slice own5
        obtain ⟨hgk, hkl, hok, hL0, hr, hrow, hx, no6, lL0⟩ := G3.out
        obtain ⟨L, hL⟩ : ∃ L, insA (o.hits.take j) L0 = L := ⟨_, rfl⟩
        rw [hL] at own5 hvg ⊢
        have x0 : wj.cell? ⟨b, off + k * 4, none⟩ = some (.slice h4 o.hits.length hc1) := T5.cell id (hr 0 _ rfl)
        by_cases hjl : j < o.hits.length
        · obtain ⟨x, hxq⟩ : ∃ x, o.hits[j]? = some x := ⟨_, List.getElem?_eq_getElem hjl⟩
          obtain ⟨rfl, bh⟩ := hrow.resolve_left (fun e => by rw [e] at hjl; exact absurd hjl (Nat.not_lt_zero j))
          have xr := hx j x hxq
          have y0 : wj.cell? ⟨hb, ho1 + j * 3, none⟩ = some (.int .i64 x.id) := T5.cell id (xr 0 _ rfl)
          have y1 : wj.cell? ⟨hb, ho1 + j * 3 + 1, none⟩ = some (.slice x.sa x.sn x.sc) := T5.cell id (xr 1 _ rfl)
          have y2 : wj.cell? ⟨hb, ho1 + j * 3 + 2, none⟩ = some (.slice x.ra x.rn x.rc) := T5.cell id (xr 2 _ rfl)
          have t1 : decide ((j : Int) < (o.hits.length : Int)) = true := decide_eq_true (Int.ofNat_lt.2 hjl)
          have t2 : decide (j < o.hits.length) = true := decide_eq_true hjl
          have t3 : (0 : Int) ≤ (j : Int) := Int.natCast_nonneg j
          have t4 : (j : Int) < (o.hits.length : Int) := Int.ofNat_lt.2 hjl
          have ej := wrapD2 hjl (Nat.le_trans no6 (by decide))
          have n100 : L.length ≤ 100 := hL ▸ acc_len2 lL0 no6 j
          have hstep : insA (o.hits.take (j + 1)) L0 = insK Ht.id L x := by rw [List.take_add_one, hxq]; exact (insA_snoc _ x L0).trans (by rw [hL])
          obtain ⟨wb, hwb⟩ : ∃ W, W = wj.alloc (.cells #[.int .i64 x.id, .slice x.sa x.sn x.sc, .slice x.ra x.rn x.rc] 73) := ⟨_, rfl⟩
          have TA : Turn (fun _ => False) wj wb := by rw [hwb]; exact (Turn.refl _ wj).alloc _
          have hxr : wb.rangeAt wj.heap.size 0 [.int .i64 x.id, .slice x.sa x.sn x.sc, .slice x.ra x.rn x.rc] := by rw [hwb]; exact range_new wj [.int .i64 x.id, .slice x.sa x.sn x.sc, .slice x.ra x.rn x.rc] 73
          have hWB := Lib.hid hwb
          clear hwb
          have hr2 := own_turn own5 TA (fun _ _ f => f)
          obtain ⟨P, hP⟩ : ∃ P, posK Ht.id L x.id L.length = P := ⟨_, rfl⟩
          have hPle : P ≤ L.length := by rw [← hP]; exact posK_le _ _ _ _
          have Tw := T5.trans TA
          have G4 := Lib.hid (And.intro hgj hjl)
          have HJ := Lib.hid (show j + 1 ≤ o.hits.length from hjl)
          have G5 := Lib.hid (And.intro hxr (And.intro hr2 (And.intro hP (And.intro hstep (And.intro n100 Tw)))))
          clear hgk hkl hok hL0 hr hrow hx no6 lL0 own5 T5 hj hgj hjl hxq xr bh TA hxr hr2 hP hstep n100 Tw hL
          go_upto_region 9 with fail
          rw [← hWB.out]
          clear hWB y0 y1 y2 x0
          generalize wj.heap.size = xb at *
          generalize hnh : o.hits.length = nh at *
          have hnh := Lib.hid hnh
          go_upto_block 4 with fail
          go_cut [7] (fun v7 wx => v7 = .int .i64 (P : Int) ∧ Turn (fun _ => False) wb wx)
          case first =>
            have R1 : ScanR L x.id wb L.length (.int .i64 (L.length : Int)) wb := ⟨L.length, rfl, Nat.le_refl _, rfl, rfl, Turn.refl _ _⟩
            go_wp2_with fail
            go_loopg [7] L.length (fun gh v wr => ScanR L x.id wb gh v wr)
            case atStart => exact R1
            case round =>
              clear R1
              obtain ⟨q, rfl, hq, hgq, hpk, hT⟩ := hrel
              rename World => ws
              obtain ⟨hxr, hr2, hP0, _, n100, _⟩ := G5.out
              have z2 : ws.cell? ⟨xb, 0, none⟩ = some (.int .i64 x.id) := hT.cell id (hxr 0 _ rfl)
              by_cases h0 : q = 0
              · have hkP : q = P := by rw [← hP0, hpk, h0]; rfl
                subst h0
                have HkP := Lib.hid hkP
                have HT := Lib.hid hT
                clear hq hgq hpk hT hkP hxr hr2 hP0 n100
                go_wp2_with fail
                go_big_quiet (fail)
                go_wp2_with fail
                go_meet
                case rel => exact ⟨by rw [← HkP.out], HT.out.drewN _⟩
              · obtain ⟨p, hp⟩ : ∃ p, q = p + 1 := ⟨q - 1, by omega⟩
                obtain ⟨g, hg⟩ := hvg (by omega)
                subst hg
                obtain ⟨y, hy⟩ : ∃ y, L[p]? = some y := ⟨_, List.getElem?_eq_getElem (by omega)⟩
                have z3 : ws.cell? ⟨g, p * 3, none⟩ = some (.int .i64 y.id) := hT.cell id ((hr2.cellAt (p * 3) (by omega)).trans (by have := hcells_at L p y hy 0 _ rfl; simpa using this))
                have e1 : wrap64 ((q : Int) - 1) = (p : Int) := (wrapM hp).resolve_right (by omega)
                have e2 : decide ((0 : Int) < (q : Int)) = true := decide_eq_true (by omega)
                have e3 : decide (0 < q) = true := decide_eq_true (by omega)
                have p0 : (0 : Int) ≤ (p : Int) := by omega
                have p1 : (p : Int) < (L.length : Int) := by omega
                have S1 := Lib.hid (And.intro hq (And.intro hgq (And.intro hpk (And.intro hT (And.intro hp hy)))))
                clear hq hgq hpk hT hp hy hxr hr2 hP0 n100
                go_wp2_with fail
                go_big_quiet (fail)
                go_wp2_with fail
                · rename_i hq
                  go_roundg p
                  case measure => have := S1.out.2.1; have := S1.out.2.2.2.2.1; omega
                  case rel =>
                    obtain ⟨hq, hgq, hpk, hT, hp, hy⟩ := S1.out
                    refine ⟨p, congrArg (Value.int .i64) e1, by omega, rfl, ?_, hT.drewN _⟩
                    rw [hpk, hp, posK, hy]
                    show (if x.id < y.id then _ else _) = _
                    rw [if_pos (by omega)]
                · rename_i hq
                  go_meet
                  case rel =>
                    obtain ⟨hq, hgq, hpk, hT, hp, hy⟩ := S1.out
                    have hP0 := G5.out.2.2.1
                    refine ⟨?_, hT.drewN _⟩
                    rw [hp, posK, hy] at hpk
                    have e5 : (if x.id < y.id then posK Ht.id L x.id p else p + 1) = p + 1 := if_neg (by omega)
                    have e6 : P = q := by
                      rw [← hP0, hp]
                      exact hpk.trans e5
                    rw [e6]
          case rest =>
          obtain ⟨rfl, hT2⟩ := hcut
          generalize wc = wl at *
          have ho2 := own_turn G5.out.2.1 hT2 (fun _ _ f => f)
          have n100 := G5.out.2.2.2.2.1
          have hcap : L.length ≤ oc ∧ oc ≤ maxLen := by
            rcases ho2.2 with ⟨e, e0⟩ | ⟨g', cap', cu, e, hb, hg, hnc, hcm, hcs, ht⟩
            · simp at e
              omega
            · simp at e
              obtain ⟨_, rfl⟩ := e
              exact ⟨hnc, hcm⟩
          have hcap1 := hcap.1
          have hcap2 := hcap.2
          unfold maxLen at hcap2
          clear hcap
          have G6 := Lib.hid (And.intro hT2 ho2)
          go_upto_region 12 with fail
          go_cut [8] (fun v8 wx => RestP wl L P v8 wx)
          case first =>
            rcases Nat.eq_zero_or_pos L.length with hz | hpos
            · obtain rfl := List.eq_nil_of_length_eq_zero hz
              obtain rfl : P = 0 := by simpa using hPle
              rcases ho2.2 with ⟨e, e0⟩ | ⟨g, cap', cu, e, hb, hg, hnc, hcm, hcs, ht⟩
              · simp at e
                obtain ⟨rfl, rfl⟩ := e
                obtain ⟨RUN, FIN⟩ := rest_nil wl
                have RUN := Lib.hid RUN
                have FIN := Lib.hid FIN
                clear ho2 hT2 hvg n100
                go_wp2_with (refine rl_append_run (by rfl) _ _ _ (by rfl) (by rfl) (by rfl) RUN.out ?_)
                go_meet
                case rel => exact FIN.out
              · simp at e
                obtain ⟨rfl, rfl⟩ := e
                obtain ⟨v, wx, RUN, FIN⟩ := rest_someB (c := oc) (A := ⟨g, 0, none⟩) ho2 (Nat.le_refl _) (by simp) (fun h => by simp at h)
                have RUN := Lib.hid RUN
                have FIN := Lib.hid FIN
                clear ho2 hT2 hvg hg n100
                go_wp2_with (refine rl_append_run (by rfl) _ _ _ (by rfl) (by rfl) (by rfl) RUN.out ?_)
                go_meet
                case rel => exact FIN.out
            · obtain ⟨g, rfl⟩ := hvg hpos
              obtain ⟨A, hA, hA2⟩ : ∃ A : Addr, (if oc = P then some (⟨g, 0, none⟩ : Addr) else some ⟨g, P * 3, none⟩) = some A ∧ (P < L.length → A = ⟨g, P * 3, none⟩) := by
                by_cases e : oc = P
                · exact ⟨⟨g, 0, none⟩, by simp [e], fun q => by omega⟩
                · exact ⟨⟨g, P * 3, none⟩, by simp [e], fun _ => rfl⟩
              obtain ⟨v, wx, RUN, FIN⟩ := rest_someB (c := oc - P) ho2 hPle n100 hA2
              have RUN := Lib.hid RUN
              have FIN := Lib.hid FIN
              have hpi : (P : Int) ≤ (L.length : Int) := by omega
              clear ho2 hT2 hvg hA2 n100
              go_wp2_with (refine rl_append_run (by rfl) _ _ _ (by rfl) (by rfl) (by rfl) RUN.out ?_)
              all_goals (go_meet; (try (case rel => exact FIN.out)))
          case rest =>
          have HREST := Lib.hid hcut
          clear hcut
          obtain ⟨rg, rc, rfl, hor, hT3⟩ := HREST.out
          generalize wc = wd at *
          obtain ⟨hxr, hr2, hP, hstep, n100, Tw⟩ := G5.out
          obtain ⟨V, hV⟩ : ∃ V, V = wd.drew := ⟨_, rfl⟩
          have TV : Turn (fun _ => False) wd V := by rw [hV]; exact (Turn.refl _ wd).drewN 1
          have TbV := (hT2.trans hT3).trans TV
          have xV := range_turn hxr TbV id
          have oV := own_turn ho2 (hT3.trans TV) (fun _ _ f => f)
          have hs : (Value.slice oa P P = .slice none 0 0 ∧ P = 0) ∨ ∃ g base vc, Value.slice oa P P = .slice (some ⟨g, 0, none⟩) P P ∧ V.ownsRow base 73 3 (.slice (some ⟨g, 0, none⟩) L.length vc) L.length (hcells L) := by
            rcases oV.2 with ⟨e, e0⟩ | ⟨g, cap', cu, e, hb, hg, hnc, hcm, hcs, ht⟩
            · simp at e
              have : P = 0 := by omega
              exact .inl ⟨by rw [e.1, this], this⟩
            · simp at e
              exact .inr ⟨g, _, oc, by rw [e.1], by rw [← e.1]; exact oV⟩
          obtain ⟨c1, cap1, V2, RUN1, TV2, ga, gc, V3, RUN2, own3, TV3⟩ := ins_runsB (b0 := B) (x := x) hs hPle n100 (own_turn hor TV (fun _ _ f => f)) (by rw [← HB.out]; exact (Tw.trans TbV).size)
          have xV3 := range_turn xV TV3 id
          have xV2 := range_turn xV TV2 id
          have zV : V.cell? ⟨xb, 0, none⟩ = some (.int .i64 x.id) ∧ V.cell? ⟨xb, 1, none⟩ = some (.slice x.sa x.sn x.sc) ∧ V.cell? ⟨xb, 2, none⟩ = some (.slice x.ra x.rn x.rc) := ⟨xV 0 _ rfl, xV 1 _ rfl, xV 2 _ rfl⟩
          have zD : wd.drew.cell? ⟨xb, 0, none⟩ = some (.int .i64 x.id) ∧ wd.drew.cell? ⟨xb, 1, none⟩ = some (.slice x.sa x.sn x.sc) ∧ wd.drew.cell? ⟨xb, 2, none⟩ = some (.slice x.ra x.rn x.rc) := by rw [← hV]; exact zV
          have zV1 : (V.alloc (.cells #[.int .i64 x.id, .slice x.sa x.sn x.sc, .slice x.ra x.rn x.rc] 73)).cell? ⟨xb, 0, none⟩ = some (.int .i64 x.id) ∧ (V.alloc (.cells #[.int .i64 x.id, .slice x.sa x.sn x.sc, .slice x.ra x.rn x.rc] 73)).cell? ⟨xb, 1, none⟩ = some (.slice x.sa x.sn x.sc) ∧ (V.alloc (.cells #[.int .i64 x.id, .slice x.sa x.sn x.sc, .slice x.ra x.rn x.rc] 73)).cell? ⟨xb, 2, none⟩ = some (.slice x.ra x.rn x.rc) := ⟨past zV.1, past zV.2.1, past zV.2.2⟩
          have zV2 : V2.cell? ⟨xb, 0, none⟩ = some (.int .i64 x.id) ∧ V2.cell? ⟨xb, 1, none⟩ = some (.slice x.sa x.sn x.sc) ∧ V2.cell? ⟨xb, 2, none⟩ = some (.slice x.ra x.rn x.rc) := ⟨xV2 0 _ rfl, xV2 1 _ rfl, xV2 2 _ rfl⟩
          have zV3 : V3.cell? ⟨xb, 0, none⟩ = some (.int .i64 x.id) ∧ V3.cell? ⟨xb, 1, none⟩ = some (.slice x.sa x.sn x.sc) ∧ V3.cell? ⟨xb, 2, none⟩ = some (.slice x.ra x.rn x.rc) := ⟨xV3 0 _ rfl, xV3 1 _ rfl, xV3 2 _ rfl⟩
          have ein : insK Ht.id L x = L.take P ++ x :: L.drop P := by unfold insK; rw [hP]
          have hlen : (insK Ht.id L x).length = L.length + 1 := insK_len _ _ _
          have FIN := Lib.hid (show MHit B L0 o.hits w (o.hits.length - (j + 1)) (.slice ga (L.length + 1) gc) (.int .i64 ((j : Int) + 1)) V3 from ⟨j + 1, congrArg (Value.int .i64) (Int.natCast_succ j).symm, (by rw [hnh.out]; exact HJ.out), rfl, by rw [hstep, hlen, ein]; exact own3, (Tw.trans TbV).trans TV3⟩)
          have hpi : (P : Int) ≤ (L.length : Int) := by omega
          have hpv : P ≤ oc := by omega
          have RUN1 := Lib.hid RUN1
          have RUN2 := Lib.hid RUN2
          rw [hnh.out] at FIN
          clear hxr hr2 hP hstep n100 Tw hT2 ho2 hor hT3 TV TbV xV oV hs TV2 own3 TV3 xV3 xV2 ein hlen hvg HREST G5 G6
          go_upto_region 13 with fail
          refine wp_region_held_drew (S := (fun w' => w'.cell? ⟨xb, 0, none⟩ = some (.int .i64 x.id) ∧ w'.cell? ⟨xb, 1, none⟩ = some (.slice x.sa x.sn x.sc) ∧ w'.cell? ⟨xb, 2, none⟩ = some (.slice x.ra x.rn x.rc))) (by kernel_rfl) ?hs0 (fun hS0 => ?_)
          case hs0 => ((try dsimp only); first | with_reducible exact zD | with_reducible exact zV | with_reducible exact zV1 | with_reducible exact zV2 | with_reducible exact zV3)
          rw [← hV] at hS0 ⊢
          clear hV
          refine wpAnyH_take (i := 0) (oi := { dst := some 55, op := Op.move (Operand.tmp 3), type := 66, pos := "ref.go:49", after := #[], guard := none }) (v := ?_) rfl (by kernel_rfl) (by kernel_rfl) (by kernel_rfl) (fun _ _ _ h => h) (Or.inl ⟨by rfl, ?hy1⟩) hS0 ?_
          case hy1 => (intro w hSw; (try dsimp only at hSw); go_simp; try with_reducible rfl)
          try simp only [Act.put, List.setIfInBounds_toArray, List.set_cons_zero, List.set_cons_succ]
          refine wpAnyH_take (i := 1) (oi := { dst := some 56, op := Op.move (Operand.tmp 7), type := 3, pos := "ref.go:49", after := #[], guard := none }) (v := ?_) rfl (by kernel_rfl) (by kernel_rfl) (by kernel_rfl) (fun _ _ _ h => h) (Or.inl ⟨by rfl, ?hy2⟩) hS0 ?_
          case hy2 => (intro w hSw; (try dsimp only at hSw); go_simp; try with_reducible rfl)
          try simp only [Act.put, List.setIfInBounds_toArray, List.set_cons_zero, List.set_cons_succ]
          refine wpAnyH_take (i := 2) (oi := { dst := some 57, op := Op.move (Operand.tmp 7), type := 3, pos := "ref.go:49", after := #[], guard := none }) (v := ?_) rfl (by kernel_rfl) (by kernel_rfl) (by kernel_rfl) (fun _ _ _ h => h) (Or.inl ⟨by rfl, ?hy3⟩) hS0 ?_
          case hy3 => (intro w hSw; (try dsimp only at hSw); go_simp; try with_reducible rfl)
          try simp only [Act.put, List.setIfInBounds_toArray, List.set_cons_zero, List.set_cons_succ]
          refine wpAnyH_take (i := 3) (oi := { dst := some 58, op := Op.slice 66 (Operand.tmp 55) none (some (Operand.tmp 56)) (some (Operand.tmp 57)), type := 66, pos := "ref.go:49", after := #[{ on := 0, ground := Ground.data }, { on := 1, ground := Ground.data }, { on := 2, ground := Ground.data }], guard := none }) (v := ?_) rfl (by kernel_rfl) (by kernel_rfl) (by kernel_rfl) (fun _ _ _ h => h) (Or.inl ⟨by rfl, ?hy4⟩) hS0 ?_
          case hy4 => (intro w hSw; (try dsimp only at hSw); go_simp; try with_reducible rfl)
          try simp only [Act.put, List.setIfInBounds_toArray, List.set_cons_zero, List.set_cons_succ]
          refine wpAnyH_take (i := 4) (oi := { dst := some 59, op := Op.load 73 (Operand.tmp 6), type := 73, pos := "ref.go:49", after := #[], guard := none }) (v := ?_) rfl (by kernel_rfl) (by kernel_rfl) (by kernel_rfl) (fun _ _ _ h => h) (Or.inl ⟨by rfl, ?hy5⟩) hS0 ?_
          case hy5 => (intro w hSw; (try dsimp only at hSw); go_simp; try with_reducible rfl)
          try simp only [Act.put, List.setIfInBounds_toArray, List.set_cons_zero, List.set_cons_succ]
          refine wpAnyH_take (i := 7) (oi := { dst := some 62, op := Op.move (Operand.tmp 8), type := 66, pos := "ref.go:49", after := #[], guard := none }) (v := ?_) rfl (by kernel_rfl) (by kernel_rfl) (by kernel_rfl) (fun _ _ _ h => h) (Or.inl ⟨by rfl, ?hy6⟩) hS0 ?_
          case hy6 => (intro w hSw; (try dsimp only at hSw); go_simp; try with_reducible rfl)
          try simp only [Act.put, List.setIfInBounds_toArray, List.set_cons_zero, List.set_cons_succ]
          refine wpAnyH_ready (rs := [5]) (by kernel_rfl) (by simp) ?_
          refine AllReadyH.cons (o := { dst := some 60, op := Op.buildSlice 66 1 #[(0, Operand.tmp 59)], type := 66, pos := "ref.go:49", after := #[{ on := 4, ground := Ground.data }], guard := none }) rfl (fun K hK => ?_) ?_
          · go_simp
            refine hK.out _ _ ?hs7 (fun hS7 => ?_)
            case hs7 => ((try dsimp only); first | with_reducible exact zD | with_reducible exact zV | with_reducible exact zV1 | with_reducible exact zV2 | with_reducible exact zV3)
            clear hK K hS0
            refine wpAnyH_ready (rs := [6]) (by kernel_rfl) (by simp) ?_
            refine AllReadyH.cons (o := { dst := some 61, op := Op.call { callee := Callee.builtin Builtin.append, args := #[Operand.tmp 58, Operand.tmp 60], argTypes := #[66, 66] }, type := 66, pos := "ref.go:49", after := #[{ on := 3, ground := Ground.data }, { on := 5, ground := Ground.data }], guard := none }) rfl (fun K hK => ?_) ?_
            · refine rs_append_run (by rfl) _ _ _ (by rfl) (by rfl) (by rfl) RUN1.out ?_
              refine hK.out _ _ ?hs8 (fun hS8 => ?_)
              case hs8 => ((try dsimp only); first | with_reducible exact zD | with_reducible exact zV | with_reducible exact zV1 | with_reducible exact zV2 | with_reducible exact zV3)
              clear hK K hS7
              refine wpAnyH_ready (rs := [8]) (by kernel_rfl) (by simp) ?_
              refine AllReadyH.cons (o := { dst := some 63, op := Op.call { callee := Callee.builtin Builtin.append, args := #[Operand.tmp 61, Operand.tmp 62], argTypes := #[66, 66] }, type := 66, pos := "ref.go:49", after := #[{ on := 6, ground := Ground.data }, { on := 7, ground := Ground.data }, { on := 6, ground := Ground.chain }], guard := none }) rfl (fun K hK => ?_) ?_
              · refine rs_append_run (by rfl) _ _ _ (by rfl) (by rfl) (by rfl) RUN2.out ?_
                refine hK.out _ _ ?hs9 (fun hS9 => ?_)
                case hs9 => ((try dsimp only); first | with_reducible exact zD | with_reducible exact zV | with_reducible exact zV1 | with_reducible exact zV2 | with_reducible exact zV3)
                clear hK K hS8
                refine wpAnyH_take (i := 9) (oi := { dst := some 3, op := Op.assign (Operand.tmp 63), type := 66, pos := "ref.go:49", after := #[{ on := 8, ground := Ground.data }, { on := 8, ground := Ground.chain }, { on := 0, ground := Ground.phase }, { on := 1, ground := Ground.phase }, { on := 2, ground := Ground.phase }, { on := 3, ground := Ground.phase }, { on := 4, ground := Ground.phase }, { on := 5, ground := Ground.phase }, { on := 6, ground := Ground.phase }, { on := 7, ground := Ground.phase }, { on := 8, ground := Ground.phase }], guard := none }) (v := ?_) rfl (by kernel_rfl) (by kernel_rfl) (by kernel_rfl) (fun _ _ _ h => h) (Or.inl ⟨by rfl, ?hy10⟩) hS9 ?_
                case hy10 => (intro w hSw; (try dsimp only at hSw); go_simp; try with_reducible rfl)
                try simp only [Act.put, List.setIfInBounds_toArray, List.set_cons_zero, List.set_cons_succ]
                refine wpAnyH_done (by kernel_rfl) ?_ _
                clear zD zV zV1 zV2 zV3
                go_wp2_with fail
                go_roundg (nh - (j + 1))
                case measure => have := G4.out.1; have := G4.out.2; omega
                case rel => first | exact FIN.out | (rw [ej]; exact FIN.out)
              exact AllReadyH.nil
            exact AllReadyH.nil
          exact AllReadyH.nil
        · obtain rfl : j = o.hits.length := Nat.le_antisymm hj (Nat.not_lt.1 hjl)
          have t1 : decide ((o.hits.length : Int) < (o.hits.length : Int)) = false := decide_eq_false (Int.lt_irrefl _)
          have t2 : decide (o.hits.length < o.hits.length) = false := decide_eq_false (Nat.lt_irrefl _)
          rw [List.take_length] at hL
          have eL : insA (hitsL (Os.take (k + 1))).flatten [] = L := by rw [flat_step hok, insA_app, hL0, hL]
          have STEP := Lib.hid (show MOut B Os w (Os.length - (k + 1)) (.slice oa L.length oc) (.int .i64 ((k : Int) + 1)) wj from ⟨k + 1, congrArg (Value.int .i64) (Int.natCast_succ k).symm, hkl, rfl, by rw [eL]; exact ⟨own5, T5⟩⟩)
          have G4 := Lib.hid (And.intro hgk hkl)
          clear hgk hkl hok hL0 hr hrow hx no6 lL0 own5 T5 hj hgj hjl hL eL hvg
          generalize o.hits.length = nh at *
          go_wp2_with fail
          go_roundg (Os.length - (k + 1))
          case measure => have := G4.out.1; have := G4.out.2; omega
          case rel => first | exact STEP.out | (rw [ek]; exact STEP.out)
    · obtain rfl : k = Os.length := Nat.le_antisymm hk (Nat.not_lt.1 hkl)
      have v1 : decide ((Os.length : Int) < (Os.length : Int)) = false := decide_eq_false (Int.lt_irrefl _)
      have v2 : decide (Os.length < Os.length) = false := decide_eq_false (Nat.lt_irrefl _)
      rw [List.take_length] at hL0
      have FIN := Lib.hid (show wr.ownsRow B 73 3 (.slice oa L0.length oc) (insA (hitsL Os).flatten []).length (hcells (insA (hitsL Os).flatten [])) ∧ Turn (fun _ => False) w wr from ⟨by rw [hL0]; exact own3, T3⟩)
      clear hk hgk hkl HX hL0 own3 T3
      go_wp2
      go_ret
      exact ⟨_, rfl, FIN.out⟩
end Go.Proofs.Ytepmealhnnoahaa
namespace Go.Proofs.Ytepmealhnnoahaa
set_option linter.unusedSimpArgs false
open Go.ChangeShapes Go.WideShapes Go.ChangeAt Go.RowKit
set_option linter.unusedVariables false
/-- The document's desk, its row of queries and their rows named. -/
structure DocX (w : World) (r base : Nat) (qu ou : Int) (N E : Nat → Prop) (ids : List Int) (S : DS) (v : Value) (U : Nat → Value) : Prop where
  bl : Blk w r 33
  c3 : w.cell? ⟨r, 3, none⟩ = some (.int .i64 qu)
  c5 : w.cell? ⟨r, 5, none⟩ = some (.int .i64 ou)
  c7 : w.cell? ⟨r, 7, none⟩ = some v
  own : QRow w base v ids.length (flatN (qrow ids U S) ids.length)
  rows : ∀ j, j < ids.length → FRow w base (fun k => ¬ E k) (U j) (rowS S (ids.getD j 0)) ∧ ∀ k, (U j).ownBlock = some k → ¬ N k
  apart : ∀ i j k, i < ids.length → j < ids.length → i ≠ j → (U i).ownBlock = some k → (U j).ownBlock ≠ some k
  nd : ids.Nodup
  dom : ∀ i, i ∈ ids ↔ (S i).isSome = true
  bs : base ≤ w.heap.size
/-- What the document's desk turns. -/
def ZD (r base : Nat) (N : Nat → Prop) (w : World) (k : Nat) : Prop := k = r ∨ (Blk w k 91 ∧ base ≤ k) ∨ (Blk w k 71 ∧ base ≤ k ∧ ¬ N k)
section
variable {w w' W : World} {r base g cap : Nat} {qu ou : Int} {N N' E E' : Nat → Prop} {ids : List Int} {S : DS} {v : Value} {U : Nat → Value}
theorem DocAt.x (h : DocAt w r base qu ou N E ids S) : ∃ v U, DocX w r base qu ou N E ids S v U := by
  obtain ⟨v, U, h1, h2, h3, h4⟩ := h.ex
  exact ⟨v, U, h.bl, h.c3, h.c5, h1, h2, h3, h4, h.nd, h.dom, h.bs⟩
theorem DocX.doc (h : DocX w r base qu ou N E ids S v U) : DocAt w r base qu ou N E ids S :=
  ⟨h.bl, h.c3, h.c5, ⟨v, U, h.c7, h.own, h.rows, h.apart⟩, h.nd, h.dom, h.bs⟩
theorem DocX.b91 (h : DocX w r base qu ou N E ids S (.slice (some ⟨g, 0, none⟩) ids.length cap) U) : Blk w g 91 := (h.own.blk rfl).1
theorem DocX.b71 (h : DocX w r base qu ou N E ids S v U) {k : Nat} (hk : k < ids.length) {q : Nat} (hq : (U k).ownBlock = some q) : Blk w q 71 := by
  obtain ⟨ps, _, ho, _⟩ := (h.rows k hk).1.ex
  rcases ho.2 with ⟨e, _⟩ | ⟨g', cap', cur, e, _, hgg, _⟩
  · rw [e] at hq; simp [Value.ownBlock] at hq
  · rw [e] at hq
    have : g' = q := by simpa [Value.ownBlock] using hq
    subst this
    exact ⟨_, hgg⟩
theorem DocX.b71b (h : DocX w r base qu ou N E ids S v U) {k : Nat} (hk : k < ids.length) {q : Nat} (hq : (U k).ownBlock = some q) : base ≤ q := by
  obtain ⟨ps, _, ho, _⟩ := (h.rows k hk).1.ex
  rcases ho.2 with ⟨e, _⟩ | ⟨g', cap', cur, e, hb, hgg, _⟩
  · rw [e] at hq; simp [Value.ownBlock] at hq
  · rw [e] at hq
    have : g' = q := by simpa [Value.ownBlock] using hq
    subst this
    exact hb
theorem nd_ne {ids : List Int} (nd : ids.Nodup) {j k : Nat} (hj : j < ids.length) (hk : k < ids.length) (hne : j ≠ k) : ids.getD j 0 ≠ ids.getD k 0 := fun e => by
  rw [List.getD_eq_getElem?_getD, List.getD_eq_getElem?_getD, List.getElem?_eq_getElem hj, List.getElem?_eq_getElem hk] at e
  have e : ids[j] = ids[k] := e
  exact hne ((List.getElem_inj nd).1 e)
theorem rowS_upd (S : DS) (i : Int) (l : List Fnd) (lo : Bool) : rowS (updI S i (some (l, lo))) i = l ∧ lostS (updI S i (some (l, lo))) i = lo := by
  unfold rowS lostS
  rw [updI_at]
  exact ⟨rfl, rfl⟩
theorem rowS_off (S : DS) {i j : Int} (p : Option (List Fnd × Bool)) (h : j ≠ i) : rowS (updI S i p) j = rowS S j ∧ lostS (updI S i p) j = lostS S j := by
  unfold rowS lostS
  rw [updI_off _ _ h]
  exact ⟨rfl, rfl⟩
theorem dom_upd (dom : ∀ i, i ∈ ids ↔ (S i).isSome = true) {i : Int} {p q : List Fnd × Bool} (hs : S i = some p) : ∀ j, j ∈ ids ↔ ((updI S i (some q)) j).isSome = true := fun j => by
  by_cases e : j = i
  · subst e
    rw [updI_at, dom j, hs]
    exact ⟨fun _ => rfl, fun _ => rfl⟩
  · rw [updI_off _ _ e]
    exact dom j
/-- A query is lost. -/
theorem DocX.setLost (h : DocX w r base qu ou N E ids S (.slice (some ⟨g, 0, none⟩) ids.length cap) U) {k : Nat} (hk : k < ids.length) {i : Int} {l : List Fnd} {lo : Bool} (hi : ids.getD k 0 = i) (hs : S i = some (l, lo)) :
    DocX (w.setCell ⟨g, k * 3 + 2, none⟩ (.bool true)) r base qu ou N E ids (updI S i (some (l, true))) (.slice (some ⟨g, 0, none⟩) ids.length cap) U ∧ Turn (ZD r base N w) w (w.setCell ⟨g, k * 3 + 2, none⟩ (.bool true)) := by
  have hb := h.b91
  have gr : g ≠ r := hb.ne h.bl (by decide)
  have T : Turn (fun q => q = g) w (w.setCell ⟨g, k * 3 + 2, none⟩ (.bool true)) := Turn.put _ _ _ _
  have el : rowS S i = l := by unfold rowS; rw [hs]; rfl
  refine ⟨⟨h.bl.set _ _, by rw [cell_far _ _ _ _ _ _ gr]; exact h.c3, by rw [cell_far _ _ _ _ _ _ gr]; exact h.c5, by rw [cell_far _ _ _ _ _ _ gr]; exact h.c7, ?_, fun j hj => ?_, h.apart, h.nd, dom_upd h.dom hs, Nat.le_trans h.bs T.size⟩, T.more (fun q _ e => .inr (.inl (by rw [e]; exact ⟨hb, (h.own.blk rfl).2⟩)))⟩
  · have ho := h.own.stored (k * 3 + 2) (.bool true)
    rw [flatN_set (qrow_len ids U S) (by decide) _ hk] at ho
    rw [flatN_congr (g' := qrow ids U (updI S i (some (l, true)))) (fun j hj => by
      by_cases e : j = k
      · subst e
        rw [updN_at]
        show [Value.int .i64 (ids.getD j 0), U j, .bool true] = _
        unfold qrow
        rw [hi, (rowS_upd S i l true).2]
      · rw [updN_off _ _ e]
        unfold qrow
        have hne := nd_ne h.nd hj hk e
        rw [hi] at hne
        rw [(rowS_off S _ hne).2])] at ho
    exact ho
  · obtain ⟨f1, f2⟩ := h.rows j hj
    have er : rowS (updI S i (some (l, true))) (ids.getD j 0) = rowS S (ids.getD j 0) := by
      by_cases e : j = k
      · subst e
        rw [hi, (rowS_upd S i l true).1, el]
      · have hne := nd_ne h.nd hj hk e
        rw [hi] at hne
        exact (rowS_off S _ hne).1
    rw [er]
    exact ⟨f1.next T (fun q hq e => (h.b71 hj hq).ne hb (by decide) e) (fun q e t => absurd e (t.ne hb (by decide))), f2⟩
/-- A query's row is another one. -/
theorem DocX.rowSet (h : DocX w r base qu ou N E ids S (.slice (some ⟨g, 0, none⟩) ids.length cap) U) (hN : ∀ q, N q → q < w.heap.size) {k : Nat} (hk : k < ids.length) {i : Int} {l l' : List Fnd} {lo : Bool} (hi : ids.getD k 0 = i) (hs : S i = some (l, lo))
    (T : Turn (fun q => (U k).ownBlock = some q) w W) {v' : Value} (row : FRow W base (fun q => ¬ E q) v' l') (hv : ∀ q, v'.ownBlock = some q → (U k).ownBlock = some q ∨ w.heap.size ≤ q) :
    DocX (W.setCell ⟨g, k * 3 + 1, none⟩ v') r base qu ou N E ids (updI S i (some (l', lo))) (.slice (some ⟨g, 0, none⟩) ids.length cap) (updN U k v') ∧ Turn (ZD r base N w) w (W.setCell ⟨g, k * 3 + 1, none⟩ v') := by
  have hb := h.b91
  have gr : g ≠ r := hb.ne h.bl (by decide)
  have ng : ¬ (U k).ownBlock = some g := fun e => (h.b71 hk e).ne hb (by decide) rfl
  have nr : ¬ (U k).ownBlock = some r := fun e => (h.b71 hk e).ne h.bl (by decide) rfl
  have hbW := hb.turn T ng
  have T2 : Turn (fun q => q = g) W (W.setCell ⟨g, k * 3 + 1, none⟩ v') := Turn.put _ _ _ _
  have TT : Turn (fun q => (U k).ownBlock = some q ∨ q = g) w (W.setCell ⟨g, k * 3 + 1, none⟩ v') := (T.more (fun _ _ e => .inl e)).trans (T2.more (fun _ _ e => .inr e))
  have cr : ∀ {j : Nat} {u : Value}, w.cell? ⟨r, j, none⟩ = some u → (W.setCell ⟨g, k * 3 + 1, none⟩ v').cell? ⟨r, j, none⟩ = some u := fun hc => by rw [cell_far _ _ _ _ _ _ gr]; exact T.cell nr hc
  have lt : ∀ j, j < ids.length → ∀ q, (U j).ownBlock = some q → q < w.heap.size := fun j hj q hq => (h.b71 hj hq).lt
  have b71v : ∀ q, v'.ownBlock = some q → Blk W q 71 := fun q hq => by
    obtain ⟨ps, _, ho, _⟩ := row.ex
    rcases ho.2 with ⟨e, _⟩ | ⟨g', cap', cur, e, _, hgg, _⟩
    · rw [e] at hq; simp [Value.ownBlock] at hq
    · rw [e] at hq
      have : g' = q := by simpa [Value.ownBlock] using hq
      subst this
      exact ⟨_, hgg⟩
  refine ⟨⟨(h.bl.turn T nr).set _ _, cr h.c3, cr h.c5, cr h.c7, ?_, fun j hj => ?_, fun a b q ha hb' hne hq hq2 => ?_, h.nd, dom_upd h.dom hs, Nat.le_trans h.bs TT.size⟩, TT.more (fun q hq e => ?_)⟩
  · have ho := (h.own.turn T (fun q hq => by
      have : g = q := by simpa [Value.ownBlock] using hq
      rw [← this]; exact ng)).stored (k * 3 + 1) v'
    rw [flatN_set (qrow_len ids U S) (by decide) _ hk] at ho
    rw [flatN_congr (g' := qrow ids (updN U k v') (updI S i (some (l', lo)))) (fun j hj => by
      by_cases e : j = k
      · subst e
        rw [updN_at]
        show [Value.int .i64 (ids.getD j 0), v', .bool (lostS S (ids.getD j 0))] = _
        unfold qrow
        rw [updN_at, hi, (rowS_upd S i l' lo).2]
        have : lostS S i = lo := by unfold lostS; rw [hs]; rfl
        rw [this]
      · rw [updN_off _ _ e]
        unfold qrow
        have hne := nd_ne h.nd hj hk e
        rw [hi] at hne
        rw [(rowS_off S _ hne).2, updN_off _ _ e])] at ho
    exact ho
  · by_cases e : j = k
    · subst e
      rw [updN_at, hi, (rowS_upd S i l' lo).1]
      refine ⟨row.next T2 (fun q hq e => (b71v q hq).ne hbW (by decide) e) (fun q e t => absurd e (t.ne hbW (by decide))), fun q hq n => ?_⟩
      rcases hv q hq with z | z
      · exact (h.rows j hj).2 q z n
      · have := hN q n; omega
    · have hne := nd_ne h.nd hj hk e
      rw [hi] at hne
      rw [updN_off _ _ e, (rowS_off S _ hne).1]
      obtain ⟨f1, f2⟩ := h.rows j hj
      exact ⟨f1.next TT (fun q hq z => z.elim (fun z => h.apart j k q hj hk e hq z) (fun z => (h.b71 hj hq).ne hb (by decide) z)) (fun q z t => z.elim (fun z => absurd rfl (t.ne (h.b71 hk z) (by decide))) (fun z => absurd z (t.ne hb (by decide)))), f2⟩
  · by_cases ea : a = k
    · subst ea
      rw [updN_at] at hq
      rw [updN_off _ _ (fun e => hne e.symm)] at hq2
      rcases hv q hq with z | z
      · exact h.apart a b q ha hb' hne z hq2
      · have := lt b hb' q hq2; omega
    · rw [updN_off _ _ ea] at hq
      by_cases eb : b = k
      · subst eb
        rw [updN_at] at hq2
        rcases hv q hq2 with z | z
        · exact h.apart a b q ha hb' hne hq z
        · have := lt a ha q hq; omega
      · rw [updN_off _ _ eb] at hq2
        exact h.apart a b q ha hb' hne hq hq2
  · rcases e with e | e
    · exact .inr (.inr ⟨h.b71 hk e, h.b71b hk e, (h.rows k hk).2 q e⟩)
    · exact .inr (.inl (by rw [e]; exact ⟨hb, (h.own.blk rfl).2⟩))
/-- One match is put behind a query's row. -/
theorem DocX.putRun (h : DocX w r base qu ou N E ids S (.slice (some ⟨g, 0, none⟩) ids.length cap) U) (hN : ∀ q, N q → q < w.heap.size) {k : Nat} (hk : k < ids.length) {i : Int} {l : List Fnd} {lo : Bool} (hi : ids.getD k 0 = i) (hs : S i = some (l, lo)) (hn : l.length ≤ 100000)
    {vs vr : Value} {f : Fnd} (hf : FoundAt w E vs vr f) :
    ∃ v' W', (Builtin.append_ #[89, 89] 89 #[U k, .slice (some ⟨w.heap.size, 0, none⟩) 1 1]).run Try.prog (w.alloc (.cells #[vs, vr] 71)) = .ok v' W' ∧ Turn (fun q => (U k).ownBlock = some q) w W' ∧ (∃ a c, v' = .slice a (l.length + 1) c) ∧
      DocX (W'.setCell ⟨g, k * 3 + 1, none⟩ v') r base qu ou N E ids (updI S i (some (l ++ [f], lo))) (.slice (some ⟨g, 0, none⟩) ids.length cap) (updN U k v') ∧ Turn (ZD r base N w) w (W'.setCell ⟨g, k * 3 + 1, none⟩ v') := by
  have el : rowS S i = l := by unfold rowS; rw [hs]; rfl
  obtain ⟨ps, hl, ho, hall⟩ := (h.rows k hk).1.ex
  rw [hi, el] at hl ho hall
  have T1 : Turn (fun _ => False) w (w.alloc (.cells #[vs, vr] 71)) := (Turn.refl _ w).alloc _
  have ho1 := own_turn ho T1 (fun _ _ q => q)
  obtain ⟨i3, j1, j2, j3, j4⟩ := info_parts info71
  have o1 : vs.oneCell' = true := by obtain ⟨_, _, e⟩ := hf.sets.sl; rw [e]; rfl
  have o2 : vr.oneCell' = true := by obtain ⟨_, _, e⟩ := hf.refs.sl; rw [e]; rfl
  obtain ⟨v', w2, hr, ho2, hg, _, hbl⟩ := run_append_own_at (w.alloc (.cells #[vs, vr] 71)) base 89 89 71 i3 _ 2 48 Try.underlying89 j1 j2 j3 j4 rfl (by decide) _ _ _ ho1 ⟨w.heap.size, 0, none⟩ 1 1 [vs, vr] rfl
    (cells_new w [vs, vr] 71 _ rfl) (fun u hu => by
      simp only [List.mem_cons, List.not_mem_nil, or_false] at hu
      rcases hu with rfl | rfl
      · exact o1
      · exact o2) (by unfold maxLen; omega) (by omega) (Nat.le_trans h.bs T1.size)
  rw [World.size_alloc] at hbl
  have T : Turn (fun q => (U k).ownBlock = some q) w w2 := (T1.more (fun _ _ q => q.elim)).trans ((Turn.refl _ _).grown hg (fun k hk => .inl hk))
  have hv : ∀ q, v'.ownBlock = some q → (U k).ownBlock = some q ∨ w.heap.size ≤ q := fun q hq => by
    rcases hbl with e | e
    · exact .inl (e ▸ hq)
    · rw [e] at hq; cases hq; exact .inr (Nat.le_succ _)
  have mt : ∀ q, (U k).ownBlock = some q → ¬ MTy w q := fun q hq t => (t.ne (h.b71 hk hq) (by decide)) rfl
  have row : FRow w2 base (fun q => ¬ E q) v' (l ++ [f]) := by
    refine ⟨ps ++ [(vs, vr)], by simp [hl], by rw [fcells_app, List.length_append]; exact ho2, fun x f' p hx hp => ?_⟩
    have nxt : ∀ {vs vr : Value} {f : Fnd} {M : Nat → Prop}, FoundAt w M vs vr f → FoundAt w2 M vs vr f := fun hh => ((hh.typed).turn T (fun q _ z => .inr (mt q z))).weak (fun q z => .inl z)
    rw [List.getElem?_append] at hx hp
    rw [hl] at hp
    split at hx
    · rename_i hlt
      rw [if_pos hlt] at hp
      exact nxt (hall x f' p hx hp)
    · rename_i hlt
      rw [if_neg hlt] at hp
      have h0 : x - l.length = 0 := by
        have := (List.getElem?_eq_some_iff.1 hx).1
        simpa using this
      rw [h0] at hx hp
      simp at hx hp
      subst hx; subst hp
      exact (nxt hf).weak (fun q n => Classical.not_not.1 n)
  obtain ⟨a, c, e, -⟩ := own_slice ho2
  exact ⟨v', w2, hr, T, ⟨a, c, e⟩, h.rowSet hN hk hi hs T row hv⟩
end
end Go.Proofs.Ytepmealhnnoahaa
namespace Go.Proofs.Ytepmealhnnoahaa
set_option linter.unusedSimpArgs false
open Go.ChangeShapes Go.WideShapes Go.ChangeAt Go.RowKit
set_option linter.unusedVariables false
theorem ZD_back {r base : Nat} {N : Nat → Prop} {w wr : World} (T : Turn (ZD r base N w) w wr) {i : Nat} (hi : i < w.heap.size) (z : ZD r base N wr i) : ZD r base N w i := Classical.byContradiction fun hn => by
  have e := T.block i hi hn
  have back : ∀ {t : TypeId}, Blk wr i t → Blk w i t := fun ⟨cs, h⟩ => ⟨cs, by rw [← e]; exact h⟩
  rcases z with z | ⟨z, zb⟩ | ⟨z, zb, zn⟩
  · exact hn (.inl z)
  · exact hn (.inr (.inl ⟨back z, zb⟩))
  · exact hn (.inr (.inr ⟨back z, zb, zn⟩))
theorem zd_ty {r base : Nat} {N : Nat → Prop} {w : World} {b : Nat} {t : TypeId} (hb : Blk w b t) (hr : Blk w r 33) (ht : t ≠ 33 ∧ t ≠ 91 ∧ t ≠ 71) : ¬ ZD r base N w b := fun z => by
  rcases z with z | ⟨z, _⟩ | ⟨z, _⟩
  · exact hb.ne hr ht.1 z
  · exact hb.ne z ht.2.1 rfl
  · exact hb.ne z ht.2.2 rfl
theorem own_blkD {w : World} {base : Nat} {e : TypeId} {size n : Nat} {v : Value} {xs : List Value} (h : w.ownsRow base e size v n xs) {q : Nat} (hq : v.ownBlock = some q) : Blk w q e ∧ base ≤ q := by
  rcases h.2 with ⟨e1, _⟩ | ⟨g', cap', cur, e1, hb, hgg, _⟩
  · rw [e1] at hq; simp [Value.ownBlock] at hq
  · rw [e1] at hq
    have : g' = q := by simpa [Value.ownBlock] using hq
    subst this
    exact ⟨⟨_, hgg⟩, hb⟩
/-- While an event is told of: what is let go grows in the answer's block tb. -/
structure PS (w : World) (r base : Nat) (qu ou : Int) (N : Nat → Prop) (ids : List Int) (S' : DS) (H : List Ht) (hv : Value) (tb cb rb : Nat) (stamp : Int) (cs : List Value) (gl : List (Int × Int)) (gv : Value) (v : Value) (Os : List OutV) (wr : World) : Prop where
  doc : DocAt wr r base qu ou N (fun q => N q ∨ w.heap.size ≤ q) ids S'
  hrow : wr.ownsRow w.heap.size 73 3 hv H.length (hcells H)
  hf : ∀ x ∈ H, FoundAt wr (fun q => N q ∨ w.heap.size ≤ q) (.slice x.sa x.sn x.sc) (.slice x.ra x.rn x.rc) x.f
  tell : wr.rangeAt tb 0 [.int .i64 0, .int .i64 stamp, .slice none 0 0, gv]
  btb : Blk wr tb 58
  grow : wr.ownsRow w.heap.size 38 2 gv gl.length (rcells gl)
  cmd : wr.rangeAt cb 0 cs
  bcb : Blk wr cb 43
  brb : Blk wr rb 58
  rt : rb ≠ tb
  rr : wr.rangeAt rb 0 [.int .i64 0, .int .i64 0, .slice none 0 0, .slice none 0 0]
  new : w.heap.size ≤ tb ∧ w.heap.size ≤ cb ∧ w.heap.size ≤ rb
  outs : OutsAt wr N v Os
  turn : Turn (ZD r base N w) w wr
  nn : ∀ q, N q → q < w.heap.size
section
variable {w wr W W' : World} {r base : Nat} {qu ou : Int} {N : Nat → Prop} {ids : List Int} {S' S'' : DS} {H : List Ht} {hv : Value} {tb cb rb : Nat} {stamp : Int} {cs : List Value} {gl gl' : List (Int × Int)} {gv gv' : Value} {v : Value} {Os : List OutV}
theorem PS.turns (h : PS w r base qu ou N ids S' H hv tb cb rb stamp cs gl gv v Os wr) (T : Turn (fun _ => False) wr W) : PS w r base qu ou N ids S' H hv tb cb rb stamp cs gl gv v Os W :=
  ⟨h.doc.turn T id (fun _ _ f => f) (fun _ _ f => f.elim) (fun _ f => f.elim), own_turn h.hrow T (fun _ _ f => f), fun x hx => (h.hf x hx).turn T (fun _ _ f => f.elim), range_turn h.tell T id, h.btb.turn T id, own_turn h.grow T (fun _ _ f => f), range_turn h.cmd T id, h.bcb.turn T id, h.brb.turn T id, h.rt, range_turn h.rr T id, h.new, h.outs.next T (fun _ _ f => f) (fun _ _ f => f) (fun _ _ _ f => f) (fun k n => .inl n), h.turn.comp T (fun _ _ f => f.elim), h.nn⟩
/-- More is let go. -/
theorem PS.told (h : PS w r base qu ou N ids S' H hv tb cb rb stamp cs gl gv v Os wr) (T : Turn (fun q => gv.ownBlock = some q) wr W') (own' : W'.ownsRow w.heap.size 38 2 gv' gl'.length (rcells gl')) :
    PS w r base qu ou N ids S' H hv tb cb rb stamp cs gl' gv' v Os (W'.setCell ⟨tb, 3, none⟩ gv') ∧ W'.cell? ⟨tb, 3, none⟩ = some gv ∧ Blk W' tb 58 := by
  have g38 : ∀ q, gv.ownBlock = some q → Blk wr q 38 ∧ w.heap.size ≤ q := fun q hq => own_blkD h.grow hq
  have ntb : ¬ gv.ownBlock = some tb := fun e => (g38 tb e).1.ne h.btb (by decide) rfl
  have nrb : ¬ gv.ownBlock = some rb := fun e => (g38 rb e).1.ne h.brb (by decide) rfl
  have btb' := h.btb.turn T ntb
  have c3 : W'.cell? ⟨tb, 3, none⟩ = some gv := T.cell ntb (h.tell 3 _ rfl)
  have T2 : Turn (fun q => q = tb) W' (W'.setCell ⟨tb, 3, none⟩ gv') := Turn.put _ _ _ _
  have TT : Turn (fun q => gv.ownBlock = some q ∨ q = tb) wr (W'.setCell ⟨tb, 3, none⟩ gv') := (T.more (fun _ _ e => .inl e)).trans (T2.more (fun _ _ e => .inr e))
  have zt : ∀ {b : Nat} {t : TypeId}, Blk wr b t → t ≠ 38 → t ≠ 58 → ¬ (gv.ownBlock = some b ∨ b = tb) := fun hb h1 h2 z => z.elim (fun e => (g38 _ e).1.ne hb (fun q => h1 q.symm) rfl) (fun e => hb.ne h.btb h2 e)
  have znew : ∀ q, (gv.ownBlock = some q ∨ q = tb) → w.heap.size ≤ q := fun q z => z.elim (fun e => (g38 q e).2) (fun e => e ▸ h.new.1)
  refine ⟨⟨h.doc.turn TT (zt h.doc.bl (by decide) (by decide)) (fun k hk => zt hk (by decide) (by decide)) (fun k hk z => absurd z (zt hk (by decide) (by decide))) (fun k z _ => .inr (znew k z)), own_turn h.hrow TT (fun q hq => zt (own_blkD h.hrow hq).1 (by decide) (by decide)), fun x hx => (h.hf x hx).turn TT (fun k _ z => .inr (znew k z)), ?_, btb'.set _ _, own_turn own' T2 (fun q hq e => (own_blkD own' hq).1.ne btb' (by decide) e), range_turn h.cmd TT (zt h.bcb (by decide) (by decide)), h.bcb.turn TT (zt h.bcb (by decide) (by decide)), h.brb.turn TT (fun z => z.elim nrb h.rt), h.rt, range_turn h.rr TT (fun z => z.elim nrb h.rt), h.new, h.outs.next TT (fun k hk => zt hk (by decide) (by decide)) (fun k hk => zt hk (by decide) (by decide)) (fun k hk _ => zt hk (by decide) (by decide)) (fun k n => .inl n), h.turn.comp TT (fun q hq z => by have := znew q z; omega), h.nn⟩, c3, btb'⟩
  intro j u hu
  have hj : j < 4 := (List.getElem?_eq_some_iff.1 hu).1
  by_cases e : j = 3
  · subst e
    cases hu
    exact World.cell?_setCell_same W' _ _ c3
  · rw [Nat.zero_add, cell_off _ _ _ _ _ (fun q => e q.symm)]
    have := T.cell ntb (h.tell j u (by
      match j, hj, hu with
      | 0, _, hu => exact hu
      | 1, _, hu => exact hu
      | 2, _, hu => exact hu
      | 3, _, _ => exact absurd rfl e))
    rw [Nat.zero_add] at this
    exact this
/-- The desk is another one. -/
theorem PS.desk (h : PS w r base qu ou N ids S' H hv tb cb rb stamp cs gl gv v Os wr) (T : Turn (ZD r base N wr) wr W) (hd : DocAt W r base qu ou N (fun q => N q ∨ w.heap.size ≤ q) ids S'') : PS w r base qu ou N ids S'' H hv tb cb rb stamp cs gl gv v Os W := by
  have zt : ∀ {b : Nat} {t : TypeId}, Blk wr b t → (t ≠ 33 ∧ t ≠ 91 ∧ t ≠ 71) → ¬ ZD r base N wr b := fun hb ht => zd_ty hb h.doc.bl ht
  have zm : ∀ k, ZD r base N wr k → ¬ MTy wr k := fun k z t => by
    rcases t with t | t | t
    · exact zt t (by decide) z
    · exact zt t (by decide) z
    · exact zt t (by decide) z
  exact ⟨hd, own_turn h.hrow T (fun q hq => zt (own_blkD h.hrow hq).1 (by decide)), fun x hx => ((h.hf x hx).typed.turn T (fun k _ z => .inr (zm k z))).weak (fun k q => .inl q), range_turn h.tell T (zt h.btb (by decide)), h.btb.turn T (zt h.btb (by decide)), own_turn h.grow T (fun q hq => zt (own_blkD h.grow hq).1 (by decide)), range_turn h.cmd T (zt h.bcb (by decide)), h.bcb.turn T (zt h.bcb (by decide)), h.brb.turn T (zt h.brb (by decide)), h.rt, range_turn h.rr T (zt h.brb (by decide)), h.new, h.outs.next T (fun k hk => zt hk (by decide)) (fun k hk => zt hk (by decide)) (fun k hk _ => zt hk (by decide)) (fun k n => .inl n), h.turn.comp T (fun q hq z => ZD_back h.turn hq z), h.nn⟩
end
theorem upd_self {S : DS} {i : Int} {p : List Fnd × Bool} (h : S i = some p) : updI S i (some p) = S := by
  funext j
  by_cases e : j = i
  · subst e; rw [updI_at, h]
  · rw [updI_off _ _ e]
theorem put_none {S : DS} {ou : Int} {x : Ht} (h : S x.id = none) : putD ou S x = S ∧ putG ou S x = x.f.refs := by
  unfold putD putG; rw [h]; exact ⟨rfl, rfl⟩
theorem put_lost {S : DS} {ou : Int} {x : Ht} {l : List Fnd} (h : S x.id = some (l, true)) : putD ou S x = S ∧ putG ou S x = x.f.refs := by
  unfold putD putG; rw [h]
  dsimp only
  rw [if_pos (.inl rfl), if_pos (.inl rfl)]
  exact ⟨upd_self h, rfl⟩
theorem put_full {S : DS} {ou : Int} {x : Ht} {l : List Fnd} (h : S x.id = some (l, false)) (hf : ou ≤ (l.length : Int)) : putD ou S x = updI S x.id (some (l, true)) ∧ putG ou S x = x.f.refs := by
  unfold putD putG; rw [h]
  dsimp only
  rw [if_pos (.inr hf), if_pos (.inr hf)]
  exact ⟨rfl, rfl⟩
theorem put_yes {S : DS} {ou : Int} {x : Ht} {l : List Fnd} (h : S x.id = some (l, false)) (hf : ¬ ou ≤ (l.length : Int)) : putD ou S x = updI S x.id (some (l ++ [x.f], false)) ∧ putG ou S x = [] := by
  have hn : ¬ (false = true ∨ ou ≤ (l.length : Int)) := fun q => q.elim (fun q => by cases q) hf
  unfold putD putG; rw [h]
  dsimp only
  rw [if_neg hn, if_neg hn]
  exact ⟨rfl, rfl⟩
def PL (w : World) (r base : Nat) (qu ou : Int) (N : Nat → Prop) (ids : List Int) (S : DS) (H : List Ht) (hv : Value) (tb cb rb : Nat) (stamp : Int) (cs : List Value) (v : Value) (Os : List OutV) (gh : Nat) (v11 : Value) (wr : World) : Prop :=
  ∃ (k : Nat) (gv : Value), v11 = .int .i64 (k : Int) ∧ k ≤ H.length ∧ gh = H.length - k ∧ PS w r base qu ou N ids (putsD ou S (H.take k)) H hv tb cb rb stamp cs (putsG ou S (H.take k)) gv v Os wr
theorem puts_step {ou : Int} {S : DS} {H : List Ht} {k : Nat} {x : Ht} (h : H[k]? = some x) : putsD ou S (H.take (k + 1)) = putD ou (putsD ou S (H.take k)) x ∧ putsG ou S (H.take (k + 1)) = putsG ou S (H.take k) ++ putG ou (putsD ou S (H.take k)) x := by
  rw [List.take_add_one, h]
  exact ⟨putsD_snoc _ _ _ _, putsG_snoc _ _ _ _⟩
/-- No row is longer than may be, whatever is put. -/
theorem puts_len {ou : Int} {B : Nat} : ∀ (H : List Ht) {S : DS}, (∀ i l lo, S i = some (l, lo) → l.length ≤ B) → ∀ i l lo, putsD ou S H i = some (l, lo) → l.length ≤ B + H.length
  | [], S, h => fun i l lo e => Nat.le_trans (h i l lo e) (Nat.le_add_right _ _)
  | x :: H, S, h => fun i l lo e => by
    have e2 : putsD ou S (x :: H) = putsD ou (putD ou S x) H := rfl
    rw [e2] at e
    have := puts_len (B := B + 1) H (S := putD ou S x) (fun j m mo hm => by
      rw [putD_at] at hm
      split at hm
      · unfold putOne at hm
        split at hm
        · cases hm
        · rename_i l0 lo0 hs
          have := h _ _ _ hs
          split at hm
          · cases hm; omega
          · cases hm; simp; omega
      · have := h _ _ _ hm; omega) i l lo e
    simp only [List.length_cons]
    omega
section
variable {w wr W W' : World} {r base : Nat} {qu ou : Int} {N : Nat → Prop} {ids : List Int} {S' S'' : DS} {H : List Ht} {hb hc : Nat} {tb cb rb : Nat} {stamp : Int} {cs : List Value} {gl gl' : List (Int × Int)} {gv gv' : Value} {v : Value} {Os : List OutV}
theorem PS.hcell (h : PS w r base qu ou N ids S' H (.slice (some ⟨hb, 0, none⟩) H.length hc) tb cb rb stamp cs gl gv v Os wr) {k : Nat} {x : Ht} (hx : H[k]? = some x) (j : Nat) (u : Value) (hu : x.cells[j]? = some u) : wr.cell? ⟨hb, k * 3 + j, none⟩ = some u :=
  (h.hrow.cellAt (k * 3 + j) (by
    have := (List.getElem?_eq_some_iff.1 hu).1
    have h3 : x.cells.length = 3 := rfl
    have := (List.getElem?_eq_some_iff.1 hx).1
    omega)).trans (hcells_at H k x hx j u hu)
theorem PS.sz {hv : Value} (h : PS w r base qu ou N ids S' H hv tb cb rb stamp cs gl gv v Os wr) : w.heap.size ≤ wr.heap.size := Nat.le_trans h.new.1 (Nat.le_of_lt h.btb.lt)
/-- The desk's row of queries, named. -/
theorem PS.docx {hv : Value} (h : PS w r base qu ou N ids S' H hv tb cb rb stamp cs gl gv v Os wr) {gq vc : Nat} (y7 : wr.cell? ⟨r, 7, none⟩ = some (.slice (some ⟨gq, 0, none⟩) ids.length vc)) : ∃ U, DocX wr r base qu ou N (fun q => N q ∨ w.heap.size ≤ q) ids S' (.slice (some ⟨gq, 0, none⟩) ids.length vc) U := by
  obtain ⟨v, U, X⟩ := h.doc.x
  have e := X.c7
  rw [y7] at e
  injection e with e
  subst e
  exact ⟨U, X⟩
theorem DocX.qcell {E : Nat → Prop} {g cap : Nat} {U : Nat → Value} (X : DocX wr r base qu ou N E ids S' (.slice (some ⟨g, 0, none⟩) ids.length cap) U) {k : Nat} (hk : k < ids.length) (j : Nat) (u : Value) (hu : (qrow ids U S' k)[j]? = some u) : wr.cell? ⟨g, k * 3 + j, none⟩ = some u := by
  obtain ⟨g', cap', e, hr⟩ := X.doc.row_at X.own hk
  have : g = g' := by injection e with z1 z2 z3; injection z1 with z1; injection z1
  subst this
  exact hr j u hu
theorem PS.lose {hv : Value} (h : PS w r base qu ou N ids S' H hv tb cb rb stamp cs gl gv v Os wr) {gq vc q : Nat} (y7 : wr.cell? ⟨r, 7, none⟩ = some (.slice (some ⟨gq, 0, none⟩) ids.length vc)) (hq : q < ids.length) {i : Int} {l : List Fnd} {lo : Bool} (hi : ids.getD q 0 = i) (hs : S' i = some (l, lo)) :
    PS w r base qu ou N ids (updI S' i (some (l, true))) H hv tb cb rb stamp cs gl gv v Os (wr.setCell ⟨gq, q * 3 + 2, none⟩ (.bool true)) ∧ wr.frozen? ⟨gq, q * 3 + 2, none⟩ = false ∧ wr.cell? ⟨gq, q * 3 + 2, none⟩ = some (.bool lo) := by
  obtain ⟨U, X⟩ := h.docx y7
  obtain ⟨X2, T⟩ := X.setLost hq hi hs
  have elo : lostS S' i = lo := by unfold lostS; rw [hs]; rfl
  exact ⟨h.desk T X2.doc, X.b91.fz _, by have := X.qcell hq 2 _ rfl; rw [hi, elo] at this; exact this⟩
theorem PS.putRow (h : PS w r base qu ou N ids S' H (.slice (some ⟨hb, 0, none⟩) H.length hc) tb cb rb stamp cs gl gv v Os wr) {gq vc q : Nat} (y7 : wr.cell? ⟨r, 7, none⟩ = some (.slice (some ⟨gq, 0, none⟩) ids.length vc)) (hq : q < ids.length) {i : Int} {l : List Fnd} {lo : Bool} (hi : ids.getD q 0 = i) (hs : S' i = some (l, lo)) (hn : l.length ≤ 100000)
    {ua : Option Addr} {uc : Nat} (y2 : wr.cell? ⟨gq, q * 3 + 1, none⟩ = some (.slice ua l.length uc)) {k : Nat} {x : Ht} (hx : H[k]? = some x) :
    ∃ (a' : Option Addr) (c' : Nat) (W' : World), (Builtin.append_ #[89, 89] 89 #[.slice ua l.length uc, .slice (some ⟨wr.heap.size, 0, none⟩) 1 1]).run Try.prog (wr.alloc (.cells #[.slice x.sa x.sn x.sc, .slice x.ra x.rn x.rc] 71)) = .ok (.slice a' (l.length + 1) c') W' ∧
      PS w r base qu ou N ids (updI S' i (some (l ++ [x.f], lo))) H (.slice (some ⟨hb, 0, none⟩) H.length hc) tb cb rb stamp cs gl gv v Os (W'.setCell ⟨gq, q * 3 + 1, none⟩ (.slice a' (l.length + 1) c')) ∧ W'.cell? ⟨gq, q * 3 + 1, none⟩ = some (.slice ua l.length uc) ∧ W'.frozen? ⟨gq, q * 3 + 1, none⟩ = false ∧
      W'.cell? ⟨r, 7, none⟩ = some (.slice (some ⟨gq, 0, none⟩) ids.length vc) ∧ gq ≠ r ∧ ∀ (j : Nat) (u : Value), x.cells[j]? = some u → W'.cell? ⟨hb, k * 3 + j, none⟩ = some u := by
  obtain ⟨U, X⟩ := h.docx y7
  have eU : U q = .slice ua l.length uc := by have := X.qcell hq 1 _ rfl; rw [y2] at this; injection this with this; exact this.symm
  have fx := h.hf x (List.mem_of_getElem? hx)
  have hE : ∀ q', N q' → q' < wr.heap.size := fun q' n => Nat.lt_of_lt_of_le (h.nn q' n) h.sz
  obtain ⟨v', W', hrun, T, ⟨a', c', e⟩, X2, T2⟩ := X.putRun hE hq hi hs hn fx
  subst e
  rw [eU] at hrun T
  have b71 : ∀ z, (Value.slice ua l.length uc).ownBlock = some z → Blk wr z 71 := fun z hz => X.b71 hq (by rw [eU]; exact hz)
  have n91 : ¬ (Value.slice ua l.length uc).ownBlock = some gq := fun e => (b71 _ e).ne X.b91 (by decide) rfl
  have n33 : ¬ (Value.slice ua l.length uc).ownBlock = some r := fun e => (b71 _ e).ne X.bl (by decide) rfl
  have n73 : ¬ (Value.slice ua l.length uc).ownBlock = some hb := fun e => (b71 _ e).ne (own_blkD h.hrow rfl).1 (by decide) rfl
  exact ⟨a', c', W', hrun, h.desk T2 X2.doc, T.cell n91 y2, (X.b91.turn T n91).fz _, T.cell n33 y7, X.b91.ne X.bl (by decide), fun j u hu => T.cell n73 (h.hcell hx j u hu)⟩
end
theorem OutsAt.lostAt {w : World} {N : Nat → Prop} {b off cap : Nat} {Os : List OutV} (h : OutsAt w N (.slice (some ⟨b, off, none⟩) Os.length cap) Os) {k : Nat} {o : OutV} (hk : Os[k]? = some o) :
    ∃ (l4 : Option Addr) (lc : Nat), w.cell? ⟨b, off + k * 4 + 1, none⟩ = some (.slice l4 o.lost.length lc) ∧ ∀ (j : Nat) (x : Int), o.lost[j]? = some x → ∃ lb lo, l4 = some ⟨lb, lo, none⟩ ∧ w.cell? ⟨lb, lo + j, none⟩ = some (.int .i64 x) := by
  obtain ⟨a1, b1, of1, cp1, e1, h1, h2⟩ := h
  obtain ⟨hva, _⟩ := h1.resolve_left (fun e => by rw [e] at hk; simp at hk)
  have e2 : some (⟨b, off, none⟩ : Addr) = a1 := by injection e1
  rw [hva] at e2
  injection e2 with e2
  injection e2 with e3 e4
  subst e3 e4
  obtain ⟨vh, vl, ua, un, uc, da, dn, dc, hr, hh, hl⟩ := h2 k o hk
  obtain ⟨a, lb, lo, lc, rfl, hrow, hx⟩ := hl
  exact ⟨a, lc, hr 1 _ rfl, fun j x hj => ⟨lb, lo, (hrow.resolve_left (fun e => by rw [e] at hj; simp at hj)).1, hx j x hj⟩⟩
theorem lose_no {S : DS} {i : Int} (h : S i = none) : loseD S i = S := by unfold loseD; rw [h]
theorem lose_yes2 {S : DS} {i : Int} {l : List Fnd} {lo : Bool} (h : S i = some (l, lo)) : loseD S i = updI S i (some (l, true)) := by unfold loseD; rw [h]
theorem loses_step {S : DS} {l : List Int} {j : Nat} {x : Int} (h : l[j]? = some x) : losesD S (l.take (j + 1)) = loseD (losesD S (l.take j)) x := by
  rw [List.take_add_one, h]
  unfold losesD
  rw [List.foldl_append]
  rfl
theorem loses_app (S : DS) (l m : List Int) : losesD S (l ++ m) = losesD (losesD S l) m := by unfold losesD; rw [List.foldl_append]
theorem lost_step {Os : List OutV} {k : Nat} {o : OutV} (h : Os[k]? = some o) : lostL (Os.take (k + 1)) = lostL (Os.take k) ++ o.lost := by
  rw [List.take_add_one, h]
  unfold lostL
  rw [List.map_append, List.flatten_append]
  simp
def LL (w : World) (r base : Nat) (qu ou : Int) (N : Nat → Prop) (ids : List Int) (S : DS) (H : List Ht) (hv : Value) (tb cb rb : Nat) (stamp : Int) (cs : List Value) (gl : List (Int × Int)) (gv v : Value) (Os : List OutV) (gh : Nat) (v13 : Value) (wr : World) : Prop :=
  ∃ k : Nat, v13 = .int .i64 (k : Int) ∧ k ≤ Os.length ∧ gh = Os.length - k ∧ PS w r base qu ou N ids (losesD S (lostL (Os.take k))) H hv tb cb rb stamp cs gl gv v Os wr
def LI (w : World) (r base : Nat) (qu ou : Int) (N : Nat → Prop) (ids : List Int) (S : DS) (H : List Ht) (hv : Value) (tb cb rb : Nat) (stamp : Int) (cs : List Value) (gl : List (Int × Int)) (gv v : Value) (Os : List OutV) (l : List Int) (gh : Nat) (v14 : Value) (wr : World) : Prop :=
  ∃ j : Nat, v14 = .int .i64 (j : Int) ∧ j ≤ l.length ∧ gh = l.length - j ∧ PS w r base qu ou N ids (losesD S (l.take j)) H hv tb cb rb stamp cs gl gv v Os wr
theorem b53 (s : Int) (w : World) : (Instr.build 53 #[(1, .int .i64 s)]).run Try.prog w = .ok (.agg #[.int .i64 0, .int .i64 s, .slice none 0 0]) w := run_build w 53 _ _ (by kernel_rfl)
theorem b58 (s : Int) (w : World) : (Instr.build 58 #[(0, .agg #[.int .i64 0, .int .i64 s, .slice none 0 0])]).run Try.prog w = .ok (.agg #[.int .i64 0, .int .i64 s, .slice none 0 0, .slice none 0 0]) w := run_build w 58 _ _ (by kernel_rfl)
theorem size58 : (Try.prog.info? 58).map (·.size) = some 4 := by kernel_rfl
theorem wrapP {k n : Nat} (h : k < n) (hn : n ≤ 1000) : wrap64 ((k : Int) + 1) = (k : Int) + 1 := by unfold wrap64; omega
/-- What a published event leaves. -/
def DPubPost (w : World) (r base : Nat) (qu ou : Int) (N : Nat → Prop) (ids : List Int) (S' : DS) (stamp : Int) (gl : List (Int × Int)) (e : Ending) (w' : World) : Prop :=
  ∃ (ga : Option Addr) (gc : Nat), e = .returned (.agg #[.int .i64 0, .int .i64 stamp, .slice none 0 0, .slice ga gl.length gc]) ∧ DocAt w' r base qu ou N (fun q => N q ∨ w.heap.size ≤ q) ids S' ∧ w'.ownsRow w.heap.size 38 2 (.slice ga gl.length gc) gl.length (rcells gl) ∧ Turn (ZD r base N w) w w'
/-- What is told at the end. -/
structure PEnd (w : World) (r base : Nat) (qu ou : Int) (N : Nat → Prop) (ids : List Int) (S' : DS) (stamp : Int) (gl : List (Int × Int)) (a' : Option Addr) (c' : Nat) (W : World) : Prop where
  doc : DocAt W r base qu ou N (fun q => N q ∨ w.heap.size ≤ q) ids S'
  grow : W.ownsRow w.heap.size 38 2 (.slice a' gl.length c') gl.length (rcells gl)
  turn : Turn (ZD r base N w) w W
theorem PS.done {w wr : World} {r base : Nat} {qu ou : Int} {N : Nat → Prop} {ids : List Int} {S' : DS} {H : List Ht} {hv : Value} {tb cb rb : Nat} {stamp : Int} {cs : List Value} {gl : List (Int × Int)} {a' : Option Addr} {c' : Nat} {v : Value} {Os : List OutV}
    (h : PS w r base qu ou N ids S' H hv tb cb rb stamp cs gl (.slice a' gl.length c') v Os wr) : PEnd w r base qu ou N ids S' stamp gl a' c' (wr.setCells rb 0 [.int .i64 0, .int .i64 stamp, .slice none 0 0, .slice a' gl.length c']) := by
  have T : Turn (fun q => q = rb) wr (wr.setCells rb 0 [.int .i64 0, .int .i64 stamp, .slice none 0 0, .slice a' gl.length c']) := Turn.setCells _ _ (Turn.refl _ _) (.inl rfl)
  have zt : ∀ {b : Nat} {t : TypeId}, Blk wr b t → t ≠ 58 → ¬ b = rb := fun hb ht e => hb.ne h.brb ht e
  exact ⟨h.doc.turn T (zt h.doc.bl (by decide)) (fun k hk => zt hk (by decide)) (fun k hk z => absurd z (zt hk (by decide))) (fun k z t => absurd z (t.ne h.brb (by decide))), own_turn h.grow T (fun q hq => zt (own_blkD h.grow hq).1 (by decide)), h.turn.comp T (fun q hq e => by have := h.new.2.2; omega)⟩
theorem PEnd.post {w W : World} {r base : Nat} {qu ou : Int} {N : Nat → Prop} {ids : List Int} {S' : DS} {stamp : Int} {gl : List (Int × Int)} {a' : Option Addr} {c' : Nat} {e : Ending} (h : PEnd w r base qu ou N ids S' stamp gl a' c' W) (he : e = .returned (.agg #[.int .i64 0, .int .i64 stamp, .slice none 0 0, .slice a' gl.length c'])) : DPubPost w r base qu ou N ids S' stamp gl e W :=
  ⟨a', c', he, h.doc, h.grow, h.turn⟩
set_option maxRecDepth 100000 in
set_option maxHeartbeats 16000000 in
theorem DocAt.publish {w : World} {r base : Nat} {qu ou : Int} {N : Nat → Prop} {ids : List Int} {S : DS} (h : DocAt w r base qu ou N N ids S) (hids : ids.length ≤ 1000) (hN : ∀ q, N q → q < w.heap.size) {v : Value} {Os : List OutV} (hO : OutsAt w N v Os) (hH : HitsAt w N Os) (hl : Os.length ≤ 3) (hh : ∀ o ∈ Os, o.hits.length ≤ 6) (hl1 : ∀ o ∈ Os, o.lost.length ≤ 1) (hr2 : ∀ o ∈ Os, ∀ x ∈ o.hits, x.f.refs.length ≤ 2)
    (hI : ∀ i l lo, S i = some (l, lo) → l.length ≤ 10000) (hou : 0 ≤ ou ∧ ou ≤ 4096) (stamp s g : Int) :
    Calls Try.prog 34 #[.pointer (some ⟨r, 0, none⟩), .int .i64 stamp, .agg (cmdL 1 0 0 s g).toArray, v] w (DPubPost w r base qu ou N ids (losesD (putsD ou S (insA (hitsL Os).flatten [])) (lostL Os)) stamp (putsG ou S (insA (hitsL Os).flatten []) ++ [(s, g)])) := by
  obtain ⟨va0, vc0, rfl⟩ : ∃ a c, v = .slice a Os.length c := by
    obtain ⟨a, _, _, c, e, _⟩ := hO
    exact ⟨a, c, e⟩
  obtain ⟨H, hHd⟩ : ∃ H, insA (hitsL Os).flatten [] = H := ⟨_, rfl⟩
  have hHl : H.length ≤ 18 := by
    have := acc_len hl hh Os.length
    rw [List.take_length, hHd] at this
    exact this
  have hmem : ∀ x ∈ H, FoundAt w N (.slice x.sa x.sn x.sc) (.slice x.ra x.rn x.rc) x.f ∧ x.f.refs.length ≤ 2 := fun x hx => by
    rw [← hHd] at hx
    have hx2 : x ∈ (hitsL Os).flatten := by
      have key : ∀ (l acc : List Ht), x ∈ insA l acc → x ∈ acc ∨ x ∈ l := fun l => by
        induction l with
        | nil => exact fun acc h => .inl h
        | cons y l ih =>
          intro acc h
          rcases ih _ (show x ∈ insA l (insK Ht.id acc y) from h) with q | q
          · rcases insK_mem q with q | q
            · exact .inr (by simp [q])
            · exact .inl q
          · exact .inr (by simp [q])
      rcases key _ _ hx with q | q
      · simp at q
      · exact q
    obtain ⟨l, hl, hxl⟩ := List.mem_flatten.1 hx2
    unfold hitsL at hl
    obtain ⟨o, ho, rfl⟩ := List.mem_map.1 hl
    exact ⟨hH o ho x hxl, hr2 o ho x hxl⟩
  obtain ⟨W0, hW0⟩ : ∃ W0, W0 = w.alloc (.cells (cmdL 1 0 0 s g).toArray 43) := ⟨_, rfl⟩
  have T0 : Turn (fun _ => False) w W0 := by rw [hW0]; exact (Turn.refl _ w).alloc _
  have B0 : Blk W0 w.heap.size 43 := by rw [hW0]; exact Blk.new w (cmdL 1 0 0 s g) 43
  have R0 : W0.rangeAt w.heap.size 0 (cmdL 1 0 0 s g) := by rw [hW0]; exact range_new w (cmdL 1 0 0 s g) 43
  have Z0 : W0.heap.size = w.heap.size + 1 := by rw [hW0, World.size_alloc]
  obtain ⟨W1, hW1⟩ : ∃ W1, W1 = W0.alloc (.cells #[.int .i64 0, .int .i64 0, .slice none 0 0, .slice none 0 0] 58) := ⟨_, rfl⟩
  have T1 : Turn (fun _ => False) W0 W1 := by rw [hW1]; exact (Turn.refl _ W0).alloc _
  have B1 : Blk W1 (w.heap.size + 1) 58 := by rw [hW1, ← Z0]; exact Blk.new W0 [.int .i64 0, .int .i64 0, .slice none 0 0, .slice none 0 0] 58
  have R1 : W1.rangeAt (w.heap.size + 1) 0 [.int .i64 0, .int .i64 0, .slice none 0 0, .slice none 0 0] := by rw [hW1, ← Z0]; exact range_new W0 [.int .i64 0, .int .i64 0, .slice none 0 0, .slice none 0 0] 58
  have Z1 : W1.heap.size = w.heap.size + 1 + 1 := by rw [hW1, World.size_alloc, Z0]
  obtain ⟨W2, hW2⟩ : ∃ W2, W2 = W1.alloc (.cells #[.int .i64 0, .int .i64 stamp, .slice none 0 0, .slice none 0 0] 58) := ⟨_, rfl⟩
  have T2 : Turn (fun _ => False) W1 W2 := by rw [hW2]; exact (Turn.refl _ W1).alloc _
  have B2 : Blk W2 (w.heap.size + 1 + 1) 58 := by rw [hW2, ← Z1]; exact Blk.new W1 [.int .i64 0, .int .i64 stamp, .slice none 0 0, .slice none 0 0] 58
  have R2 : W2.rangeAt (w.heap.size + 1 + 1) 0 [.int .i64 0, .int .i64 stamp, .slice none 0 0, .slice none 0 0] := by rw [hW2, ← Z1]; exact range_new W1 [.int .i64 0, .int .i64 stamp, .slice none 0 0, .slice none 0 0] 58
  have T02 := (T0.trans T1).trans T2
  have hO2 := hO.next T02 (fun _ _ f => f) (fun _ _ f => f) (fun _ _ _ f => f) (fun k n => .inl n)
  have MG := Lib.hid (merged_is hO2 hl hh)
  have FOLD := Lib.hid (show W2 = ((w.alloc (.cells (cmdL 1 0 0 s g).toArray 43)).alloc (.cells #[.int .i64 0, .int .i64 0, .slice none 0 0, .slice none 0 0] 58)).alloc (.cells #[.int .i64 0, .int .i64 stamp, .slice none 0 0, .slice none 0 0] 58) from by rw [hW2, hW1, hW0])
  have PS0 := Lib.hid (show ∀ (hv : Value) (W4 : World), W4.ownsRow W2.heap.size 73 3 hv H.length (hcells H) → Turn (fun _ => False) W2 W4 → PS w r base qu ou N ids S H hv (w.heap.size + 1 + 1) w.heap.size (w.heap.size + 1) stamp (cmdL 1 0 0 s g) [] (.slice none 0 0) (.slice va0 Os.length vc0) Os W4 from fun hv W4 ho T4 => by
    have TT := T02.trans T4
    have T12 := T1.trans (T2.trans T4)
    have T24 := T2.trans T4
    refine ⟨(h.other (fun k n => .inl n) (fun k n => n)).turn TT id (fun _ _ f => f) (fun _ _ f => f.elim) (fun _ f => f.elim), own_base ho T02.size, fun x hx => ((hmem x hx).1.room).turn TT (fun _ _ f => f.elim), range_turn R2 T4 id, B2.turn T4 id, ⟨rfl, .inl ⟨rfl, rfl⟩⟩, range_turn R0 T12 id, B0.turn T12 id, B1.turn T24 id, by omega, range_turn R1 T24 id, ⟨by omega, by omega, by omega⟩, hO2.next T4 (fun _ _ f => f) (fun _ _ f => f) (fun _ _ _ f => f) (fun k n => .inl n), TT.more (fun _ _ f => f.elim), hN⟩)
  have HL := Lib.hid (And.intro hids (And.intro hHl (And.intro hI (And.intro hou (And.intro (fun x hx => (hmem x hx).2) (And.intro hl hl1))))))
  rw [hHd]
  rw [hHd] at MG
  clear hHd hHl hmem hW0 T0 B0 R0 Z0 hW1 T1 B1 R1 Z1 hW2 T2 B2 R2 T02 hO2 hO hH hl hh hl1 hr2 hI hou h hids hN
  have E53 := b53 stamp
  have E58 := b58 stamp
  unfold cmdL at FOLD ⊢
  go_enter Try.func34, Try.ntmps34
  go_upto_region 2 with fail
  rw [← FOLD.out]
  clear FOLD E53 E58
  generalize w.heap.size + 1 + 1 = tb at *
  generalize w.heap.size + 1 = rb at *
  generalize hcb : w.heap.size = cb at PS0 ⊢
  clear hcb
  go_wp2_with fail
  with_reducible refine MG.out.mono ?_
  rintro en W4 ⟨hv, rfl, ho, T4⟩
  have P0 := PS0.out hv W4 ho T4
  clear PS0 MG ho T4
  obtain ⟨ha, hc, rfl, -⟩ := own_slice P0.hrow
  have R0 : PL w r base qu ou N ids S H (.slice ha H.length hc) tb cb rb stamp [.int .i64 1, .int .i64 0, .int .i64 0, .int .i64 0, .int .i64 0, .int .i64 0, .int .i64 0, .int .i64 0, .int .i64 0, .int .i64 s, .int .i64 g, .slice none 0 0, .int .i64 0, .bool false] (.slice va0 Os.length vc0) Os H.length (.int .i64 0) W4 := ⟨0, .slice none 0 0, rfl, Nat.zero_le _, rfl, P0⟩
  clear P0
  obtain ⟨cs, hcs⟩ : ∃ cs, [Value.int .i64 1, .int .i64 0, .int .i64 0, .int .i64 0, .int .i64 0, .int .i64 0, .int .i64 0, .int .i64 0, .int .i64 0, .int .i64 s, .int .i64 g, .slice none 0 0, .int .i64 0, .bool false] = cs := ⟨_, rfl⟩
  have HCS := Lib.hid hcs
  rw [hcs] at R0
  clear hcs
  go_wp2_with fail
  go_loopg [11] H.length (fun gh v11 wr => PL w r base qu ou N ids S H (.slice ha H.length hc) tb cb rb stamp cs (.slice va0 Os.length vc0) Os gh v11 wr)
  case atStart => exact R0
  case round =>
    clear R0
    obtain ⟨k, gv, rfl, hk, hgk, P⟩ := hrel
    obtain ⟨ga, gc, rfl, -⟩ := own_slice P.grow
    obtain ⟨gl, hgl⟩ : ∃ gl, putsG ou S (H.take k) = gl := ⟨_, rfl⟩
    obtain ⟨S', hS'⟩ : ∃ S', putsD ou S (H.take k) = S' := ⟨_, rfl⟩
    rw [hgl] at P
    rw [hS'] at P
    by_cases hkl : k < H.length
    · obtain ⟨x, hx⟩ : ∃ x, H[k]? = some x := ⟨_, List.getElem?_eq_getElem hkl⟩
      obtain ⟨hids, hHl, hI, hou, hm2, hl, hl1⟩ := HL.out
      obtain ⟨hb, rfl⟩ : ∃ hb, ha = some ⟨hb, 0, none⟩ := by
        obtain ⟨a, c, e, hs⟩ := own_slice P.hrow
        obtain ⟨q, hs⟩ := hs (by omega)
        exact ⟨q, by injection e with z1 z2 z3; rw [z1, hs]⟩
      have hcell : ∀ j u, x.cells[j]? = some u → wr.cell? ⟨hb, k * 3 + j, none⟩ = some u := fun j u hu => (P.hrow.cellAt (k * 3 + j) (by
        have := (List.getElem?_eq_some_iff.1 hu).1
        have h3 : x.cells.length = 3 := rfl
        omega)).trans (hcells_at H k x hx j u hu)
      have x0 : wr.cell? ⟨hb, k * 3, none⟩ = some (.int .i64 x.id) := hcell 0 _ rfl
      have t1 : decide ((k : Int) < (H.length : Int)) = true := decide_eq_true (Int.ofNat_lt.2 hkl)
      have t2 : decide (k < H.length) = true := decide_eq_true hkl
      have t3 : (0 : Int) ≤ (k : Int) := Int.natCast_nonneg k
      have t4 : (k : Int) < (H.length : Int) := Int.ofNat_lt.2 hkl
      have ek := wrapP hkl (Nat.le_trans hHl (by decide))
      have hst := puts_step (ou := ou) (S := S) hx
      rw [hS', hgl] at hst
      have hgl40 : gl.length ≤ 2000 := by
        have h1 := putsG_le ou (H.take k) S
        rw [hgl] at h1
        have h2 := refSum_le (H := H.take k) (fun x hx => hm2 x (List.mem_of_mem_take hx))
        rw [List.length_take] at h2
        omega
      have fx := P.hf x (List.mem_of_getElem? hx)
      have FD := Lib.hid (P.doc.find hids x.id)
      have hlen : ∀ l lo, S' x.id = some (l, lo) → l.length ≤ 100000 := fun l lo e => by
        have := puts_len (ou := ou) (H.take k) hI x.id l lo (by rw [hS']; exact e)
        rw [List.length_take] at this
        omega
      have STEP := Lib.hid (show ∀ (gv' : Value) (W : World), PS w r base qu ou N ids (putD ou S' x) H (.slice (some ⟨hb, 0, none⟩) H.length hc) tb cb rb stamp cs (gl ++ putG ou S' x) gv' (.slice va0 Os.length vc0) Os W → PL w r base qu ou N ids S H (.slice (some ⟨hb, 0, none⟩) H.length hc) tb cb rb stamp cs (.slice va0 Os.length vc0) Os (H.length - (k + 1)) (.int .i64 ((k : Int) + 1)) W from fun gv' W p => ⟨k + 1, gv', congrArg (Value.int .i64) (Int.natCast_succ k).symm, hkl, rfl, by rw [hst.1, hst.2]; exact p⟩)
      have G := Lib.hid (And.intro hgk hkl)
      have HP := Lib.hid (And.intro P (And.intro hcell (And.intro fx (And.intro hgl40 (And.intro hlen hou)))))
      have hpos := P.doc.pos x.id
      have hxk := Lib.hid hx
      clear hgk hkl hk hx hids hHl hI hou hm2 hl hl1 hst hgl hS' P hcell fx hgl40 hlen
      go_wp2_with fail
      with_reducible refine FD.out.mono ?_
      rintro en W1 ⟨rfl, rfl⟩
      clear FD x0
      rcases hpos with ⟨hs, hp⟩ | ⟨q, l, lo, hq, hqi, hp, hs⟩
      · have hp1 : decide (posD ids x.id < 0) = true := by rw [hp]; rfl
        have e1 := put_none (ou := ou) hs
        have HE := Lib.hid e1.1
        have HG := Lib.hid e1.2
        clear hs hp e1
        generalize posD ids x.id = pq at *
        go_upto_region 8 with fail
        clear hp1
        obtain ⟨P, _, _, hgl40, _, _⟩ := HP.out
        obtain ⟨V, hV⟩ : ∃ V, V = wr.drew := ⟨_, rfl⟩
        have TV : Turn (fun _ => False) wr V := by rw [hV]; exact (Turn.refl _ wr).drewN 1
        have PV := P.turns TV
        have fV := PV.hf x (List.mem_of_getElem? hxk.out)
        have gx : gl.length + x.f.refs.length ≤ 1000000 := by have := fV.r2; omega
        obtain ⟨v', W3, hrun, own', T', -⟩ := app_refsI PV.grow (refsin_row fV.refs) gx PV.sz 54
        obtain ⟨PF, c3, b3⟩ := PV.told T' own'
        have nhb : ¬ (Value.slice ga gl.length gc).ownBlock = some hb := own_ne PV.hrow PV.grow (by decide) rfl
        have bhb : Blk W3 hb 73 := (own_blkD PV.hrow rfl).1.turn T' nhb
        have ntb : tb ≠ hb := b3.ne bhb (by decide)
        have zV : V.cell? ⟨hb, k * 3 + 2, none⟩ = some (.slice x.ra x.rn x.rc) := PV.hcell hxk.out 2 _ rfl
        have zD := zV
        rw [hV] at zD
        have zV3 : W3.cell? ⟨hb, k * 3 + 2, none⟩ = some (.slice x.ra x.rn x.rc) := T'.cell nhb zV
        have zV4 : (W3.setCell ⟨tb, 3, none⟩ v').cell? ⟨hb, k * 3 + 2, none⟩ = some (.slice x.ra x.rn x.rc) := (cell_far _ _ _ _ _ _ ntb).trans zV3
        have yV : V.cell? ⟨tb, 3, none⟩ = some (.slice ga gl.length gc) := PV.tell 3 _ rfl
        have y3 := c3
        have fz3 : W3.frozen? ⟨tb, 3, none⟩ = false := b3.fz _
        have FIN := Lib.hid (STEP.out v' _ (by rw [HE.out, HG.out]; exact PF))
        obtain ⟨a', c', rfl, -⟩ := own_slice own'
        generalize (gl ++ x.f.refs).length = ng' at *
        have RUN1 := Lib.hid hrun
        clear TV PV fV gx hrun own' T' PF c3 b3 nhb bhb ntb P
        refine wp_region_held_drew (S := (fun w' => w'.cell? ⟨hb, k * 3 + 2, none⟩ = some (.slice x.ra x.rn x.rc))) (by kernel_rfl) ?hs0 (fun hS0 => ?_)
        case hs0 => ((try dsimp only); first | with_reducible exact zD | with_reducible exact zV | with_reducible exact zV3 | with_reducible exact zV4)
        rw [← hV] at hS0 ⊢
        clear hV
        refine wpAnyH_take (i := 0) (oi := { dst := some 46, op := Op.fieldAddr 58 (Operand.tmp 9) 1, type := 0, pos := "ref.go:62", after := #[], guard := none }) (v := ?_) rfl (by kernel_rfl) (by kernel_rfl) (by kernel_rfl) (fun _ _ _ h => h) (Or.inl ⟨by rfl, ?hy1⟩) hS0 ?_
        case hy1 => (intro w hSw; (try dsimp only at hSw); go_simp; try with_reducible rfl)
        try simp only [Act.put, List.setIfInBounds_toArray, List.set_cons_zero, List.set_cons_succ]
        refine wpAnyH_take (i := 2) (oi := { dst := some 48, op := Op.move (Operand.tmp 10), type := 66, pos := "ref.go:62", after := #[], guard := none }) (v := ?_) rfl (by kernel_rfl) (by kernel_rfl) (by kernel_rfl) (fun _ _ _ h => h) (Or.inl ⟨by rfl, ?hy2⟩) hS0 ?_
        case hy2 => (intro w hSw; (try dsimp only at hSw); go_simp; try with_reducible rfl)
        try simp only [Act.put, List.setIfInBounds_toArray, List.set_cons_zero, List.set_cons_succ]
        refine wpAnyH_take (i := 3) (oi := { dst := some 49, op := Op.move (Operand.tmp 11), type := 3, pos := "ref.go:62", after := #[], guard := none }) (v := ?_) rfl (by kernel_rfl) (by kernel_rfl) (by kernel_rfl) (fun _ _ _ h => h) (Or.inl ⟨by rfl, ?hy3⟩) hS0 ?_
        case hy3 => (intro w hSw; (try dsimp only at hSw); go_simp; try with_reducible rfl)
        try simp only [Act.put, List.setIfInBounds_toArray, List.set_cons_zero, List.set_cons_succ]
        refine wpAnyH_take (i := 4) (oi := { dst := some 50, op := Op.indexAddr 66 (Operand.tmp 48) (Operand.tmp 49), type := 0, pos := "ref.go:62", after := #[{ on := 2, ground := Ground.data }, { on := 3, ground := Ground.data }], guard := none }) (v := ?_) rfl (by kernel_rfl) (by kernel_rfl) (by kernel_rfl) (fun _ _ _ h => h) (Or.inl ⟨by rfl, ?hy4⟩) hS0 ?_
        case hy4 => (intro w hSw; (try dsimp only at hSw); go_simp; try with_reducible rfl)
        try simp only [Act.put, List.setIfInBounds_toArray, List.set_cons_zero, List.set_cons_succ]
        refine wpAnyH_take (i := 5) (oi := { dst := some 51, op := Op.fieldAddr 73 (Operand.tmp 50) 1, type := 0, pos := "ref.go:62", after := #[{ on := 4, ground := Ground.data }], guard := none }) (v := ?_) rfl (by kernel_rfl) (by kernel_rfl) (by kernel_rfl) (fun _ _ _ h => h) (Or.inl ⟨by rfl, ?hy5⟩) hS0 ?_
        case hy5 => (intro w hSw; (try dsimp only at hSw); go_simp; try with_reducible rfl)
        try simp only [Act.put, List.setIfInBounds_toArray, List.set_cons_zero, List.set_cons_succ]
        refine wpAnyH_take (i := 6) (oi := { dst := some 52, op := Op.fieldAddr 71 (Operand.tmp 51) 1, type := 0, pos := "ref.go:62", after := #[{ on := 5, ground := Ground.data }], guard := none }) (v := ?_) rfl (by kernel_rfl) (by kernel_rfl) (by kernel_rfl) (fun _ _ _ h => h) (Or.inl ⟨by rfl, ?hy6⟩) hS0 ?_
        case hy6 => (intro w hSw; (try dsimp only at hSw); go_simp; try with_reducible rfl)
        try simp only [Act.put, List.setIfInBounds_toArray, List.set_cons_zero, List.set_cons_succ]
        refine wpAnyH_take (i := 7) (oi := { dst := some 53, op := Op.load 54 (Operand.tmp 52), type := 54, pos := "ref.go:62", after := #[{ on := 6, ground := Ground.data }], guard := none }) (v := ?_) rfl (by kernel_rfl) (by kernel_rfl) (by kernel_rfl) (fun _ _ _ h => h) (Or.inl ⟨by rfl, ?hy7⟩) hS0 ?_
        case hy7 => (intro w hSw; (try dsimp only at hSw); go_simp; try with_reducible rfl)
        try simp only [Act.put, List.setIfInBounds_toArray, List.set_cons_zero, List.set_cons_succ]
        refine wpAnyH_ready (rs := [1]) (by kernel_rfl) (by simp) ?_
        refine AllReadyH.cons (o := { dst := some 47, op := Op.load 54 (Operand.tmp 46), type := 54, pos := "ref.go:62", after := #[{ on := 0, ground := Ground.data }], guard := none }) rfl (fun K hK => ?_) ?_
        · go_simp
          refine hK.out _ _ ?hs8 (fun hS8 => ?_)
          case hs8 => ((try dsimp only); first | with_reducible exact zD | with_reducible exact zV | with_reducible exact zV3 | with_reducible exact zV4)
          clear hK K hS0
          refine wpAnyH_ready (rs := [8]) (by kernel_rfl) (by simp) ?_
          refine AllReadyH.cons (o := { dst := some 54, op := Op.call { callee := Callee.builtin Builtin.append, args := #[Operand.tmp 47, Operand.tmp 53], argTypes := #[54, 54] }, type := 54, pos := "ref.go:62", after := #[{ on := 1, ground := Ground.data }, { on := 7, ground := Ground.data }], guard := none }) rfl (fun K hK => ?_) ?_
          · refine rs_append_run (by rfl) _ _ _ (by rfl) (by rfl) (by rfl) RUN1.out ?_
            refine hK.out _ _ ?hs9 (fun hS9 => ?_)
            case hs9 => ((try dsimp only); first | with_reducible exact zD | with_reducible exact zV | with_reducible exact zV3 | with_reducible exact zV4)
            clear hK K hS8
            refine wpAnyH_take (i := 9) (oi := { dst := some 55, op := Op.fieldAddr 58 (Operand.tmp 9) 1, type := 0, pos := "ref.go:62", after := #[{ on := 0, ground := Ground.phase }, { on := 1, ground := Ground.phase }, { on := 2, ground := Ground.phase }, { on := 3, ground := Ground.phase }, { on := 4, ground := Ground.phase }, { on := 5, ground := Ground.phase }, { on := 6, ground := Ground.phase }, { on := 7, ground := Ground.phase }, { on := 8, ground := Ground.phase }], guard := none }) (v := ?_) rfl (by kernel_rfl) (by kernel_rfl) (by kernel_rfl) (fun _ _ _ h => h) (Or.inl ⟨by rfl, ?hy10⟩) hS9 ?_
            case hy10 => (intro w hSw; (try dsimp only at hSw); go_simp; try with_reducible rfl)
            try simp only [Act.put, List.setIfInBounds_toArray, List.set_cons_zero, List.set_cons_succ]
            refine wpAnyH_ready (rs := [10]) (by kernel_rfl) (by simp) ?_
            refine AllReadyH.cons (o := { dst := none, op := Op.store 54 (Operand.tmp 55) (Operand.tmp 54), type := 0, pos := "ref.go:62", after := #[{ on := 9, ground := Ground.data }, { on := 8, ground := Ground.data }, { on := 8, ground := Ground.chain }, { on := 0, ground := Ground.phase }, { on := 1, ground := Ground.phase }, { on := 2, ground := Ground.phase }, { on := 3, ground := Ground.phase }, { on := 4, ground := Ground.phase }, { on := 5, ground := Ground.phase }, { on := 6, ground := Ground.phase }, { on := 7, ground := Ground.phase }, { on := 8, ground := Ground.phase }], guard := none }) rfl (fun K hK => ?_) ?_
            · go_simp
              refine hK.out _ _ ?hs11 (fun hS11 => ?_)
              case hs11 => ((try dsimp only); first | with_reducible exact zD | with_reducible exact zV | with_reducible exact zV3 | with_reducible exact zV4)
              clear hK K hS9
              refine wpAnyH_done (by kernel_rfl) ?_ _
              clear zD zV zV3 zV4 yV y3 fz3
              go_wp2_with fail
              go_roundg (H.length - (k + 1))
              case measure => have := G.out.1; have := G.out.2; omega
              case rel => first | exact FIN.out | (rw [ek]; exact FIN.out)
            exact AllReadyH.nil
          exact AllReadyH.nil
        exact AllReadyH.nil
      · rw [hp]
        obtain ⟨P, hcell, fx, hgl40, hlen, hou⟩ := HP.out
        obtain ⟨va, vc, gq, ua, uc, rfl, y7, hbq, y1, y2, y3, hfr, -⟩ := P.doc.at hq
        rw [hqi] at y2 y3
        have q0 : (0 : Int) ≤ (q : Int) := Int.natCast_nonneg q
        have q1 : (q : Int) < (ids.length : Int) := Int.ofNat_lt.2 hq
        have q2 : decide ((q : Int) < 0) = false := decide_eq_false (Int.not_lt.2 q0)
        have elo : lostS S' x.id = lo := by unfold lostS; rw [hs]; rfl
        have erl : rowS S' x.id = l := by unfold rowS; rw [hs]; rfl
        rw [elo] at y3
        rw [erl] at y2
        clear hfr y1 hbq P hcell fx hgl40 hlen hou
        cases lo with
        | true =>
          have e1 := put_lost (ou := ou) hs
          have HE := Lib.hid e1.1
          have HG := Lib.hid e1.2
          clear hs hp e1 elo erl hq hqi
          go_upto_region 8 with fail
          clear y7 y2 y3 q0 q1 q2
          obtain ⟨P, _, _, hgl40, _, _⟩ := HP.out
          obtain ⟨V, hV⟩ : ∃ V, V = wr.drew := ⟨_, rfl⟩
          have TV : Turn (fun _ => False) wr V := by rw [hV]; exact (Turn.refl _ wr).drewN 1
          have PV := P.turns TV
          have fV := PV.hf x (List.mem_of_getElem? hxk.out)
          have gx : gl.length + x.f.refs.length ≤ 1000000 := by have := fV.r2; omega
          obtain ⟨v', W3, hrun, own', T', -⟩ := app_refsI PV.grow (refsin_row fV.refs) gx PV.sz 54
          obtain ⟨PF, c3, b3⟩ := PV.told T' own'
          have nhb : ¬ (Value.slice ga gl.length gc).ownBlock = some hb := own_ne PV.hrow PV.grow (by decide) rfl
          have bhb : Blk W3 hb 73 := (own_blkD PV.hrow rfl).1.turn T' nhb
          have ntb : tb ≠ hb := b3.ne bhb (by decide)
          have zV : V.cell? ⟨hb, k * 3 + 2, none⟩ = some (.slice x.ra x.rn x.rc) := PV.hcell hxk.out 2 _ rfl
          have zD := zV
          rw [hV] at zD
          have zV3 : W3.cell? ⟨hb, k * 3 + 2, none⟩ = some (.slice x.ra x.rn x.rc) := T'.cell nhb zV
          have zV4 : (W3.setCell ⟨tb, 3, none⟩ v').cell? ⟨hb, k * 3 + 2, none⟩ = some (.slice x.ra x.rn x.rc) := (cell_far _ _ _ _ _ _ ntb).trans zV3
          have yV : V.cell? ⟨tb, 3, none⟩ = some (.slice ga gl.length gc) := PV.tell 3 _ rfl
          have y3 := c3
          have fz3 : W3.frozen? ⟨tb, 3, none⟩ = false := b3.fz _
          have FIN := Lib.hid (STEP.out v' _ (by rw [HE.out, HG.out]; exact PF))
          obtain ⟨a', c', rfl, -⟩ := own_slice own'
          generalize (gl ++ x.f.refs).length = ng' at *
          have RUN1 := Lib.hid hrun
          clear TV PV fV gx hrun own' T' PF c3 b3 nhb bhb ntb P
          refine wp_region_held_drew (S := (fun w' => w'.cell? ⟨hb, k * 3 + 2, none⟩ = some (.slice x.ra x.rn x.rc))) (by kernel_rfl) ?hs0 (fun hS0 => ?_)
          case hs0 => ((try dsimp only); first | with_reducible exact zD | with_reducible exact zV | with_reducible exact zV3 | with_reducible exact zV4)
          rw [← hV] at hS0 ⊢
          clear hV
          refine wpAnyH_take (i := 0) (oi := { dst := some 46, op := Op.fieldAddr 58 (Operand.tmp 9) 1, type := 0, pos := "ref.go:62", after := #[], guard := none }) (v := ?_) rfl (by kernel_rfl) (by kernel_rfl) (by kernel_rfl) (fun _ _ _ h => h) (Or.inl ⟨by rfl, ?hy1⟩) hS0 ?_
          case hy1 => (intro w hSw; (try dsimp only at hSw); go_simp; try with_reducible rfl)
          try simp only [Act.put, List.setIfInBounds_toArray, List.set_cons_zero, List.set_cons_succ]
          refine wpAnyH_take (i := 2) (oi := { dst := some 48, op := Op.move (Operand.tmp 10), type := 66, pos := "ref.go:62", after := #[], guard := none }) (v := ?_) rfl (by kernel_rfl) (by kernel_rfl) (by kernel_rfl) (fun _ _ _ h => h) (Or.inl ⟨by rfl, ?hy2⟩) hS0 ?_
          case hy2 => (intro w hSw; (try dsimp only at hSw); go_simp; try with_reducible rfl)
          try simp only [Act.put, List.setIfInBounds_toArray, List.set_cons_zero, List.set_cons_succ]
          refine wpAnyH_take (i := 3) (oi := { dst := some 49, op := Op.move (Operand.tmp 11), type := 3, pos := "ref.go:62", after := #[], guard := none }) (v := ?_) rfl (by kernel_rfl) (by kernel_rfl) (by kernel_rfl) (fun _ _ _ h => h) (Or.inl ⟨by rfl, ?hy3⟩) hS0 ?_
          case hy3 => (intro w hSw; (try dsimp only at hSw); go_simp; try with_reducible rfl)
          try simp only [Act.put, List.setIfInBounds_toArray, List.set_cons_zero, List.set_cons_succ]
          refine wpAnyH_take (i := 4) (oi := { dst := some 50, op := Op.indexAddr 66 (Operand.tmp 48) (Operand.tmp 49), type := 0, pos := "ref.go:62", after := #[{ on := 2, ground := Ground.data }, { on := 3, ground := Ground.data }], guard := none }) (v := ?_) rfl (by kernel_rfl) (by kernel_rfl) (by kernel_rfl) (fun _ _ _ h => h) (Or.inl ⟨by rfl, ?hy4⟩) hS0 ?_
          case hy4 => (intro w hSw; (try dsimp only at hSw); go_simp; try with_reducible rfl)
          try simp only [Act.put, List.setIfInBounds_toArray, List.set_cons_zero, List.set_cons_succ]
          refine wpAnyH_take (i := 5) (oi := { dst := some 51, op := Op.fieldAddr 73 (Operand.tmp 50) 1, type := 0, pos := "ref.go:62", after := #[{ on := 4, ground := Ground.data }], guard := none }) (v := ?_) rfl (by kernel_rfl) (by kernel_rfl) (by kernel_rfl) (fun _ _ _ h => h) (Or.inl ⟨by rfl, ?hy5⟩) hS0 ?_
          case hy5 => (intro w hSw; (try dsimp only at hSw); go_simp; try with_reducible rfl)
          try simp only [Act.put, List.setIfInBounds_toArray, List.set_cons_zero, List.set_cons_succ]
          refine wpAnyH_take (i := 6) (oi := { dst := some 52, op := Op.fieldAddr 71 (Operand.tmp 51) 1, type := 0, pos := "ref.go:62", after := #[{ on := 5, ground := Ground.data }], guard := none }) (v := ?_) rfl (by kernel_rfl) (by kernel_rfl) (by kernel_rfl) (fun _ _ _ h => h) (Or.inl ⟨by rfl, ?hy6⟩) hS0 ?_
          case hy6 => (intro w hSw; (try dsimp only at hSw); go_simp; try with_reducible rfl)
          try simp only [Act.put, List.setIfInBounds_toArray, List.set_cons_zero, List.set_cons_succ]
          refine wpAnyH_take (i := 7) (oi := { dst := some 53, op := Op.load 54 (Operand.tmp 52), type := 54, pos := "ref.go:62", after := #[{ on := 6, ground := Ground.data }], guard := none }) (v := ?_) rfl (by kernel_rfl) (by kernel_rfl) (by kernel_rfl) (fun _ _ _ h => h) (Or.inl ⟨by rfl, ?hy7⟩) hS0 ?_
          case hy7 => (intro w hSw; (try dsimp only at hSw); go_simp; try with_reducible rfl)
          try simp only [Act.put, List.setIfInBounds_toArray, List.set_cons_zero, List.set_cons_succ]
          refine wpAnyH_ready (rs := [1]) (by kernel_rfl) (by simp) ?_
          refine AllReadyH.cons (o := { dst := some 47, op := Op.load 54 (Operand.tmp 46), type := 54, pos := "ref.go:62", after := #[{ on := 0, ground := Ground.data }], guard := none }) rfl (fun K hK => ?_) ?_
          · go_simp
            refine hK.out _ _ ?hs8 (fun hS8 => ?_)
            case hs8 => ((try dsimp only); first | with_reducible exact zD | with_reducible exact zV | with_reducible exact zV3 | with_reducible exact zV4)
            clear hK K hS0
            refine wpAnyH_ready (rs := [8]) (by kernel_rfl) (by simp) ?_
            refine AllReadyH.cons (o := { dst := some 54, op := Op.call { callee := Callee.builtin Builtin.append, args := #[Operand.tmp 47, Operand.tmp 53], argTypes := #[54, 54] }, type := 54, pos := "ref.go:62", after := #[{ on := 1, ground := Ground.data }, { on := 7, ground := Ground.data }], guard := none }) rfl (fun K hK => ?_) ?_
            · refine rs_append_run (by rfl) _ _ _ (by rfl) (by rfl) (by rfl) RUN1.out ?_
              refine hK.out _ _ ?hs9 (fun hS9 => ?_)
              case hs9 => ((try dsimp only); first | with_reducible exact zD | with_reducible exact zV | with_reducible exact zV3 | with_reducible exact zV4)
              clear hK K hS8
              refine wpAnyH_take (i := 9) (oi := { dst := some 55, op := Op.fieldAddr 58 (Operand.tmp 9) 1, type := 0, pos := "ref.go:62", after := #[{ on := 0, ground := Ground.phase }, { on := 1, ground := Ground.phase }, { on := 2, ground := Ground.phase }, { on := 3, ground := Ground.phase }, { on := 4, ground := Ground.phase }, { on := 5, ground := Ground.phase }, { on := 6, ground := Ground.phase }, { on := 7, ground := Ground.phase }, { on := 8, ground := Ground.phase }], guard := none }) (v := ?_) rfl (by kernel_rfl) (by kernel_rfl) (by kernel_rfl) (fun _ _ _ h => h) (Or.inl ⟨by rfl, ?hy10⟩) hS9 ?_
              case hy10 => (intro w hSw; (try dsimp only at hSw); go_simp; try with_reducible rfl)
              try simp only [Act.put, List.setIfInBounds_toArray, List.set_cons_zero, List.set_cons_succ]
              refine wpAnyH_ready (rs := [10]) (by kernel_rfl) (by simp) ?_
              refine AllReadyH.cons (o := { dst := none, op := Op.store 54 (Operand.tmp 55) (Operand.tmp 54), type := 0, pos := "ref.go:62", after := #[{ on := 9, ground := Ground.data }, { on := 8, ground := Ground.data }, { on := 8, ground := Ground.chain }, { on := 0, ground := Ground.phase }, { on := 1, ground := Ground.phase }, { on := 2, ground := Ground.phase }, { on := 3, ground := Ground.phase }, { on := 4, ground := Ground.phase }, { on := 5, ground := Ground.phase }, { on := 6, ground := Ground.phase }, { on := 7, ground := Ground.phase }, { on := 8, ground := Ground.phase }], guard := none }) rfl (fun K hK => ?_) ?_
              · go_simp
                refine hK.out _ _ ?hs11 (fun hS11 => ?_)
                case hs11 => ((try dsimp only); first | with_reducible exact zD | with_reducible exact zV | with_reducible exact zV3 | with_reducible exact zV4)
                clear hK K hS9
                refine wpAnyH_done (by kernel_rfl) ?_ _
                clear zD zV zV3 zV4 yV y3 fz3
                go_wp2_with fail
                go_roundg (H.length - (k + 1))
                case measure => have := G.out.1; have := G.out.2; omega
                case rel => first | exact FIN.out | (rw [ek]; exact FIN.out)
              exact AllReadyH.nil
            exact AllReadyH.nil
          exact AllReadyH.nil
        | false =>
          have HQ := Lib.hid (And.intro hq (And.intro hqi (And.intro hs erl)))
          have y5 := HP.out.1.doc.c5
          clear hs hp elo erl hq hqi
          by_cases hfull : ou ≤ (l.length : Int)
          · have tf : decide (ou ≤ (l.length : Int)) = true := decide_eq_true hfull
            have e1 := put_full (ou := ou) HQ.out.2.2.1 hfull
            have HE := Lib.hid e1.1
            have HG := Lib.hid e1.2
            clear hfull e1
            go_upto_region 9 with fail
            go_quiet (fail)
            go_upto_region 10 with fail
            clear tf y5 y3 y2 q2
            obtain ⟨P, _, fx, hgl40, _, _⟩ := HP.out
            have PQ := P.turns ((Turn.refl (fun _ => False) wr).drewN nq)
            have y7q : (wr.drewN nq).cell? ⟨r, 7, none⟩ = some (.slice (some ⟨gq, 0, none⟩) ids.length vc) := y7
            clear P y7 fx
            generalize wr.drewN nq = wd at *
            obtain ⟨P, fzq, cq⟩ := PQ.lose y7q HQ.out.1 HQ.out.2.1 HQ.out.2.2.1
            have P := Lib.hid P
            clear PQ
            go_upto_region 11 with fail
            clear fzq cq y7q q0 q1
            generalize wd.setCell ⟨gq, q * 3 + 2, none⟩ (.bool true) = we at *
            have P := P.out
            obtain ⟨V, hV⟩ : ∃ V, V = we.drew := ⟨_, rfl⟩
            have TV : Turn (fun _ => False) we V := by rw [hV]; exact (Turn.refl _ we).drewN 1
            have PV := P.turns TV
            have fV := PV.hf x (List.mem_of_getElem? hxk.out)
            have gx : gl.length + x.f.refs.length ≤ 1000000 := by have := fV.r2; omega
            obtain ⟨v', W3, hrun, own', T', -⟩ := app_refsI PV.grow (refsin_row fV.refs) gx PV.sz 54
            obtain ⟨PF, c3, b3⟩ := PV.told T' own'
            have nhb : ¬ (Value.slice ga gl.length gc).ownBlock = some hb := own_ne PV.hrow PV.grow (by decide) rfl
            have bhb : Blk W3 hb 73 := (own_blkD PV.hrow rfl).1.turn T' nhb
            have ntb : tb ≠ hb := b3.ne bhb (by decide)
            have zV : V.cell? ⟨hb, k * 3 + 2, none⟩ = some (.slice x.ra x.rn x.rc) := PV.hcell hxk.out 2 _ rfl
            have zD := zV
            rw [hV] at zD
            have zV3 : W3.cell? ⟨hb, k * 3 + 2, none⟩ = some (.slice x.ra x.rn x.rc) := T'.cell nhb zV
            have zV4 : (W3.setCell ⟨tb, 3, none⟩ v').cell? ⟨hb, k * 3 + 2, none⟩ = some (.slice x.ra x.rn x.rc) := (cell_far _ _ _ _ _ _ ntb).trans zV3
            have yV : V.cell? ⟨tb, 3, none⟩ = some (.slice ga gl.length gc) := PV.tell 3 _ rfl
            have y3 := c3
            have fz3 : W3.frozen? ⟨tb, 3, none⟩ = false := b3.fz _
            have FIN := Lib.hid (STEP.out v' _ (by rw [HE.out, HG.out]; exact PF))
            obtain ⟨a', c', rfl, -⟩ := own_slice own'
            generalize (gl ++ x.f.refs).length = ng' at *
            have RUN1 := Lib.hid hrun
            clear TV PV fV gx hrun own' T' PF c3 b3 nhb bhb ntb P
            refine wp_region_held_drew (S := (fun w' => w'.cell? ⟨hb, k * 3 + 2, none⟩ = some (.slice x.ra x.rn x.rc))) (by kernel_rfl) ?hs0 (fun hS0 => ?_)
            case hs0 => ((try dsimp only); first | with_reducible exact zD | with_reducible exact zV | with_reducible exact zV3 | with_reducible exact zV4)
            rw [← hV] at hS0 ⊢
            clear hV
            refine wpAnyH_take (i := 0) (oi := { dst := some 78, op := Op.fieldAddr 58 (Operand.tmp 9) 1, type := 0, pos := "ref.go:65", after := #[], guard := none }) (v := ?_) rfl (by kernel_rfl) (by kernel_rfl) (by kernel_rfl) (fun _ _ _ h => h) (Or.inl ⟨by rfl, ?hy1⟩) hS0 ?_
            case hy1 => (intro w hSw; (try dsimp only at hSw); go_simp; try with_reducible rfl)
            try simp only [Act.put, List.setIfInBounds_toArray, List.set_cons_zero, List.set_cons_succ]
            refine wpAnyH_take (i := 2) (oi := { dst := some 80, op := Op.move (Operand.tmp 10), type := 66, pos := "ref.go:65", after := #[], guard := none }) (v := ?_) rfl (by kernel_rfl) (by kernel_rfl) (by kernel_rfl) (fun _ _ _ h => h) (Or.inl ⟨by rfl, ?hy2⟩) hS0 ?_
            case hy2 => (intro w hSw; (try dsimp only at hSw); go_simp; try with_reducible rfl)
            try simp only [Act.put, List.setIfInBounds_toArray, List.set_cons_zero, List.set_cons_succ]
            refine wpAnyH_take (i := 3) (oi := { dst := some 81, op := Op.move (Operand.tmp 11), type := 3, pos := "ref.go:65", after := #[], guard := none }) (v := ?_) rfl (by kernel_rfl) (by kernel_rfl) (by kernel_rfl) (fun _ _ _ h => h) (Or.inl ⟨by rfl, ?hy3⟩) hS0 ?_
            case hy3 => (intro w hSw; (try dsimp only at hSw); go_simp; try with_reducible rfl)
            try simp only [Act.put, List.setIfInBounds_toArray, List.set_cons_zero, List.set_cons_succ]
            refine wpAnyH_take (i := 4) (oi := { dst := some 82, op := Op.indexAddr 66 (Operand.tmp 80) (Operand.tmp 81), type := 0, pos := "ref.go:65", after := #[{ on := 2, ground := Ground.data }, { on := 3, ground := Ground.data }], guard := none }) (v := ?_) rfl (by kernel_rfl) (by kernel_rfl) (by kernel_rfl) (fun _ _ _ h => h) (Or.inl ⟨by rfl, ?hy4⟩) hS0 ?_
            case hy4 => (intro w hSw; (try dsimp only at hSw); go_simp; try with_reducible rfl)
            try simp only [Act.put, List.setIfInBounds_toArray, List.set_cons_zero, List.set_cons_succ]
            refine wpAnyH_take (i := 5) (oi := { dst := some 83, op := Op.fieldAddr 73 (Operand.tmp 82) 1, type := 0, pos := "ref.go:65", after := #[{ on := 4, ground := Ground.data }], guard := none }) (v := ?_) rfl (by kernel_rfl) (by kernel_rfl) (by kernel_rfl) (fun _ _ _ h => h) (Or.inl ⟨by rfl, ?hy5⟩) hS0 ?_
            case hy5 => (intro w hSw; (try dsimp only at hSw); go_simp; try with_reducible rfl)
            try simp only [Act.put, List.setIfInBounds_toArray, List.set_cons_zero, List.set_cons_succ]
            refine wpAnyH_take (i := 6) (oi := { dst := some 84, op := Op.fieldAddr 71 (Operand.tmp 83) 1, type := 0, pos := "ref.go:65", after := #[{ on := 5, ground := Ground.data }], guard := none }) (v := ?_) rfl (by kernel_rfl) (by kernel_rfl) (by kernel_rfl) (fun _ _ _ h => h) (Or.inl ⟨by rfl, ?hy6⟩) hS0 ?_
            case hy6 => (intro w hSw; (try dsimp only at hSw); go_simp; try with_reducible rfl)
            try simp only [Act.put, List.setIfInBounds_toArray, List.set_cons_zero, List.set_cons_succ]
            refine wpAnyH_take (i := 7) (oi := { dst := some 85, op := Op.load 54 (Operand.tmp 84), type := 54, pos := "ref.go:65", after := #[{ on := 6, ground := Ground.data }], guard := none }) (v := ?_) rfl (by kernel_rfl) (by kernel_rfl) (by kernel_rfl) (fun _ _ _ h => h) (Or.inl ⟨by rfl, ?hy7⟩) hS0 ?_
            case hy7 => (intro w hSw; (try dsimp only at hSw); go_simp; try with_reducible rfl)
            try simp only [Act.put, List.setIfInBounds_toArray, List.set_cons_zero, List.set_cons_succ]
            refine wpAnyH_ready (rs := [1]) (by kernel_rfl) (by simp) ?_
            refine AllReadyH.cons (o := { dst := some 79, op := Op.load 54 (Operand.tmp 78), type := 54, pos := "ref.go:65", after := #[{ on := 0, ground := Ground.data }], guard := none }) rfl (fun K hK => ?_) ?_
            · go_simp
              refine hK.out _ _ ?hs8 (fun hS8 => ?_)
              case hs8 => ((try dsimp only); first | with_reducible exact zD | with_reducible exact zV | with_reducible exact zV3 | with_reducible exact zV4)
              clear hK K hS0
              refine wpAnyH_ready (rs := [8]) (by kernel_rfl) (by simp) ?_
              refine AllReadyH.cons (o := { dst := some 86, op := Op.call { callee := Callee.builtin Builtin.append, args := #[Operand.tmp 79, Operand.tmp 85], argTypes := #[54, 54] }, type := 54, pos := "ref.go:65", after := #[{ on := 1, ground := Ground.data }, { on := 7, ground := Ground.data }], guard := none }) rfl (fun K hK => ?_) ?_
              · refine rs_append_run (by rfl) _ _ _ (by rfl) (by rfl) (by rfl) RUN1.out ?_
                refine hK.out _ _ ?hs9 (fun hS9 => ?_)
                case hs9 => ((try dsimp only); first | with_reducible exact zD | with_reducible exact zV | with_reducible exact zV3 | with_reducible exact zV4)
                clear hK K hS8
                refine wpAnyH_take (i := 9) (oi := { dst := some 87, op := Op.fieldAddr 58 (Operand.tmp 9) 1, type := 0, pos := "ref.go:65", after := #[{ on := 0, ground := Ground.phase }, { on := 1, ground := Ground.phase }, { on := 2, ground := Ground.phase }, { on := 3, ground := Ground.phase }, { on := 4, ground := Ground.phase }, { on := 5, ground := Ground.phase }, { on := 6, ground := Ground.phase }, { on := 7, ground := Ground.phase }, { on := 8, ground := Ground.phase }], guard := none }) (v := ?_) rfl (by kernel_rfl) (by kernel_rfl) (by kernel_rfl) (fun _ _ _ h => h) (Or.inl ⟨by rfl, ?hy10⟩) hS9 ?_
                case hy10 => (intro w hSw; (try dsimp only at hSw); go_simp; try with_reducible rfl)
                try simp only [Act.put, List.setIfInBounds_toArray, List.set_cons_zero, List.set_cons_succ]
                refine wpAnyH_ready (rs := [10]) (by kernel_rfl) (by simp) ?_
                refine AllReadyH.cons (o := { dst := none, op := Op.store 54 (Operand.tmp 87) (Operand.tmp 86), type := 0, pos := "ref.go:65", after := #[{ on := 9, ground := Ground.data }, { on := 8, ground := Ground.data }, { on := 8, ground := Ground.chain }, { on := 0, ground := Ground.phase }, { on := 1, ground := Ground.phase }, { on := 2, ground := Ground.phase }, { on := 3, ground := Ground.phase }, { on := 4, ground := Ground.phase }, { on := 5, ground := Ground.phase }, { on := 6, ground := Ground.phase }, { on := 7, ground := Ground.phase }, { on := 8, ground := Ground.phase }], guard := none }) rfl (fun K hK => ?_) ?_
                · go_simp
                  refine hK.out _ _ ?hs11 (fun hS11 => ?_)
                  case hs11 => ((try dsimp only); first | with_reducible exact zD | with_reducible exact zV | with_reducible exact zV3 | with_reducible exact zV4)
                  clear hK K hS9
                  refine wpAnyH_done (by kernel_rfl) ?_ _
                  clear zD zV zV3 zV4 yV y3 fz3
                  go_wp2_with fail
                  go_roundg (H.length - (k + 1))
                  case measure => have := G.out.1; have := G.out.2; omega
                  case rel => first | exact FIN.out | (rw [ek]; exact FIN.out)
                exact AllReadyH.nil
              exact AllReadyH.nil
            exact AllReadyH.nil
          · have tf : decide (ou ≤ (l.length : Int)) = false := decide_eq_false hfull
            have e1 := put_yes (ou := ou) HQ.out.2.2.1 hfull
            have HE := Lib.hid e1.1
            have HG := Lib.hid e1.2
            clear hfull e1
            go_upto_region 9 with fail
            go_quiet (fail)
            go_upto_region 12 with fail
            clear tf y5 y3 q2
            obtain ⟨P, _, _, _, hlen, _⟩ := HP.out
            have PQ := P.turns ((Turn.refl (fun _ => False) wr).drewN nq)
            have y7q : (wr.drewN nq).cell? ⟨r, 7, none⟩ = some (.slice (some ⟨gq, 0, none⟩) ids.length vc) := y7
            have y2q : (wr.drewN nq).cell? ⟨gq, q * 3 + 1, none⟩ = some (.slice ua l.length uc) := y2
            clear P y7 y2
            generalize wr.drewN nq = wd at *
            obtain ⟨V, hV⟩ : ∃ V, V = wd.drew := ⟨_, rfl⟩
            have TV : Turn (fun _ => False) wd V := by rw [hV]; exact (Turn.refl _ wd).drewN 1
            have PV := PQ.turns TV
            have y7V := TV.cell id y7q
            have yV := TV.cell id y2q
            obtain ⟨a', c', W3, hrun, PF, y3, fz3, y73, ngr, hx3⟩ := PV.putRow y7V HQ.out.1 HQ.out.2.1 HQ.out.2.2.1 (hlen _ _ HQ.out.2.2.1) yV hxk.out
            have ngh : gq ≠ hb := by
              obtain ⟨U, X⟩ := PV.docx y7V
              exact X.b91.ne (own_blkD PV.hrow rfl).1 (by decide)
            have zV : V.cell? ⟨r, 7, none⟩ = some (.slice (some ⟨gq, 0, none⟩) ids.length vc) ∧ V.cell? ⟨hb, k * 3 + 1, none⟩ = some (.slice x.sa x.sn x.sc) ∧ V.cell? ⟨hb, k * 3 + 2, none⟩ = some (.slice x.ra x.rn x.rc) := ⟨y7V, PV.hcell hxk.out 1 _ rfl, PV.hcell hxk.out 2 _ rfl⟩
            have zD := zV
            rw [hV] at zD
            have zV1 : (V.alloc (.cells #[.slice x.sa x.sn x.sc, .slice x.ra x.rn x.rc] 71)).cell? ⟨r, 7, none⟩ = some (.slice (some ⟨gq, 0, none⟩) ids.length vc) ∧ (V.alloc (.cells #[.slice x.sa x.sn x.sc, .slice x.ra x.rn x.rc] 71)).cell? ⟨hb, k * 3 + 1, none⟩ = some (.slice x.sa x.sn x.sc) ∧ (V.alloc (.cells #[.slice x.sa x.sn x.sc, .slice x.ra x.rn x.rc] 71)).cell? ⟨hb, k * 3 + 2, none⟩ = some (.slice x.ra x.rn x.rc) := ⟨past zV.1, past zV.2.1, past zV.2.2⟩
            have yV1 : (V.alloc (.cells #[.slice x.sa x.sn x.sc, .slice x.ra x.rn x.rc] 71)).cell? ⟨gq, q * 3 + 1, none⟩ = some (.slice ua l.length uc) := past yV
            have zV3 : W3.cell? ⟨r, 7, none⟩ = some (.slice (some ⟨gq, 0, none⟩) ids.length vc) ∧ W3.cell? ⟨hb, k * 3 + 1, none⟩ = some (.slice x.sa x.sn x.sc) ∧ W3.cell? ⟨hb, k * 3 + 2, none⟩ = some (.slice x.ra x.rn x.rc) := ⟨y73, hx3 1 _ rfl, hx3 2 _ rfl⟩
            have zV4 : (W3.setCell ⟨gq, q * 3 + 1, none⟩ (.slice a' (l.length + 1) c')).cell? ⟨r, 7, none⟩ = some (.slice (some ⟨gq, 0, none⟩) ids.length vc) ∧ (W3.setCell ⟨gq, q * 3 + 1, none⟩ (.slice a' (l.length + 1) c')).cell? ⟨hb, k * 3 + 1, none⟩ = some (.slice x.sa x.sn x.sc) ∧ (W3.setCell ⟨gq, q * 3 + 1, none⟩ (.slice a' (l.length + 1) c')).cell? ⟨hb, k * 3 + 2, none⟩ = some (.slice x.ra x.rn x.rc) := ⟨(cell_far _ _ _ _ _ _ ngr).trans zV3.1, (cell_far _ _ _ _ _ _ ngh).trans zV3.2.1, (cell_far _ _ _ _ _ _ ngh).trans zV3.2.2⟩
            have FIN := Lib.hid (STEP.out (.slice ga gl.length gc) _ (by rw [HE.out, HG.out, List.append_nil]; exact PF))
            have RUN1 := Lib.hid hrun
            clear TV PV PQ hrun PF y73 ngr hx3 ngh y7q y2q y7V hlen STEP HE HG HQ HP hxk
            refine wp_region_held_drew (S := (fun w' => w'.cell? ⟨r, 7, none⟩ = some (.slice (some ⟨gq, 0, none⟩) ids.length vc) ∧ w'.cell? ⟨hb, k * 3 + 1, none⟩ = some (.slice x.sa x.sn x.sc) ∧ w'.cell? ⟨hb, k * 3 + 2, none⟩ = some (.slice x.ra x.rn x.rc))) (by kernel_rfl) ?hs0 (fun hS0 => ?_)
            case hs0 => ((try dsimp only); first | with_reducible exact zD | with_reducible exact zV | with_reducible exact zV1 | with_reducible exact zV3 | with_reducible exact zV4)
            rw [← hV] at hS0 ⊢
            clear hV
            refine wpAnyH_take (i := 0) (oi := { dst := some 88, op := Op.move (Operand.tmp 0), type := 30, pos := "ref.go:67", after := #[], guard := none }) (v := ?_) rfl (by kernel_rfl) (by kernel_rfl) (by kernel_rfl) (fun _ _ _ h => h) (Or.inl ⟨by rfl, ?hy1⟩) hS0 ?_
            case hy1 => (intro w hSw; (try dsimp only at hSw); go_simp; try with_reducible rfl)
            try simp only [Act.put, List.setIfInBounds_toArray, List.set_cons_zero, List.set_cons_succ]
            refine wpAnyH_take (i := 1) (oi := { dst := some 89, op := Op.nilCheck (Operand.tmp 88), type := 0, pos := "ref.go:67", after := #[{ on := 0, ground := Ground.data }], guard := none }) (v := ?_) rfl (by kernel_rfl) (by kernel_rfl) (by kernel_rfl) (fun _ _ _ h => h) (Or.inl ⟨by rfl, ?hy2⟩) hS0 ?_
            case hy2 => (intro w hSw; (try dsimp only at hSw); go_simp; try with_reducible rfl)
            try simp only [Act.put, List.setIfInBounds_toArray, List.set_cons_zero, List.set_cons_succ]
            refine wpAnyH_take (i := 2) (oi := { dst := some 90, op := Op.fieldAddr 33 (Operand.tmp 89) 1, type := 0, pos := "ref.go:67", after := #[{ on := 1, ground := Ground.data }], guard := none }) (v := ?_) rfl (by kernel_rfl) (by kernel_rfl) (by kernel_rfl) (fun _ _ _ h => h) (Or.inl ⟨by rfl, ?hy3⟩) hS0 ?_
            case hy3 => (intro w hSw; (try dsimp only at hSw); go_simp; try with_reducible rfl)
            try simp only [Act.put, List.setIfInBounds_toArray, List.set_cons_zero, List.set_cons_succ]
            refine wpAnyH_take (i := 3) (oi := { dst := some 91, op := Op.load 31 (Operand.tmp 90), type := 31, pos := "ref.go:67", after := #[{ on := 2, ground := Ground.data }], guard := none }) (v := ?_) rfl (by kernel_rfl) (by kernel_rfl) (by kernel_rfl) (fun _ _ _ h => h) (Or.inl ⟨by rfl, ?hy4⟩) hS0 ?_
            case hy4 => (intro w hSw; (try dsimp only at hSw); go_simp; try with_reducible rfl)
            try simp only [Act.put, List.setIfInBounds_toArray, List.set_cons_zero, List.set_cons_succ]
            refine wpAnyH_take (i := 4) (oi := { dst := some 92, op := Op.move (Operand.tmp 12), type := 3, pos := "ref.go:67", after := #[], guard := none }) (v := ?_) rfl (by kernel_rfl) (by kernel_rfl) (by kernel_rfl) (fun _ _ _ h => h) (Or.inl ⟨by rfl, ?hy5⟩) hS0 ?_
            case hy5 => (intro w hSw; (try dsimp only at hSw); go_simp; try with_reducible rfl)
            try simp only [Act.put, List.setIfInBounds_toArray, List.set_cons_zero, List.set_cons_succ]
            refine wpAnyH_take (i := 5) (oi := { dst := some 93, op := Op.move (Operand.tmp 0), type := 30, pos := "ref.go:67", after := #[], guard := none }) (v := ?_) rfl (by kernel_rfl) (by kernel_rfl) (by kernel_rfl) (fun _ _ _ h => h) (Or.inl ⟨by rfl, ?hy6⟩) hS0 ?_
            case hy6 => (intro w hSw; (try dsimp only at hSw); go_simp; try with_reducible rfl)
            try simp only [Act.put, List.setIfInBounds_toArray, List.set_cons_zero, List.set_cons_succ]
            refine wpAnyH_take (i := 6) (oi := { dst := some 94, op := Op.nilCheck (Operand.tmp 93), type := 0, pos := "ref.go:67", after := #[{ on := 5, ground := Ground.data }], guard := none }) (v := ?_) rfl (by kernel_rfl) (by kernel_rfl) (by kernel_rfl) (fun _ _ _ h => h) (Or.inl ⟨by rfl, ?hy7⟩) hS0 ?_
            case hy7 => (intro w hSw; (try dsimp only at hSw); go_simp; try with_reducible rfl)
            try simp only [Act.put, List.setIfInBounds_toArray, List.set_cons_zero, List.set_cons_succ]
            refine wpAnyH_take (i := 7) (oi := { dst := some 95, op := Op.fieldAddr 33 (Operand.tmp 94) 1, type := 0, pos := "ref.go:67", after := #[{ on := 6, ground := Ground.data }], guard := none }) (v := ?_) rfl (by kernel_rfl) (by kernel_rfl) (by kernel_rfl) (fun _ _ _ h => h) (Or.inl ⟨by rfl, ?hy8⟩) hS0 ?_
            case hy8 => (intro w hSw; (try dsimp only at hSw); go_simp; try with_reducible rfl)
            try simp only [Act.put, List.setIfInBounds_toArray, List.set_cons_zero, List.set_cons_succ]
            refine wpAnyH_take (i := 8) (oi := { dst := some 96, op := Op.load 31 (Operand.tmp 95), type := 31, pos := "ref.go:67", after := #[{ on := 7, ground := Ground.data }], guard := none }) (v := ?_) rfl (by kernel_rfl) (by kernel_rfl) (by kernel_rfl) (fun _ _ _ h => h) (Or.inl ⟨by rfl, ?hy9⟩) hS0 ?_
            case hy9 => (intro w hSw; (try dsimp only at hSw); go_simp; try with_reducible rfl)
            try simp only [Act.put, List.setIfInBounds_toArray, List.set_cons_zero, List.set_cons_succ]
            refine wpAnyH_take (i := 9) (oi := { dst := some 97, op := Op.move (Operand.tmp 12), type := 3, pos := "ref.go:67", after := #[], guard := none }) (v := ?_) rfl (by kernel_rfl) (by kernel_rfl) (by kernel_rfl) (fun _ _ _ h => h) (Or.inl ⟨by rfl, ?hy10⟩) hS0 ?_
            case hy10 => (intro w hSw; (try dsimp only at hSw); go_simp; try with_reducible rfl)
            try simp only [Act.put, List.setIfInBounds_toArray, List.set_cons_zero, List.set_cons_succ]
            refine wpAnyH_take (i := 10) (oi := { dst := some 98, op := Op.indexAddr 31 (Operand.tmp 96) (Operand.tmp 97), type := 0, pos := "ref.go:67", after := #[{ on := 8, ground := Ground.data }, { on := 9, ground := Ground.data }], guard := none }) (v := ?_) rfl (by kernel_rfl) (by kernel_rfl) (by kernel_rfl) (fun _ _ _ h => h) (Or.inl ⟨by rfl, ?hy11⟩) hS0 ?_
            case hy11 => (intro w hSw; (try dsimp only at hSw); go_simp; try with_reducible rfl)
            try simp only [Act.put, List.setIfInBounds_toArray, List.set_cons_zero, List.set_cons_succ]
            refine wpAnyH_take (i := 11) (oi := { dst := some 99, op := Op.fieldAddr 91 (Operand.tmp 98) 1, type := 0, pos := "ref.go:67", after := #[{ on := 10, ground := Ground.data }], guard := none }) (v := ?_) rfl (by kernel_rfl) (by kernel_rfl) (by kernel_rfl) (fun _ _ _ h => h) (Or.inl ⟨by rfl, ?hy12⟩) hS0 ?_
            case hy12 => (intro w hSw; (try dsimp only at hSw); go_simp; try with_reducible rfl)
            try simp only [Act.put, List.setIfInBounds_toArray, List.set_cons_zero, List.set_cons_succ]
            refine wpAnyH_take (i := 13) (oi := { dst := some 101, op := Op.move (Operand.tmp 10), type := 66, pos := "ref.go:67", after := #[], guard := none }) (v := ?_) rfl (by kernel_rfl) (by kernel_rfl) (by kernel_rfl) (fun _ _ _ h => h) (Or.inl ⟨by rfl, ?hy13⟩) hS0 ?_
            case hy13 => (intro w hSw; (try dsimp only at hSw); go_simp; try with_reducible rfl)
            try simp only [Act.put, List.setIfInBounds_toArray, List.set_cons_zero, List.set_cons_succ]
            refine wpAnyH_take (i := 14) (oi := { dst := some 102, op := Op.move (Operand.tmp 11), type := 3, pos := "ref.go:67", after := #[], guard := none }) (v := ?_) rfl (by kernel_rfl) (by kernel_rfl) (by kernel_rfl) (fun _ _ _ h => h) (Or.inl ⟨by rfl, ?hy14⟩) hS0 ?_
            case hy14 => (intro w hSw; (try dsimp only at hSw); go_simp; try with_reducible rfl)
            try simp only [Act.put, List.setIfInBounds_toArray, List.set_cons_zero, List.set_cons_succ]
            refine wpAnyH_take (i := 15) (oi := { dst := some 103, op := Op.indexAddr 66 (Operand.tmp 101) (Operand.tmp 102), type := 0, pos := "ref.go:67", after := #[{ on := 13, ground := Ground.data }, { on := 14, ground := Ground.data }], guard := none }) (v := ?_) rfl (by kernel_rfl) (by kernel_rfl) (by kernel_rfl) (fun _ _ _ h => h) (Or.inl ⟨by rfl, ?hy15⟩) hS0 ?_
            case hy15 => (intro w hSw; (try dsimp only at hSw); go_simp; try with_reducible rfl)
            try simp only [Act.put, List.setIfInBounds_toArray, List.set_cons_zero, List.set_cons_succ]
            refine wpAnyH_take (i := 16) (oi := { dst := some 104, op := Op.fieldAddr 73 (Operand.tmp 103) 1, type := 0, pos := "ref.go:67", after := #[{ on := 15, ground := Ground.data }], guard := none }) (v := ?_) rfl (by kernel_rfl) (by kernel_rfl) (by kernel_rfl) (fun _ _ _ h => h) (Or.inl ⟨by rfl, ?hy16⟩) hS0 ?_
            case hy16 => (intro w hSw; (try dsimp only at hSw); go_simp; try with_reducible rfl)
            try simp only [Act.put, List.setIfInBounds_toArray, List.set_cons_zero, List.set_cons_succ]
            refine wpAnyH_take (i := 17) (oi := { dst := some 105, op := Op.load 71 (Operand.tmp 104), type := 71, pos := "ref.go:67", after := #[{ on := 16, ground := Ground.data }], guard := none }) (v := ?_) rfl (by kernel_rfl) (by kernel_rfl) (by kernel_rfl) (fun _ _ _ h => h) (Or.inl ⟨by rfl, ?hy17⟩) hS0 ?_
            case hy17 => (intro w hSw; (try dsimp only at hSw); go_simp; try with_reducible rfl)
            try simp only [Act.put, List.setIfInBounds_toArray, List.set_cons_zero, List.set_cons_succ]
            refine wpAnyH_ready (rs := [12, 18]) (by kernel_rfl) (by simp) ?_
            refine AllReadyH.cons (o := { dst := some 100, op := Op.load 89 (Operand.tmp 99), type := 89, pos := "ref.go:67", after := #[{ on := 11, ground := Ground.data }], guard := none }) rfl (fun K hK => ?_) ?_
            · go_simp
              refine hK.out _ _ ?hs18 (fun hS18 => ?_)
              case hs18 => ((try dsimp only); first | with_reducible exact zD | with_reducible exact zV | with_reducible exact zV1 | with_reducible exact zV3 | with_reducible exact zV4)
              clear hK K hS0
              refine wpAnyH_ready (rs := [18]) (by kernel_rfl) (by simp) ?_
              refine AllReadyH.cons (o := { dst := some 106, op := Op.buildSlice 89 1 #[(0, Operand.tmp 105)], type := 89, pos := "ref.go:67", after := #[{ on := 17, ground := Ground.data }], guard := none }) rfl (fun K hK => ?_) ?_
              · go_simp
                refine hK.out _ _ ?hs19 (fun hS19 => ?_)
                case hs19 => ((try dsimp only); first | with_reducible exact zD | with_reducible exact zV | with_reducible exact zV1 | with_reducible exact zV3 | with_reducible exact zV4)
                clear hK K hS18
                refine wpAnyH_ready (rs := [19]) (by kernel_rfl) (by simp) ?_
                refine AllReadyH.cons (o := { dst := some 107, op := Op.call { callee := Callee.builtin Builtin.append, args := #[Operand.tmp 100, Operand.tmp 106], argTypes := #[89, 89] }, type := 89, pos := "ref.go:67", after := #[{ on := 12, ground := Ground.data }, { on := 18, ground := Ground.data }], guard := none }) rfl (fun K hK => ?_) ?_
                · refine rs_append_run (by rfl) _ _ _ (by rfl) (by rfl) (by rfl) RUN1.out ?_
                  refine hK.out _ _ ?hs20 (fun hS20 => ?_)
                  case hs20 => ((try dsimp only); first | with_reducible exact zD | with_reducible exact zV | with_reducible exact zV1 | with_reducible exact zV3 | with_reducible exact zV4)
                  clear hK K hS19
                  refine wpAnyH_take (i := 20) (oi := { dst := some 108, op := Op.indexAddr 31 (Operand.tmp 91) (Operand.tmp 92), type := 0, pos := "ref.go:67", after := #[{ on := 3, ground := Ground.data }, { on := 4, ground := Ground.data }, { on := 0, ground := Ground.phase }, { on := 1, ground := Ground.phase }, { on := 2, ground := Ground.phase }, { on := 3, ground := Ground.phase }, { on := 4, ground := Ground.phase }, { on := 5, ground := Ground.phase }, { on := 6, ground := Ground.phase }, { on := 7, ground := Ground.phase }, { on := 8, ground := Ground.phase }, { on := 9, ground := Ground.phase }, { on := 10, ground := Ground.phase }, { on := 11, ground := Ground.phase }, { on := 12, ground := Ground.phase }, { on := 13, ground := Ground.phase }, { on := 14, ground := Ground.phase }, { on := 15, ground := Ground.phase }, { on := 16, ground := Ground.phase }, { on := 17, ground := Ground.phase }, { on := 18, ground := Ground.phase }, { on := 19, ground := Ground.phase }], guard := none }) (v := ?_) rfl (by kernel_rfl) (by kernel_rfl) (by kernel_rfl) (fun _ _ _ h => h) (Or.inl ⟨by rfl, ?hy21⟩) hS20 ?_
                  case hy21 => (intro w hSw; (try dsimp only at hSw); go_simp; try with_reducible rfl)
                  try simp only [Act.put, List.setIfInBounds_toArray, List.set_cons_zero, List.set_cons_succ]
                  refine wpAnyH_take (i := 21) (oi := { dst := some 109, op := Op.fieldAddr 91 (Operand.tmp 108) 1, type := 0, pos := "ref.go:67", after := #[{ on := 20, ground := Ground.data }, { on := 0, ground := Ground.phase }, { on := 1, ground := Ground.phase }, { on := 2, ground := Ground.phase }, { on := 3, ground := Ground.phase }, { on := 4, ground := Ground.phase }, { on := 5, ground := Ground.phase }, { on := 6, ground := Ground.phase }, { on := 7, ground := Ground.phase }, { on := 8, ground := Ground.phase }, { on := 9, ground := Ground.phase }, { on := 10, ground := Ground.phase }, { on := 11, ground := Ground.phase }, { on := 12, ground := Ground.phase }, { on := 13, ground := Ground.phase }, { on := 14, ground := Ground.phase }, { on := 15, ground := Ground.phase }, { on := 16, ground := Ground.phase }, { on := 17, ground := Ground.phase }, { on := 18, ground := Ground.phase }, { on := 19, ground := Ground.phase }], guard := none }) (v := ?_) rfl (by kernel_rfl) (by kernel_rfl) (by kernel_rfl) (fun _ _ _ h => h) (Or.inl ⟨by rfl, ?hy22⟩) hS20 ?_
                  case hy22 => (intro w hSw; (try dsimp only at hSw); go_simp; try with_reducible rfl)
                  try simp only [Act.put, List.setIfInBounds_toArray, List.set_cons_zero, List.set_cons_succ]
                  refine wpAnyH_ready (rs := [22]) (by kernel_rfl) (by simp) ?_
                  refine AllReadyH.cons (o := { dst := none, op := Op.store 89 (Operand.tmp 109) (Operand.tmp 107), type := 0, pos := "ref.go:67", after := #[{ on := 21, ground := Ground.data }, { on := 19, ground := Ground.data }, { on := 19, ground := Ground.chain }, { on := 0, ground := Ground.phase }, { on := 1, ground := Ground.phase }, { on := 2, ground := Ground.phase }, { on := 3, ground := Ground.phase }, { on := 4, ground := Ground.phase }, { on := 5, ground := Ground.phase }, { on := 6, ground := Ground.phase }, { on := 7, ground := Ground.phase }, { on := 8, ground := Ground.phase }, { on := 9, ground := Ground.phase }, { on := 10, ground := Ground.phase }, { on := 11, ground := Ground.phase }, { on := 12, ground := Ground.phase }, { on := 13, ground := Ground.phase }, { on := 14, ground := Ground.phase }, { on := 15, ground := Ground.phase }, { on := 16, ground := Ground.phase }, { on := 17, ground := Ground.phase }, { on := 18, ground := Ground.phase }, { on := 19, ground := Ground.phase }], guard := none }) rfl (fun K hK => ?_) ?_
                  · go_simp
                    refine hK.out _ _ ?hs23 (fun hS23 => ?_)
                    case hs23 => ((try dsimp only); first | with_reducible exact zD | with_reducible exact zV | with_reducible exact zV1 | with_reducible exact zV3 | with_reducible exact zV4)
                    clear hK K hS20
                    refine wpAnyH_done (by kernel_rfl) ?_ _
                    clear zD zV zV1 zV3 zV4 yV yV1 y3 fz3 q0 q1
                    go_wp2_with fail
                    go_roundg (H.length - (k + 1))
                    case measure => have := G.out.1; have := G.out.2; omega
                    case rel => first | exact FIN.out | (rw [ek]; exact FIN.out)
                  exact AllReadyH.nil
                exact AllReadyH.nil
              exact AllReadyH.nil
            refine AllReadyH.cons (o := { dst := some 106, op := Op.buildSlice 89 1 #[(0, Operand.tmp 105)], type := 89, pos := "ref.go:67", after := #[{ on := 17, ground := Ground.data }], guard := none }) rfl (fun K hK => ?_) ?_
            · go_simp
              refine hK.out _ _ ?hs24 (fun hS24 => ?_)
              case hs24 => ((try dsimp only); first | with_reducible exact zD | with_reducible exact zV | with_reducible exact zV1 | with_reducible exact zV3 | with_reducible exact zV4)
              clear hK K hS0
              refine wpAnyH_ready (rs := [12]) (by kernel_rfl) (by simp) ?_
              refine AllReadyH.cons (o := { dst := some 100, op := Op.load 89 (Operand.tmp 99), type := 89, pos := "ref.go:67", after := #[{ on := 11, ground := Ground.data }], guard := none }) rfl (fun K hK => ?_) ?_
              · go_simp
                refine hK.out _ _ ?hs25 (fun hS25 => ?_)
                case hs25 => ((try dsimp only); first | with_reducible exact zD | with_reducible exact zV | with_reducible exact zV1 | with_reducible exact zV3 | with_reducible exact zV4)
                clear hK K hS24
                refine wpAnyH_ready (rs := [19]) (by kernel_rfl) (by simp) ?_
                refine AllReadyH.cons (o := { dst := some 107, op := Op.call { callee := Callee.builtin Builtin.append, args := #[Operand.tmp 100, Operand.tmp 106], argTypes := #[89, 89] }, type := 89, pos := "ref.go:67", after := #[{ on := 12, ground := Ground.data }, { on := 18, ground := Ground.data }], guard := none }) rfl (fun K hK => ?_) ?_
                · refine rs_append_run (by rfl) _ _ _ (by rfl) (by rfl) (by rfl) RUN1.out ?_
                  refine hK.out _ _ ?hs26 (fun hS26 => ?_)
                  case hs26 => ((try dsimp only); first | with_reducible exact zD | with_reducible exact zV | with_reducible exact zV1 | with_reducible exact zV3 | with_reducible exact zV4)
                  clear hK K hS25
                  refine wpAnyH_take (i := 20) (oi := { dst := some 108, op := Op.indexAddr 31 (Operand.tmp 91) (Operand.tmp 92), type := 0, pos := "ref.go:67", after := #[{ on := 3, ground := Ground.data }, { on := 4, ground := Ground.data }, { on := 0, ground := Ground.phase }, { on := 1, ground := Ground.phase }, { on := 2, ground := Ground.phase }, { on := 3, ground := Ground.phase }, { on := 4, ground := Ground.phase }, { on := 5, ground := Ground.phase }, { on := 6, ground := Ground.phase }, { on := 7, ground := Ground.phase }, { on := 8, ground := Ground.phase }, { on := 9, ground := Ground.phase }, { on := 10, ground := Ground.phase }, { on := 11, ground := Ground.phase }, { on := 12, ground := Ground.phase }, { on := 13, ground := Ground.phase }, { on := 14, ground := Ground.phase }, { on := 15, ground := Ground.phase }, { on := 16, ground := Ground.phase }, { on := 17, ground := Ground.phase }, { on := 18, ground := Ground.phase }, { on := 19, ground := Ground.phase }], guard := none }) (v := ?_) rfl (by kernel_rfl) (by kernel_rfl) (by kernel_rfl) (fun _ _ _ h => h) (Or.inl ⟨by rfl, ?hy27⟩) hS26 ?_
                  case hy27 => (intro w hSw; (try dsimp only at hSw); go_simp; try with_reducible rfl)
                  try simp only [Act.put, List.setIfInBounds_toArray, List.set_cons_zero, List.set_cons_succ]
                  refine wpAnyH_take (i := 21) (oi := { dst := some 109, op := Op.fieldAddr 91 (Operand.tmp 108) 1, type := 0, pos := "ref.go:67", after := #[{ on := 20, ground := Ground.data }, { on := 0, ground := Ground.phase }, { on := 1, ground := Ground.phase }, { on := 2, ground := Ground.phase }, { on := 3, ground := Ground.phase }, { on := 4, ground := Ground.phase }, { on := 5, ground := Ground.phase }, { on := 6, ground := Ground.phase }, { on := 7, ground := Ground.phase }, { on := 8, ground := Ground.phase }, { on := 9, ground := Ground.phase }, { on := 10, ground := Ground.phase }, { on := 11, ground := Ground.phase }, { on := 12, ground := Ground.phase }, { on := 13, ground := Ground.phase }, { on := 14, ground := Ground.phase }, { on := 15, ground := Ground.phase }, { on := 16, ground := Ground.phase }, { on := 17, ground := Ground.phase }, { on := 18, ground := Ground.phase }, { on := 19, ground := Ground.phase }], guard := none }) (v := ?_) rfl (by kernel_rfl) (by kernel_rfl) (by kernel_rfl) (fun _ _ _ h => h) (Or.inl ⟨by rfl, ?hy28⟩) hS26 ?_
                  case hy28 => (intro w hSw; (try dsimp only at hSw); go_simp; try with_reducible rfl)
                  try simp only [Act.put, List.setIfInBounds_toArray, List.set_cons_zero, List.set_cons_succ]
                  refine wpAnyH_ready (rs := [22]) (by kernel_rfl) (by simp) ?_
                  refine AllReadyH.cons (o := { dst := none, op := Op.store 89 (Operand.tmp 109) (Operand.tmp 107), type := 0, pos := "ref.go:67", after := #[{ on := 21, ground := Ground.data }, { on := 19, ground := Ground.data }, { on := 19, ground := Ground.chain }, { on := 0, ground := Ground.phase }, { on := 1, ground := Ground.phase }, { on := 2, ground := Ground.phase }, { on := 3, ground := Ground.phase }, { on := 4, ground := Ground.phase }, { on := 5, ground := Ground.phase }, { on := 6, ground := Ground.phase }, { on := 7, ground := Ground.phase }, { on := 8, ground := Ground.phase }, { on := 9, ground := Ground.phase }, { on := 10, ground := Ground.phase }, { on := 11, ground := Ground.phase }, { on := 12, ground := Ground.phase }, { on := 13, ground := Ground.phase }, { on := 14, ground := Ground.phase }, { on := 15, ground := Ground.phase }, { on := 16, ground := Ground.phase }, { on := 17, ground := Ground.phase }, { on := 18, ground := Ground.phase }, { on := 19, ground := Ground.phase }], guard := none }) rfl (fun K hK => ?_) ?_
                  · go_simp
                    refine hK.out _ _ ?hs29 (fun hS29 => ?_)
                    case hs29 => ((try dsimp only); first | with_reducible exact zD | with_reducible exact zV | with_reducible exact zV1 | with_reducible exact zV3 | with_reducible exact zV4)
                    clear hK K hS26
                    refine wpAnyH_done (by kernel_rfl) ?_ _
                    clear zD zV zV1 zV3 zV4 yV yV1 y3 fz3 q0 q1
                    go_wp2_with fail
                    go_roundg (H.length - (k + 1))
                    case measure => have := G.out.1; have := G.out.2; omega
                    case rel => first | exact FIN.out | (rw [ek]; exact FIN.out)
                  exact AllReadyH.nil
                exact AllReadyH.nil
              exact AllReadyH.nil
            exact AllReadyH.nil
    · obtain rfl : k = H.length := Nat.le_antisymm hk (Nat.not_lt.1 hkl)
      rw [List.take_length] at hS' hgl
      have t1 : decide ((H.length : Int) < (H.length : Int)) = false := decide_eq_false (Int.lt_irrefl _)
      have t2 : decide (H.length < H.length) = false := decide_eq_false (Nat.lt_irrefl _)
      have L0 : LL w r base qu ou N ids S' H (.slice ha H.length hc) tb cb rb stamp cs gl (.slice ga gl.length gc) (.slice va0 Os.length vc0) Os Os.length (.int .i64 0) wr := ⟨0, rfl, Nat.zero_le _, rfl, P⟩
      have HSG := Lib.hid (And.intro hS' hgl)
      clear hk hgk hkl P hS' hgl
      generalize H.length = nh at t1 t2 ⊢
      go_wp2_with fail
      clear t1 t2
      go_loopg [13, 14, 15] Os.length (fun gh v13 v14 v15 wr => LL w r base qu ou N ids S' H (.slice ha H.length hc) tb cb rb stamp cs gl (.slice ga gl.length gc) (.slice va0 Os.length vc0) Os gh v13 wr)
      case atStart => exact L0
      case round =>
        clear L0
        obtain ⟨k, rfl, hk, hgk, P⟩ := hrel
        rename World => wk
        by_cases hkl : k < Os.length
        · obtain ⟨o, hok⟩ : ∃ o, Os[k]? = some o := ⟨_, List.getElem?_eq_getElem hkl⟩
          obtain ⟨b1, of1, rfl⟩ : ∃ b1 of1, va0 = some ⟨b1, of1, none⟩ := by
            obtain ⟨a, b, o', c, e, h1, _⟩ := P.outs
            obtain ⟨hva, _⟩ := h1.resolve_left (fun e => by rw [e] at hok; simp at hok)
            have e2 : va0 = a := by injection e
            exact ⟨b, o', e2.trans hva⟩
          have v1 : decide ((k : Int) < (Os.length : Int)) = true := decide_eq_true (Int.ofNat_lt.2 hkl)
          have v2 : decide (k < Os.length) = true := decide_eq_true hkl
          have v3 : (0 : Int) ≤ (k : Int) := Int.natCast_nonneg k
          have v4 : (k : Int) < (Os.length : Int) := Int.ofNat_lt.2 hkl
          obtain ⟨hids, _, _, _, _, hl, hl1⟩ := HL.out
          have ek := wrapP hkl (Nat.le_trans hl (by decide))
          have hl2 := hl1 o (List.mem_of_getElem? hok)
          obtain ⟨S1, hS1⟩ : ∃ S1, losesD S' (lostL (Os.take k)) = S1 := ⟨_, rfl⟩
          rw [hS1] at P
          have L1 : LI w r base qu ou N ids S1 H (.slice ha H.length hc) tb cb rb stamp cs gl (.slice ga gl.length gc) (.slice (some ⟨b1, of1, none⟩) Os.length vc0) Os o.lost o.lost.length (.int .i64 0) wk := ⟨0, rfl, Nat.zero_le _, rfl, P⟩
          have STEP := Lib.hid (show ∀ W, PS w r base qu ou N ids (losesD S1 o.lost) H (.slice ha H.length hc) tb cb rb stamp cs gl (.slice ga gl.length gc) (.slice (some ⟨b1, of1, none⟩) Os.length vc0) Os W → LL w r base qu ou N ids S' H (.slice ha H.length hc) tb cb rb stamp cs gl (.slice ga gl.length gc) (.slice (some ⟨b1, of1, none⟩) Os.length vc0) Os (Os.length - (k + 1)) (.int .i64 ((k : Int) + 1)) W from fun W p => ⟨k + 1, congrArg (Value.int .i64) (Int.natCast_succ k).symm, hkl, rfl, by rw [lost_step hok, loses_app, hS1]; exact p⟩)
          have G := Lib.hid (And.intro hgk (And.intro hkl (And.intro hok (And.intro hids hl2))))
          clear hk hgk hkl P hok hids hl hl1 hl2 hS1
          go_wp2_with fail
          go_loopg [14, 15] o.lost.length (fun gh v14 v15 wr => LI w r base qu ou N ids S1 H (.slice ha H.length hc) tb cb rb stamp cs gl (.slice ga gl.length gc) (.slice (some ⟨b1, of1, none⟩) Os.length vc0) Os o.lost gh v14 wr)
          case atStart => exact L1
          case round =>
            clear L1
            obtain ⟨j, rfl, hj, hgj, P⟩ := hrel
            rename World => wj
            obtain ⟨hgk, hkl, hok, hids, hl2⟩ := G.out
            obtain ⟨l4, lc, x0, hx⟩ := P.outs.lostAt hok
            obtain ⟨S2, hS2⟩ : ∃ S2, losesD S1 (o.lost.take j) = S2 := ⟨_, rfl⟩
            rw [hS2] at P
            by_cases hjl : j < o.lost.length
            · obtain ⟨x, hxj⟩ : ∃ x, o.lost[j]? = some x := ⟨_, List.getElem?_eq_getElem hjl⟩
              obtain ⟨lb, lo, rfl, x1⟩ := hx j x hxj
              have u1 : decide ((j : Int) < (o.lost.length : Int)) = true := decide_eq_true (Int.ofNat_lt.2 hjl)
              have u2 : decide (j < o.lost.length) = true := decide_eq_true hjl
              have u3 : (0 : Int) ≤ (j : Int) := Int.natCast_nonneg j
              have u4 : (j : Int) < (o.lost.length : Int) := Int.ofNat_lt.2 hjl
              have ej := wrapP hjl (Nat.le_trans hl2 (by decide))
              have FD := Lib.hid (P.doc.find hids x)
              have hpos := P.doc.pos x
              have ST2 := Lib.hid (show ∀ W, PS w r base qu ou N ids (loseD S2 x) H (.slice ha H.length hc) tb cb rb stamp cs gl (.slice ga gl.length gc) (.slice (some ⟨b1, of1, none⟩) Os.length vc0) Os W → LI w r base qu ou N ids S1 H (.slice ha H.length hc) tb cb rb stamp cs gl (.slice ga gl.length gc) (.slice (some ⟨b1, of1, none⟩) Os.length vc0) Os o.lost (o.lost.length - (j + 1)) (.int .i64 ((j : Int) + 1)) W from fun W p => ⟨j + 1, congrArg (Value.int .i64) (Int.natCast_succ j).symm, hjl, rfl, by rw [loses_step hxj, hS2]; exact p⟩)
              have G2 := Lib.hid (And.intro hgj hjl)
              have HP := Lib.hid P
              clear hgk hkl hok hids hl2 hx hS2 hj hgj hjl hxj P
              generalize o.lost.length = nl at *
              go_wp2_with fail
              with_reducible refine FD.out.mono ?_
              rintro en W1 ⟨rfl, rfl⟩
              clear FD x0 x1
              rcases hpos with ⟨hs, hp⟩ | ⟨q, l, lo, hq, hqi, hp, hs⟩
              · have hp1 : decide (0 ≤ posD ids x) = false := by rw [hp]; rfl
                have FIN := Lib.hid (ST2.out wj (by rw [lose_no hs]; exact HP.out))
                clear hs hp
                generalize posD ids x = pq at *
                go_wp2_with fail
                go_roundg (nl - (j + 1))
                case measure => have := G2.out.1; have := G2.out.2; omega
                case rel => first | exact FIN.out | (rw [ej]; exact FIN.out)
              · rw [hp]
                obtain ⟨va, vc, gq, ua, uc, rfl, y7, hbq, y1, y2, y3, hfr, -⟩ := HP.out.doc.at hq
                have q0 : (0 : Int) ≤ (q : Int) := Int.natCast_nonneg q
                have q1 : (q : Int) < (ids.length : Int) := Int.ofNat_lt.2 hq
                have q2 : decide ((0 : Int) ≤ (q : Int)) = true := decide_eq_true q0
                obtain ⟨PF, fzq, cq⟩ := HP.out.lose y7 hq hqi hs
                have FIN := Lib.hid (ST2.out _ (by rw [lose_yes2 hs]; exact PF))
                clear hs hp hbq y1 y2 y3 hfr PF hq hqi HP
                go_wp2_with fail
                go_roundg (nl - (j + 1))
                case measure => have := G2.out.1; have := G2.out.2; omega
                case rel => first | exact FIN.out | (rw [ej]; exact FIN.out)
            · obtain rfl : j = o.lost.length := Nat.le_antisymm hj (Nat.not_lt.1 hjl)
              have u1 : decide ((o.lost.length : Int) < (o.lost.length : Int)) = false := decide_eq_false (Int.lt_irrefl _)
              have u2 : decide (o.lost.length < o.lost.length) = false := decide_eq_false (Nat.lt_irrefl _)
              rw [List.take_length] at hS2
              have FIN := Lib.hid (STEP.out wj (by rw [hS2]; exact P))
              have G2 := Lib.hid (And.intro hgk hkl)
              clear hgk hkl hok hids hl2 hx hS2 hj hgj hjl P
              generalize o.lost.length = nl at *
              go_wp2_with fail
              go_roundg (Os.length - (k + 1))
              case measure => have := G2.out.1; have := G2.out.2; omega
              case rel => first | exact FIN.out | (rw [ek]; exact FIN.out)
        · obtain rfl : k = Os.length := Nat.le_antisymm hk (Nat.not_lt.1 hkl)
          have v1 : decide ((Os.length : Int) < (Os.length : Int)) = false := decide_eq_false (Int.lt_irrefl _)
          have v2 : decide (Os.length < Os.length) = false := decide_eq_false (Nat.lt_irrefl _)
          rw [List.take_length] at P
          have HP := Lib.hid P
          clear hk hgk hkl P
          go_upto_region 22 with fail
          have P := HP.out
          obtain ⟨_, hHl, _, _, hm2, _, _⟩ := HL.out
          generalize wk = V at *
          have PV := P
          have zV : V.cell? ⟨cb, 9, none⟩ = some (.int .i64 s) ∧ V.cell? ⟨cb, 10, none⟩ = some (.int .i64 g) := by
            have c9 := PV.cmd 9 (.int .i64 s) (by rw [← HCS.out]; rfl)
            have c10 := PV.cmd 10 (.int .i64 g) (by rw [← HCS.out]; rfl)
            rw [Nat.zero_add] at c9 c10
            exact ⟨c9, c10⟩
          have TA : Turn (fun _ => False) V (V.alloc (.cells #[.int .i64 s, .int .i64 g] 38)) := (Turn.refl _ V).alloc _
          have RA : (V.alloc (.cells #[.int .i64 s, .int .i64 g] 38)).rangeAt V.heap.size 0 [.int .i64 s, .int .i64 g] := range_new V [.int .i64 s, .int .i64 g] 38
          have gx : gl.length + [(s, g)].length ≤ 1000000 := by
            have h1 := putsG_le ou H S
            rw [HSG.out.2] at h1
            have h2 := refSum_le (H := H) hm2
            simp only [List.length_cons, List.length_nil]
            omega
          obtain ⟨v', W3, hrun, own', T', -⟩ := app_refsI (m := [(s, g)]) (v2 := .slice (some ⟨V.heap.size, 0, none⟩) 1 1) (own_turn PV.grow TA (fun _ _ f => f)) (.inr ⟨V.heap.size, 0, 1, rfl, RA⟩) gx (Nat.le_trans PV.sz TA.size) 54
          have TT : Turn (fun q => (Value.slice ga gl.length gc).ownBlock = some q) V W3 := (TA.more (fun _ _ f => f.elim)).trans T'
          obtain ⟨PF, c3, b3⟩ := PV.told TT own'
          have ncb : ¬ (Value.slice ga gl.length gc).ownBlock = some cb := fun e => (own_blkD PV.grow e).1.ne PV.bcb (by decide) rfl
          have ntb : tb ≠ cb := b3.ne (PV.bcb.turn TT ncb) (by decide)
          have zV1 : (V.alloc (.cells #[.int .i64 s, .int .i64 g] 38)).cell? ⟨cb, 9, none⟩ = some (.int .i64 s) ∧ (V.alloc (.cells #[.int .i64 s, .int .i64 g] 38)).cell? ⟨cb, 10, none⟩ = some (.int .i64 g) := ⟨past zV.1, past zV.2⟩
          have zV3 : W3.cell? ⟨cb, 9, none⟩ = some (.int .i64 s) ∧ W3.cell? ⟨cb, 10, none⟩ = some (.int .i64 g) := ⟨TT.cell ncb zV.1, TT.cell ncb zV.2⟩
          have zV4 : (W3.setCell ⟨tb, 3, none⟩ v').cell? ⟨cb, 9, none⟩ = some (.int .i64 s) ∧ (W3.setCell ⟨tb, 3, none⟩ v').cell? ⟨cb, 10, none⟩ = some (.int .i64 g) := ⟨(cell_far _ _ _ _ _ _ ntb).trans zV3.1, (cell_far _ _ _ _ _ _ ntb).trans zV3.2⟩
          have yV : V.cell? ⟨tb, 3, none⟩ = some (.slice ga gl.length gc) := PV.tell 3 _ rfl
          have yV1 : (V.alloc (.cells #[.int .i64 s, .int .i64 g] 38)).cell? ⟨tb, 3, none⟩ = some (.slice ga gl.length gc) := past yV
          have y3 := c3
          have fz3 : W3.frozen? ⟨tb, 3, none⟩ = false := b3.fz _
          obtain ⟨a', c', rfl, -⟩ := own_slice own'
          have FIN := Lib.hid (PF.done)
          have RT := Lib.hid PF.tell
          have TH := Lib.hid (show (W3.setCell ⟨tb, 3, none⟩ (.slice a' (gl ++ [(s, g)]).length c')).there rb 0 4 from range_there PF.rr rfl PF.brb)
          have RUN1 := Lib.hid hrun
          clear PV P HP hHl hm2 HL TA RA gx hrun own' T' TT PF c3 b3 ncb ntb HCS
          generalize hng : (gl ++ [(s, g)]).length = ng' at *
          have HNG := Lib.hid hng
          clear hng
          obtain ⟨z9, z10⟩ := zV
          go_upto_region 23 with (refine rl_append_run (by rfl) _ _ _ (by rfl) (by rfl) (by rfl) RUN1.out ?_)
          clear z9 z10 zV1 zV3 zV4 yV yV1 y3 fz3
          generalize W3.setCell ⟨tb, 3, none⟩ (.slice a' ng' c') = W4 at *
          refine wp_region_lit ?_
          refine wpList_load_mid rfl 58 _ rfl tb 0 rfl _ _ RT.out Try.underlying58 rfl size58 ?_
          try simp only [Act.put, List.setIfInBounds_toArray, List.set_cons_zero, List.set_cons_succ]
          refine wpList_store_mid rfl 58 _ _ rfl rb 0 #[.int .i64 0, .int .i64 stamp, .slice none 0 0, .slice a' ng' c'] rfl rfl TH.out size58 (by simp [Value.oneCell']) ?_
          try simp only [Act.put, List.setIfInBounds_toArray, List.set_cons_zero, List.set_cons_succ]
          go_wp2_with fail
          exact bodyPost_ret (v := .agg #[.int .i64 0, .int .i64 stamp, .slice none 0 0, .slice a' ng' c']) (res_cell (a := 8) rfl rfl (run_loadVar_mid _ rb 0 58 _ _ (World.rangeAt_setCells_same _ rb 0 _ TH.out) Try.underlying58 rfl size58)) rfl (by rw [HSG.out.1, HSG.out.2]; exact FIN.out.post (by rw [HNG.out]))
end Go.Proofs.Ytepmealhnnoahaa
namespace Go.Proofs.Ytepmealhnnoahaa
set_option linter.unusedSimpArgs false
open Go.ChangeShapes Go.WideShapes Go.ChangeAt Go.RowKit
set_option linter.unusedVariables false
/-- What is left of a row from n on, as it is cut off. -/
def RowCut (w : World) (sv : Value) (ps : List (Value × Value)) (n : Nat) : Prop :=
  (sv = .slice none 0 0 ∧ ps.drop n = []) ∨ ∃ (ab ao c : Nat), sv = .slice (some ⟨ab, ao, none⟩) (ps.length - n) c ∧ ∀ j u, (fcells (ps.drop n))[j]? = some u → w.cell? ⟨ab, ao + j, none⟩ = some u
section
variable {w w' W : World} {r base g cap : Nat} {qu ou : Int} {N E : Nat → Prop} {ids : List Int} {S : DS} {U : Nat → Value}
theorem DocX.dropRun (h : DocX w r base qu ou N E ids S (.slice (some ⟨g, 0, none⟩) ids.length cap) U) (hN : ∀ q, N q → q < w.heap.size) {k : Nat} (hk : k < ids.length) {i : Int} {l : List Fnd} {lo : Bool} (hi : ids.getD k 0 = i) (hs : S i = some (l, lo)) (hn : l.length ≤ 100000) {n : Nat} (hnl : n ≤ l.length) {sv : Value}
    (hcut : ∀ ps, ps.length = l.length → w.ownsRow base 71 2 (U k) l.length (fcells ps) → RowCut w sv ps n) :
    ∃ v' W', (Builtin.append_ #[89, 89] 89 #[.slice (some ⟨w.heap.size, 0, none⟩) 0 0, sv]).run Try.prog (w.alloc (.cells #[] 71)) = .ok v' W' ∧ Turn (fun _ => False) w W' ∧ (∃ a c, v' = .slice a (l.length - n) c) ∧
      DocX (W'.setCell ⟨g, k * 3 + 1, none⟩ v') r base qu ou N E ids (updI S i (some (l.drop n, lo))) (.slice (some ⟨g, 0, none⟩) ids.length cap) (updN U k v') ∧ Turn (ZD r base N w) w (W'.setCell ⟨g, k * 3 + 1, none⟩ v') := by
  have el : rowS S i = l := by unfold rowS; rw [hs]; rfl
  obtain ⟨ps, hl, ho, hall⟩ := (h.rows k hk).1.ex
  rw [hi, el] at hl ho hall
  have T1 : Turn (fun _ => False) w (w.alloc (.cells #[] 71)) := (Turn.refl _ w).alloc _
  obtain ⟨i3, j1, j2, j3, j4⟩ := info_parts info71
  have h0 := World.ownsRow_lit (base := w.heap.size) (e := 71) (size := 2) w #[] 0 (Nat.le_refl _) (by decide) rfl
  have one : ∀ p ∈ ps, p.1.oneCell' = true ∧ p.2.oneCell' = true := fun p hp => by
    obtain ⟨j, hj⟩ := List.mem_iff_getElem?.1 hp
    obtain ⟨f, hf⟩ : ∃ f, l[j]? = some f := ⟨_, List.getElem?_eq_getElem (by have := (List.getElem?_eq_some_iff.1 hj).1; omega)⟩
    have hh := hall j f p hf hj
    obtain ⟨_, _, e1⟩ := hh.sets.sl
    obtain ⟨_, _, e2⟩ := hh.refs.sl
    exact ⟨by rw [e1]; rfl, by rw [e2]; rfl⟩
  have mk : ∀ {v' : Value} {W' : World}, W'.ownsRow w.heap.size 71 2 v' (l.length - n) (fcells (ps.drop n)) → Turn (fun _ => False) w W' → FRow W' base (fun q => ¬ E q) v' (l.drop n) := fun {v' W'} ho' T => by
    refine ⟨ps.drop n, by rw [List.length_drop, List.length_drop, hl], ?_, fun j f p hf hp => ?_⟩
    · rw [List.length_drop]
      exact own_base ho' h.bs
    · rw [List.getElem?_drop] at hf hp
      exact (hall (n + j) f p hf hp).turn T (fun _ _ f => f.elim)
  have fin : ∀ {v' : Value} {W' : World}, W'.ownsRow w.heap.size 71 2 v' (l.length - n) (fcells (ps.drop n)) → Turn (fun _ => False) w W' → (∃ a c, v' = .slice a (l.length - n) c) ∧ DocX (W'.setCell ⟨g, k * 3 + 1, none⟩ v') r base qu ou N E ids (updI S i (some (l.drop n, lo))) (.slice (some ⟨g, 0, none⟩) ids.length cap) (updN U k v') ∧ Turn (ZD r base N w) w (W'.setCell ⟨g, k * 3 + 1, none⟩ v') := fun {v' W'} ho' T => by
    obtain ⟨a, c, e, -⟩ := own_slice ho'
    exact ⟨⟨a, c, e⟩, h.rowSet hN hk hi hs (T.more (fun _ _ f => f.elim)) (mk ho' T) (fun q hq => .inr (ho'.lt q hq).1)⟩
  rcases hcut ps hl ho with ⟨rfl, e0⟩ | ⟨ab, ao, c, rfl, hc⟩
  · have en : l.length - n = 0 := by have := congrArg List.length e0; rw [List.length_drop] at this; simp at this; omega
    refine ⟨.slice (some ⟨w.heap.size, 0, none⟩) 0 0, w.alloc (.cells #[] 71), app_none 89 71 Try.underlying89 j1 h0, T1, fin ?_ T1⟩
    rw [en, e0]
    exact h0
  · have hlen : (fcells (ps.drop n)).length = (ps.length - n) * 2 := by rw [fcells_len, List.length_drop]
    obtain ⟨v', w', hr, ho2, hg, -⟩ := run_append_own (w.alloc (.cells #[] 71)) w.heap.size 89 89 71 i3 _ 2 48 Try.underlying89 j1 j2 j3 j4 rfl (by decide) _ 0 [] h0 ⟨ab, ao, none⟩ (ps.length - n) c (fcells (ps.drop n)) hlen (fun j u hu => by
      rw [Go.WideShapes.add_plain]
      exact T1.cell id (hc j u hu)) (fcells_one (ps.drop n) (fun p hp => one p (List.mem_of_mem_drop hp))) (by unfold maxLen; omega) (by omega) (by simp)
    rw [Nat.zero_add, List.nil_append, hl] at ho2
    have T2 := turn_fresh T1 h0 ((Turn.refl _ _).grown hg (fun k hk => .inl hk))
    exact ⟨v', w', hr, T2, fin ho2 T2⟩
theorem info91 : (Try.prog.info? 91).map (fun i => (i.zero, i.size, i.bytes)) = some (some (.agg #[.int .i64 0, .slice none 0 0, .bool false]), 3, 40) := by kernel_rfl
theorem getD_app {ids : List Int} {st : Int} {j : Nat} (hj : j < ids.length) : (ids ++ [st]).getD j 0 = ids.getD j 0 := by
  rw [List.getD_eq_getElem?_getD, List.getD_eq_getElem?_getD, List.getElem?_append_left hj]
theorem getD_end {ids : List Int} {st : Int} : (ids ++ [st]).getD ids.length 0 = st := by
  rw [List.getD_eq_getElem?_getD, List.getElem?_append_right (Nat.le_refl _), Nat.sub_self]; rfl
theorem DocX.blk91 {v : Value} (h : DocX w r base qu ou N E ids S v U) {q : Nat} (hq : v.ownBlock = some q) : Blk w q 91 := (h.own.blk hq).1
/-- One query is put behind a row of queries. -/
theorem QRow.app {w : World} {base n : Nat} {v : Value} {xs : List Value} (h : QRow w base v n xs) (hb : base ≤ w.heap.size) (hn : n ≤ 1000) (cs : List Value) (hl : cs.length = 3) (h1 : ∀ u ∈ cs, u.oneCell' = true) :
    ∃ v' W', (Builtin.append_ #[31, 31] 31 #[v, .slice (some ⟨w.heap.size, 0, none⟩) 1 1]).run Try.prog (w.alloc (.cells cs.toArray 91)) = .ok v' W' ∧ W'.ownsRow base 91 3 v' (n + 1) (xs ++ cs) ∧ Turn (fun q => v.ownBlock = some q) w W' := by
  have T1 : Turn (fun _ => False) w (w.alloc (.cells cs.toArray 91)) := (Turn.refl _ w).alloc _
  have R1 := range_new w cs 91
  obtain ⟨i3, j1, j2, j3, j4⟩ := info_parts info91
  rcases h.turn T1 (fun _ _ f => f) with ho | ⟨hxl, g, e, hbk, hg, hr⟩
  · obtain ⟨v', W', hrn, ho2, hgr, _, hbl⟩ := run_append_own_at (w.alloc (.cells cs.toArray 91)) base 31 31 91 i3 _ 3 40 Try.underlying31 j1 j2 j3 j4 rfl (by decide) _ _ _ ho ⟨w.heap.size, 0, none⟩ 1 1 cs (by omega)
      (fun j u hu => by
        rw [Go.WideShapes.add_plain]
        exact R1 j u hu) h1 (by unfold maxLen; omega) (by omega) (Nat.le_trans hb T1.size)
    exact ⟨v', W', hrn, ho2, (T1.more (fun _ _ q => q.elim)).trans ((Turn.refl _ _).grown hgr (fun k hk => .inl hk))⟩
  · obtain ⟨c, W', hrn, ho2, T2⟩ := app_full (W := w.alloc (.cells cs.toArray 91)) 31 91 Try.underlying31 j1 j2 j3 j4 rfl (s := v) (n := n) (m := 1) (c := 1) (a := ⟨w.heap.size, 0, none⟩) (olds := xs) (news := cs) (.inr ⟨_, e, fun j u hu => by
      rw [Go.WideShapes.add_plain]
      exact hr j u hu⟩) hxl (by omega) (fun j u hu => by
      rw [Go.WideShapes.add_plain]
      exact R1 j u hu) (by omega) (by omega) (by omega)
    exact ⟨_, W', hrn, own_base ho2 (Nat.le_trans hb T1.size), (T1.trans T2).more (fun _ _ f => f.elim)⟩
/-- A query comes. -/
theorem DocX.regRun {v : Value} (h : DocX w r base qu ou N E ids S v U) {st : Int} (hns : S st = none) (hn : ids.length ≤ 1000) :
    ∃ v' W', (Builtin.append_ #[31, 31] 31 #[v, .slice (some ⟨w.heap.size, 0, none⟩) 1 1]).run Try.prog (w.alloc (.cells #[.int .i64 st, .slice none 0 0, .bool false] 91)) = .ok v' W' ∧ W'.cell? ⟨r, 7, none⟩ = some v ∧ Blk W' r 33 ∧ (∃ a c, v' = .slice a (ids.length + 1) c) ∧
      DocX (W'.setCell ⟨r, 7, none⟩ v') r base qu ou N E (ids ++ [st]) (updI S st (some ([], false))) v' (updN U ids.length (.slice none 0 0)) ∧ Turn (ZD r base N w) w (W'.setCell ⟨r, 7, none⟩ v') := by
  have hst : st ∉ ids := fun q => by have := (h.dom st).1 q; rw [hns] at this; cases this
  have hne : ∀ j, j < ids.length → ids.getD j 0 ≠ st := fun j hj e => hst (by
    rw [List.getD_eq_getElem?_getD, List.getElem?_eq_getElem hj] at e
    have e : ids[j] = st := e
    rw [← e]
    exact List.getElem_mem _)
  obtain ⟨v', W', hr, ho2, T⟩ := h.own.app h.bs hn [.int .i64 st, .slice none 0 0, .bool false] rfl (fun u hu => by
    simp only [List.mem_cons, List.not_mem_nil, or_false] at hu
    rcases hu with h | h | h <;> (rw [h]; rfl))
  have nr : ¬ v.ownBlock = some r := fun e => (h.blk91 e).ne h.bl (by decide) rfl
  have c7 : W'.cell? ⟨r, 7, none⟩ = some v := T.cell nr h.c7
  have br := h.bl.turn T nr
  have T2 : Turn (fun q => q = r) W' (W'.setCell ⟨r, 7, none⟩ v') := Turn.put _ _ _ _
  have TT : Turn (fun q => v.ownBlock = some q ∨ q = r) w (W'.setCell ⟨r, 7, none⟩ v') := (T.more (fun _ _ e => .inl e)).trans (T2.more (fun _ _ e => .inr e))
  have v91 : ∀ q, v'.ownBlock = some q → Blk W' q 91 := fun q hq => by
    rcases ho2.2 with ⟨e1, _⟩ | ⟨g', cap', cur, e1, hb, hgg, _⟩
    · rw [e1] at hq; simp [Value.ownBlock] at hq
    · rw [e1] at hq
      have : g' = q := by simpa [Value.ownBlock] using hq
      subst this
      exact ⟨_, hgg⟩
  obtain ⟨a, c, e, -⟩ := own_slice ho2
  refine ⟨v', W', hr, c7, br, ⟨a, c, e⟩, ⟨br.set _ _, by rw [cell_off _ _ _ _ _ (by decide)]; exact T.cell nr h.c3, by rw [cell_off _ _ _ _ _ (by decide)]; exact T.cell nr h.c5, World.cell?_setCell_same W' _ _ c7, ?_, fun j hj => ?_, fun x y k hx hy hxy hk hk2 => ?_, ?_, fun i => ?_, Nat.le_trans h.bs TT.size⟩, TT.more (fun q _ z => z.elim (fun z => .inr (.inl ⟨h.blk91 z, (h.own.blk z).2⟩)) (fun z => .inl z))⟩
  · rw [List.length_append]
    have ef : flatN (qrow ids U S) ids.length ++ [.int .i64 st, .slice none 0 0, .bool false] = flatN (qrow (ids ++ [st]) (updN U ids.length (.slice none 0 0)) (updI S st (some ([], false)))) (ids.length + 1) := by
      have e1 : flatN (qrow ids U S) ids.length = flatN (qrow (ids ++ [st]) (updN U ids.length (.slice none 0 0)) (updI S st (some ([], false)))) ids.length := flatN_congr (fun j hj => by
        unfold qrow
        rw [getD_app hj, updN_off _ _ (by omega), (rowS_off S _ (hne j hj)).2])
      have e2 : [Value.int .i64 st, .slice none 0 0, .bool false] = qrow (ids ++ [st]) (updN U ids.length (.slice none 0 0)) (updI S st (some ([], false))) ids.length := by
        unfold qrow
        rw [getD_end, updN_at, (rowS_upd S st [] false).2]
      rw [e1, e2]
      rfl
    rw [ef] at ho2
    exact .inl (own_turn ho2 T2 (fun q hq z => (v91 q hq).ne br (by decide) z))
  · rw [List.length_append] at hj
    by_cases e : j = ids.length
    · subst e
      rw [updN_at, getD_end, (rowS_upd S st [] false).1]
      exact ⟨⟨[], rfl, ⟨rfl, .inl ⟨rfl, rfl⟩⟩, fun x f p hf _ => by simp at hf⟩, fun q hq => by simp [Value.ownBlock] at hq⟩
    · have hj : j < ids.length := by simp at hj; omega
      rw [updN_off _ _ e, getD_app hj, (rowS_off S _ (hne j hj)).1]
      obtain ⟨f1, f2⟩ := h.rows j hj
      exact ⟨f1.next TT (fun q hq z => z.elim (fun z => (h.b71 hj hq).ne (h.blk91 z) (by decide) rfl) (fun z => (h.b71 hj hq).ne h.bl (by decide) z)) (fun q z t => z.elim (fun z => absurd rfl (t.ne (h.blk91 z) (by decide))) (fun z => absurd z (t.ne h.bl (by decide)))), f2⟩
  · rw [List.length_append] at hx hy
    have no : ∀ {z : Nat}, z = ids.length → (updN U ids.length (Value.slice none 0 0) z).ownBlock ≠ some k := fun {z} ez => by
      subst ez
      rw [updN_at]
      simp [Value.ownBlock]
    by_cases ex : x = ids.length
    · exact no ex hk
    · by_cases ey : y = ids.length
      · exact no ey hk2
      · rw [updN_off _ _ ex] at hk
        rw [updN_off _ _ ey] at hk2
        exact h.apart x y k (by simp at hx; omega) (by simp at hy; omega) hxy hk hk2
  · exact List.nodup_append.2 ⟨h.nd, by simp, fun a ha b hb => by simp at hb; subst hb; exact fun e => hst (e ▸ ha)⟩
  · by_cases e : i = st
    · subst e
      rw [updI_at]
      simp
    · rw [updI_off _ _ e, ← h.dom i]
      simp [e]
end
end Go.Proofs.Ytepmealhnnoahaa
namespace Go.Proofs.Ytepmealhnnoahaa
set_option linter.unusedSimpArgs false
open Go.ChangeShapes Go.WideShapes Go.ChangeAt Go.RowKit
set_option linter.unusedVariables false
/-- The place that was j's, before k was taken out. -/
def erJ (k j : Nat) : Nat := if j < k then j else j + 1
theorem erJ_ne (k j : Nat) : erJ k j ≠ k := by unfold erJ; split <;> omega
theorem erJ_inj {k a b : Nat} (h : erJ k a = erJ k b) : a = b := by unfold erJ at h; split at h <;> split at h <;> omega
theorem erJ_lt {k j n : Nat} (hk : k < n) (hj : j < n - 1) : erJ k j < n := by unfold erJ; split <;> omega
theorem erase_at {ids : List Int} {k j : Nat} (hj : j < ids.length - 1) (hk : k < ids.length) : (ids.eraseIdx k).getD j 0 = ids.getD (erJ k j) 0 := by
  rw [List.getD_eq_getElem?_getD, List.getD_eq_getElem?_getD, List.getElem?_eraseIdx]
  unfold erJ
  split <;> rfl
theorem erase_len {ids : List Int} {k : Nat} (hk : k < ids.length) : (ids.eraseIdx k).length = ids.length - 1 := List.length_eraseIdx_of_lt hk
theorem erase_mem {ids : List Int} {k : Nat} (nd : ids.Nodup) (hk : k < ids.length) (x : Int) : x ∈ ids.eraseIdx k ↔ x ∈ ids ∧ x ≠ ids.getD k 0 := by
  constructor
  · intro h
    obtain ⟨j, hj, e⟩ := List.mem_iff_getElem.1 h
    rw [erase_len hk] at hj
    have e1 := erase_at (ids := ids) hj hk
    rw [List.getD_eq_getElem?_getD, List.getElem?_eq_getElem (by rw [erase_len hk]; exact hj)] at e1
    have e1 : (ids.eraseIdx k)[j]'(by rw [erase_len hk]; exact hj) = ids.getD (erJ k j) 0 := e1
    rw [← e, e1]
    have hl := erJ_lt hk hj
    refine ⟨?_, nd_ne nd hl hk (erJ_ne k j)⟩
    rw [List.getD_eq_getElem?_getD, List.getElem?_eq_getElem hl]
    exact List.getElem_mem _
  · rintro ⟨h, hne⟩
    obtain ⟨j, hj, e⟩ := List.mem_iff_getElem.1 h
    have hjk : j ≠ k := fun q => by
      subst q
      rw [List.getD_eq_getElem?_getD, List.getElem?_eq_getElem hj] at hne
      exact hne e.symm
    by_cases h1 : j < k
    · exact List.mem_iff_getElem?.2 ⟨j, by rw [List.getElem?_eraseIdx, if_pos h1, List.getElem?_eq_getElem hj, e]⟩
    · exact List.mem_iff_getElem?.2 ⟨j - 1, by rw [List.getElem?_eraseIdx, if_neg (by omega), show j - 1 + 1 = j from by omega, List.getElem?_eq_getElem hj, e]⟩
theorem flatN_take {g : Nat → List Value} {m : Nat} (hg : ∀ i, (g i).length = m) {k : Nat} : ∀ {n : Nat}, k ≤ n → (flatN g n).take (k * m) = flatN g k
  | 0, h => by
    obtain rfl : k = 0 := by omega
    simp [flatN]
  | n + 1, h => by
    by_cases e : k = n + 1
    · subst e
      rw [List.take_of_length_le (by rw [flatN_len hg]; exact Nat.le_refl _)]
    · show (flatN g n ++ g n).take (k * m) = _
      have hl := flatN_len hg n
      rw [List.take_append_of_le_length (by rw [hl]; exact Nat.mul_le_mul_right m (by omega))]
      exact flatN_take hg (by omega)
theorem flatN_drop {g : Nat → List Value} {m : Nat} (hg : ∀ i, (g i).length = m) {k : Nat} : ∀ {n : Nat}, k ≤ n → (flatN g n).drop (k * m) = flatN (fun j => g (k + j)) (n - k)
  | 0, h => by simp [flatN]
  | n + 1, h => by
    by_cases e : k = n + 1
    · subst e
      rw [Nat.sub_self, List.drop_of_length_le (by rw [flatN_len hg]; exact Nat.le_refl _)]
      rfl
    · show (flatN g n ++ g n).drop (k * m) = _
      have hl := flatN_len hg n
      rw [List.drop_append_of_le_length (by rw [hl]; exact Nat.mul_le_mul_right m (by omega)), flatN_drop hg (by omega), show n + 1 - k = (n - k) + 1 from by omega]
      show _ = flatN _ (n - k) ++ g (k + (n - k))
      rw [show k + (n - k) = n from by omega]
theorem flatN_app (g : Nat → List Value) (k : Nat) : ∀ m, flatN g k ++ flatN (fun j => g (k + j)) m = flatN g (k + m)
  | 0 => by simp [flatN]
  | m + 1 => by
    show flatN g k ++ (flatN _ m ++ g (k + m)) = flatN g (k + m) ++ g (k + m)
    rw [← List.append_assoc, flatN_app g k m]
/-- The rows that are left stand as they stood. -/
theorem flatN_erase {g : Nat → List Value} {m : Nat} (hg : ∀ i, (g i).length = m) {k n : Nat} (hk : k < n) : (flatN g n).take (k * m) ++ (flatN g n).drop ((k + 1) * m) = flatN (fun j => g (erJ k j)) (n - 1) := by
  rw [flatN_take hg (by omega), flatN_drop hg (by omega)]
  have e1 : flatN g k = flatN (fun j => g (erJ k j)) k := flatN_congr (fun j hj => by unfold erJ; rw [if_pos hj])
  have e2 : flatN (fun j => g (k + 1 + j)) (n - (k + 1)) = flatN (fun j => g (erJ k (k + j))) (n - (k + 1)) := flatN_congr (fun j hj => by
    unfold erJ
    rw [if_neg (by omega)]
    congr 1
    omega)
  rw [e1, e2]
  have := flatN_app (fun j => g (erJ k j)) k (n - (k + 1))
  rw [show k + (n - (k + 1)) = n - 1 from by omega] at this
  exact this
section
variable {w w' W : World} {r base : Nat} {qu ou : Int} {N E : Nat → Prop} {ids : List Int} {S : DS} {U : Nat → Value}
theorem DocX.erase {v : Value} (h : DocX w r base qu ou N E ids S v U) {k : Nat} (hk : k < ids.length) {i : Int} (hi : ids.getD k 0 = i) (T : Turn (fun _ => False) w W) {v' : Value} (row : QRow W base v' (ids.length - 1) (flatN (fun j => qrow ids U S (erJ k j)) (ids.length - 1))) :
    DocX (W.setCell ⟨r, 7, none⟩ v') r base qu ou N E (ids.eraseIdx k) (updI S i none) v' (fun j => U (erJ k j)) ∧ Turn (ZD r base N w) w (W.setCell ⟨r, 7, none⟩ v') := by
  have c7 : W.cell? ⟨r, 7, none⟩ = some v := T.cell id h.c7
  have br := h.bl.turn T id
  have T2 : Turn (fun q => q = r) W (W.setCell ⟨r, 7, none⟩ v') := Turn.put _ _ _ _
  have TT : Turn (fun q => q = r) w (W.setCell ⟨r, 7, none⟩ v') := (T.more (fun _ _ f => f.elim)).trans T2
  have hne : ∀ j, j < ids.length - 1 → ids.getD (erJ k j) 0 ≠ i := fun j hj => by
    rw [← hi]
    exact nd_ne h.nd (erJ_lt hk hj) hk (erJ_ne k j)
  refine ⟨⟨br.set _ _, by rw [cell_off _ _ _ _ _ (by decide)]; exact T.cell id h.c3, by rw [cell_off _ _ _ _ _ (by decide)]; exact T.cell id h.c5, World.cell?_setCell_same W _ _ c7, ?_, fun j hj => ?_, fun x y q hx hy hxy hq hq2 => ?_, h.nd.sublist (List.eraseIdx_sublist ids k), fun x => ?_, Nat.le_trans h.bs TT.size⟩, TT.more (fun q _ z => .inl z)⟩
  · rw [erase_len hk]
    have ef : flatN (fun j => qrow ids U S (erJ k j)) (ids.length - 1) = flatN (qrow (ids.eraseIdx k) (fun j => U (erJ k j)) (updI S i none)) (ids.length - 1) := flatN_congr (fun j hj => by
      unfold qrow
      rw [erase_at hj hk, (rowS_off S _ (hne j hj)).2])
    rw [ef] at row
    exact row.turn T2 (fun q hq z => (row.blk hq).1.ne br (by decide) z)
  · rw [erase_len hk] at hj
    rw [erase_at hj hk, (rowS_off S _ (hne j hj)).1]
    have hl := erJ_lt hk hj
    obtain ⟨f1, f2⟩ := h.rows _ hl
    exact ⟨f1.next TT (fun q hq z => (h.b71 hl hq).ne h.bl (by decide) z) (fun q z t => absurd z (t.ne h.bl (by decide))), f2⟩
  · rw [erase_len hk] at hx hy
    exact h.apart _ _ q (erJ_lt hk hx) (erJ_lt hk hy) (fun e => hxy (erJ_inj e)) hq hq2
  · rw [erase_mem h.nd hk, hi, h.dom x]
    by_cases e : x = i
    · subst e
      rw [updI_at]
      simp
    · rw [updI_off _ _ e]
      simp [e]
end
section
variable {w : World} {base g cap n k : Nat} {xs : List Value}
/-- The queries behind place k, copied. -/
theorem QRow.rest (h : QRow w base (.slice (some ⟨g, 0, none⟩) n cap) n xs) (hl : xs.length = n * 3) (h1 : ∀ u ∈ xs, u.oneCell' = true) (hn : n ≤ 1000) (hk : k + 1 ≤ n) {A : Addr} {c : Nat} (hA : k + 1 < n → A = ⟨g, (k + 1) * 3, none⟩) :
    ∃ rg rc W', (Builtin.append_ #[31, 31] 31 #[.slice (some ⟨w.heap.size, 0, none⟩) 0 0, .slice (some A) (n - (k + 1)) c]).run Try.prog (w.alloc (.cells #[] 91)) = .ok (.slice (some ⟨rg, 0, none⟩) (n - (k + 1)) rc) W' ∧ W'.ownsRow w.heap.size 91 3 (.slice (some ⟨rg, 0, none⟩) (n - (k + 1)) rc) (n - (k + 1)) (xs.drop ((k + 1) * 3)) ∧ Turn (fun _ => False) w W' := by
  obtain ⟨i3, j1, j2, j3, j4⟩ := info_parts info91
  have h0 := World.ownsRow_lit (base := w.heap.size) (e := 91) (size := 3) w #[] 0 (Nat.le_refl _) (by decide) rfl
  have T1 : Turn (fun _ => False) w (w.alloc (.cells #[] 91)) := (Turn.refl _ w).alloc _
  have hd : (xs.drop ((k + 1) * 3)).length = (n - (k + 1)) * 3 := by rw [List.length_drop, hl, ← Nat.sub_mul]
  obtain ⟨v', w', hr, ho, hg, hi⟩ := run_append_own (w.alloc (.cells #[] 91)) w.heap.size 31 31 91 i3 _ 3 40 Try.underlying31 j1 j2 j3 j4 rfl (by decide) _ 0 [] h0 A (n - (k + 1)) c (xs.drop ((k + 1) * 3)) hd (fun j u hu => by
    have hj : j < (n - (k + 1)) * 3 := by rw [← hd]; exact (List.getElem?_eq_some_iff.1 hu).1
    rw [hA (by omega), Go.WideShapes.add_plain]
    rw [List.getElem?_drop] at hu
    exact T1.cell id ((h.cellAt _ (by omega)).trans hu)) (fun u hu => h1 u (List.mem_of_mem_drop hu)) (by unfold maxLen; omega) (by omega) (by simp)
  rw [Nat.zero_add, List.nil_append] at ho
  have T2 := turn_fresh T1 h0 ((Turn.refl _ _).grown hg (fun k hk => .inl hk))
  have hne : v' ≠ .slice none 0 0 := fun e => by have := (hi.1 e).1; simp at this
  rcases ho.2 with ⟨e, _⟩ | ⟨rg, rc, cu, rfl, _⟩
  · exact absurd e hne
  · exact ⟨rg, rc, w', hr, ho, T2⟩
/-- .. put behind the queries ahead of place k. -/
theorem QRow.cut (h : QRow w base (.slice (some ⟨g, 0, none⟩) n cap) n xs) (hl : xs.length = n * 3) (hn : n ≤ 1000) (hk : k < n) {b2 rg rc : Nat} (hb : base ≤ w.heap.size) (hr : w.ownsRow b2 91 3 (.slice (some ⟨rg, 0, none⟩) (n - (k + 1)) rc) (n - (k + 1)) (xs.drop ((k + 1) * 3))) :
    ∃ v' W', (Builtin.append_ #[31, 31] 31 #[.slice (some ⟨g, 0, none⟩) k k, .slice (some ⟨rg, 0, none⟩) (n - (k + 1)) rc]).run Try.prog w = .ok v' W' ∧ QRow W' base v' (n - 1) (xs.take (k * 3) ++ xs.drop ((k + 1) * 3)) ∧ Turn (fun _ => False) w W' := by
  obtain ⟨i3, j1, j2, j3, j4⟩ := info_parts info91
  have ht : (xs.take (k * 3)).length = k * 3 := by rw [List.length_take, hl]; omega
  have hd : (xs.drop ((k + 1) * 3)).length = (n - (k + 1)) * 3 := by rw [List.length_drop, hl, ← Nat.sub_mul]
  have hold : ∀ j v, (xs.take (k * 3))[j]? = some v → w.cell? ⟨g, j, none⟩ = some v := fun j v hv => by
    have hj : j < k * 3 := by rw [← ht]; exact (List.getElem?_eq_some_iff.1 hv).1
    rw [List.getElem?_take, if_pos hj] at hv
    exact (h.cellAt j (by omega)).trans hv
  by_cases e : n - (k + 1) = 0
  · have en : n = k + 1 := by omega
    have e0 : xs.drop ((k + 1) * 3) = [] := List.eq_nil_of_length_eq_zero (by rw [hd, e])
    refine ⟨.slice (some ⟨g, 0, none⟩) k k, w, ?_, ?_, Turn.refl _ _⟩
    · rw [e]
      simp [Builtin.append_, run_underlying Try.underlying31, sizeOf, typeInfo, j1, Builtin.lenOf, Builtin.firstCells, storeCells, loadCells, loadCellsFrom]
    · rw [e0, List.append_nil, show n - 1 = k from by omega]
      exact .inr ⟨ht, g, rfl, (h.blk rfl).1, (h.blk rfl).2, fun j v hv => by rw [Nat.zero_add]; exact hold j v hv⟩
  · obtain ⟨c, W', hrn, ho2, T2⟩ := app_full (W := w) 31 91 Try.underlying31 j1 j2 j3 j4 rfl (s := .slice (some ⟨g, 0, none⟩) k k) (n := k) (m := n - (k + 1)) (c := rc) (a := ⟨rg, 0, none⟩) (olds := xs.take (k * 3)) (news := xs.drop ((k + 1) * 3)) (.inr ⟨_, rfl, fun j u hu => by
      rw [Go.WideShapes.add_plain, Nat.zero_add]
      exact hold j u hu⟩) ht hd (fun j u hu => by
      rw [Go.WideShapes.add_plain, Nat.zero_add]
      exact (hr.cellAt j (by rw [← hd]; exact (List.getElem?_eq_some_iff.1 hu).1)).trans hu) (by omega) (by omega) (by omega)
    rw [show k + (n - (k + 1)) = n - 1 from by omega] at hrn ho2
    exact ⟨_, W', hrn, .inl (own_base ho2 hb), T2⟩
end
end Go.Proofs.Ytepmealhnnoahaa
