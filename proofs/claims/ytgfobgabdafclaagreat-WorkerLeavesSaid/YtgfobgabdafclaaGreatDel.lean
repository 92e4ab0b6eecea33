/-
  What DeleteFunc leaves of a limbo: the refs that are not ripe, in order; those that are were told, in order.
-/
import Derived.Test.YtgfobgabdafclaaGreatRipe
namespace Go.Proofs.YtgfobgabdafclaaGreat
open Go.ChangeShapes Go.WideShapes Go.ChangeAt Go.RowKit
set_option linter.unusedVariables false

/-- Is it ripe? -/
def rp (now : Int) (q : Int × Int × Int) : Bool := decide (q.2.2 ≤ now - 2)
def ref (q : Int × Int × Int) : Int × Int := (q.1, q.2.1)

section
variable {wS w : World} {B g base m cap x bx : Nat} {now : Int} {cur : List (Int × Int × Int)} {out : List (Int × Int)}

theorem Rip.at (h : Rip wS B g base m cap cur out w) {k : Nat} {q : Int × Int × Int} (hk : cur[k]? = some q) : w.cell? ⟨g, k * 3, none⟩ = some (.int .i64 q.1) ∧ w.cell? ⟨g, k * 3 + 1, none⟩ = some (.int .i64 q.2.1) ∧ w.cell? ⟨g, k * 3 + 2, none⟩ = some (.int .i64 q.2.2) := by
  have hl := (List.getElem?_eq_some_iff.1 hk).1
  have hm := h.len
  obtain ⟨a, b, c⟩ := cells3_at cur k q hk
  exact ⟨(h.row.cellAt (k * 3) (by omega)).trans a, (h.row.cellAt (k * 3 + 1) (by omega)).trans b, (h.row.cellAt (k * 3 + 2) (by omega)).trans c⟩

def IdxPost (wS : World) (B g base m cap : Nat) (now : Int) (cur : List (Int × Int × Int)) (e : Ending) (w' : World) : Prop :=
  ((∀ (j : Nat) (q : Int × Int × Int), cur[j]? = some q → rp now q = false) ∧ e = .returned (.int .i64 (-1)) ∧ Rip wS B g base m cap cur [] w') ∨
  ∃ (i : Nat) (q : Int × Int × Int), cur[i]? = some q ∧ rp now q = true ∧ (∀ (j : Nat) (q : Int × Int × Int), j < i → cur[j]? = some q → rp now q = false) ∧ e = .returned (.int .i64 (i : Int)) ∧ Rip wS B g base m cap cur [ref q] w'

theorem IdxPost.no {w' : World} (h : ∀ (j : Nat) (q : Int × Int × Int), cur[j]? = some q → rp now q = false) (hr : Rip wS B g base m cap cur [] w') : IdxPost wS B g base m cap now cur (.returned (.int .i64 (-1))) w' := .inl ⟨h, rfl, hr⟩
theorem IdxPost.yes {w' : World} {i : Nat} {q : Int × Int × Int} (hq : cur[i]? = some q) (hr : rp now q = true) (h : ∀ (j : Nat) (q : Int × Int × Int), j < i → cur[j]? = some q → rp now q = false) (hR : Rip wS B g base m cap cur [ref q] w') : IdxPost wS B g base m cap now cur (.returned (.int .i64 (i : Int))) w' := .inr ⟨i, q, hq, hr, h, rfl, hR⟩

def IdxRel (wS : World) (B g base m cap : Nat) (now : Int) (cur : List (Int × Int × Int)) (gh : Nat) (v : Value) (wr : World) : Prop :=
  ∃ k : Nat, v = .int .i64 (k : Int) ∧ k ≤ m ∧ gh = m - k ∧ (∀ (j : Nat) (q : Int × Int × Int), j < k → cur[j]? = some q → rp now q = false) ∧ Rip wS B g base m cap cur [] wr

set_option maxRecDepth 100000 in
set_option maxHeartbeats 2000000 in
theorem index_any (h : Rip wS B g base m cap cur [] w) (r : Reads wS B g x bx now) (hm : m ≤ 1000000) :
    Calls Tryz.prog 295 #[.slice (some ⟨g, 0, none⟩) m cap, .func (.func 292) #[] #[.pointer (some ⟨bx, 0, none⟩), .pointer (some ⟨B, 0, none⟩)]] w (IdxPost wS B g base m cap now cur) := by
  have R := Lib.hid r
  have R0 : IdxRel wS B g base m cap now cur m (.int .i64 0) w := ⟨0, rfl, Nat.zero_le _, rfl, fun j q hj => absurd hj (Nat.not_lt_zero j), h⟩
  have hl := Lib.hid h.len
  clear h r
  go_enter Tryz.func295, Tryz.ntmps295
  go_wp2_with fail
  go_loopg [8] m (fun gh v8 wr => IdxRel wS B g base m cap now cur gh v8 wr)
  case atStart => exact R0
  case round =>
    clear R0
    obtain ⟨k, rfl, hk, hg, hno, hR⟩ := hrel
    by_cases hkm : k < m
    · obtain ⟨⟨q0, q1, q2⟩, hq⟩ : ∃ q, cur[k]? = some q := ⟨_, List.getElem?_eq_getElem (by have := hl.out; omega)⟩
      obtain ⟨z0, z1, z2⟩ := hR.at hq
      simp only at z0 z1 z2
      by_cases hr : q2 ≤ now - 2
      · have K := Lib.hid (ripe1_yes hR R.out q0 q1 q2 hr (by simp))
        have E := Lib.hid (And.intro hq (And.intro hno (show rp now (q0, q1, q2) = true from by simpa [rp] using hr)))
        clear hR hq hno hg hr
        go_wp2_with fail
        refine K.out.mono ?_
        rintro e w1 ⟨rfl, h1⟩
        go_wp2
        go_ret
        exact IdxPost.yes E.out.1 E.out.2.2 E.out.2.1 h1
      · have K := Lib.hid (ripe1_no hR R.out q0 q1 q2 hr)
        have E := Lib.hid (And.intro hq (And.intro hno (And.intro hg (show rp now (q0, q1, q2) = false from by simpa [rp] using hr))))
        clear hR hq hno hg hr
        go_wp2_with fail
        refine K.out.mono ?_
        rintro e w1 ⟨rfl, h1, _⟩
        go_wp2_with fail
        go_roundg (m - (k + 1))
        case measure => have := E.out.2.2.1; omega
        case rel =>
          obtain ⟨hq, hno, _, hrp⟩ := E.out
          refine ⟨k + 1, by go_num, by omega, rfl, fun j q' hj hq' => ?_, h1⟩
          by_cases e : j = k
          · subst e
            rw [hq] at hq'
            injection hq' with e2
            rw [← e2]
            exact hrp
          · exact hno j q' (by omega) hq'
    · have E := Lib.hid (And.intro hno hR)
      clear hR hno hg
      go_wp2
      go_ret
      exact IdxPost.no (fun j q hj => E.out.1 j q (by have := (List.getElem?_eq_some_iff.1 hj).1; have := hl.out; omega) hj) E.out.2
theorem cells3_set : ∀ (c : List (Int × Int × Int)) (i : Nat) (q : Int × Int × Int), i < c.length → cells3 (c.set i q) = (((cells3 c).set (i * 3) (.int .i64 q.1)).set (i * 3 + 1) (.int .i64 q.2.1)).set (i * 3 + 2) (.int .i64 q.2.2)
  | [], i, q, h => absurd h (Nat.not_lt_zero i)
  | y :: l, 0, q, h => rfl
  | y :: l, i + 1, q, h => by
    have ih := cells3_set l i q (by simpa using h)
    rw [show (i + 1) * 3 = i * 3 + 1 + 1 + 1 from by omega]
    simp only [List.set_cons_succ, cells3, ih]
theorem cells3_take : ∀ (c : List (Int × Int × Int)) (i : Nat), cells3 (c.take i) = (cells3 c).take (i * 3)
  | [], i => by simp [cells3]
  | y :: l, 0 => by simp [cells3]
  | y :: l, i + 1 => by
    rw [show (i + 1) * 3 = i * 3 + 1 + 1 + 1 from by omega]
    simp [cells3, cells3_take l i]

theorem Rip.store (h : Rip wS B g base m cap cur out w) {i : Nat} (hi : i < m) (q : Int × Int × Int) :
    Rip wS B g base m cap (cur.set i q) out (((w.setCell ⟨g, i * 3, none⟩ (.int .i64 q.1)).setCell ⟨g, i * 3 + 1, none⟩ (.int .i64 q.2.1)).setCell ⟨g, i * 3 + 2, none⟩ (.int .i64 q.2.2)) := by
  obtain ⟨o1, g1⟩ := h.row.stored (i * 3) (.int .i64 q.1)
  obtain ⟨o2, g2⟩ := o1.stored (i * 3 + 1) (.int .i64 q.2.1)
  obtain ⟨o3, g3⟩ := o2.stored (i * 3 + 2) (.int .i64 q.2.2)
  obtain ⟨vl, hv, ho⟩ := h.box
  have gB := h.gB
  have lg := h.lg
  refine ⟨((h.turn.setCell (p := ⟨g, i * 3, none⟩) (.inl (.inr rfl)) _).setCell (p := ⟨g, i * 3 + 1, none⟩) (.inl (.inr rfl)) _).setCell (p := ⟨g, i * 3 + 2, none⟩) (.inl (.inr rfl)) _, by simpa using h.len, by rw [cells3_set _ _ _ (by have := h.len; omega)]; exact o3, ⟨vl, ?_, ?_⟩, by simpa using h.fz, h.lB, h.lg, h.gB⟩
  · rw [cell_far _ _ _ _ _ _ gB, cell_far _ _ _ _ _ _ gB, cell_far _ _ _ _ _ _ gB]
    exact hv
  · exact own_keep ho (fun k hk => by
      have hkg : k ≠ g := by have := (ho.lt k hk).1; omega
      exact (Below.heap_setCell _ _ _ _ hkg).trans ((Below.heap_setCell _ _ _ _ hkg).trans (Below.heap_setCell _ _ _ _ hkg)))


/-- What is left behind DeleteFunc: a row of n' elements at the same place. -/
structure Left (wS : World) (B g base n' cap : Nat) (cur : List (Int × Int × Int)) (out : List (Int × Int)) (w : World) : Prop where
  turn : Turn (fun k => k = B ∨ k = g) wS w
  row : w.ownsRow base 374 3 (.slice (some ⟨g, 0, none⟩) n' cap) n' (cells3 cur)
  box : ∃ vl, w.cell? ⟨B, 0, none⟩ = some vl ∧ w.ownsRow wS.heap.size 39 2 vl out.length (cells2 out)

theorem Rip.left (h : Rip wS B g base m cap cur out w) : Left wS B g base m cap cur out w := ⟨h.turn, h.row, h.box⟩

theorem Rip.clear (h : Rip wS B g base m cap cur out w) {i : Nat} (hi : i < m) (hm : m ≤ 1000000) : ∃ w', (∀ ty c, (Builtin.clear_ #[372] ty #[.slice (some ⟨g, i * 3, none⟩) (m - i) c]).run Tryz.prog w = .ok (.tuple #[]) w') ∧ Left wS B g base i cap (cur.take i) out w' := by
  rcases h.row.2 with ⟨e, _⟩ | ⟨g', cap', cu, e, hb, hg, hnc, hcm, hcs, ht⟩
  · simp at e
  simp only [Value.slice.injEq, Option.some.injEq, Addr.mk.injEq, and_true, true_and] at e
  obtain ⟨rfl, rfl⟩ := e
  obtain ⟨vl, hv, ho⟩ := h.box
  have gB := h.gB
  have lg := h.lg
  have hl := h.len
  have hz : (Builtin.zeroCells (Value.cells (.agg #[.int .i64 0, .int .i64 0, .int .i64 0])) (m - i)).toList.length = (m - i) * 3 := by
    rw [Array.length_toList, size_zeroCells]
    rfl
  have h1 : ∀ v ∈ (Builtin.zeroCells (Value.cells (.agg #[.int .i64 0, .int .i64 0, .int .i64 0])) (m - i)).toList, v.oneCell' = true := by
    intro v hv
    simp [Builtin.zeroCells, Value.cells] at hv
    obtain ⟨j, hj, rfl⟩ := hv
    have : j % 3 = 0 ∨ j % 3 = 1 ∨ j % 3 = 2 := by omega
    rcases this with e | e | e <;> simp [e, Value.oneCell']
  have hst := run_storeCells_at (P := Tryz.prog) g (i * 3) 374 (Builtin.zeroCells (Value.cells (.agg #[.int .i64 0, .int .i64 0, .int .i64 0])) (m - i)).toList 0 cu w hg (by rw [hz, hcs]; omega) h1
  simp only [Nat.add_zero] at hst
  refine ⟨w.setRow g (cu.toList.take (i * 3) ++ (Builtin.zeroCells (Value.cells (.agg #[.int .i64 0, .int .i64 0, .int .i64 0])) (m - i)).toList ++ cu.toList.drop (i * 3 + (Builtin.zeroCells (Value.cells (.agg #[.int .i64 0, .int .i64 0, .int .i64 0])) (m - i)).toList.length)).toArray, fun ty c => ?_, ?_, ?_, ?_⟩
  · obtain ⟨k, hk⟩ : ∃ k, m - i = k + 1 := ⟨m - i - 1, by omega⟩
    rw [hk] at hst ⊢
    simp [Builtin.clear_, run_underlying Tryz.underlying372, hst]
  · exact ⟨h.turn.os, h.turn.tape, h.turn.output, by simpa [World.setRow] using h.turn.size, fun k hk hn => (setRow_other w g k _ (fun e => hn (.inr e))).trans (h.turn.block k hk hn)⟩
  · refine ⟨by rw [cells3_len, List.length_take]; omega, .inr ⟨g, cap, _, rfl, hb, setRow_heap w g cu _ 374 _ hg, by omega, hcm, ?_, ?_⟩⟩
    · simp only [List.size_toArray, List.length_append, List.length_take, List.length_drop, Array.length_toList, hz]
      omega
    · rw [cells3_take, ← ht]
      simp only [List.append_assoc]
      rw [List.take_append_of_le_length (by simp; omega), List.take_take, List.take_take]
      congr 1
      omega
  · exact ⟨vl, (World.cell?_of_block (w := w) (setRow_other w g B _ (Ne.symm gB))).trans hv, own_keep ho (fun k hk => setRow_other w g k _ (by have := (ho.lt k hk).1; omega))⟩
end
end Go.Proofs.YtgfobgabdafclaaGreat
