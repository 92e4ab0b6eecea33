/-
  The document's answers of layer 15: where an entry is, and the entry: contracts for the walks.
-/
import Derived.Test.YtbpcocobimdcnaaRf
namespace Go.Proofs.Ytbpcocobimdcnaa
open Go.ChangeShapes Go.WideShapes Go.ChangeAt Go.RowKit
set_option linter.unusedVariables false

/-- Where an id is; -1: nowhere. -/
def FoundAt (l : List EV) (x z : Int) : Prop := (z = -1 ∧ ∀ e ∈ l, e.id ≠ x) ∨ ∃ (i : Nat) (e : EV), z = (i : Int) ∧ l[i]? = some e ∧ e.id = x
def FxRel (w : World) (l : List EV) (x : Int) (gh : Nat) (v : Value) (wr : World) : Prop :=
  ∃ i : Nat, v = .int .i64 (i : Int) ∧ i ≤ l.length ∧ gh = l.length - i ∧ (∀ (k : Nat) (e : EV), k < i → l[k]? = some e → e.id ≠ x) ∧ wr = w
set_option maxRecDepth 100000 in
set_option maxHeartbeats 2000000 in
theorem rfind_is {w : World} {v : Value} {l : List EV} (h : ERow w v l) (x : Int) :
    Calls Try.prog 20 #[v, .int .i64 x] w fun e w' => ∃ z, e = .returned (.int .i64 z) ∧ FoundAt l x z ∧ w' = w := by
  obtain ⟨a, c, rfl, hg⟩ := own_slice h.own
  have H := Lib.hid (And.intro h hg)
  have hl := h.lt
  have R0 : FxRel w l x l.length (.int .i64 0) w := ⟨0, rfl, Nat.zero_le _, by omega, fun k e hk => absurd hk (Nat.not_lt_zero k), rfl⟩
  clear h hg
  go_enter Try.func20, Try.ntmps20
  go_wp2_with fail
  go_loopg [5] l.length (fun gh v5 wr => FxRel w l x gh v5 wr)
  case atStart => exact R0
  case round =>
    clear R0
    obtain ⟨i, rfl, hil, hgh, h1, rfl⟩ := hrel
    by_cases hlt : i < l.length
    · have t1 : decide ((i : Int) < (l.length : Int)) = true := by simp; omega
      obtain ⟨e, he⟩ : ∃ e, l[i]? = some e := ⟨_, List.getElem?_eq_getElem hlt⟩
      obtain ⟨g, rfl⟩ := H.out.2 (by omega)
      have ho := H.out.1.own
      obtain ⟨x0, x1, x2, x3, x4⟩ := ecells_at l i e he
      have y0 := (ho.cellAt (i * 5) (by omega)).trans x0
      have y1 := (ho.cellAt (i * 5 + 1) (by omega)).trans x1
      have hi1 : (i : Int) < (l.length : Int) := by omega
      have hi0 : (0 : Int) ≤ (i : Int) := by omega
      have L := Lib.hid (And.intro he (And.intro h1 hgh))
      clear ho x0 x1 x2 x3 x4 he h1 hgh
      by_cases hx : e.id = x
      · have t2 : (e.id == x) = true := by simpa using hx
        have F := Lib.hid (show FoundAt l x (i : Int) from .inr ⟨i, e, rfl, L.out.1, hx⟩)
        clear hx
        go_wp2
        go_ret
        exact ⟨_, rfl, F.out, rfl⟩
      · have t2 : (e.id == x) = false := by simpa using hx
        have F := Lib.hid (show FxRel wr l x (l.length - (i + 1)) (.int .i64 ((i + 1 : Nat) : Int)) wr from ⟨i + 1, rfl, by omega, rfl, fun k e' hk hke => by
          rcases Nat.lt_or_eq_of_le (Nat.le_of_lt_succ hk) with hk | rfl
          · exact L.out.2.1 k e' hk hke
          · rw [L.out.1] at hke
            cases hke
            exact hx, rfl⟩)
        clear hx
        go_wp2_with fail
        go_roundg (l.length - (i + 1))
        case measure => have := L.out.2.2; omega
        case rel => exact F.out
    · obtain rfl : i = l.length := by omega
      have t1 : decide ((l.length : Int) < (l.length : Int)) = false := by simp
      have F := Lib.hid (show FoundAt l x (-1) from .inl ⟨rfl, fun e he => by
        obtain ⟨k, hk⟩ := List.mem_iff_getElem?.1 he
        exact h1 k e (List.getElem?_eq_some_iff.1 hk).1 hk⟩)
      clear h1 hgh
      go_wp2
      go_ret
      exact ⟨_, rfl, F.out, rfl⟩
set_option maxRecDepth 100000 in
set_option maxHeartbeats 2000000 in
/-- The document's Find. -/
theorem rFind_is {w : World} {v : Value} {l : List EV} (h : ERow w v l) (ht : TabsAt w l) (x : Int) :
    Calls Try.prog 24 #[v, .int .i64 x] w fun en w' => Turn (fun _ => False) w w' ∧ ((en = .returned (.tuple #[.agg #[.int .i64 0, .int .i64 0, .slice none 0 0, .int .i64 0, .bool false], .bool false]) ∧ ∀ e ∈ l, e.id ≠ x) ∨
      ∃ e, e ∈ l ∧ e.id = x ∧ en = .returned (.tuple #[e.val, .bool true])) := by
  have T0 : Turn (fun _ => False) w (w.alloc (.cells #[.int .i64 0, .int .i64 0, .slice none 0 0, .int .i64 0, .bool false] 48)) := (Turn.refl _ w).alloc _
  obtain ⟨W1, hW1⟩ : ∃ W1, W1 = w.alloc (.cells #[.int .i64 0, .int .i64 0, .slice none 0 0, .int .i64 0, .bool false] 48) := ⟨_, rfl⟩
  have p1 : ∀ (j : Nat) (v : Value), #[Value.int .i64 0, .int .i64 0, .slice none 0 0, .int .i64 0, .bool false][j]? = some v → W1.cell? ⟨w.heap.size, j, none⟩ = some v := fun j v h => by rw [hW1]; exact (World.cell?_alloc_new w _ 48 j).trans h
  have q1 : ∀ j, W1.frozen? ⟨w.heap.size, j, none⟩ = false := fun j => by rw [hW1, frozen?_alloc_cells]; exact fz _ (Nat.le_refl _)
  have hz : W1.heap.size = w.heap.size + 1 := by rw [hW1]; simp
  rw [← hW1] at T0
  have h1 := h.turn T0
  have PL := Lib.hid (rfind_is h1 x)
  have KT := Lib.hid (fun (W : World) (t : Turn (fun b => b = w.heap.size) W1 W) => T0.comp t (fun b hb e => by omega))
  obtain ⟨a, c, rfl, hg⟩ := own_slice h.own
  have HH := Lib.hid (And.intro h1 (And.intro ht hg))
  have hl := h.lt
  clear h h1 T0 ht hg
  have y0 := p1 0 _ rfl
  have y1 := p1 1 _ rfl
  have y2 := p1 2 _ rfl
  have y3 := p1 3 _ rfl
  have y4 := p1 4 _ rfl
  have k0 := q1 0
  have k1 := q1 1
  have k2 := q1 2
  have k3 := q1 3
  have k4 := q1 4
  clear p1 q1
  go_enter Try.func24, Try.ntmps24
  go_wp2_with fail
  rw [← hW1]
  refine PL.out.mono ?_
  rintro en w2 ⟨z, rfl, hf, rfl⟩
  clear PL hW1
  rcases hf with ⟨rfl, hno⟩ | ⟨i, e, rfl, he, hex⟩
  · have NO := Lib.hid hno
    clear hno
    go_wp2
    refine bodyPost_ret (v := .tuple #[.agg #[.int .i64 0, .int .i64 0, .slice none 0 0, .int .i64 0, .bool false], .bool false]) (by simp [results, Try.results24, go_sem, cell_off, y0, y1, y2, y3, y4]) rfl ⟨KT.out _ ?_, .inl ⟨rfl, NO.out⟩⟩
    exact (((((Turn.refl (fun b => b = w.heap.size) w2).put1 _).put1 _).put1 _).put1 _).put1 _
  · have LT := Lib.hid (And.intro he hex)
    have hil := (List.getElem?_eq_some_iff.1 he).1
    obtain ⟨g, rfl⟩ := HH.out.2.2 (by omega)
    obtain ⟨x0, x1, x2, x3, x4⟩ := ecells_at l i e he
    have ho := HH.out.1.own
    have u0 := (ho.cellAt (i * 5) (by omega)).trans x0
    have u1 := (ho.cellAt (i * 5 + 1) (by omega)).trans x1
    have u2 := (ho.cellAt (i * 5 + 2) (by omega)).trans x2
    have u3 := (ho.cellAt (i * 5 + 3) (by omega)).trans x3
    have u4 := (ho.cellAt (i * 5 + 4) (by omega)).trans x4
    have hi1 : (i : Int) < (l.length : Int) := by omega
    have hi0 : (0 : Int) ≤ (i : Int) := by omega
    have t0 : decide ((i : Int) < 0) = false := by simp
    obtain ⟨na, nn, nc, hcs⟩ := plain_slice (HH.out.2.1 e (List.mem_of_getElem? he))
    rw [hcs] at u2
    have EV1 := Lib.hid hcs
    clear x0 x1 x2 x3 x4 ho he hex hcs
    go_wp2
    refine bodyPost_ret (v := .tuple #[.agg #[.int .i64 e.id, .int .i64 e.till, .slice na nn nc, .int .i64 e.win, .bool false], .bool true]) (by simp [results, Try.results24, go_sem, cell_off, y0, y1, y2, y3, y4]) rfl ?_
    refine ⟨KT.out _ ?_, .inr ⟨e, List.mem_of_getElem? LT.out.1, LT.out.2, ?_⟩⟩
    · exact (((((Turn.refl (fun b => b = w.heap.size) w2).put1 _).put1 _).put1 _).put1 _).put1 _
    · unfold EV.val
      rw [EV1.out]
end Go.Proofs.Ytbpcocobimdcnaa
