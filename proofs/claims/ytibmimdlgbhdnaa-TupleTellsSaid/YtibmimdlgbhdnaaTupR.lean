/-
  Rows of rows of one's own, and rows put behind rows: for the walks of the statements of layer 6.
-/
import Derived.Test.YtibmimdlgbhdnaaTupF
namespace Go.Proofs.Ytibmimdlgbhdnaa
open Go.ChangeShapes Go.WideShapes Go.ChangeAt Go.RowKit
set_option linter.unusedVariables false

theorem RowsAt.turn {w w' : World} {v : Value} {L : List (List Int)} (h : RowsAt w v L) (t : Turn (fun _ => False) w w') : RowsAt w' v L := by
  obtain ⟨a, b, off, cap, e, ha, hx⟩ := h
  exact ⟨a, b, off, cap, e, ha, fun k l hl => by
    obtain ⟨r, hc, hr⟩ := hx k l hl
    exact ⟨r, t.cell id hc, hr.turn t⟩⟩
theorem cmp_t {w : World} {v1 v2 : Value} {l m : List (List Int)} (h1 : RowsAt w v1 l) (h2 : RowsAt w v2 m) (hl : l.length ≤ 1000000) (hm : m.length ≤ 1000000) (hL : ∀ x ∈ l, x.length ≤ 1000000) (hM : ∀ x ∈ m, x.length ≤ 1000000) :
    Calls Try.prog 20 #[v1, v2] w fun e w' => e = .returned (.int .i64 (cmpL (cmpL cmpI) l m)) ∧ Turn (fun _ => False) w w' :=
  (cmp_is h1 h2 hl hm hL hM).mono fun e w' ⟨he, d, hd⟩ => ⟨he, by rw [hd]; exact (Turn.refl _ w).drewN d⟩
theorem fewL_rows (L : List (List Int)) : ∀ x ∈ fewL L, x.length ≤ 1000000 := fun x hx => by
  unfold fewL at hx
  obtain ⟨y, _, rfl⟩ := List.mem_map.1 hx
  rw [List.length_take]
  omega
theorem fewL_len12 (L : List (List Int)) : (fewL L).length ≤ 12 := by
  rw [fewL_len]
  omega
/-- A row of rows of one's own: what each cell is. -/
theorem own_rows {w : World} {base : Nat} {v : Value} {L : List (List Int)} {xs : List Value} (ho : w.ownsRow base 27 1 v L.length xs) (h : RowsAt w v L) : ∀ (k : Nat) (l : List Int), L[k]? = some l → ∃ r, xs[k]? = some r ∧ RowAt w r l := fun k l hl => by
  obtain ⟨a, b, off, cap, e, ha, hx⟩ := h
  have hk := (List.getElem?_eq_some_iff.1 hl).1
  obtain ⟨a2, c2, e2, s2⟩ := own_slice ho
  obtain ⟨g, rfl⟩ := s2 (by omega)
  subst e2
  injection e with e3 _ _
  obtain rfl := ha.resolve_left (fun q => by rw [q] at hl; simp at hl)
  injection e3 with e3
  injection e3 with e4 e5 _
  subst e4
  subst e5
  obtain ⟨r, hc, hr⟩ := hx k l hl
  rw [Nat.zero_add] at hc
  exact ⟨r, (ho.cellAt k (by omega)).symm.trans hc, hr⟩
theorem rows_own {w : World} {base : Nat} {v : Value} {L : List (List Int)} {xs : List Value} (ho : w.ownsRow base 27 1 v L.length xs) (h : ∀ (k : Nat) (l : List Int), L[k]? = some l → ∃ r, xs[k]? = some r ∧ RowAt w r l) : RowsAt w v L := by
  rcases ho.2 with ⟨e, e2⟩ | ⟨g, cap, cur, e, _⟩
  · obtain rfl := List.eq_nil_of_length_eq_zero e2
    exact ⟨none, 0, 0, 0, e, .inl rfl, fun k l h => by simp at h⟩
  · subst e
    refine ⟨some ⟨g, 0, none⟩, g, 0, cap, rfl, .inr rfl, fun k l hl => ?_⟩
    have hk := (List.getElem?_eq_some_iff.1 hl).1
    obtain ⟨r, q1, q2⟩ := h k l hl
    refine ⟨r, ?_, q2⟩
    rw [Nat.zero_add]
    exact (ho.cellAt k (by omega)).trans q1
theorem own_one {w : World} {base : Nat} {v : Value} {L : List (List Int)} {xs : List Value} (ho : w.ownsRow base 27 1 v L.length xs) (h : RowsAt w v L) : ∀ u ∈ xs, u.oneCell' = true := fun u hu => by
  obtain ⟨k, hk, rfl⟩ := List.mem_iff_getElem.1 hu
  have hl := ho.1
  have hkl : k < L.length := by omega
  obtain ⟨r, q1, q2⟩ := own_rows ho h k _ (List.getElem?_eq_getElem hkl)
  rw [List.getElem?_eq_getElem hk] at q1
  injection q1 with q1
  obtain ⟨a, b, off, cap, e, _⟩ := q2
  rw [q1, e]
  rfl
/-- A row of rows put behind an empty one. -/
theorem rows_app {W : World} {base : Nat} {x : Value} {L : List (List Int)} {xs : List Value} (ho : W.ownsRow base 27 1 x L.length xs) (h : RowsAt W x L) (hn : L.length ≤ 1000) :
    ∃ v' w', (Builtin.append_ #[22, 22] 22 #[.slice (some ⟨W.heap.size, 0, none⟩) 0 0, x]).run Try.prog (W.alloc (.cells #[] 27)) = .ok v' w' ∧ w'.ownsRow W.heap.size 27 1 v' L.length xs ∧ Turn (fun _ => False) W w' := by
  obtain ⟨i3, j1, j2, j3, j4⟩ := info_parts info27
  have h0 := World.ownsRow_lit (base := W.heap.size) (e := 27) (size := 1) W #[] 0 (Nat.le_refl _) (by decide) rfl
  have T1 : Turn (fun _ => False) W (W.alloc (.cells #[] 27)) := (Turn.refl _ W).alloc _
  have one := own_one ho h
  have hA := own_turn ho T1 (fun _ _ => id)
  rcases ho.2 with ⟨e, e2⟩ | ⟨g, cap, cur, e, _⟩
  · subst e
    have hx0 : xs = [] := List.eq_nil_of_length_eq_zero (by have := ho.1; omega)
    subst hx0
    rw [e2]
    exact ⟨_, _, run_append_owned_none _ _ 22 22 27 i3 1 Try.underlying22 j1 _ 0 _ h0, h0, T1⟩
  · subst e
    obtain ⟨v', w', hr, hown, hg, _⟩ := run_append_own (W.alloc (.cells #[] 27)) W.heap.size 22 22 27 i3 _ 1 24 Try.underlying22 j1 j2 j3 j4 rfl (by decide) _ 0 [] h0 ⟨g, 0, none⟩ L.length cap xs (by have := ho.1; omega) (fun j u hu => by
      rw [Go.WideShapes.add_plain, Nat.zero_add]
      have hj := (List.getElem?_eq_some_iff.1 hu).1
      exact (hA.cellAt j (by have := ho.1; omega)).trans hu) one (by unfold maxLen; omega) (by omega) (by simp)
    exact ⟨v', w', hr, by simpa using hown, turn_fresh T1 h0 ((Turn.refl _ _).grown hg (fun k hk => .inl hk))⟩
end Go.Proofs.Ytibmimdlgbhdnaa
