/-
  Rows made matches: a contract for the walks of the statements of layer 6.
-/
import Derived.Test.YtibmimdlgbhdnaaTupSo
namespace Go.Proofs.Ytibmimdlgbhdnaa
open Go.ChangeShapes Go.WideShapes Go.ChangeAt Go.RowKit
set_option linter.unusedVariables false

theorem mat_app {W WA : World} {base t n : Nat} {v r : Value} {xs : List Value} (h : W.ownsRow base 22 1 v n xs) (hB : base ≤ W.heap.size) (hl : n ≤ 1000) (hb : Below W.heap.size W WA) (hc : WA.cell? ⟨t, 0, none⟩ = some r) (h1 : r.oneCell' = true) :
    ∃ v' w', (Builtin.append_ #[24, 24] 24 #[v, .slice (some ⟨t, 0, none⟩) 1 1]).run Try.prog WA = .ok v' w' ∧ w'.ownsRow base 22 1 v' (n + 1) (xs ++ [r]) ∧ Turn (fun k => v.ownBlock = some k) W w' := by
  obtain ⟨i3, j1, j2, j3, j4⟩ := info_parts info22
  have hA := own_keep h (fun k hk => hb.block k (h.lt k hk).2)
  have hz := hb.size
  obtain ⟨v', w', hr, ho, hg, _⟩ := run_append_own WA base 24 24 22 i3 _ 1 24 Try.underlying24 j1 j2 j3 j4 rfl (by decide) v n xs hA ⟨t, 0, none⟩ 1 1 [r] rfl (fun j u hu => by
    rw [Go.WideShapes.add_plain, Nat.zero_add]
    match j, hu with
    | 0, hu => simp at hu; subst hu; exact hc
    | j + 1, hu => simp at hu) (fun u hu => by simp at hu; subst hu; exact h1) (by unfold maxLen; omega) (by omega) (by omega)
  exact ⟨v', w', hr, ho, (Turn.of_below (S := fun k => v.ownBlock = some k) hb).trans ((Turn.refl _ WA).grown hg (fun k hk => .inl hk))⟩
theorem rowsP_at {w : World} {v : Value} {L : Mat} (h : RowsAt w v L) : RowsP (fun b => b < w.heap.size) w v L := by
  have h1 : RowsP (fun _ => True) w v L := by
    obtain ⟨a, b, off, cap, e, ha, hx⟩ := h
    refine ⟨a, b, off, cap, e, ha.imp id fun h => ⟨h, trivial⟩, fun k l hl => ?_⟩
    obtain ⟨r, q1, a, b, off, cap, e, hc, ha, hx⟩ := hx k l hl
    exact ⟨r, q1, a, b, off, cap, e, hc, ha.imp id fun h => ⟨h, trivial⟩, hx⟩
  exact h1.lt.imp fun k hk => hk.2
theorem rows_take {P : Nat → Prop} {w : World} {a : Option Addr} {cap n : Nat} {L : Mat} (h : RowsP P w (.slice a L.length cap) L) (hn : n ≤ L.length) : RowsP P w (.slice a n cap) (L.take n) := by
  obtain ⟨a', b, off, cap', e, ha, hx⟩ := h
  injection e with e1 _ e3
  subst e1
  subst e3
  refine ⟨a, b, off, cap, by rw [List.length_take, Nat.min_eq_left hn], ?_, fun k l hl => hx k l ?_⟩
  · rcases ha with rfl | ha
    · exact .inl (by simp)
    · exact .inr ha
  · rw [List.getElem?_take] at hl
    split at hl
    · exact hl
    · cases hl
theorem rows_drop {P : Nat → Prop} {w : World} {b off cap n : Nat} {L : Mat} (h : RowsP P w (.slice (some ⟨b, off, none⟩) L.length cap) L) (hn : n ≤ L.length) (hc : L.length ≤ cap) : RowsP P w (.slice (some (if cap = n then ⟨b, off, none⟩ else ⟨b, off + n, none⟩)) (L.length - n) (cap - n)) (L.drop n) := by
  by_cases h0 : cap = n
  · rw [if_pos h0, List.drop_of_length_le (by omega), show L.length - n = 0 by omega]
    exact ⟨_, b, off, cap - n, rfl, .inl rfl, fun k l h => by simp at h⟩
  · rw [if_neg h0]
    obtain ⟨a', b', off', cap', e, ha, hx⟩ := h
    injection e with e1 _ e3
    subst e3
    by_cases hL : L.drop n = []
    · rw [hL, show L.length - n = 0 by have := congrArg List.length hL; simpa using this]
      exact ⟨_, b, off, cap - n, rfl, .inl rfl, fun k l h => by simp at h⟩
    · obtain ⟨ha, hb⟩ := ha.resolve_left (fun e => hL (by rw [e]; simp))
      rw [ha] at e1
      injection e1 with e1
      injection e1 with e4 e5
      subst e4
      subst e5
      refine ⟨_, b, off + n, cap - n, by rw [List.length_drop], .inr ⟨rfl, hb⟩, fun k l hl => ?_⟩
      rw [List.getElem?_drop] at hl
      obtain ⟨r, q1, q2⟩ := hx (n + k) l hl
      exact ⟨r, by rw [Nat.add_assoc]; exact q1, q2⟩
def small (MS : List Mat) : Prop := ∀ M ∈ MS, M.length ≤ 12 ∧ ∀ x ∈ M, x.length ≤ 4
/-- Matches' cells, each of which can be read. -/
def MCells (P : Nat → Prop) (w : World) (MS : List Mat) (xs : List Value) : Prop := ∀ (k : Nat) (M : Mat), MS[k]? = some M → ∃ r, xs[k]? = some r ∧ RowsP P w r M
def MaRel (w : World) (B : Nat) (gh : Nat) (v0 v3 : Value) (wr : World) : Prop :=
  ∃ (L : Mat) (MS : List Mat) (a : Option Addr) (cap : Nat) (xs : List Value), v0 = .slice a L.length cap ∧ L.length ≤ cap ∧ RowsP (fun b => b < B) wr (.slice a L.length cap) L ∧ (∀ x ∈ L, x.length ≤ 4) ∧ wr.ownsRow B 22 1 v3 MS.length xs ∧
    MCells (fun b => b < B) wr MS xs ∧ MS.length + L.length ≤ 12 ∧ small MS ∧ Turn (fun _ => False) w wr ∧ gh = L.length ∧ B ≤ wr.heap.size
/-- What the rows are made. -/
def MaPost (w : World) (v : Value) (w' : World) : Prop :=
  ∃ MS xs B, MatsAt w' v MS ∧ MS.length ≤ 12 ∧ small MS ∧ w'.ownsRow B 22 1 v MS.length xs ∧ MCells (fun b => b < B) w' MS xs ∧ Turn (fun _ => False) w w'
theorem mats_own {P : Nat → Prop} {w : World} {base : Nat} {v : Value} {MS : List Mat} {xs : List Value} (ho : w.ownsRow base 22 1 v MS.length xs) (h : MCells P w MS xs) : MatsAt w v MS := by
  rcases ho.2 with ⟨e, e2⟩ | ⟨g, cap, cur, e, _⟩
  · obtain rfl := List.eq_nil_of_length_eq_zero e2
    exact ⟨none, 0, 0, 0, e, .inl rfl, fun k l h => by simp at h⟩
  · subst e
    refine ⟨some ⟨g, 0, none⟩, g, 0, cap, rfl, .inr rfl, fun k l hl => ?_⟩
    have hk := (List.getElem?_eq_some_iff.1 hl).1
    obtain ⟨r, q1, q2⟩ := h k l hl
    refine ⟨r, ?_, q2.at⟩
    rw [Nat.zero_add]
    exact (ho.cellAt k (by omega)).trans q1
theorem ma_next {w wr w5 : World} {B : Nat} {a a' : Option Addr} {cap cap' n : Nat} {L : Mat} {MS : List Mat} {xs : List Value} {v3 v' : Value} (hwB : w.heap.size ≤ B) (hn1 : 1 ≤ n) (hn : n ≤ L.length) (hL : RowsP (fun b => b < B) wr (.slice a L.length cap) L) (h4 : ∀ x ∈ L, x.length ≤ 4)
    (ho : wr.ownsRow B 22 1 v3 MS.length xs) (hr : MCells (fun b => b < B) wr MS xs) (h12 : MS.length + L.length ≤ 12) (hM : small MS) (T : Turn (fun _ => False) w wr) (hB : B ≤ wr.heap.size)
    (ho5 : w5.ownsRow B 22 1 v' (MS.length + 1) (xs ++ [.slice a n cap])) (T5 : Turn (fun k => v3.ownBlock = some k) wr w5) (hd : RowsP (fun b => b < B) wr (.slice a' (L.length - n) cap') (L.drop n)) (hc' : L.length - n ≤ cap') :
    MaRel w B (L.length - n) (.slice a' (L.length - n) cap') v' w5 := by
  have keep : ∀ k, k < B → w5.heap[k]? = wr.heap[k]? := fun k hk => T5.block k (by omega) (fun e => by have := (ho.lt k e).1; omega)
  have hx := ho.1
  refine ⟨L.drop n, MS ++ [L.take n], a', cap', _, by rw [List.length_drop], by rw [List.length_drop]; exact hc', by rw [List.length_drop]; exact hd.keep keep, fun x hx => h4 x (List.mem_of_mem_drop hx), by rw [List.length_append]; exact ho5, fun k M hk => ?_, by simp; omega, fun M hM1 => ?_, ?_, by rw [List.length_drop], Nat.le_trans hB T5.size⟩
  · by_cases h : k < MS.length
    · rw [List.getElem?_append_left h] at hk
      obtain ⟨r, q1, q2⟩ := hr k M hk
      exact ⟨r, by rw [List.getElem?_append_left (by omega)]; exact q1, q2.keep keep⟩
    · have h2 := (List.getElem?_eq_some_iff.1 hk).1
      simp at h2
      obtain rfl : k = MS.length := by omega
      simp at hk
      subst hk
      exact ⟨.slice a n cap, by rw [List.getElem?_append_right (by omega)]; simp [hx], (rows_take hL hn).keep keep⟩
  · rcases List.mem_append.1 hM1 with h | h
    · exact hM M h
    · rw [List.mem_singleton.1 h]
      exact ⟨by rw [List.length_take]; omega, fun x hx => h4 x (List.mem_of_mem_take hx)⟩
  · exact T.comp T5 fun b hb e => by have := (ho.lt b e).1; omega
end Go.Proofs.Ytibmimdlgbhdnaa
