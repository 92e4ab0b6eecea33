/-
  A chain in memory: its calls, as the statements make them.
-/
import Derived.Test.YtakjpoapjokmbaaSets
import Derived.Test.YtakjpoapjokmbaaCmp2
namespace Go.Proofs.Ytakjpoapjokmbaa
open Go.ChangeShapes Go.WideShapes Go.ChangeAt Go.RowKit
set_option linter.unusedVariables false

section
variable {w w' : World} {c mb n m : Nat} {nx : Int} {G : Int → Option Nd}
theorem wf_one : (Lit.int .i64 (-1)).wf = true := by decide
/-- A node behind none. -/
theorem push_first (h : Chn w c mb n m nx G) (hn : n ≤ 1000) (hx : 0 ≤ nx ∧ nx ≤ 1000) (hG1 : G nx = none) (hm : G (-1) = none) (num s g : Int) :
    Calls Try.prog 18 #[.pointer (some ⟨c, 0, none⟩), .int .i64 (-1), .int .i64 0, .int .i64 num, .agg #[.int .i64 s, .int .i64 g]] w fun e w' => e = .returned (.tuple #[.int .i64 nx, .bool true]) ∧ Chn w' c mb (n + 1) (m + 1) (nx + 1) (updG G nx (some ⟨-1, 0, num, s, g, 1⟩)) ∧ Bt c mb w w' :=
  push_of h hn hx hG1 (fun W hb => (fits_none 0 _ W).mono fun e w' ⟨a, b⟩ => ⟨a, by subst b; exact Below.refl _ _⟩)
    (fun W hb => (keep_no (h.below hb) wf_one hm).mono fun e w' ⟨a, b⟩ => ⟨⟨_, a⟩, (h.below hb).below b, But.of_below b⟩)
/-- A node behind another one. -/
theorem push_next (h : Chn w c mb n m nx G) (hn : n ≤ 999) (hx : 0 ≤ nx ∧ nx ≤ 1000) (hG1 : G nx = none) {i : Int} {q : Nd} (hi : (Lit.int .i64 i).wf = true) (h0 : 0 ≤ i) (hG : G i = some q) {cell : Int} (h6 : cell < 6) (hq : cell = q.cell ∨ cell = q.cell + 1) (hc : 0 ≤ q.cell ∧ q.cell ≤ 5) (hcn : 0 ≤ q.count ∧ q.count ≤ 1000) (num s g : Int) :
    Calls Try.prog 18 #[.pointer (some ⟨c, 0, none⟩), .int .i64 i, .int .i64 cell, .int .i64 num, .agg #[.int .i64 s, .int .i64 g]] w fun e w' => e = .returned (.tuple #[.int .i64 nx, .bool true]) ∧ Chn w' c mb (n + 1 + 1) (m + 1) (nx + 1) (updG (updG G i (some { q with count := q.count + 1 })) nx (some ⟨i, cell, num, s, g, 1⟩)) ∧ Bt c mb w w' :=
  push_of h (by omega) hx (by
      unfold updG
      rw [if_neg (by rintro rfl; rw [hG1] at hG; cases hG)]
      exact hG1) (fun W hb => fits_on (h.below hb) hi h0 hG h6 hq hc)
    (fun W hb => (keep_yes (h.below hb) hi hG hcn (by omega)).mono fun e w' ⟨a, b, d⟩ => ⟨⟨_, a⟩, b, d⟩)
def ChnS (c mb : Nat) (k : Nat) : Prop := k = c ∨ k = mb
theorem Chn.told (h : Chn w c mb n m nx G) : Told (ChnS c mb) w (some ⟨c, 0, none⟩) G := told_chn h (ChnS c mb) (.inl rfl) (.inr rfl)
theorem Chn.mine (h : Chn w c mb n m nx G) {k : Nat} (hk : ChnS c mb k) : k < w.heap.size := by
  rcases hk with rfl | rfl
  · exact h.lt.1
  · exact h.lt.2
theorem Chn.sets (h : Chn w c mb n m nx G) {i : Int} (hi : (Lit.int .i64 i).wf = true) {f : Nat} (hok : PathOk f G i) (hf : f ≤ 900) (hcl : ∀ q ∈ pathG f G i, 0 ≤ q.cell ∧ q.cell ≤ 5) :
    Calls Try.prog 19 #[.pointer (some ⟨c, 0, none⟩), .int .i64 i] w fun e W' => ∃ v, e = .returned v ∧ Sts W' w.heap.size v (setsG (pathG f G i)) ∧ Below w.heap.size w W' :=
  callsIn_wide.1 (sets_in 6 (by omega) _ _ f G i hi hok hf hcl w (fun k hk => h.mine hk) h.told)
theorem Chn.back (h : Chn w c mb n m nx G) {i : Int} (hi : (Lit.int .i64 i).wf = true) {f : Nat} (hok : PathOk f G i) (hf : f ≤ 900) :
    Calls Try.prog 21 #[.pointer (some ⟨c, 0, none⟩), .int .i64 i] w fun e W' => ∃ v, e = .returned v ∧ W'.ownsRow w.heap.size 39 2 v ((pathG f G i).map refOf).length (rcells ((pathG f G i).map refOf)) ∧ Below w.heap.size w W' :=
  callsIn_wide.1 (backs_in 9 (by omega) _ _ f G i hi hok (by omega) w (fun k hk => h.mine hk) h.told)
end
theorem sets_nil (i : Int) (hi : (Lit.int .i64 i).wf = true) (w : World) : Calls Try.prog 19 #[.pointer none, .int .i64 i] w fun e W' => (∃ ad cap, e = .returned (.slice ad 0 cap)) ∧ Below w.heap.size w W' := by
  refine (callsIn_wide.1 (sets_in 6 (by omega) none (fun _ => False) 0 (fun _ => none) i hi rfl (by omega) (fun q hq => by simp [pathG] at hq) w (fun k hk => hk.elim) (told_nil _ w))).mono ?_
  rintro e W ⟨v, rfl, ⟨us, hO, hI⟩, hb⟩
  obtain ⟨ad, cap, rfl, _⟩ := rrow_slice hO
  exact ⟨⟨_, _, rfl⟩, hb⟩
theorem back_nil (i : Int) (hi : (Lit.int .i64 i).wf = true) (w : World) : Calls Try.prog 21 #[.pointer none, .int .i64 i] w fun e W' => (∃ ad cap, e = .returned (.slice ad 0 cap)) ∧ Below w.heap.size w W' := by
  refine (callsIn_wide.1 (backs_in 9 (by omega) none (fun _ => False) 0 (fun _ => none) i hi rfl (by omega) w (fun k hk => hk.elim) (told_nil _ w))).mono ?_
  rintro e W ⟨v, rfl, hO, hb⟩
  obtain ⟨ad, cap, rfl, _⟩ := rrow_slice hO
  exact ⟨⟨_, _, rfl⟩, hb⟩
theorem ints_of {W : World} {n₀ cap : Nat} {ad : Option Addr} {l : List Int} (h : W.ownsRow n₀ 3 1 (.slice ad l.length cap) l.length (icells l)) : IntsAt W ad l := by
  intro j x hx
  have hj := (List.getElem?_eq_some_iff.1 hx).1
  obtain ⟨a, c, e, h2⟩ := rrow_slice h
  injection e with e1 e2 e3
  subst e1
  obtain ⟨g, rfl⟩ := h2 (by omega)
  exact ⟨g, 0, rfl, by rw [Nat.zero_add]; exact (h.cellAt j (by omega)).trans (by simp [icells, hx])⟩
theorem grid_of {W : World} {n₀ cap : Nat} {ad : Option Addr} {L : List (List Int)} (h : Sts W n₀ (.slice ad L.length cap) L) (hr : ∀ (j : Nat) (l : List Int), L[j]? = some l → l.length ≤ 100000) : GridAt W ad L := by
  obtain ⟨us, hO, hI⟩ := h
  intro j l hl
  have hj := (List.getElem?_eq_some_iff.1 hl).1
  obtain ⟨a, c, e, h2⟩ := rrow_slice hO
  injection e with e1 e2 e3
  subst e1
  obtain ⟨g, rfl⟩ := h2 (by omega)
  obtain ⟨u, hu⟩ : ∃ u, us[j]? = some u := ⟨_, List.getElem?_eq_getElem (by have := hO.1; omega)⟩
  have hru := hI.at_ j l u hl hu
  obtain ⟨a2, c2, rfl, _⟩ := rrow_slice hru
  exact ⟨g, 0, a2, l.length, c2, rfl, by rw [Nat.zero_add]; exact (hO.cellAt j (by omega)).trans hu, rfl, hr j l hl, ints_of hru⟩
theorem Sts.shape {W : World} {n₀ : Nat} {v : Value} {L : List (List Int)} (h : Sts W n₀ v L) : ∃ ad cap, v = .slice ad L.length cap := by
  obtain ⟨us, hO, hI⟩ := h
  obtain ⟨a, c, e, _⟩ := rrow_slice hO
  exact ⟨a, c, e⟩
theorem Sts.blocks {W W' : World} {n₀ : Nat} {v : Value} {L : List (List Int)} (h : Sts W n₀ v L) (hb : ∀ k, n₀ ≤ k → k < W.heap.size → W'.heap[k]? = W.heap[k]?) : Sts W' n₀ v L :=
  h.keep (fun k vs ty fr h1 h2 _ => hb k h1 (Array.getElem?_eq_some_iff.1 h2).1)
end Go.Proofs.Ytakjpoapjokmbaa
