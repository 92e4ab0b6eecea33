/-
  Rows of codes put behind one another; how many codes a part makes.
-/
import Derived.Test.YtadogobdlcionaaDoorRh
namespace Go.Proofs.YtadogobdlcionaaDoor
open Go.ChangeShapes Go.WideShapes Go.ChangeAt Go.RowKit Go.Shelf
set_option linter.unusedVariables false
theorem take_lt {pr : (Nat × Tok) → Bool} {L : List (Nat × Tok)} {i : Nat} {x : Nat × Tok} (h : takeB pr L i = some x) : i < L.length := by
  unfold takeB at h
  cases hx : L[i]? with
  | none => rw [hx] at h; cases h
  | some y => exact (List.getElem?_eq_some_iff.1 hx).1
/-- How many codes there are behind those that there were. -/
def Tg.len : Tg → Nat
  | .lp _ l => l.length
  | _ => 0
theorem read_len (s : ByteArray) (L : List (Nat × Tok)) (e : Nat) : ∀ (f : Nat) (t : Tg) (nest i : Nat) (l : List CD) (j : Nat), readF s L e f t nest i = .ok l j → i ≤ j ∧ l.length + i ≤ t.len + j
  | 0, t, nest, i, l, j, h => by cases h
  | f + 1, .su, nest, i, l, j, h => by
    unfold readF at h
    split at h
    · rename_i l1 j1 h1
      have a := read_len s L e f _ _ _ _ _ h1
      have b := read_len s L e f _ _ _ _ _ h
      simp only [Tg.len] at a b ⊢
      omega
    · rename_i h2
      exact absurd h (h2 _ _)
  | f + 1, .pr, nest, i, l, j, h => by
    unfold readF at h
    split at h
    · rename_i l1 j1 h1
      have a := read_len s L e f _ _ _ _ _ h1
      have b := read_len s L e f _ _ _ _ _ h
      simp only [Tg.len] at a b ⊢
      omega
    · rename_i h2
      exact absurd h (h2 _ _)
  | f + 1, .lp b l0, nest, i, l, j, h => by
    rw [readF] at h
    by_cases hc : (if b = true then (1 : Int) else 3) ≤ opAt s L i ∧ opAt s L i ≤ (if b = true then 2 else 5)
    · rw [if_pos hc] at h
      cases hq : readF s L e f (if b = true then Tg.pr else Tg.un) nest (i + 1) with
      | ok l1 j1 =>
        rw [hq] at h
        dsimp only at h
        have a := read_len s L e f _ _ _ _ _ hq
        have c := read_len s L e f _ _ _ _ _ h
        cases b <;> simp [Tg.len] at a c ⊢ <;> omega
      | stop x y => rw [hq] at h; cases h
      | out => rw [hq] at h; cases h
    · rw [if_neg hc] at h
      injection h with h1 h2
      subst h1 h2
      simp [Tg.len]
  | f + 1, .un, nest, i, l, j, h => by
    unfold readF at h
    simp only [Tg.len]
    split at h
    · cases h
    · split at h
      · split at h
        · cases h
        · split at h
          · rename_i l1 j1 h1
            have a := read_len s L e f _ _ _ _ _ h1
            injection h with h3 h4
            subst h3 h4
            simp [Tg.len] at a ⊢
            omega
          · rename_i h2
            exact absurd h (h2 _ _)
      · split at h
        · split at h
          · cases h
          · split at h
            · rename_i l1 j1 h1
              have a := read_len s L e f _ _ _ _ _ h1
              split at h
              · injection h with h3 h4
                subst h3 h4
                simp [Tg.len] at a ⊢
                omega
              · cases h
            · rename_i h2
              exact absurd h (h2 _ _)
        · split at h
          · split at h
            · injection h with h3 h4
              subst h3 h4
              simp
              omega
            · cases h
          · split at h
            · injection h with h3 h4
              subst h3 h4
              simp
              omega
            · split at h
              · split at h
                · injection h with h3 h4
                  subst h3 h4
                  simp
                  omega
                · cases h
              · cases h
theorem info95 : (Tryd.prog.info? 95).map (fun i => (i.zero, i.size, i.bytes)) = some (some (.agg #[.int .i64 0, .int .i64 0, .string ⟨#[]⟩, .int .i64 0, .int .i64 0]), 5, 48) := by kernel_rfl
theorem cdsC_app (l m : List CD) : cdsC (l ++ m) = cdsC l ++ cdsC m := by simp [cdsC]
theorem cdsC_one (l : List CD) : ∀ u ∈ cdsC l, u.oneCell' = true := by
  intro u hu
  unfold cdsC at hu
  rw [List.mem_flatten] at hu
  obtain ⟨y, hy, hu⟩ := hu
  obtain ⟨c, -, rfl⟩ := List.mem_map.1 hy
  simp only [CD.cells, List.mem_cons, List.not_mem_nil, or_false] at hu
  rcases hu with rfl | rfl | rfl | rfl | rfl <;> rfl
theorem cdsC_len : ∀ (l : List CD), (cdsC l).length = l.length * 5
  | [] => rfl
  | c :: r => by
    show (c.cells ++ cdsC r).length = _
    rw [List.length_append, cdsC_len r, List.length_cons]
    show 5 + _ = _
    omega
/-- Codes put behind codes. -/
theorem append_cds {w : World} {base b2 : Nat} {v v2 : Value} {l m : List CD} (h : cdsV base l w v) (h2 : cdsV b2 m w v2) (hb : base ≤ w.heap.size) (hl : l.length + m.length ≤ 1000000) :
    ∃ v' w', (Builtin.append_ #[57, 57] 57 #[v, v2]).run Tryd.prog w = .ok v' w' ∧ cdsV base (l ++ m) w' v' ∧ Turn (fun q => v.ownBlock = some q) w w' := by
  obtain ⟨i3, j1, j2, j3, j4⟩ := info_parts info95
  unfold cdsV at *
  rcases h2.2 with ⟨rfl, hn⟩ | ⟨g, cap, cur, rfl, hg, hgg, hc, hm, hcs, htk⟩
  · have hm0 : m = [] := List.length_eq_zero_iff.1 hn
    subst hm0
    exact ⟨v, w, run_append_owned_none w base 57 57 95 i3 5 Tryd.underlying57 j1 v l.length (cdsC l) h, by simpa using h, Turn.refl _ _⟩
  · obtain ⟨v', w', hr, ho, hg2, _⟩ := run_append_own w base 57 57 95 i3 _ 5 48 Tryd.underlying57 j1 j2 j3 j4 rfl (by decide) v l.length (cdsC l) h ⟨g, 0, none⟩ m.length cap (cdsC m) h2.1 (h2.cells rfl) (cdsC_one m) (by unfold maxLen; omega) (by omega) hb
    exact ⟨v', w', hr, by rw [List.length_append, cdsC_app]; exact ho, (Turn.refl _ _).grown hg2 (fun k hk => .inl hk)⟩
end Go.Proofs.YtadogobdlcionaaDoor
