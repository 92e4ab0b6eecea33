/-
  What is let go: a row that grows.
-/
import Derived.Test.YtepmealhnnoahaaQg
import Derived.Maps.AppendAt
namespace Go.Proofs.Ytepmealhnnoahaa
open Go.ChangeShapes Go.WideShapes Go.ChangeAt Go.RowKit
set_option linter.unusedVariables false
/-- The block of the row that lies in a cell. -/
def GB (w : World) (gb k : Nat) : Prop := ∃ v, w.cell? ⟨gb, 0, none⟩ = some v ∧ v.ownBlock = some k
def GoneAt (w : World) (base gb : Nat) (l : List (Int × Int)) : Prop :=
  ∃ v, w.cell? ⟨gb, 0, none⟩ = some v ∧ Blk w gb 54 ∧ w.ownsRow base 38 2 v l.length (rcells l) ∧ base ≤ w.heap.size
theorem rcells_app : ∀ (l m : List (Int × Int)), rcells (l ++ m) = rcells l ++ rcells m
  | [], m => rfl
  | p :: l, m => by simp only [List.cons_append, rcells]; rw [rcells_app l m]
theorem GoneAt.turn {S : Nat → Prop} {w w' : World} {base gb : Nat} {l : List (Int × Int)} (h : GoneAt w base gb l) (T : Turn S w w') (h1 : ¬ S gb) (h2 : ∀ k, GB w gb k → ¬ S k) : GoneAt w' base gb l := by
  obtain ⟨v, hc, hb, ho, hs⟩ := h
  exact ⟨v, T.cell h1 hc, hb.turn T h1, own_turn ho T (fun k hk => h2 k ⟨v, hc, hk⟩), Nat.le_trans hs T.size⟩
theorem GB.turn {S : Nat → Prop} {w w' : World} {base gb k : Nat} {l : List (Int × Int)} (g : GB w' gb k) (h : GoneAt w base gb l) (T : Turn S w w') (h1 : ¬ S gb) : GB w gb k := by
  obtain ⟨v, hc, hb, ho, hs⟩ := h
  obtain ⟨v2, hc2, hk⟩ := g
  rw [T.cell h1 hc] at hc2
  cases hc2
  exact ⟨v, hc, hk⟩
set_option maxRecDepth 100000 in
theorem let_go {w : World} {base gb : Nat} {l fs : List (Int × Int)} {v2 : Value} (h : GoneAt w base gb l) (h2 : RowV w 38 2 fs.length v2 (rcells fs)) (hn : l.length + fs.length ≤ 1000000) :
    Calls Try.prog 28 #[v2, .pointer (some ⟨gb, 0, none⟩)] w fun e w' => e = .returned (.tuple #[]) ∧ GoneAt w' base gb (l ++ fs) ∧ Turn (fun k => k = gb ∨ GB w gb k) w w' ∧ (∀ k, GB w' gb k → GB w gb k ∨ w.heap.size ≤ k) := by
  obtain ⟨v, hc, hb, ho, hs⟩ := h
  obtain ⟨b, cap, rfl, hB, hx, hl⟩ := h2
  obtain ⟨a, n, c, rfl⟩ : ∃ a n c, v = .slice a n c := by
    obtain ⟨a, c, e, _⟩ := own_slice ho
    exact ⟨a, _, c, e⟩
  obtain ⟨i3, j1, j2, j3, j4⟩ := info_parts info38c
  obtain ⟨v', w', hr, ho', hg, _, hbl⟩ := run_append_own_at w base 54 54 38 i3 _ 2 16 Try.underlying54 j1 j2 j3 j4 rfl (by decide) _ _ _ ho ⟨b, 0, none⟩ fs.length cap (rcells fs) (rcells_len fs) (fun j u hu => by
    rw [Go.WideShapes.add_plain, Nat.zero_add]
    have := hx j u hu
    rw [Nat.zero_add] at this
    exact this) (rcells_one fs) (by unfold maxLen; omega) (by omega) hs
  have T0 : Turn (fun k => GB w gb k) w w' := (Turn.refl _ _).grown hg (fun k hk => .inl ⟨_, hc, hk⟩)
  obtain ⟨a', n', c', rfl⟩ : ∃ a n c, v' = .slice a n c := by
    obtain ⟨a, c, e, _⟩ := own_slice ho'
    exact ⟨a, _, c, e⟩
  have hgn : ¬ GB w gb gb := fun ⟨v, hv, hk⟩ => by
    rw [hc] at hv
    cases hv
    rcases ho.2 with ⟨e, _⟩ | ⟨g', cap, cur, e, _, hgg, _⟩
    · rw [e] at hk; simp [Value.ownBlock] at hk
    · rw [e] at hk
      have : g' = gb := by simpa [Value.ownBlock] using hk
      subst this
      exact Blk.ne (show Blk w g' 38 from ⟨_, hgg⟩) hb (by decide) rfl
  have c1 : w'.cell? ⟨gb, 0, none⟩ = some (.slice a n c) := T0.cell hgn hc
  have b1 : Blk w' gb 54 := hb.turn T0 hgn
  have hne : ∀ k, (Value.slice a' n' c').ownBlock = some k → k ≠ gb := fun k hk e => by
    subst e
    rcases ho'.2 with ⟨e, _⟩ | ⟨g', cap, cur, e, _, hgg, _⟩
    · rw [e] at hk; simp [Value.ownBlock] at hk
    · rw [e] at hk
      have : g' = k := by simpa [Value.ownBlock] using hk
      subst this
      exact Blk.ne (show Blk w' g' 38 from ⟨_, hgg⟩) b1 (by decide) rfl
  have T2 : Turn (fun k => k = gb) w' (w'.setCell ⟨gb, 0, none⟩ (.slice a' n' c')) := Turn.put _ _ _ _
  have c2 : (w'.setCell ⟨gb, 0, none⟩ (.slice a' n' c')).cell? ⟨gb, 0, none⟩ = some (.slice a' n' c') := World.cell?_setCell_same w' _ _ c1
  have F := Lib.hid (show GoneAt (w'.setCell ⟨gb, 0, none⟩ (.slice a' n' c')) base gb (l ++ fs) ∧ Turn (fun k => k = gb ∨ GB w gb k) w (w'.setCell ⟨gb, 0, none⟩ (.slice a' n' c')) ∧ (∀ k, GB (w'.setCell ⟨gb, 0, none⟩ (.slice a' n' c')) gb k → GB w gb k ∨ w.heap.size ≤ k) from
    ⟨⟨_, c2, b1.set _ _, by rw [rcells_app, List.length_append]; exact own_turn ho' T2 hne, Nat.le_trans hs (Nat.le_trans T0.size T2.size)⟩,
     (T0.more (fun _ _ e => .inr e)).trans (T2.more (fun _ _ e => .inl e)), fun k ⟨u, hu, hk⟩ => by
      rw [c2] at hu
      cases hu
      rcases hbl with e | e
      · exact .inl ⟨_, hc, e ▸ hk⟩
      · rw [e] at hk
        cases hk
        exact .inr (Nat.le_refl _)⟩)
  have RUN := Lib.hid hr
  have f1 := b1.fz
  have f0 := hb.fz
  clear hr ho ho' hx hl hB hg hbl hs T0 T2 c2 hgn hne hb b1 hn
  go_enter Try.func28, Try.ntmps28
  go_wp2_with (refine rl_append_run (by rfl) _ _ _ (by rfl) (by rfl) (by rfl) RUN.out ?_)
  go_end0
  exact ⟨rfl, F.out⟩
end Go.Proofs.Ytepmealhnnoahaa
