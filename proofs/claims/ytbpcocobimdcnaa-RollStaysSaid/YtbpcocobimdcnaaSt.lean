/-
  Many rolls, and the document's, in two rows: what holds between two acts of RollStays.
-/
import Derived.Test.YtbpcocobimdcnaaOp
namespace Go.Proofs.Ytbpcocobimdcnaa
open Go.ChangeShapes Go.WideShapes Go.ChangeAt Go.RowKit
set_option linter.unusedVariables false

theorem own_type {w : World} {b n size : Nat} {e : TypeId} {v : Value} {xs : List Value} (h : w.ownsRow b e size v n xs) {k : Nat} (hk : v.ownBlock = some k) : ∃ cs, w.heap[k]? = some (.cells cs e (0, 0)) := by
  rcases h.2 with ⟨e, _⟩ | ⟨g, cap, cur, e, _, hg, _⟩
  · rw [e] at hk
    cases hk
  · rw [e] at hk
    obtain rfl : g = k := by simpa [Value.ownBlock] using hk
    exact ⟨_, hg⟩
theorem ERow.off {w w' : World} {v : Value} {l : List EV} {g : Nat} {cs : Array Value} {t : TypeId} {q : Nat × Nat} (h : ERow w v l) (hg : w.heap[g]? = some (.cells cs t q)) (ht : t ≠ 48) (T : Turn (fun b => b = g) w w') : ERow w' v l :=
  ⟨own_turn h.own T fun k hk e => by
    subst e
    obtain ⟨cs', h'⟩ := own_type h.own hk
    rw [hg] at h'
    injection h' with h'
    injection h' with _ h2 _
    exact ht h2, h.lt⟩
theorem TabsAt.off {w w' : World} {l : List EV} {g : Nat} (h : TabsAt w l) (h0 : w.cell? ⟨g, 0, none⟩ = some (.pointer none) ∨ w.cell? ⟨g, 0, none⟩ = some (.slice none 0 0)) (T : Turn (fun b => b = g) w w') : TabsAt w' l := fun e he =>
  tab_keep (h e he) fun k ⟨x, hx⟩ _ => T.block k (block_lt_of_cell hx) fun e => by
    subst e
    rcases h0 with h0 | h0 <;> rw [hx] at h0 <;> cases h0
theorem Pr.off {w w' : World} {p : Option Addr} {L l : List EV} {v : Value} {g : Nat} {cs : Array Value} {t : TypeId} {q : Nat × Nat} (h : Pr w p L v l) (hp : p = none ∨ L ≠ []) (hg : w.heap[g]? = some (.cells cs t q)) (ht : t ≠ 48)
    (h0 : w.cell? ⟨g, 0, none⟩ = some (.pointer none) ∨ w.cell? ⟨g, 0, none⟩ = some (.slice none 0 0)) (T : Turn (fun b => b = g) w w') : Pr w' p L v l := by
  refine ⟨⟨?_, h.rs.srt, h.rs.tabs.off h0 T⟩, h.row.off hg ht T, h.tabs.off h0 T, h.same⟩
  rcases h.rs.at_ with h1 | ⟨r, u, rfl, hc, hr⟩
  · exact .inl h1
  · refine .inr ⟨r, u, rfl, T.cell (fun e => ?_) hc, hr.off hg ht T⟩
    subst e
    have hl : L ≠ [] := hp.resolve_left (by simp)
    obtain ⟨a, c, rfl, ha⟩ := own_slice hr.own
    obtain ⟨g, rfl⟩ := ha (List.length_pos_iff.2 hl)
    rcases h0 with h0 | h0 <;> rw [hc] at h0 <;> cases h0
theorem info24 : (Try.prog.info? 24).map (fun i => (i.zero, i.size, i.bytes)) = some (some (.pointer none), 1, 8) := by kernel_rfl
theorem info25 : (Try.prog.info? 25).map (fun i => (i.zero, i.size, i.bytes)) = some (some (.slice none 0 0), 1, 24) := by kernel_rfl
theorem ptr_app {W : World} {b n : Nat} {v : Value} {xs : List Value} {p : Option Addr} {t : Nat} (h : W.ownsRow b 24 1 v n xs) (hb : b ≤ W.heap.size) (hn : n ≤ 1000) (hc : W.cell? ⟨t, 0, none⟩ = some (.pointer p)) :
    ∃ v' w', (Builtin.append_ #[44, 44] 44 #[v, .slice (some ⟨t, 0, none⟩) 1 1]).run Try.prog W = .ok v' w' ∧ w'.ownsRow b 24 1 v' (n + 1) (xs ++ [.pointer p]) ∧ Turn (fun k => v.ownBlock = some k) W w' := by
  obtain ⟨i3, j1, j2, j3, j4⟩ := info_parts info24
  obtain ⟨v', w', hrun, hown, hg, _⟩ := run_append_own W b 44 44 24 i3 _ 1 8 Try.underlying44 j1 j2 j3 j4 rfl (by decide) v n xs h ⟨t, 0, none⟩ 1 1 [.pointer p] rfl (fun j u hu => by
    rcases j with _ | j
    · simp at hu
      subst hu
      rw [Go.WideShapes.add_plain]
      exact hc
    · simp at hu) (fun u hu => by simp at hu; subst hu; rfl) (by unfold maxLen; omega) (by omega) hb
  exact ⟨v', w', hrun, hown, (Turn.refl _ W).grown hg (fun k hk => .inl hk)⟩
theorem row_app {W : World} {b n : Nat} {v : Value} {xs : List Value} {a : Option Addr} {m c t : Nat} (h : W.ownsRow b 25 1 v n xs) (hb : b ≤ W.heap.size) (hn : n ≤ 1000) (hc : W.cell? ⟨t, 0, none⟩ = some (.slice a m c)) :
    ∃ v' w', (Builtin.append_ #[45, 45] 45 #[v, .slice (some ⟨t, 0, none⟩) 1 1]).run Try.prog W = .ok v' w' ∧ w'.ownsRow b 25 1 v' (n + 1) (xs ++ [.slice a m c]) ∧ Turn (fun k => v.ownBlock = some k) W w' := by
  obtain ⟨i3, j1, j2, j3, j4⟩ := info_parts info25
  obtain ⟨v', w', hrun, hown, hg, _⟩ := run_append_own W b 45 45 25 i3 _ 1 24 Try.underlying45 j1 j2 j3 j4 rfl (by decide) v n xs h ⟨t, 0, none⟩ 1 1 [.slice a m c] rfl (fun j u hu => by
    rcases j with _ | j
    · simp at hu
      subst hu
      rw [Go.WideShapes.add_plain]
      exact hc
    · simp at hu) (fun u hu => by simp at hu; subst hu; rfl) (by unfold maxLen; omega) (by omega) hb
  exact ⟨v', w', hrun, hown, (Turn.refl _ W).grown hg (fun k hk => .inl hk)⟩
/-- Between two acts: n rolls, and the document's. -/
structure StSt (w : World) (n : Nat) (ps : List (Option Addr)) (vs : List Value) (v6 v7 : Value) (wr : World) : Prop where
  lp : ps.length = n
  lv : vs.length = n
  p0 : ps[0]? = some none
  v0 : vs[0]? = some (.slice none 0 0)
  o6 : wr.ownsRow w.heap.size 24 1 v6 n (ps.map Value.pointer)
  o7 : wr.ownsRow w.heap.size 25 1 v7 n vs
  pr : ∀ (k : Nat) (p : Option Addr) (v : Value), ps[k]? = some p → vs[k]? = some v → ∃ L l, Pr wr p L v l ∧ (p = none ∨ L ≠ []) ∧ L.length ≤ n
  tn : Turn (fun _ => False) w wr
theorem StSt.pos {w wr : World} {n : Nat} {ps : List (Option Addr)} {vs : List Value} {v6 v7 : Value} (h : StSt w n ps vs v6 v7 wr) : 0 < n := by
  have := (List.getElem?_eq_some_iff.1 h.p0).1
  have := h.lp
  omega
theorem StSt.turn {w wr w' : World} {n : Nat} {ps : List (Option Addr)} {vs : List Value} {v6 v7 : Value} (h : StSt w n ps vs v6 v7 wr) (T : Turn (fun _ => False) wr w') : StSt w n ps vs v6 v7 w' :=
  ⟨h.lp, h.lv, h.p0, h.v0, own_turn h.o6 T (fun _ _ f => f), own_turn h.o7 T (fun _ _ f => f), fun k p v hp hv => by
    obtain ⟨L, l, h1, h2, h3⟩ := h.pr k p v hp hv
    exact ⟨L, l, h1.turn T, h2, h3⟩, h.tn.trans T⟩
/-- The two rows, one thing longer each. -/
theorem StSt.more {w wr : World} {n : Nat} {ps : List (Option Addr)} {vs : List Value} {v6 v7 : Value} {p : Option Addr} {L l : List EV} {a : Option Addr} {m c b14 : Nat} (h : StSt w n ps vs v6 v7 wr) (hn : n ≤ 100)
    (hp : Pr wr p L (.slice a m c) l) (hpl : p = none ∨ L ≠ []) (hL : L.length ≤ n + 1) (hb : wr.cell? ⟨b14, 0, none⟩ = some (.slice a m c)) (hnb : v6.ownBlock ≠ some b14) :
    ∃ a6 c6 w6, (Builtin.append_ #[44, 44] 44 #[v6, .slice (some ⟨wr.heap.size, 0, none⟩) 1 1]).run Try.prog (wr.alloc (.cells #[.pointer p] 24)) = .ok (.slice a6 (n + 1) c6) w6 ∧
      w6.cell? ⟨b14, 0, none⟩ = some (.slice a m c) ∧
      ∃ a7 c7 w7, (Builtin.append_ #[45, 45] 45 #[v7, .slice (some ⟨w6.heap.size, 0, none⟩) 1 1]).run Try.prog (w6.alloc (.cells #[.slice a m c] 25)) = .ok (.slice a7 (n + 1) c7) w7 ∧
        StSt w (n + 1) (ps ++ [p]) (vs ++ [.slice a m c]) (.slice a6 (n + 1) c6) (.slice a7 (n + 1) c7) w7 := by
  have hpos := h.pos
  have hz := h.tn.size
  -- the rows' own blocks
  obtain ⟨x6, y6, rfl, e6⟩ := own_slice h.o6
  obtain ⟨g6, rfl⟩ := e6 hpos
  obtain ⟨x7, y7, rfl, e7⟩ := own_slice h.o7
  obtain ⟨g7, rfl⟩ := e7 hpos
  have T1 : Turn (fun _ => False) wr (wr.alloc (.cells #[.pointer p] 24)) := (Turn.refl _ wr).alloc _
  obtain ⟨v6', w6, hr6, ho6, T6⟩ := ptr_app (p := p) (t := wr.heap.size) (own_turn h.o6 T1 (fun _ _ f => f)) (by simp; omega) (by omega) (World.cell?_alloc_new wr #[.pointer p] 24 0)
  obtain ⟨a6, c6, rfl, _⟩ := own_slice ho6
  have T6' : Turn (fun b => b = g6) wr w6 := (T1.more (S' := fun b => b = g6) (fun _ _ f => f.elim)).comp T6 (fun i _ e => by simpa [Value.ownBlock, eq_comm] using e)
  obtain ⟨cs6, hg6⟩ := own_type h.o6 (k := g6) rfl
  have z6 : wr.cell? ⟨g6, 0, none⟩ = some (.pointer none) := (h.o6.cellAt 0 (by omega)).trans (by rw [List.getElem?_map, h.p0]; rfl)
  have hne : g7 ≠ g6 := fun e => by
    subst e
    obtain ⟨cs7, hg7⟩ := own_type h.o7 (k := g7) rfl
    rw [hg6] at hg7
    injection hg7 with hg7
    injection hg7 with _ h2 _
    exact absurd h2 (by decide)
  have o7 : w6.ownsRow w.heap.size 25 1 (.slice (some ⟨g7, 0, none⟩) n y7) n vs := own_turn h.o7 T6' (fun k hk e => by
    obtain rfl : g7 = k := by simpa [Value.ownBlock] using hk
    exact hne e)
  have hb6 : w6.cell? ⟨b14, 0, none⟩ = some (.slice a m c) := T6'.cell (fun e => hnb (by rw [e]; rfl)) hb
  have pr6 : ∀ (k : Nat) (p : Option Addr) (v : Value), ps[k]? = some p → vs[k]? = some v → ∃ L l, Pr w6 p L v l ∧ (p = none ∨ L ≠ []) ∧ L.length ≤ n := fun k p v q1 q2 => by
    obtain ⟨L, l, h1, h2, h3⟩ := h.pr k p v q1 q2
    exact ⟨L, l, h1.off h2 hg6 (by decide) (.inl z6) T6', h2, h3⟩
  have hp6 := hp.off hpl hg6 (by decide) (.inl z6) T6'
  -- the second row
  have hz6 := T6'.size
  have T2 : Turn (fun _ => False) w6 (w6.alloc (.cells #[.slice a m c] 25)) := (Turn.refl _ w6).alloc _
  obtain ⟨v7', w7, hr7, ho7, T7⟩ := row_app (a := a) (m := m) (c := c) (t := w6.heap.size) (own_turn o7 T2 (fun _ _ f => f)) (by simp; omega) (by omega) (World.cell?_alloc_new w6 #[.slice a m c] 25 0)
  obtain ⟨a7, c7, rfl, _⟩ := own_slice ho7
  have T7' : Turn (fun b => b = g7) w6 w7 := (T2.more (S' := fun b => b = g7) (fun _ _ f => f.elim)).comp T7 (fun i _ e => by simpa [Value.ownBlock, eq_comm] using e)
  obtain ⟨cs7, hg7⟩ := own_type o7 (k := g7) rfl
  have z7 : w6.cell? ⟨g7, 0, none⟩ = some (.slice none 0 0) := (o7.cellAt 0 (by omega)).trans h.v0
  refine ⟨a6, c6, w6, hr6, hb6, a7, c7, w7, hr7, ?_, ?_, ?_, ?_, ?_, ho7, ?_, ?_⟩
  · simp [h.lp]
  · simp [h.lv]
  · rw [List.getElem?_append_left (by rw [h.lp]; exact hpos)]
    exact h.p0
  · rw [List.getElem?_append_left (by rw [h.lv]; exact hpos)]
    exact h.v0
  · rw [List.map_append]
    refine own_turn ho6 T7' (fun k hk e => ?_)
    subst e
    obtain ⟨cs', h'⟩ := own_type ho6 hk
    rw [hg7] at h'
    injection h' with h'
    injection h' with _ h2 _
    exact absurd h2 (by decide)
  · intro k q u hq hu
    by_cases hk : k < n
    · rw [List.getElem?_append_left (by rw [h.lp]; exact hk)] at hq
      rw [List.getElem?_append_left (by rw [h.lv]; exact hk)] at hu
      obtain ⟨L, l, h1, h2, h3⟩ := pr6 k q u hq hu
      exact ⟨L, l, h1.off h2 hg7 (by decide) (.inr z7) T7', h2, by omega⟩
    · rw [List.getElem?_append_right (by rw [h.lp]; omega)] at hq
      rw [List.getElem?_append_right (by rw [h.lv]; omega)] at hu
      have hk0 : k - ps.length = 0 := by
        have := (List.getElem?_eq_some_iff.1 hq).1
        simp at this
        omega
      have hk1 : k - vs.length = 0 := by
        have := h.lp
        have := h.lv
        omega
      rw [hk0] at hq
      rw [hk1] at hu
      simp at hq hu
      subst hq
      subst hu
      exact ⟨L, l, hp6.off hpl hg7 (by decide) (.inr z7) T7', hpl, hL⟩
  · have l6 := (h.o6.lt g6 rfl).1
    have l7 := (h.o7.lt g7 rfl).1
    exact (h.tn.comp T6' (fun i hi e => by omega)).comp T7' (fun i hi e => by omega)
theorem StSt.init {w w1 : World} (T : Turn (fun _ => False) w w1) : StSt w 1 [none] [.slice none 0 0] (.slice (some ⟨w1.heap.size, 0, none⟩) 1 1) (.slice (some ⟨w1.heap.size + 1, 0, none⟩) 1 1) ((w1.alloc (.cells #[.pointer none] 24)).alloc (.cells #[.slice none 0 0] 25)) := by
  have hz := T.size
  have T1 : Turn (fun _ => False) w1 (w1.alloc (.cells #[.pointer none] 24)) := (Turn.refl _ _).alloc _
  have T2 : Turn (fun _ => False) (w1.alloc (.cells #[.pointer none] 24)) ((w1.alloc (.cells #[.pointer none] 24)).alloc (.cells #[.slice none 0 0] 25)) := (Turn.refl _ _).alloc _
  have o7 := World.ownsRow_lit (base := w.heap.size) (e := 25) (size := 1) (w1.alloc (.cells #[.pointer none] 24)) #[.slice none 0 0] 1 (by simp; omega) (by unfold maxLen; omega) rfl
  rw [World.size_alloc] at o7
  refine ⟨rfl, rfl, rfl, rfl, own_turn (World.ownsRow_lit (base := w.heap.size) (e := 24) (size := 1) w1 #[.pointer none] 1 (by omega) (by unfold maxLen; omega) rfl) T2 (fun _ _ f => f), o7, fun k p v hp hv => ?_, (T.trans T1).trans T2⟩
  rcases k with _ | k
  · simp at hp hv
    subst hp
    subst hv
    exact ⟨[], [], ⟨rollS_nil _, ⟨World.ownsRow_nil _ _ _ _, by simp⟩, (fun e he => by cases he), rfl⟩, .inl rfl, by simp⟩
  · simp at hp
end Go.Proofs.Ytbpcocobimdcnaa
