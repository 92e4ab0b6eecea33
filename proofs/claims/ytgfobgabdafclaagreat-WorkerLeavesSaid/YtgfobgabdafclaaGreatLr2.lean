/-
  A ring of commands in memory: places written, the lowest one left behind.
-/
import Derived.Test.YtgfobgabdafclaaGreatLr
namespace Go.Proofs.YtgfobgabdafclaaGreat
open Go.ChangeShapes Go.WideShapes Go.ChangeAt Go.RowKit
set_option linter.unusedVariables false

theorem build_place (cs : List Value) (hl : cs.length = 14) (t : Bool) (w : World) : (Instr.build 227 #[(0, .agg cs.toArray), (1, .bool t)]).run Tryz.prog w = .ok (.agg (cs ++ [Value.bool t]).toArray) w := by
  rcases cs with _ | ⟨a0, cs⟩; · simp at hl
  rcases cs with _ | ⟨a1, cs⟩; · simp at hl
  rcases cs with _ | ⟨a2, cs⟩; · simp at hl
  rcases cs with _ | ⟨a3, cs⟩; · simp at hl
  rcases cs with _ | ⟨a4, cs⟩; · simp at hl
  rcases cs with _ | ⟨a5, cs⟩; · simp at hl
  rcases cs with _ | ⟨a6, cs⟩; · simp at hl
  rcases cs with _ | ⟨a7, cs⟩; · simp at hl
  rcases cs with _ | ⟨a8, cs⟩; · simp at hl
  rcases cs with _ | ⟨a9, cs⟩; · simp at hl
  rcases cs with _ | ⟨a10, cs⟩; · simp at hl
  rcases cs with _ | ⟨a11, cs⟩; · simp at hl
  rcases cs with _ | ⟨a12, cs⟩; · simp at hl
  rcases cs with _ | ⟨a13, cs⟩; · simp at hl
  rcases cs with _ | ⟨a14, cs⟩
  · exact run_build w 227 _ _ (by kernel_rfl)
  · simp at hl
theorem size132 : (Tryz.prog.info? 227).map (·.size) = some 15 := by kernel_rfl
theorem one_more {cs : List Value} (h : cs.toArray.all (·.oneCell') = true) (t : Bool) : (cs ++ [Value.bool t]).toArray.all (·.oneCell') = true := by
  simp only [List.all_toArray, List.all_append, List.all_cons, List.all_nil, Bool.and_true, Bool.and_eq_true] at h ⊢
  exact ⟨h, rfl⟩
section
variable {w w' : World} {r pb n low : Nat} {X : Int → Option (List Value)}
theorem off_apart {g k m : Nat} (h : g ≠ k) : g * 15 + 15 ≤ k * 15 ∨ k * 15 + 15 ≤ g * 15 := by omega
/-- .. with a place written. -/
theorem CR.set (h : CR w r pb n low X) {i : Nat} (h1 : low ≤ i) (h2 : i < low + n) (o : Option (List Value)) (ho : ∀ cs, o = some cs → IsCmd cs) :
    CR (w.setCells pb (i % n * 15) (o.getD zc ++ [.bool o.isSome])) r pb n low (updI X i o) := by
  have hoc : (o.getD zc).length = 14 := by
    cases o with
    | none => rfl
    | some cs => exact (ho cs rfl).len
  have T : Turn (fun b => b = pb) w (w.setCells pb (i % n * 15) (o.getD zc ++ [.bool o.isSome])) := Turn.setCells _ _ (Turn.refl _ w) (.inl rfl)
  obtain ⟨m, hm⟩ := h.c2
  have hne := h.ne
  have hth : w.there pb (i % n * 15) (o.getD zc ++ [Value.bool o.isSome]).length := fun j hj => by
    simp [hoc] at hj
    refine ⟨?_, h.bp.fz _⟩
    by_cases hj14 : j = 14
    · subst hj14
      rw [(h.cx i h1 h2).2]
      rfl
    · rw [(h.cx i h1 h2).1 j _ (List.getElem?_eq_getElem (by rw [(h.cmd i).len]; omega))]
      rfl
  have hsame := World.rangeAt_setCells_same w pb (i % n * 15) (o.getD zc ++ [.bool o.isSome]) hth
  refine ⟨h.n1, h.n2, h.l2, h.br.turn T hne, h.bp.setCells _ _, T.cell hne h.c0, T.cell hne h.c1, ⟨m, T.cell hne hm⟩, fun j hj => ?_, fun j cs hj => ?_, fun j h3 h4 => ?_⟩
  · by_cases e : j = (i : Int)
    · subst e
      exact ⟨by omega, by omega⟩
    · rw [updI_off _ _ e] at hj
      exact h.win j hj
  · by_cases e : j = (i : Int)
    · subst e
      rw [updI_at] at hj
      exact ho cs hj
    · rw [updI_off _ _ e] at hj
      exact h.is j cs hj
  · by_cases e : j = i
    · subst e
      rw [updI_at]
      refine ⟨fun q u hq => hsame q u ?_, hsame 14 _ ?_⟩
      · have := (List.getElem?_eq_some_iff.1 hq).1
        rw [List.getElem?_append_left this]
        exact hq
      · rw [List.getElem?_append_right (by omega), hoc]
        rfl
    · rw [updI_off _ _ (by omega)]
      have hap := off_apart (m := 0) (mod_apart h.n1 h3 h4 h1 h2 e)
      have hl : (o.getD zc ++ [Value.bool o.isSome]).length = 15 := by simp [hoc]
      refine ⟨World.rangeAt_setCells_apart (h.cx j h3 h4).1 _ _ _ (.inr ?_), ?_⟩
      · rw [hl, (h.cmd j).len]
        omega
      · rw [World.cell?_setCells_out pb _ _ w _ (fun _ _ => by rw [hl]; show j % n * 15 + 14 < i % n * 15 ∨ i % n * 15 + 15 ≤ j % n * 15 + 14; omega)]
        exact (h.cx j h3 h4).2
theorem CR.there (h : CR w r pb n low X) (m : Int) : CR (w.setCell ⟨r, 2, none⟩ (.int .i64 m)) r pb n low X := by
  obtain ⟨m', hm⟩ := h.c2
  have T : Turn (fun b => b = r) w (w.setCell ⟨r, 2, none⟩ (.int .i64 m)) := Turn.put _ _ _ _
  exact ⟨h.n1, h.n2, h.l2, h.br.set _ _, h.bp.turn T (Ne.symm h.ne), (cell_off _ _ _ _ _ (by decide)).trans h.c0, (cell_off _ _ _ _ _ (by decide)).trans h.c1, ⟨m, World.cell?_setCell_same _ _ _ hm⟩, h.win, h.is,
    fun i h3 h4 => ⟨range_turn (h.cx i h3 h4).1 T (Ne.symm h.ne), T.cell (Ne.symm h.ne) (h.cx i h3 h4).2⟩⟩
theorem CR.lows (h : CR w r pb n low X) (hl : low + 1 ≤ 1000000) (h0 : X low = none) : CR (w.setCell ⟨r, 1, none⟩ (.int .i64 ((low + 1 : Nat) : Int))) r pb n (low + 1) X := by
  obtain ⟨m', hm⟩ := h.c2
  have T : Turn (fun b => b = r) w (w.setCell ⟨r, 1, none⟩ (.int .i64 ((low + 1 : Nat) : Int))) := Turn.put _ _ _ _
  refine ⟨h.n1, h.n2, hl, h.br.set _ _, h.bp.turn T (Ne.symm h.ne), (cell_off _ _ _ _ _ (by decide)).trans h.c0, World.cell?_setCell_same _ _ _ h.c1, ⟨m', (cell_off _ _ _ _ _ (by decide)).trans hm⟩, fun i hi => ?_, h.is, fun i h3 h4 => ?_⟩
  · obtain ⟨a, b⟩ := h.win i hi
    have : i ≠ low := fun e => by rw [e, h0] at hi; cases hi
    omega
  · by_cases h5 : i < low + n
    · exact ⟨range_turn (h.cx i (by omega) h5).1 T (Ne.symm h.ne), T.cell (Ne.symm h.ne) (h.cx i (by omega) h5).2⟩
    · obtain rfl : i = low + n := by omega
      have hn : X ((low + n : Nat) : Int) = none := by
        cases hx : X ((low + n : Nat) : Int) with
        | none => rfl
        | some cs =>
          have := (h.win _ (by rw [hx]; rfl)).2
          omega
      have c := h.cx low (Nat.le_refl _) (by have := h.n1; omega)
      rw [h0] at c
      rw [hn, Nat.add_mod_right]
      exact ⟨range_turn c.1 T (Ne.symm h.ne), T.cell (Ne.symm h.ne) c.2⟩
end
end Go.Proofs.YtgfobgabdafclaaGreat
