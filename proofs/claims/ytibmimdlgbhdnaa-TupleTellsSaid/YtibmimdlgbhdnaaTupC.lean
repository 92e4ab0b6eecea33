/-
  Rows copied: contracts for the walks of the statements of layer 6.
-/
import Derived.WalkSpells
import Derived.Test.YtibmimdlgbhdnaaTupM
namespace Go.Proofs.Ytibmimdlgbhdnaa
open Go.ChangeShapes Go.WideShapes Go.ChangeAt Go.RowKit
set_option linter.unusedVariables false

theorem info3t : (Try.prog.info? 3).map (fun i => (i.zero, i.size, i.bytes)) = some (some (.int .i64 0), 1, 8) := by kernel_rfl
def intsV (l : List Int) : List Value := l.map (.int .i64)
theorem rowAt_own {w : World} {base : Nat} {v : Value} {l : List Int} (h : w.ownsRow base 3 1 v l.length (intsV l)) : RowAt w v l := by
  rcases h.2 with ⟨e, e2⟩ | ⟨g, cap, cur, e, hg, hgg, hc, _⟩
  · obtain rfl := List.eq_nil_of_length_eq_zero e2
    exact ⟨none, 0, 0, 0, e, Nat.le_refl _, .inl rfl, fun j x h => by simp at h⟩
  · subst e
    refine ⟨_, g, 0, cap, rfl, hc, .inr rfl, fun j x hj => ?_⟩
    have hl := (List.getElem?_eq_some_iff.1 hj).1
    rw [Nat.zero_add]
    refine (h.cellAt j (by omega)).trans ?_
    unfold intsV
    rw [List.getElem?_map, hj]
    rfl
theorem one_app {W : World} {b off cap : Nat} {l : List Int} {a : Option Addr} (ha : l = [] ∨ a = some ⟨b, off, none⟩) (hne : a ≠ none) (hl : l.length ≤ 1000000) (hx : ∀ (j : Nat) (x : Int), l[j]? = some x → W.cell? ⟨b, off + j, none⟩ = some (.int .i64 x)) :
    ∃ v' w', (Builtin.append_ #[27, 27] 27 #[.slice (some ⟨W.heap.size, 0, none⟩) 0 0, .slice a l.length cap]).run Try.prog (W.alloc (.cells #[] 3)) = .ok v' w' ∧ w'.ownsRow W.heap.size 3 1 v' l.length (intsV l) ∧ Turn (fun _ => False) W w' := by
  obtain ⟨i3, j1, j2, j3, j4⟩ := info_parts info3t
  have h0 := World.ownsRow_lit (base := W.heap.size) (e := 3) (size := 1) W #[] 0 (Nat.le_refl _) (by decide) rfl
  obtain ⟨p, rfl⟩ : ∃ p, a = some p := by cases a with
    | none => exact absurd rfl hne
    | some p => exact ⟨p, rfl⟩
  obtain ⟨v', w', hr, ho, hg, _⟩ := run_append_own (W.alloc (.cells #[] 3)) W.heap.size 27 27 3 i3 _ 1 8 Try.underlying27 j1 j2 j3 j4 rfl (by decide) _ 0 [] h0 p l.length cap (intsV l) (by unfold intsV; simp) (fun j u hu => by
    unfold intsV at hu
    rw [List.getElem?_map] at hu
    obtain ⟨x, hx1, rfl⟩ := Option.map_eq_some_iff.1 hu
    have hp : p = ⟨b, off, none⟩ := by
      rcases ha with e | e
      · rw [e] at hx1
        simp at hx1
      · injection e
    subst hp
    rw [Go.WideShapes.add_plain]
    exact (((Turn.refl (fun _ => False) W).alloc _).cell id (hx j x hx1))) (fun u hu => by unfold intsV at hu; simp at hu; obtain ⟨x, _, rfl⟩ := hu; rfl) (by unfold maxLen; omega) (by omega) (by simp)
  refine ⟨v', w', hr, by simpa using ho, ?_⟩
  have T1 : Turn (fun _ => False) W (W.alloc (.cells #[] 3)) := (Turn.refl _ W).alloc _
  exact turn_fresh T1 h0 ((Turn.refl _ _).grown hg (fun k hk => .inl hk))
set_option maxRecDepth 100000 in
set_option maxHeartbeats 2000000 in
theorem clone_row {w : World} {v : Value} {l : List Int} (h : RowAt w v l) (hl : l.length ≤ 1000000) :
    Calls Try.prog 63 #[v] w fun e w' => ∃ v', e = .returned v' ∧ w'.ownsRow w.heap.size 3 1 v' l.length (intsV l) ∧ Turn (fun _ => False) w w' := by
  obtain ⟨a, b, off, cap, rfl, hc, ha, hx⟩ := h
  cases a with
  | none =>
    obtain rfl := ha.resolve_right (fun e => by cases e)
    clear hx ha
    have HE := fun w => Lib.run_eql_slice_nil (P := Try.prog) w 27 3 none 0 cap 0 0 Try.underlying27
    go_enter Try.func63, Try.ntmps63
    go_wp2
    go_ret
    exact ⟨_, rfl, World.ownsRow_nil _ _ _ _, Turn.refl _ _⟩
  | some p =>
    obtain ⟨v', w', hr, ho, T⟩ := one_app (cap := cap) ha (by simp) hl hx
    have RUN := Lib.hid hr
    have F := Lib.hid (And.intro ho T)
    clear hx ha hr ho T
    have HE := fun w => Lib.run_eql_slice_nil (P := Try.prog) w 27 3 (some p) l.length cap 0 0 Try.underlying27
    go_enter Try.func63, Try.ntmps63
    go_wp2_with (refine rl_append_run (by rfl) _ _ _ (by rfl) (by rfl) (by rfl) RUN.out ?_)
    go_ret
    exact ⟨_, rfl, F.out.1, F.out.2⟩
end Go.Proofs.Ytibmimdlgbhdnaa
