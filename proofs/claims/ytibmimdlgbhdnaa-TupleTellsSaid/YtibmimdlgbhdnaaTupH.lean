/-
  The heads copied: a contract for the walks of the statements of layer 6.
-/
import Derived.Test.YtibmimdlgbhdnaaTupC
namespace Go.Proofs.Ytibmimdlgbhdnaa
open Go.ChangeShapes Go.WideShapes Go.ChangeAt Go.RowKit
set_option linter.unusedVariables false

theorem heads_app {W : World} {hb n cap : Nat} {f : Nat → Value} (hn : n ≤ 1000000) (hx : ∀ k, k < n → W.cell? ⟨hb, k, none⟩ = some (f k)) (h1 : ∀ k, k < n → (f k).oneCell' = true) :
    ∃ v' w', (Builtin.append_ #[91, 91] 91 #[.slice (some ⟨W.heap.size, 0, none⟩) 0 0, .slice (some ⟨hb, 0, none⟩) n cap]).run Try.prog (W.alloc (.cells #[] 27)) = .ok v' w' ∧ w'.ownsRow W.heap.size 27 1 v' n ((List.range n).map f) ∧ Turn (fun _ => False) W w' := by
  obtain ⟨i3, j1, j2, j3, j4⟩ := info_parts info27
  have h0 := World.ownsRow_lit (base := W.heap.size) (e := 27) (size := 1) W #[] 0 (Nat.le_refl _) (by decide) rfl
  obtain ⟨v', w', hr, ho, hg, _⟩ := run_append_own (W.alloc (.cells #[] 27)) W.heap.size 91 91 27 i3 _ 1 24 Try.underlying91 j1 j2 j3 j4 rfl (by decide) _ 0 [] h0 ⟨hb, 0, none⟩ n cap ((List.range n).map f) (by simp) (fun j u hu => by
    rw [List.getElem?_map] at hu
    obtain ⟨x, hx1, rfl⟩ := Option.map_eq_some_iff.1 hu
    obtain ⟨q1, q2⟩ := List.getElem?_eq_some_iff.1 hx1
    simp at q1 q2
    subst q2
    rw [Go.WideShapes.add_plain, Nat.zero_add]
    exact (((Turn.refl (fun _ => False) W).alloc _).cell id (hx j q1))) (fun u hu => by
      obtain ⟨k, hk, rfl⟩ := List.mem_map.1 hu
      exact h1 k (List.mem_range.1 hk)) (by unfold maxLen; omega) (by omega) (by simp)
  have T1 : Turn (fun _ => False) W (W.alloc (.cells #[] 27)) := (Turn.refl _ W).alloc _
  exact ⟨v', w', hr, by simpa using ho, turn_fresh T1 h0 ((Turn.refl _ _).grown hg (fun k hk => .inl hk))⟩
set_option maxRecDepth 100000 in
set_option maxHeartbeats 2000000 in
theorem clone_heads {w : World} {hb n cap : Nat} {f : Nat → Value} (hn : n ≤ 1000000) (hx : ∀ k, k < n → w.cell? ⟨hb, k, none⟩ = some (f k)) (h1 : ∀ k, k < n → (f k).oneCell' = true) :
    Calls Try.prog 66 #[.slice (some ⟨hb, 0, none⟩) n cap] w fun e w' => ∃ v', e = .returned v' ∧ w'.ownsRow w.heap.size 27 1 v' n ((List.range n).map f) ∧ Turn (fun _ => False) w w' := by
  obtain ⟨v', w', hr, ho, T⟩ := heads_app (cap := cap) hn hx h1
  have RUN := Lib.hid hr
  have F := Lib.hid (And.intro ho T)
  clear hx h1 hr ho T
  have HE := fun w => Lib.run_eql_slice_nil (P := Try.prog) w 91 27 (some ⟨hb, 0, none⟩) n cap 0 0 Try.underlying91
  go_enter Try.func66, Try.ntmps66
  go_wp2_with (refine rl_append_run (by rfl) _ _ _ (by rfl) (by rfl) (by rfl) RUN.out ?_)
  go_ret
  exact ⟨_, rfl, F.out.1, F.out.2⟩
end Go.Proofs.Ytibmimdlgbhdnaa
