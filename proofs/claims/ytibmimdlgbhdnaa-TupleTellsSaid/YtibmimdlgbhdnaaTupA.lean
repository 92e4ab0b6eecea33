/-
  Rows of numbers that came in: they can be read.
-/
import Derived.Test.YtibmimdlgbhdnaaRows
import Derived.WalkKit
import Derived.ProofKit
import Derived.OpenShut
import Derived.Deep.Matrix
import Derived.Deep.Slices
import Derived.Deep.Fields
import Derived.ChangeSame
import Derived.Test.YtibmimdlgbhdnaaTup
namespace Go.Proofs.Ytibmimdlgbhdnaa
open Go.ChangeShapes Go.WideShapes Go.ChangeAt Go.RowKit Go.Deep
set_option linter.unusedVariables false

theorem open_rows22 {H : Type} {enc : TypeId × Value → H} {W : World} {a : Option Addr} {len cap : Nat} {d : DataW H} {p : List MemPlace} (h : DataW.Trod enc Try.prog W 0 (fun _ => true) true 22 (.slice a len cap) d p) :
    ∃ LL, RowsAt W (.slice a len cap) LL ∧ LL.length ≤ 9223372036854775807 ∧ ∀ x ∈ LL, x.length ≤ 9223372036854775807 := by
  by_cases h0 : len = 0
  · subst h0
    exact ⟨[], ⟨a, 0, 0, cap, rfl, .inl rfl, fun k l h => by simp at h⟩, by decide, fun x hx => by simp at hx⟩
  obtain ⟨fuel, hf⟩ := h
  rcases open_int_rows Try.underlying22 Try.underlying27 Try.underlying3 (by kernel_rfl) (by kernel_rfl) hf with ⟨hcs, _⟩ | ⟨x, l, c, A, L, C, Z, hcs, _, hl, hm, _, hi⟩
  · simp [Value.cells] at hcs
    exact absurd hcs.2.1 h0
  · simp [Value.cells] at hcs
    obtain ⟨rfl, rfl, rfl⟩ := hcs
    obtain ⟨b, off, spot⟩ := x
    have z0 := (hi 0 (by omega)).1
    have hspot : spot = none := by simpa [Addr.add] using World.cell?_spot z0
    subst hspot
    refine ⟨(List.range len).map (fun r => (List.range (L r)).map (fun c => (Z r).getD c 0)), ⟨_, b, off, cap, by simp, .inr rfl, fun k l hk => ?_⟩, by simp; unfold maxLen at hm; omega, fun x hx => ?_⟩
    · rw [List.getElem?_map] at hk
      obtain ⟨r, hr, rfl⟩ := Option.map_eq_some_iff.1 hk
      have hrk : k < len ∧ r = k := by
        have := List.getElem?_eq_some_iff.1 hr
        obtain ⟨h1, h2⟩ := this
        simp at h1 h2
        exact ⟨h1, h2.symm⟩
      obtain ⟨hkl, rfl⟩ := hrk
      obtain ⟨y0, y1, y2, y3, _, y5, y6⟩ := hi r (by omega)
      rw [Go.WideShapes.add_plain] at y0
      refine ⟨_, y0, ?_⟩
      cases ha : A r with
      | none =>
        have hL : L r = 0 := by have := y5 ha; omega
        rw [hL]
        exact ⟨none, 0, 0, C r, rfl, Nat.zero_le _, .inl rfl, fun j x h => by simp at h⟩
      | some ad =>
        by_cases hL : L r = 0
        · rw [hL]
          exact ⟨some ad, 0, 0, C r, rfl, Nat.zero_le _, .inl rfl, fun j x h => by simp at h⟩
        · obtain ⟨_, y7⟩ := y6 ad ha
          obtain ⟨rb, ro, rs⟩ := ad
          have q0 := y7 0 (by omega)
          have hrs : rs = none := by simpa [Addr.add] using World.cell?_spot q0
          subst hrs
          refine ⟨_, rb, ro, C r, by simp, by simpa using y1, .inr rfl, fun j x hj => ?_⟩
          rw [List.getElem?_map] at hj
          obtain ⟨c', hc', rfl⟩ := Option.map_eq_some_iff.1 hj
          obtain ⟨h1, h2⟩ := List.getElem?_eq_some_iff.1 hc'
          simp at h1 h2
          subst h2
          have := y7 j (by omega)
          rw [Go.WideShapes.add_plain] at this
          exact this
    · obtain ⟨r, hr, rfl⟩ := List.mem_map.1 hx
      have hr := List.mem_range.1 hr
      obtain ⟨_, y1, y2, _⟩ := hi r (by omega)
      simp
      unfold maxLen at y2
      omega
end Go.Proofs.Ytibmimdlgbhdnaa
