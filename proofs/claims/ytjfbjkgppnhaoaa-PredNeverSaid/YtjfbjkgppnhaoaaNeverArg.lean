/-
  An array of two slices of steps, as an argument; what of a rule's question holds; the two calls that ask it.
-/
import Derived.Test.YtjfbjkgppnhaoaaArgX
import Derived.Lib.SmallJoins
namespace Go.Proofs.Ytjfbjkgppnhaoaa
open Go.ChangeShapes Go.WideShapes Go.ChangeAt Go.RowKit Go.Deep Go.Joins
set_option linter.unusedVariables false

theorem cells25 : Try.prog.cellsOf 25 = 2 := by kernel_rfl
theorem cells24 : Try.prog.cellsOf 24 = 1 := by kernel_rfl
theorem okWide_arr {P : Program} {w : World} {r : Reach} {base : Nat} {t : TypeId} {v : Value} {n : Nat} {e : TypeId} (ht : P.underlying t = some (.array n e)) (h : Value.okWide P w r base t v) : ∃ cs, v = .agg cs ∧ cs.size = P.cellsOf t := by
  simp only [Value.okWide, ht] at h
  obtain ⟨cs, h1, h2, _⟩ := h
  exact ⟨cs, h1, h2⟩
theorem steps_of {H : Type} {enc : TypeId × Value → H} {W : World} {fuel : Nat} {u : Value} {x : DataW H × List MemPlace} (hf : DataW.trod enc Try.prog W 0 (fun _ => true) true fuel 24 [u] = some x) : ∃ a len cap, u = .slice a len cap ∧ StepsX W a len := by
  rcases open_sf4 Try.underlying24 Try.underlying119 (by kernel_rfl) (by kernel_rfl) hf with ⟨hcs, _⟩ | ⟨y, l, c, m, D, Pl, hcs, _⟩
  · simp only [List.cons.injEq, and_true] at hcs
    subst hcs
    exact ⟨none, 0, 0, rfl, steps_trod_x hf⟩
  · simp only [List.cons.injEq, and_true] at hcs
    subst hcs
    exact ⟨some y, l, c, rfl, steps_trod_x hf⟩
set_option maxRecDepth 100000 in
theorem open_two_steps {H : Type} {enc : TypeId × Value → H} {W : World} {r : Reach} {base : Nat} {v : Value} {d : DataW H} {p : List MemPlace} (hv : Value.okWide Try.prog W r base 25 v) (h : DataW.Trod enc Try.prog W 0 (fun _ => true) true 25 v d p) :
    ∃ a0 l0 c0 a1 l1 c1, v = .agg #[.slice a0 l0 c0, .slice a1 l1 c1] ∧ StepsX W a0 l0 ∧ StepsX W a1 l1 := by
  obtain ⟨cs, rfl, hsz⟩ := okWide_arr Try.underlying25 hv
  obtain ⟨c0, c1, rfl⟩ := array2 (hsz.trans cells25)
  obtain ⟨fuel, hf⟩ := h
  obtain ⟨xs, m, _, _, _, hxl, hi⟩ := DataW.trod_array Try.underlying25 hf
  have x0 := hi 0 (by decide)
  have x1 := hi 1 (by decide)
  rw [cells24] at x0 x1
  rw [List.getElem?_eq_getElem (by omega)] at x0 x1
  obtain ⟨a0, l0, k0, rfl, s0⟩ := steps_of x0
  obtain ⟨a1, l1, k1, rfl, s1⟩ := steps_of x1
  exact ⟨a0, l0, k0, a1, l1, k1, rfl, s0, s1⟩
end Go.Proofs.Ytjfbjkgppnhaoaa
