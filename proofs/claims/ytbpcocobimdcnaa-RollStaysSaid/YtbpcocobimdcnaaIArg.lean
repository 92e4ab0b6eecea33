/-
  A row of integers that came in.
-/
import Derived.Test.YtbpcocobimdcnaaRows
import Derived.Test.YtbpcocobimdcnaaRm
import Derived.WalkKit
import Derived.ProofKit
import Derived.OpenShut
namespace Go.Proofs.Ytbpcocobimdcnaa
open Go.ChangeShapes Go.WideShapes Go.ChangeAt Go.RowKit
set_option linter.unusedVariables false

theorem open_intarg {H : Type} {enc : TypeId × Value → H} {W : World} {a : Option Addr} {len cap : Nat} {d : DataW H} {p : List MemPlace} (h : DataW.Trod enc Try.prog W 0 (fun _ => true) true 43 (.slice a len cap) d p) : IntArg W a len := by
  by_cases h0 : len = 0
  · subst h0
    exact ⟨0, 0, fun _ => 0, .inl rfl, fun i hi => absurd hi (Nat.not_lt_zero i), fun h => absurd h (Nat.lt_irrefl 0), by omega, fun i hi => absurd hi (Nat.not_lt_zero i)⟩
  · obtain ⟨fuel, hf⟩ := h
    rcases open_ints Try.underlying43 Try.underlying3 (by kernel_rfl) hf with ⟨hcs, _⟩ | ⟨x, l, c, zs, hcs, _, hl, hm, hz, _, hcell, hwz⟩
    · simp [Value.cells] at hcs
      exact absurd hcs.2.1 h0
    · simp [Value.cells] at hcs
      obtain ⟨rfl, rfl, rfl⟩ := hcs
      have hz : zs.length = cap := by simpa using hz
      obtain ⟨b, off, rfl, hc⟩ := ints_at hcell (by omega)
      unfold maxLen at hm
      exact ⟨b, off, fun i => zs.getD i 0, .inr rfl, fun i hi => hc i (by omega), fun h => block_lt_of_cell (hc 0 (by omega)), by omega, fun i hi => hwz _ (by
        have : zs.getD i 0 = zs[i]'(by omega) := by simp [List.getD, List.getElem?_eq_getElem (show i < zs.length by omega)]
        show zs.getD i 0 ∈ zs
        rw [this]
        exact List.getElem_mem _)⟩
theorem many_any (a : Option Addr) (len cap : Nat) (ask : Int) (w : World) (hA : IntArg w a len) : Calls Try.prog 6 #[.slice a len cap, .int .i64 ask] w fun e w' => e = .returned (.bool true) ∧ Below w.heap.size w w' := many_walk hA
end Go.Proofs.Ytbpcocobimdcnaa
