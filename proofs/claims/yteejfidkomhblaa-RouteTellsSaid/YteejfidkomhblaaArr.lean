/-
  Arrays of three by value, of integers and of strings: opened where an argument is read, shut where it is read again.
-/
import Derived.WalkKit
import Derived.ProofKit
import Derived.OpenShut
import Derived.ShutString
import Derived.Lib.SmallJoins
import Derived.Laws.IdiomArrays
namespace Go.Proofs.Yteejfidkomhblaa
open Go.ChangeShapes Go.WideShapes Go.ChangeAt Go.RowKit Go.Joins
variable {H : Type} {enc : TypeId × Value → H} {P : Program} {w : World} {base : Nat} {spare : Nat → Bool} {held : Bool}

theorem okWide_arr {r : Reach} {b0 n : Nat} {t e : TypeId} {v : Value} (ht : P.underlying t = some (.array n e)) (hv : Value.okWide P w r b0 t v) : ∃ cs, v = .agg cs ∧ cs.size = P.cellsOf t := by
  simp only [Value.okWide, ht] at hv
  obtain ⟨cs, h1, h2, _⟩ := hv
  exact ⟨cs, h1, h2⟩

theorem open_int3 {r : Reach} {b0 : Nat} {t e : TypeId} {k : IntKind} {v : Value} {d : DataW H} {p : List MemPlace} (ht : P.underlying t = some (.array 3 e)) (he : P.underlying e = some (.int k)) (hC : P.cellsOf t = 3) (hc : P.cellsOf e = 1)
    (hv : Value.okWide P w r b0 t v) (h : DataW.Trod enc P w base spare held t v d p) :
    ∃ x0 x1 x2 : Int, v = .agg #[.int k x0, .int k x1, .int k x2] ∧ d = .agg [.lit (.int k x0), .lit (.int k x1), .lit (.int k x2)] ∧ p = [] ∧ (Lit.int k x0).wf = true ∧ (Lit.int k x1).wf = true ∧ (Lit.int k x2).wf = true := by
  obtain ⟨cs, rfl, hsz⟩ := okWide_arr ht hv
  obtain ⟨c0, c1, c2, rfl⟩ := array3 (hsz.trans hC)
  obtain ⟨fuel, hf⟩ := h
  obtain ⟨y0, y1, y2, m, hx, h0, h1, h2⟩ := trod_array3 ht hc hf
  obtain ⟨x0, e0, rfl, w0⟩ := DataW.trod_int he h0
  obtain ⟨x1, e1, rfl, w1⟩ := DataW.trod_int he h1
  obtain ⟨x2, e2, rfl, w2⟩ := DataW.trod_int he h2
  simp at e0 e1 e2
  subst e0 e1 e2
  simp only [Prod.mk.injEq] at hx
  exact ⟨x0, x1, x2, rfl, hx.1, hx.2, w0, w1, w2⟩

theorem shut_int3 {t e : TypeId} {k : IntKind} {x0 x1 x2 : Int} (ht : P.underlying t = some (.array 3 e)) (he : P.underlying e = some (.int k)) (hC : P.cellsOf t = 3) (hc : P.cellsOf e = 1)
    (w0 : (Lit.int k x0).wf = true) (w1 : (Lit.int k x1).wf = true) (w2 : (Lit.int k x2).wf = true) :
    DataW.Trod enc P w base spare held t (.agg #[.int k x0, .int k x1, .int k x2]) (.agg [.lit (.int k x0), .lit (.int k x1), .lit (.int k x2)]) [] :=
  ⟨2, by simp [DataW.trod, Value.cells, ht, he, hC, hc, w0, w1, w2, show List.range 3 = [0, 1, 2] from rfl]⟩

theorem open_str3 {r : Reach} {b0 : Nat} {t e : TypeId} {v : Value} {d : DataW H} {p : List MemPlace} (ht : P.underlying t = some (.array 3 e)) (he : P.underlying e = some .string) (hC : P.cellsOf t = 3) (hc : P.cellsOf e = 1)
    (hv : Value.okWide P w r b0 t v) (h : DataW.Trod enc P w base spare held t v d p) :
    ∃ x0 x1 x2 : ByteArray, v = .agg #[.string x0, .string x1, .string x2] ∧ d = .agg [.lit (.string x0.data.toList), .lit (.string x1.data.toList), .lit (.string x2.data.toList)] ∧ p = [] ∧ x0.size ≤ maxLen ∧ x1.size ≤ maxLen ∧ x2.size ≤ maxLen := by
  obtain ⟨cs, rfl, hsz⟩ := okWide_arr ht hv
  obtain ⟨c0, c1, c2, rfl⟩ := array3 (hsz.trans hC)
  obtain ⟨fuel, hf⟩ := h
  obtain ⟨y0, y1, y2, m, hx, h0, h1, h2⟩ := trod_array3 ht hc hf
  obtain ⟨x0, e0, rfl, w0⟩ := DataW.trod_string he h0
  obtain ⟨x1, e1, rfl, w1⟩ := DataW.trod_string he h1
  obtain ⟨x2, e2, rfl, w2⟩ := DataW.trod_string he h2
  simp at e0 e1 e2
  subst e0 e1 e2
  simp only [Prod.mk.injEq] at hx
  exact ⟨x0, x1, x2, rfl, hx.1, hx.2, w0, w1, w2⟩

theorem shut_str3 {t e : TypeId} {x0 x1 x2 : ByteArray} (ht : P.underlying t = some (.array 3 e)) (he : P.underlying e = some .string) (hC : P.cellsOf t = 3) (hc : P.cellsOf e = 1)
    (w0 : x0.size ≤ maxLen) (w1 : x1.size ≤ maxLen) (w2 : x2.size ≤ maxLen) :
    DataW.Trod enc P w base spare held t (.agg #[.string x0, .string x1, .string x2]) (.agg [.lit (.string x0.data.toList), .lit (.string x1.data.toList), .lit (.string x2.data.toList)]) [] :=
  ⟨2, by simp [DataW.trod, Value.cells, ht, he, hC, hc, w0, w1, w2, show List.range 3 = [0, 1, 2] from rfl]⟩
end Go.Proofs.Yteejfidkomhblaa
