/-
  Acts that came in: a row of structs, each of four numbers and two rows of numbers.
-/
import Derived.Test.YtepmealhnnoahaaSn
import Derived.ShutString
import Derived.ProofKit
import Derived.OpenShut
import Derived.Deep.Slices
import Derived.Deep.Fields
import Derived.ChangeSame
import Derived.Lib.SmallJoins
namespace Go.Proofs.Ytepmealhnnoahaa
set_option linter.unusedSimpArgs false
open Go.ChangeShapes Go.WideShapes Go.ChangeAt Go.RowKit Go.Deep Go.Joins
set_option linter.unusedVariables false
/-- Acts that came in. -/
def ActsAt (w : World) (sa : Option Addr) (L : List ActV) : Prop :=
  ∃ (b off : Nat), (L = [] ∨ sa = some ⟨b, off, none⟩) ∧ ∀ (i : Nat) (x : ActV), L[i]? = some x → ∃ (ha : Option Addr) (hc : Nat) (la : Option Addr) (lc : Nat), w.rangeAt b (off + i * 6) [.int .i64 x.kind, .int .i64 x.id, .int .i64 x.num, .slice ha x.hits.length hc, .slice la x.lost.length lc, .int .i64 x.shard] ∧ NumsAt w ha x.hits ∧ NumsAt w la x.lost
theorem ActsAt.turn {w w' : World} {sa : Option Addr} {L : List ActV} (h : ActsAt w sa L) (T : Turn (fun _ => False) w w') : ActsAt w' sa L := by
  obtain ⟨b, off, e, h1⟩ := h
  refine ⟨b, off, e, fun i x hx => ?_⟩
  obtain ⟨ha, hc, la, lc, h2, h3, h4⟩ := h1 i x hx
  exact ⟨ha, hc, la, lc, range_turn h2 T id, h3.turn T, h4.turn T⟩
section
variable {H : Type} {enc : TypeId × Value → H} {P : Program} {w : World} {base : Nat} {spare : Nat → Bool} {held : Bool}
theorem open_sfs {t e : TypeId} {fs : Array Field} {fuel : Nat} {cs : List Value} {x : DataW H × List MemPlace} (ht : P.underlying t = some (.slice e)) (he : P.underlying e = some (.struct fs))
    (hone : oneCellFields P fs = true) (hC : P.cellsOf e = fs.size) (h : DataW.trod enc P w base spare held fuel t cs = some x) :
    (cs = [.slice none 0 0] ∧ x = (.nil, [])) ∨
    ∃ (a : Addr) (len cap m : Nat) (D : Nat → DataW H) (Pl : Nat → List MemPlace), cs = [.slice (some a) len cap] ∧ base ≤ a.block ∧ len ≤ cap ∧ cap ≤ maxLen ∧ m = (if spare a.block then cap else len) ∧
      ∀ i, i < m → ∃ (ys : List (DataW H × List MemPlace)) (n : Nat), 
        ∀ (j : Nat) (f : Field), fs[j]? = some f → ∃ (v : Value) (y : DataW H × List MemPlace), w.cell? (a.add (i * fs.size + j)) = some v ∧ ys[j]? = some y ∧ DataW.trod enc P w base spare held n f.type [v] = some y := by
  rcases open_slice ht h with h0 | ⟨a, len, cap, m, n, D, Pl, hcs, hb, hl, hm, hmm, hx, hi⟩
  · exact .inl h0
  · refine .inr ⟨a, len, cap, m, D, Pl, hcs, hb, hl, hm, hmm, fun i him => ?_⟩
    obtain ⟨cs', hc, ht'⟩ := hi i him
    rw [hC] at hc
    obtain ⟨ys, n', hn', hy, hlen, hyl, hf⟩ := DataW.trod_struct he ht'
    obtain ⟨_, hcl, hat⟩ := World.cells?_some hc
    refine ⟨ys, n', fun j f hj => ?_⟩
    obtain ⟨ho, hk⟩ := hone_of hone j f hj
    have hjl : j < fs.size := (Array.getElem?_eq_some_iff.1 hj).1
    have hcell := hat j hjl
    have hv : cs'[j]? = some (cs'[j]'(by omega)) := List.getElem?_eq_getElem (by omega)
    have h1 := hf j f hj
    rw [ho, hk] at h1
    have hone' : (cs'.drop j).take 1 = [cs'[j]'(by omega)] := by
      rw [List.drop_eq_getElem_cons (by omega)]
      rfl
    rw [hone'] at h1
    have hys : ys[j]? = some (ys[j]'(by omega)) := List.getElem?_eq_getElem (by omega)
    refine ⟨_, _, ?_, hys, h1.trans hys⟩
    rw [← Go.Deep.add_add, hcell, hv]
end
theorem open_nums {H : Type} {enc : TypeId × Value → H} {W : World} {n : Nat} {v : Value} {y : DataW H × List MemPlace} (h : DataW.trod enc Try.prog W 0 (fun _ => true) true n 46 [v] = some y) : ∃ (a : Option Addr) (cap : Nat) (l : List Int), v = .slice a l.length cap ∧ NumsAt W a l := by
  rcases open_ints Try.underlying46 Try.underlying3 (by kernel_rfl) h with ⟨hcs, _⟩ | ⟨x, l, c, zs, hcs, _, hl, hm, hz, _, hcell, hwz⟩
  · simp at hcs
    exact ⟨none, 0, [], hcs, 0, 0, .inl rfl, fun j x hx => by simp at hx⟩
  · simp at hcs
    have hz : zs.length = c := by simpa using hz
    refine ⟨some x, c, zs.take l, by rw [hcs, List.length_take, hz, Nat.min_eq_left hl], ?_⟩
    by_cases h0 : l = 0
    · subst h0
      exact ⟨0, 0, .inl (by simp), fun j x hx => by simp at hx⟩
    · obtain ⟨b, off, rfl, hc⟩ := ints_at hcell (by omega)
      refine ⟨b, off, .inr rfl, fun j q hq => ?_⟩
      have hj : j < l := by have := (List.getElem?_eq_some_iff.1 hq).1; rw [List.length_take] at this; omega
      rw [List.getElem?_take_of_lt hj] at hq
      have := hc j (by omega)
      rw [List.getD_eq_getElem?_getD, hq] at this
      exact this
theorem list_of {α : Type} {p : Nat → α → Prop} : ∀ n : Nat, (∀ i, i < n → ∃ x, p i x) → ∃ L : List α, L.length = n ∧ ∀ i x, L[i]? = some x → p i x
  | 0, _ => ⟨[], rfl, fun i x h => by simp at h⟩
  | n + 1, h => by
    obtain ⟨L, hl, hL⟩ := list_of n (fun i hi => h i (by omega))
    obtain ⟨x, hx⟩ := h n (by omega)
    refine ⟨L ++ [x], by simp [hl], fun i y hy => ?_⟩
    by_cases hi : i < n
    · rw [List.getElem?_append_left (by omega)] at hy
      exact hL i y hy
    · have : i = n := by have := (List.getElem?_eq_some_iff.1 hy).1; simp at this; omega
      subst this
      rw [List.getElem?_append_right (by omega), hl, Nat.sub_self] at hy
      simp at hy
      subst hy
      exact hx
def ActsIn (w : World) (sa : Option Addr) (len : Nat) : Prop := ∃ L : List ActV, len = L.length ∧ L.length ≤ 9223372036854775807 ∧ ActsAt w sa L
theorem open_acts {H : Type} {enc : TypeId × Value → H} {W : World} {a : Option Addr} {len cap : Nat} {d : DataW H} {p : List MemPlace} (h : DataW.Trod enc Try.prog W 0 (fun _ => true) true 23 (.slice a len cap) d p) : ActsIn W a len := by
  by_cases h0 : len = 0
  · subst h0
    exact ⟨[], rfl, by simp, 0, 0, .inl rfl, fun i x hx => by simp at hx⟩
  obtain ⟨fuel, hf⟩ := h
  have e : (Value.slice a len cap).cells.toList = [.slice a len cap] := rfl
  rw [e] at hf
  rcases open_sfs Try.underlying23 Try.underlying48 (by kernel_rfl) (by kernel_rfl) hf with ⟨hcs, _⟩ | ⟨x, l, c, m, D, Pl, hcs, _, hl, hm, hmm, hi⟩
  · simp at hcs
    exact absurd hcs.2.1 h0
  · simp at hcs
    obtain ⟨rfl, rfl, rfl⟩ := hcs
    simp only [if_true] at hmm
    subst hmm
    have key : ∀ i, i < len → ∃ v : ActV, ∃ (ha : Option Addr) (hc : Nat) (la : Option Addr) (lc : Nat), (∀ (j : Nat) (u : Value), [Value.int .i64 v.kind, .int .i64 v.id, .int .i64 v.num, .slice ha v.hits.length hc, .slice la v.lost.length lc, .int .i64 v.shard][j]? = some u → W.cell? (x.add (i * 6 + j)) = some u) ∧ NumsAt W ha v.hits ∧ NumsAt W la v.lost := by
      intro i hil
      obtain ⟨ys, n', hfj⟩ := hi i (by omega)
      obtain ⟨v0, y0, c0, _, t0⟩ := hfj 0 _ rfl
      obtain ⟨v1, y1, c1, _, t1⟩ := hfj 1 _ rfl
      obtain ⟨v2, y2, c2, _, t2⟩ := hfj 2 _ rfl
      obtain ⟨v3, y3, c3, _, t3⟩ := hfj 3 _ rfl
      obtain ⟨v4, y4, c4, _, t4⟩ := hfj 4 _ rfl
      obtain ⟨v5, y5, c5, _, t5⟩ := hfj 5 _ rfl
      obtain ⟨k0, q0, _⟩ := DataW.trod_int Try.underlying3 t0
      obtain ⟨k1, q1, _⟩ := DataW.trod_int Try.underlying3 t1
      obtain ⟨k2, q2, _⟩ := DataW.trod_int Try.underlying3 t2
      obtain ⟨k5, q5, _⟩ := DataW.trod_int Try.underlying3 t5
      obtain ⟨a3, p3, l3, rfl, n3⟩ := open_nums t3
      obtain ⟨a4, p4, l4, rfl, n4⟩ := open_nums t4
      simp only [List.cons.injEq, and_true] at q0 q1 q2 q5
      subst q0 q1 q2 q5
      refine ⟨⟨k0, k1, k2, l3, l4, k5⟩, a3, p3, a4, p4, fun j u hu => ?_, n3, n4⟩
      match j, hu with
      | 0, hu => cases hu; exact c0
      | 1, hu => cases hu; exact c1
      | 2, hu => cases hu; exact c2
      | 3, hu => cases hu; exact c3
      | 4, hu => cases hu; exact c4
      | 5, hu => cases hu; exact c5
    obtain ⟨b, off, spot⟩ := x
    obtain ⟨_, _, _, _, _, z, _⟩ := key 0 (by omega)
    have hspot : spot = none := by simpa [Addr.add] using World.cell?_spot (z 0 _ rfl)
    subst hspot
    obtain ⟨L, hL, h2⟩ := list_of len key
    refine ⟨L, hL.symm, by unfold maxLen at hm; omega, b, off, .inr rfl, fun i v hv => ?_⟩
    obtain ⟨ha, hc, la, lc, h3, h4, h5⟩ := h2 i v hv
    refine ⟨ha, hc, la, lc, fun j u hu => ?_, h4, h5⟩
    have := h3 j u hu
    rw [Go.WideShapes.add_plain] at this
    rw [Nat.add_assoc]
    exact this
theorem cells22 : Try.prog.cellsOf 22 = 2 := by kernel_rfl
theorem cells3 : Try.prog.cellsOf 3 = 1 := by kernel_rfl
theorem okWide_arr {P : Program} {w : World} {r : Reach} {base : Nat} {t : TypeId} {v : Value} {n : Nat} {e : TypeId} (ht : P.underlying t = some (.array n e)) (h : Value.okWide P w r base t v) : ∃ cs, v = .agg cs ∧ cs.size = P.cellsOf t := by
  simp only [Value.okWide, ht] at h
  obtain ⟨cs, h1, h2, _⟩ := h
  exact ⟨cs, h1, h2⟩
set_option maxRecDepth 100000 in
theorem open_two {H : Type} {enc : TypeId × Value → H} {W : World} {r : Reach} {base : Nat} {v : Value} {d : DataW H} {p : List MemPlace} (hv : Value.okWide Try.prog W r base 22 v) (h : DataW.Trod enc Try.prog W 0 (fun _ => true) true 22 v d p) : ∃ n0 n1, v = .agg #[.int .i64 n0, .int .i64 n1] := by
  obtain ⟨cs, rfl, hsz⟩ := okWide_arr Try.underlying22 hv
  obtain ⟨c0, c1, rfl⟩ := array2 (hsz.trans cells22)
  obtain ⟨fuel, hf⟩ := h
  obtain ⟨xs, m, _, _, _, hxl, hi⟩ := DataW.trod_array Try.underlying22 hf
  have x0 := hi 0 (by decide)
  have x1 := hi 1 (by decide)
  rw [cells3] at x0 x1
  rw [List.getElem?_eq_getElem (by omega)] at x0 x1
  obtain ⟨n0, u0, _, _⟩ := DataW.trod_int Try.underlying3 x0
  obtain ⟨n1, u1, _, _⟩ := DataW.trod_int Try.underlying3 x1
  simp [Value.cells] at u0 u1
  exact ⟨n0, n1, by rw [u0, u1]⟩
end Go.Proofs.Ytepmealhnnoahaa
