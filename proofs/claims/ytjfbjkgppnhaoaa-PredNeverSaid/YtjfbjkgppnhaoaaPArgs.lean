/-
  The arguments of the statements of layer 5: rows of numbers, and steps; and the sets that are made of them.
-/
import Derived.Test.YtjfbjkgppnhaoaaSets
import Derived.Test.YtjfbjkgppnhaoaaCodes
import Derived.Test.YtjfbjkgppnhaoaaPAwake
import Derived.ShutString
import Derived.Deep.Matrix
import Derived.Deep.Slices
import Derived.Deep.Fields
import Derived.ChangeSame
namespace Go.Proofs.Ytjfbjkgppnhaoaa
open Go.ChangeShapes Go.WideShapes Go.ChangeAt Go.RowKit Go.Deep
set_option linter.unusedVariables false

theorem open_rows23 {H : Type} {enc : TypeId × Value → H} {W : World} {a : Option Addr} {len cap : Nat} {d : DataW H} {p : List MemPlace} (h : DataW.Trod enc Try.prog W 0 (fun _ => true) true 23 (.slice a len cap) d p) : RowsIn W a len := by
  by_cases h0 : len = 0
  · exact .inl h0
  obtain ⟨fuel, hf⟩ := h
  rcases open_int_rows Try.underlying23 Try.underlying98 Try.underlying2 (by kernel_rfl) (by kernel_rfl) hf with ⟨hcs, _⟩ | ⟨x, l, c, A, L, C, Z, hcs, _, hl, hm, _, hi⟩
  · simp [Value.cells] at hcs
    exact absurd hcs.2.1 h0
  · simp [Value.cells] at hcs
    obtain ⟨rfl, rfl, rfl⟩ := hcs
    obtain ⟨b, off, spot⟩ := x
    have z0 := (hi 0 (by omega)).1
    have hspot : spot = none := by simpa [Addr.add] using World.cell?_spot z0
    subst hspot
    refine .inr ⟨b, off, A, L, C, fun r c => (Z r).getD c 0, rfl, by unfold maxLen at hm; omega, fun r hr => ?_⟩
    obtain ⟨y0, y1, y2, y3, _, y5, y6⟩ := hi r (by omega)
    rw [Go.WideShapes.add_plain] at y0
    refine ⟨y0, by unfold maxLen at y2; omega, fun hL => ?_⟩
    cases ha : A r with
    | none =>
      have := y5 ha
      omega
    | some ad =>
      obtain ⟨_, y7⟩ := y6 ad ha
      obtain ⟨rb, ro, rs⟩ := ad
      have q0 := y7 0 (by omega)
      have hrs : rs = none := by simpa [Addr.add] using World.cell?_spot q0
      subst hrs
      refine ⟨rb, ro, rfl, fun c hc => ?_⟩
      have := y7 c (by omega)
      rw [Go.WideShapes.add_plain] at this
      exact this

section
variable {H : Type} {enc : TypeId × Value → H} {P : Program} {w : World} {base : Nat} {spare : Nat → Bool} {held : Bool}
theorem open_sf4 {t e : TypeId} {fs : Array Field} {fuel : Nat} {cs : List Value} {x : DataW H × List MemPlace} (ht : P.underlying t = some (.slice e)) (he : P.underlying e = some (.struct fs))
    (hone : oneCellFields P fs = true) (hC : P.cellsOf e = fs.size) (h : DataW.trod enc P w base spare held fuel t cs = some x) :
    (cs = [.slice none 0 0] ∧ x = (.nil, [])) ∨
    ∃ (a : Addr) (len cap m : Nat) (D : Nat → DataW H) (Pl : Nat → List MemPlace), cs = [.slice (some a) len cap] ∧ base ≤ a.block ∧ len ≤ cap ∧ cap ≤ maxLen ∧ m = (if spare a.block then cap else len) ∧
      ∀ i, i < m → ∃ (ys : List (DataW H × List MemPlace)) (n : Nat), 
        ∀ (j : Nat) (f : Field), fs[j]? = some f → ∃ (v : Value) (y : DataW H × List MemPlace), w.cell? (a.add (i * fs.size + j)) = some v ∧ ys[j]? = some y ∧ DataW.trod enc P w base spare held n f.type [v] = some y := by
  rcases open_slice ht h with h0 | ⟨a, len, cap, m, n, D, Pl, hcs, hb, hl, hm, hmm, hx, hi⟩
  · exact .inl h0
  · refine .inr ⟨a, len, cap, m, D, Pl, hcs, hb, hl, hm, hmm, fun i him => ?_⟩
    obtain ⟨cs', hc, ht'⟩ := hi i him
    rw [hC] at hc
    obtain ⟨ys, n', hn', hy, hlen, hyl, hf⟩ := DataW.trod_struct he ht'
    obtain ⟨_, hcl, hat⟩ := World.cells?_some hc
    refine ⟨ys, n', fun j f hj => ?_⟩
    obtain ⟨ho, hk⟩ := hone_of hone j f hj
    have hjl : j < fs.size := (Array.getElem?_eq_some_iff.1 hj).1
    have hcell := hat j hjl
    have hv : cs'[j]? = some (cs'[j]'(by omega)) := List.getElem?_eq_getElem (by omega)
    have h1 := hf j f hj
    rw [ho, hk] at h1
    have hone' : (cs'.drop j).take 1 = [cs'[j]'(by omega)] := by
      rw [List.drop_eq_getElem_cons (by omega)]
      rfl
    rw [hone'] at h1
    have hys : ys[j]? = some (ys[j]'(by omega)) := List.getElem?_eq_getElem (by omega)
    refine ⟨_, _, ?_, hys, h1.trans hys⟩
    rw [← Go.Deep.add_add, hcell, hv]
end
def numP : Option Value → Int
  | some (.int _ n) => n
  | _ => 0
theorem steps_trod {H : Type} {enc : TypeId × Value → H} {W : World} {a : Option Addr} {len cap fuel : Nat} {x : DataW H × List MemPlace} (hf : DataW.trod enc Try.prog W 0 (fun _ => true) true fuel 24 [.slice a len cap] = some x) : StepsIn W a len := by
  by_cases h0 : len = 0
  · exact .inl h0
  rcases open_sf4 Try.underlying24 Try.underlying119 (by kernel_rfl) (by kernel_rfl) hf with ⟨hcs, _⟩ | ⟨x, l, c, m, D, Pl, hcs, _, hl, hm, hmm, hi⟩
  · simp at hcs
    exact absurd hcs.2.1 h0
  · simp at hcs
    obtain ⟨rfl, rfl, rfl⟩ := hcs
    simp only [if_true] at hmm
    subst hmm
    have key : ∀ i, i < len → ∃ k a n q : Int, W.cell? (x.add (i * 4)) = some (.int .i64 k) ∧ W.cell? (x.add (i * 4 + 1)) = some (.int .i64 a) ∧ W.cell? (x.add (i * 4 + 2)) = some (.int .i64 n) ∧ W.cell? (x.add (i * 4 + 3)) = some (.int .i64 q) := by
      intro i hil
      obtain ⟨ys, n', hfj⟩ := hi i (by omega)
      obtain ⟨v0, y0, c0, _, t0⟩ := hfj 0 _ rfl
      obtain ⟨v1, y1, c1, _, t1⟩ := hfj 1 _ rfl
      obtain ⟨v2, y2, c2, _, t2⟩ := hfj 2 _ rfl
      obtain ⟨v3, y3, c3, _, t3⟩ := hfj 3 _ rfl
      obtain ⟨k0, q0, _⟩ := DataW.trod_int Try.underlying3 t0
      obtain ⟨k1, q1, _⟩ := DataW.trod_int Try.underlying3 t1
      obtain ⟨k2, q2, _⟩ := DataW.trod_int Try.underlying3 t2
      obtain ⟨k3, q3, _⟩ := DataW.trod_int Try.underlying2 t3
      simp only [List.cons.injEq, and_true] at q0 q1 q2 q3
      subst q0
      subst q1
      subst q2
      subst q3
      exact ⟨k0, k1, k2, k3, c0, c1, c2, c3⟩
    obtain ⟨b, off, spot⟩ := x
    obtain ⟨_, _, _, _, z0, _⟩ := key 0 (by omega)
    have hspot : spot = none := by simpa [Addr.add] using World.cell?_spot z0
    subst hspot
    refine .inr ⟨b, off, fun i => numP (W.cell? ⟨b, off + i * 4, none⟩), fun i => numP (W.cell? ⟨b, off + i * 4 + 1, none⟩), fun i => numP (W.cell? ⟨b, off + i * 4 + 2, none⟩), fun i => numP (W.cell? ⟨b, off + i * 4 + 3, none⟩), rfl, by unfold maxLen at hm; omega, fun i hil => ?_⟩
    obtain ⟨k, a, n, q, e0, e1, e2, e3⟩ := key i hil
    rw [Go.WideShapes.add_plain] at e0 e1 e2 e3
    have f1 : off + (i * 4 + 1) = off + i * 4 + 1 := by omega
    have f2 : off + (i * 4 + 2) = off + i * 4 + 2 := by omega
    have f3 : off + (i * 4 + 3) = off + i * 4 + 3 := by omega
    rw [f1] at e1
    rw [f2] at e2
    rw [f3] at e3
    simp only [e0, e1, e2, e3, numP]
    exact ⟨trivial, trivial, trivial, trivial⟩
theorem open_steps {H : Type} {enc : TypeId × Value → H} {W : World} {a : Option Addr} {len cap : Nat} {d : DataW H} {p : List MemPlace} (h : DataW.Trod enc Try.prog W 0 (fun _ => true) true 24 (.slice a len cap) d p) : StepsIn W a len := by
  obtain ⟨fuel, hf⟩ := h
  have e : (Value.slice a len cap).cells.toList = [.slice a len cap] := rfl
  rw [e] at hf
  exact steps_trod hf

/-! ### What sets are of -/
def fieldOf (q : Ev) (f : Int) : Int := if f = 0 then q.1 else if f = 1 then q.2.1 else if f = 2 then q.2.2.1 else q.2.2.2
def setOf (ls : List (List Ev)) (p : Int) : List Ev := if p < 0 then [] else (ls[p.toNat]?).getD []
def envOf (ls : List (List Ev)) : Env := ⟨fun p => (((setOf ls p).length : Nat) : Int), fun p f => match (setOf ls p).getLast? with | some q => fieldOf q f | none => 0⟩
/-- Sets in memory, and what they are. -/
structure SetsAt (w : World) (base : Nat) (v : Value) (us : List Value) (ls : List (List Ev)) : Prop where
  row : w.ownsRow base 48 1 v us.length us
  len : ls.length = us.length
  m4 : us.length ≤ 4
  each : ∀ (j : Nat) (u : Value) (l : List Ev), us[j]? = some u → ls[j]? = some l → w.ownsRow base 51 6 u l.length (ecells l) ∧ l.length ≤ 3
theorem made_list {w : World} {base : Nat} : ∀ (us : List Value), (∀ u ∈ us, MadeSet w base u) → ∃ ls : List (List Ev), ls.length = us.length ∧ ∀ (j : Nat) (u : Value) (l : List Ev), us[j]? = some u → ls[j]? = some l → w.ownsRow base 51 6 u l.length (ecells l) ∧ l.length ≤ 3
  | [], _ => ⟨[], rfl, fun j u l h => by simp at h⟩
  | u :: us, h => by
    obtain ⟨ls, h1, h2⟩ := made_list us (fun x hx => h x (List.mem_cons_of_mem _ hx))
    obtain ⟨n, l, e1, e2, e3⟩ := h u (List.mem_cons_self ..)
    subst e1
    refine ⟨l :: ls, by simp [h1], fun j x y hx hy => ?_⟩
    cases j with
    | zero =>
      simp at hx hy
      subst hx
      subst hy
      exact ⟨e3, e2⟩
    | succ j => exact h2 j x y (by simpa using hx) (by simpa using hy)
theorem SetsAt.env {w : World} {base : Nat} {v : Value} {us : List Value} {ls : List (List Ev)} (h : SetsAt w base v us ls) : ∃ a cap, v = .slice a us.length cap ∧ EnvAt w a us.length (envOf ls) := by
  obtain ⟨a, cap, rfl, hs⟩ := prow_slice h.row
  refine ⟨a, cap, rfl, by have := h.m4; omega, fun p hp => ?_, fun k hk => ?_⟩
  · have e : setOf ls p = [] := by
      unfold setOf
      by_cases h0 : p < 0
      · rw [if_pos h0]
      · rw [if_neg h0, List.getElem?_eq_none (by have := h.len; omega)]
        rfl
    show (((setOf ls p).length : Nat) : Int) = 0
    rw [e]
    rfl
  · obtain ⟨g, rfl⟩ := hs (by omega)
    obtain ⟨u, hu⟩ : ∃ u, us[k]? = some u := ⟨_, List.getElem?_eq_getElem hk⟩
    obtain ⟨l, hl⟩ : ∃ l, ls[k]? = some l := ⟨_, List.getElem?_eq_getElem (by rw [h.len]; exact hk)⟩
    obtain ⟨h1, h2⟩ := h.each k u l hu hl
    obtain ⟨ea, c, rfl, hs2⟩ := prow_slice h1
    have e : setOf ls (k : Int) = l := by
      unfold setOf
      rw [if_neg (by omega), Int.toNat_natCast, hl]
      rfl
    refine ⟨g, ea, l.length, c, rfl, (h.row.cellAt k (by omega)).trans hu, by show (((setOf ls (k : Int)).length : Nat) : Int) = _; rw [e], by omega, fun hn => ?_⟩
    obtain ⟨b, rfl⟩ := hs2 hn
    refine ⟨b, rfl, fun f hf => ?_⟩
    obtain ⟨q, hq⟩ : ∃ q, l[l.length - 1]? = some q := ⟨_, List.getElem?_eq_getElem (by omega)⟩
    have hlast : l.getLast? = some q := by rw [List.getLast?_eq_getElem?]; exact hq
    have ho : (ecell q)[2 + f]? = some (.int .i64 (fieldOf q (f : Int))) := by
      have hf' : f = 0 ∨ f = 1 ∨ f = 2 ∨ f = 3 := by omega
      rcases hf' with rfl | rfl | rfl | rfl <;> rfl
    have h3 := ecells_at l (l.length - 1) (2 + f) q _ hq ho
    rw [← Nat.add_assoc] at h3
    have hlt : (l.length - 1) * 6 + 2 + f < l.length * 6 := by omega
    rw [h1.cellAt _ hlt, h3]
    show _ = some (Value.int .i64 (match (setOf ls (k : Int)).getLast? with | some q => fieldOf q (f : Int) | none => 0))
    rw [e, hlast]
/-- What sets(nums) makes. -/
theorem sets_any {w0 w : World} {a : Option Addr} {len : Nat} (h : RowsIn w0 a len) (hb : Below w0.heap.size w0 w) (cap : Nat) : Calls Try.prog 15 #[.slice a len cap] w fun e w' => ∃ v us ls, e = .returned v ∧ SetsAt w' w.heap.size v us ls ∧ Below w.heap.size w w' :=
  (sets_own (h.keep hb)).mono fun e w' ⟨v, m, us, he, hm, h4, hrow, hmade, hb⟩ => by
    subst hm
    obtain ⟨ls, h1, h2⟩ := made_list us hmade
    exact ⟨v, us, ls, he, ⟨hrow, h1, h4, h2⟩, hb⟩
theorem codes_at {w : World} {base : Nat} {v : Value} {cs : List Cd} (h : w.ownsRow base 54 5 v cs.length (ccells cs)) : ∃ ad cap, v = .slice ad cs.length cap ∧ CodesAt w ad cs := by
  obtain ⟨ad, cap, rfl, hs⟩ := prow_slice h
  refine ⟨ad, cap, rfl, fun k c hc => ?_⟩
  have hk := (List.getElem?_eq_some_iff.1 hc).1
  obtain ⟨g, rfl⟩ := hs (by omega)
  have key : ∀ o u, o < 5 → (ccell c)[o]? = some u → w.cell? ⟨g, k * 5 + o, none⟩ = some u := fun o u ho5 ho => (h.cellAt (k * 5 + o) (by omega)).trans (ccells_at cs k o c u hc ho)
  exact ⟨g, ByteArray.empty, rfl, key 0 _ (by decide) rfl, key 1 _ (by decide) rfl, key 2 _ (by decide) rfl, key 3 _ (by decide) rfl, key 4 _ (by decide) rfl⟩
end Go.Proofs.Ytjfbjkgppnhaoaa
