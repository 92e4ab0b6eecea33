/-
  Acts that came in: a row of structs, each of four numbers and two rows of numbers.
  What is held, weighed: what came, less what was let go.
  How many refs all that waits has.
  Refs put behind refs; the state of QueueHolds.
  Rows in order that become one: what there is of each number comes in the order of the rows; a desk, query by query.
  Two answers held against each other; hits come in order; what a desk keeps, whatever hits come.
  What comes with an act, with what comes for odd numbers left out: how it is made.
-/
import Derived.Test.YtepmealhnnoahaaSn
import Derived.ShutString
import Derived.ProofKit
import Derived.OpenShut
import Derived.Deep.Slices
import Derived.Deep.Fields
import Derived.ChangeSame
import Derived.Lib.SmallJoins
import Derived.Test.YtepmealhnnoahaaRk
import Derived.Maps.RangeWalk
import Derived.Test.YtepmealhnnoahaaSh
import Derived.Laws.MakeOwn
import Derived.Test.YtepmealhnnoahaaSm
namespace Go.Proofs.Ytepmealhnnoahaa
set_option linter.unusedSimpArgs false
open Go.ChangeShapes Go.WideShapes Go.ChangeAt Go.RowKit Go.Deep Go.Joins
set_option linter.unusedVariables false
/-- Acts that came in. -/
def ActsAt (w : World) (sa : Option Addr) (L : List ActV) : Prop :=
  ∃ (b off : Nat), (L = [] ∨ sa = some ⟨b, off, none⟩) ∧ ∀ (i : Nat) (x : ActV), L[i]? = some x → ∃ (ha : Option Addr) (hc : Nat) (la : Option Addr) (lc : Nat), w.rangeAt b (off + i * 6) [.int .i64 x.kind, .int .i64 x.id, .int .i64 x.num, .slice ha x.hits.length hc, .slice la x.lost.length lc, .int .i64 x.shard] ∧ NumsAt w ha x.hits ∧ NumsAt w la x.lost
theorem ActsAt.turn {w w' : World} {sa : Option Addr} {L : List ActV} (h : ActsAt w sa L) (T : Turn (fun _ => False) w w') : ActsAt w' sa L := by
  obtain ⟨b, off, e, h1⟩ := h
  refine ⟨b, off, e, fun i x hx => ?_⟩
  obtain ⟨ha, hc, la, lc, h2, h3, h4⟩ := h1 i x hx
  exact ⟨ha, hc, la, lc, range_turn h2 T id, h3.turn T, h4.turn T⟩
section
variable {H : Type} {enc : TypeId × Value → H} {P : Program} {w : World} {base : Nat} {spare : Nat → Bool} {held : Bool}
theorem open_sfs {t e : TypeId} {fs : Array Field} {fuel : Nat} {cs : List Value} {x : DataW H × List MemPlace} (ht : P.underlying t = some (.slice e)) (he : P.underlying e = some (.struct fs))
    (hone : oneCellFields P fs = true) (hC : P.cellsOf e = fs.size) (h : DataW.trod enc P w base spare held fuel t cs = some x) :
    (cs = [.slice none 0 0] ∧ x = (.nil, [])) ∨
    ∃ (a : Addr) (len cap m : Nat) (D : Nat → DataW H) (Pl : Nat → List MemPlace), cs = [.slice (some a) len cap] ∧ base ≤ a.block ∧ len ≤ cap ∧ cap ≤ maxLen ∧ m = (if spare a.block then cap else len) ∧
      ∀ i, i < m → ∃ (ys : List (DataW H × List MemPlace)) (n : Nat), 
        ∀ (j : Nat) (f : Field), fs[j]? = some f → ∃ (v : Value) (y : DataW H × List MemPlace), w.cell? (a.add (i * fs.size + j)) = some v ∧ ys[j]? = some y ∧ DataW.trod enc P w base spare held n f.type [v] = some y := by
  rcases open_slice ht h with h0 | ⟨a, len, cap, m, n, D, Pl, hcs, hb, hl, hm, hmm, hx, hi⟩
  · exact .inl h0
  · refine .inr ⟨a, len, cap, m, D, Pl, hcs, hb, hl, hm, hmm, fun i him => ?_⟩
    obtain ⟨cs', hc, ht'⟩ := hi i him
    rw [hC] at hc
    obtain ⟨ys, n', hn', hy, hlen, hyl, hf⟩ := DataW.trod_struct he ht'
    obtain ⟨_, hcl, hat⟩ := World.cells?_some hc
    refine ⟨ys, n', fun j f hj => ?_⟩
    obtain ⟨ho, hk⟩ := hone_of hone j f hj
    have hjl : j < fs.size := (Array.getElem?_eq_some_iff.1 hj).1
    have hcell := hat j hjl
    have hv : cs'[j]? = some (cs'[j]'(by omega)) := List.getElem?_eq_getElem (by omega)
    have h1 := hf j f hj
    rw [ho, hk] at h1
    have hone' : (cs'.drop j).take 1 = [cs'[j]'(by omega)] := by
      rw [List.drop_eq_getElem_cons (by omega)]
      rfl
    rw [hone'] at h1
    have hys : ys[j]? = some (ys[j]'(by omega)) := List.getElem?_eq_getElem (by omega)
    refine ⟨_, _, ?_, hys, h1.trans hys⟩
    rw [← Go.Deep.add_add, hcell, hv]
end
theorem open_nums {H : Type} {enc : TypeId × Value → H} {W : World} {n : Nat} {v : Value} {y : DataW H × List MemPlace} (h : DataW.trod enc Try.prog W 0 (fun _ => true) true n 46 [v] = some y) : ∃ (a : Option Addr) (cap : Nat) (l : List Int), v = .slice a l.length cap ∧ NumsAt W a l := by
  rcases open_ints Try.underlying46 Try.underlying3 (by kernel_rfl) h with ⟨hcs, _⟩ | ⟨x, l, c, zs, hcs, _, hl, hm, hz, _, hcell, hwz⟩
  · simp at hcs
    exact ⟨none, 0, [], hcs, 0, 0, .inl rfl, fun j x hx => by simp at hx⟩
  · simp at hcs
    have hz : zs.length = c := by simpa using hz
    refine ⟨some x, c, zs.take l, by rw [hcs, List.length_take, hz, Nat.min_eq_left hl], ?_⟩
    by_cases h0 : l = 0
    · subst h0
      exact ⟨0, 0, .inl (by simp), fun j x hx => by simp at hx⟩
    · obtain ⟨b, off, rfl, hc⟩ := ints_at hcell (by omega)
      refine ⟨b, off, .inr rfl, fun j q hq => ?_⟩
      have hj : j < l := by have := (List.getElem?_eq_some_iff.1 hq).1; rw [List.length_take] at this; omega
      rw [List.getElem?_take_of_lt hj] at hq
      have := hc j (by omega)
      rw [List.getD_eq_getElem?_getD, hq] at this
      exact this
theorem list_of {α : Type} {p : Nat → α → Prop} : ∀ n : Nat, (∀ i, i < n → ∃ x, p i x) → ∃ L : List α, L.length = n ∧ ∀ i x, L[i]? = some x → p i x
  | 0, _ => ⟨[], rfl, fun i x h => by simp at h⟩
  | n + 1, h => by
    obtain ⟨L, hl, hL⟩ := list_of n (fun i hi => h i (by omega))
    obtain ⟨x, hx⟩ := h n (by omega)
    refine ⟨L ++ [x], by simp [hl], fun i y hy => ?_⟩
    by_cases hi : i < n
    · rw [List.getElem?_append_left (by omega)] at hy
      exact hL i y hy
    · have : i = n := by have := (List.getElem?_eq_some_iff.1 hy).1; simp at this; omega
      subst this
      rw [List.getElem?_append_right (by omega), hl, Nat.sub_self] at hy
      simp at hy
      subst hy
      exact hx
def ActsIn (w : World) (sa : Option Addr) (len : Nat) : Prop := ∃ L : List ActV, len = L.length ∧ L.length ≤ 9223372036854775807 ∧ ActsAt w sa L
theorem open_acts {H : Type} {enc : TypeId × Value → H} {W : World} {a : Option Addr} {len cap : Nat} {d : DataW H} {p : List MemPlace} (h : DataW.Trod enc Try.prog W 0 (fun _ => true) true 23 (.slice a len cap) d p) : ActsIn W a len := by
  by_cases h0 : len = 0
  · subst h0
    exact ⟨[], rfl, by simp, 0, 0, .inl rfl, fun i x hx => by simp at hx⟩
  obtain ⟨fuel, hf⟩ := h
  have e : (Value.slice a len cap).cells.toList = [.slice a len cap] := rfl
  rw [e] at hf
  rcases open_sfs Try.underlying23 Try.underlying48 (by kernel_rfl) (by kernel_rfl) hf with ⟨hcs, _⟩ | ⟨x, l, c, m, D, Pl, hcs, _, hl, hm, hmm, hi⟩
  · simp at hcs
    exact absurd hcs.2.1 h0
  · simp at hcs
    obtain ⟨rfl, rfl, rfl⟩ := hcs
    simp only [if_true] at hmm
    subst hmm
    have key : ∀ i, i < len → ∃ v : ActV, ∃ (ha : Option Addr) (hc : Nat) (la : Option Addr) (lc : Nat), (∀ (j : Nat) (u : Value), [Value.int .i64 v.kind, .int .i64 v.id, .int .i64 v.num, .slice ha v.hits.length hc, .slice la v.lost.length lc, .int .i64 v.shard][j]? = some u → W.cell? (x.add (i * 6 + j)) = some u) ∧ NumsAt W ha v.hits ∧ NumsAt W la v.lost := by
      intro i hil
      obtain ⟨ys, n', hfj⟩ := hi i (by omega)
      obtain ⟨v0, y0, c0, _, t0⟩ := hfj 0 _ rfl
      obtain ⟨v1, y1, c1, _, t1⟩ := hfj 1 _ rfl
      obtain ⟨v2, y2, c2, _, t2⟩ := hfj 2 _ rfl
      obtain ⟨v3, y3, c3, _, t3⟩ := hfj 3 _ rfl
      obtain ⟨v4, y4, c4, _, t4⟩ := hfj 4 _ rfl
      obtain ⟨v5, y5, c5, _, t5⟩ := hfj 5 _ rfl
      obtain ⟨k0, q0, _⟩ := DataW.trod_int Try.underlying3 t0
      obtain ⟨k1, q1, _⟩ := DataW.trod_int Try.underlying3 t1
      obtain ⟨k2, q2, _⟩ := DataW.trod_int Try.underlying3 t2
      obtain ⟨k5, q5, _⟩ := DataW.trod_int Try.underlying3 t5
      obtain ⟨a3, p3, l3, rfl, n3⟩ := open_nums t3
      obtain ⟨a4, p4, l4, rfl, n4⟩ := open_nums t4
      simp only [List.cons.injEq, and_true] at q0 q1 q2 q5
      subst q0 q1 q2 q5
      refine ⟨⟨k0, k1, k2, l3, l4, k5⟩, a3, p3, a4, p4, fun j u hu => ?_, n3, n4⟩
      match j, hu with
      | 0, hu => cases hu; exact c0
      | 1, hu => cases hu; exact c1
      | 2, hu => cases hu; exact c2
      | 3, hu => cases hu; exact c3
      | 4, hu => cases hu; exact c4
      | 5, hu => cases hu; exact c5
    obtain ⟨b, off, spot⟩ := x
    obtain ⟨_, _, _, _, _, z, _⟩ := key 0 (by omega)
    have hspot : spot = none := by simpa [Addr.add] using World.cell?_spot (z 0 _ rfl)
    subst hspot
    obtain ⟨L, hL, h2⟩ := list_of len key
    refine ⟨L, hL.symm, by unfold maxLen at hm; omega, b, off, .inr rfl, fun i v hv => ?_⟩
    obtain ⟨ha, hc, la, lc, h3, h4, h5⟩ := h2 i v hv
    refine ⟨ha, hc, la, lc, fun j u hu => ?_, h4, h5⟩
    have := h3 j u hu
    rw [Go.WideShapes.add_plain] at this
    rw [Nat.add_assoc]
    exact this
theorem cells22 : Try.prog.cellsOf 22 = 2 := by kernel_rfl
theorem cells3 : Try.prog.cellsOf 3 = 1 := by kernel_rfl
theorem okWide_arr {P : Program} {w : World} {r : Reach} {base : Nat} {t : TypeId} {v : Value} {n : Nat} {e : TypeId} (ht : P.underlying t = some (.array n e)) (h : Value.okWide P w r base t v) : ∃ cs, v = .agg cs ∧ cs.size = P.cellsOf t := by
  simp only [Value.okWide, ht] at h
  obtain ⟨cs, h1, h2, _⟩ := h
  exact ⟨cs, h1, h2⟩
set_option maxRecDepth 100000 in
theorem open_two {H : Type} {enc : TypeId × Value → H} {W : World} {r : Reach} {base : Nat} {v : Value} {d : DataW H} {p : List MemPlace} (hv : Value.okWide Try.prog W r base 22 v) (h : DataW.Trod enc Try.prog W 0 (fun _ => true) true 22 v d p) : ∃ n0 n1, v = .agg #[.int .i64 n0, .int .i64 n1] := by
  obtain ⟨cs, rfl, hsz⟩ := okWide_arr Try.underlying22 hv
  obtain ⟨c0, c1, rfl⟩ := array2 (hsz.trans cells22)
  obtain ⟨fuel, hf⟩ := h
  obtain ⟨xs, m, _, _, _, hxl, hi⟩ := DataW.trod_array Try.underlying22 hf
  have x0 := hi 0 (by decide)
  have x1 := hi 1 (by decide)
  rw [cells3] at x0 x1
  rw [List.getElem?_eq_getElem (by omega)] at x0 x1
  obtain ⟨n0, u0, _, _⟩ := DataW.trod_int Try.underlying3 x0
  obtain ⟨n1, u1, _, _⟩ := DataW.trod_int Try.underlying3 x1
  simp [Value.cells] at u0 u1
  exact ⟨n0, n1, by rw [u0, u1]⟩
end Go.Proofs.Ytepmealhnnoahaa
namespace Go.Proofs.Ytepmealhnnoahaa
set_option linter.unusedSimpArgs false
open Go.ChangeShapes Go.WideShapes Go.ChangeAt Go.RowKit
set_option linter.unusedVariables false
theorem flatten_set {α : Type} : ∀ {S : List (List α)} {i : Nat} {x : α} {l : List α}, S[i]? = some (x :: l) → S.flatten.Perm (x :: (S.set i l).flatten)
  | [], i, x, l, h => by simp at h
  | a :: S, 0, x, l, h => by
    simp at h
    subst h
    simp
  | a :: S, i + 1, x, l, h => by
    have h : S[i]? = some (x :: l) := by simpa using h
    have ih := flatten_set h
    simp only [List.flatten_cons, List.set_cons_succ]
    exact (ih.append_left a).trans List.perm_middle
/-- What is merged is what was there, in another order. -/
theorem merge_perm {lt : Ht → Ht → Bool} : ∀ (n : Nat) (S : List (List Ht)), total S = n → (mergeN lt n S).Perm S.flatten
  | n, S, hn => by
    rcases firstAt_or lt S with h | ⟨i, x, l, h, e⟩
    · have hz := firstAt_none h
      have : S.flatten = [] := List.flatten_eq_nil_iff.2 hz
      rw [this, mergeN_none h]
    · have ht := total_set e
      cases n with
      | zero => omega
      | succ n =>
        rw [mergeN_step h e]
        exact ((merge_perm n (S.set i l) (by omega)).cons x).trans (flatten_set e).symm
theorem merged_perm (Os : List OutV) : (mergedH Os).Perm (hitsL Os).flatten := merge_perm _ _ rfl
/-! Weights. -/
def wtR (f : Int × Int → Nat) (l : List (Int × Int)) : Nat := (l.map f).sum
theorem wtR_app (f : Int × Int → Nat) (l m : List (Int × Int)) : wtR f (l ++ m) = wtR f l + wtR f m := by simp [wtR]
theorem wtR_nil (f : Int × Int → Nat) : wtR f [] = 0 := rfl
theorem wtR_one (l : List (Int × Int)) : wtR (fun _ => 1) l = l.length := by
  induction l with
  | nil => rfl
  | cons x l ih => simp only [wtR, List.map_cons, List.sum_cons, List.length_cons] at ih ⊢; omega
def hrefs (H : List Ht) : List (Int × Int) := frefs (H.map (·.f))
theorem hrefs_app (H K : List Ht) : hrefs (H ++ K) = hrefs H ++ hrefs K := by unfold hrefs; rw [List.map_append, frefs_app]
theorem hrefs_one (x : Ht) : hrefs [x] = x.f.refs := by simp [hrefs, frefs]
theorem hrefs_cons (x : Ht) (H : List Ht) : hrefs (x :: H) = x.f.refs ++ hrefs H := by
  have := hrefs_app [x] H
  rw [hrefs_one] at this
  exact this
theorem hrefs_perm {f : Int × Int → Nat} {H K : List Ht} (h : H.Perm K) : wtR f (hrefs H) = wtR f (hrefs K) := by
  induction h with
  | nil => rfl
  | cons x _ ih => rw [hrefs_cons, hrefs_cons, wtR_app, wtR_app, ih]
  | swap x y l => simp only [hrefs_cons, wtR_app]; omega
  | trans _ _ h1 h2 => exact h1.trans h2
def cellW (f : Int × Int → Nat) (S : Int → Option (List Fnd × Bool)) (i : Int) : Nat := wtR f (frefs ((S i).getD ([], false)).1)
def sumN (g : Nat → Nat) : Nat → Nat
  | 0 => 0
  | n + 1 => sumN g n + g n
theorem sumN_congr {g h : Nat → Nat} : ∀ n, (∀ k, k < n → g k = h k) → sumN g n = sumN h n
  | 0, _ => rfl
  | n + 1, H => by simp only [sumN]; rw [sumN_congr n (fun k hk => H k (by omega)), H n (by omega)]
theorem sumN_upd {g h : Nat → Nat} {j : Nat} : ∀ n, j < n → (∀ k, k < n → k ≠ j → g k = h k) → sumN g n + h j = sumN h n + g j
  | 0, hj, _ => by omega
  | n + 1, hj, H => by
    simp only [sumN]
    by_cases e : j = n
    · subst e
      have := sumN_congr (g := g) (h := h) j (fun k hk => H k (by omega) (by omega))
      omega
    · have := sumN_upd (g := g) (h := h) n (by omega) (fun k hk hne => H k (by omega) hne)
      have := H n (by omega) (fun e2 => e e2.symm)
      omega
def heldW (f : Int × Int → Nat) (S : Int → Option (List Fnd × Bool)) : Nat := sumN (fun k => cellW f S (k : Int)) 41
/-- Queries have numbers from 0 to 40. -/
def DomS (S : Int → Option (List Fnd × Bool)) : Prop := ∀ i, S i ≠ none → 0 ≤ i ∧ i ≤ 40
section
variable {f : Int × Int → Nat} {S : Int → Option (List Fnd × Bool)} {ou qu : Int}
theorem heldW_upd {i : Int} (h : 0 ≤ i ∧ i ≤ 40) (v : Option (List Fnd × Bool)) : heldW f (updI S i v) + cellW f S i = heldW f S + wtR f (frefs (v.getD ([], false)).1) := by
  obtain ⟨j, rfl⟩ : ∃ j : Nat, i = (j : Int) := ⟨i.toNat, by omega⟩
  have := sumN_upd (g := fun k => cellW f (updI S (j : Int) v) (k : Int)) (h := fun k => cellW f S (k : Int)) (j := j) 41 (by omega) (fun k hk hne => by
    show cellW f (updI S (j : Int) v) (k : Int) = cellW f S (k : Int)
    unfold cellW
    rw [updI_off _ _ (by omega)])
  have e : cellW f (updI S (j : Int) v) (j : Int) = wtR f (frefs (v.getD ([], false)).1) := by
    unfold cellW
    rw [updI_at]
  unfold heldW
  rw [e] at this
  exact this
theorem DomS.upd (h : DomS S) {i : Int} (hi : 0 ≤ i ∧ i ≤ 40) (v : Option (List Fnd × Bool)) : DomS (updI S i v) := fun j hj => by
  by_cases e : j = i
  · subst e; exact hi
  · rw [updI_off _ _ e] at hj; exact h j hj
theorem DomS.at {i : Int} {p : List Fnd × Bool} (h : DomS S) (e : S i = some p) : 0 ≤ i ∧ i ≤ 40 := h i (by rw [e]; simp)
theorem put_held (h : DomS S) (x : Ht) : DomS (putD ou S x) ∧ heldW f (putD ou S x) + wtR f (putG ou S x) = heldW f S + wtR f x.f.refs := by
  unfold putD putG
  cases e : S x.id with
  | none => exact ⟨h, rfl⟩
  | some p =>
    obtain ⟨l, lo⟩ := p
    have hi := h.at e
    have ec : cellW f S x.id = wtR f (frefs l) := by unfold cellW; rw [e]; rfl
    dsimp only
    split
    · refine ⟨h.upd hi _, ?_⟩
      have := heldW_upd (f := f) (S := S) hi (some (l, true))
      rw [ec] at this
      simp only [Option.getD_some] at this
      omega
    · refine ⟨h.upd hi _, ?_⟩
      have := heldW_upd (f := f) (S := S) hi (some (l ++ [x.f], false))
      rw [ec] at this
      simp only [Option.getD_some, frefs_app, wtR_app] at this
      have e1 : frefs [x.f] = x.f.refs := by simp [frefs]
      rw [e1] at this
      rw [wtR_nil]
      omega
theorem puts_held : ∀ (H : List Ht) {S : Int → Option (List Fnd × Bool)}, DomS S → DomS (putsD ou S H) ∧ heldW f (putsD ou S H) + wtR f (putsG ou S H) = heldW f S + wtR f (hrefs H)
  | [], S, h => ⟨h, by simp [putsD, putsG, hrefs, frefs]⟩
  | x :: H, S, h => by
    obtain ⟨h1, e1⟩ := put_held (f := f) (ou := ou) h x
    obtain ⟨h2, e2⟩ := puts_held H h1
    refine ⟨h2, ?_⟩
    rw [hrefs_cons, wtR_app]
    simp only [putsG, wtR_app]
    have : putsD ou S (x :: H) = putsD ou (putD ou S x) H := rfl
    rw [this]
    omega
theorem lose_held (h : DomS S) (i : Int) : DomS (loseD S i) ∧ heldW f (loseD S i) = heldW f S := by
  unfold loseD
  cases e : S i with
  | none => exact ⟨h, rfl⟩
  | some p =>
    obtain ⟨l, lo⟩ := p
    have hi := h.at e
    refine ⟨h.upd hi _, ?_⟩
    have := heldW_upd (f := f) (S := S) hi (some (l, true))
    have ec : cellW f S i = wtR f (frefs l) := by unfold cellW; rw [e]; rfl
    rw [ec] at this
    simp only [Option.getD_some] at this
    dsimp only
    omega
theorem loses_held : ∀ (l : List Int) {S : Int → Option (List Fnd × Bool)}, DomS S → DomS (losesD S l) ∧ heldW f (losesD S l) = heldW f S
  | [], S, h => ⟨h, rfl⟩
  | i :: l, S, h => by
    obtain ⟨h1, e1⟩ := lose_held (f := f) h i
    obtain ⟨h2, e2⟩ := loses_held l h1
    exact ⟨h2, e2.trans e1⟩
/-- What came: hits, and the event's own ref. -/
def cameR (k s g : Int) (Os : List OutV) : List (Int × Int) := hrefs (hitsL Os).flatten ++ if k = 1 then [(s, g)] else []
theorem does_held (h : DomS S) {m : Nat} {stamp k i n s g : Int} {Os : List OutV} (hst : 0 ≤ stamp ∧ stamp ≤ 40) (hk : k ≠ 1 → Os = []) :
    DomS (doR qu ou S m stamp k i n s g Os).S ∧ heldW f (doR qu ou S m stamp k i n s g Os).S + wtR f (doR qu ou S m stamp k i n s g Os).gone = heldW f S + wtR f (cameR k s g Os) := by
  unfold doR
  by_cases k2 : k = 2
  · rw [if_pos k2]
    have ho := hk (by omega)
    subst ho
    have ec : wtR f (cameR k s g []) = 0 := by subst k2; rfl
    rw [ec]
    unfold regR
    split
    · refine ⟨h.upd hst _, ?_⟩
      have := heldW_upd (f := f) (S := S) hst (some ((S stamp).getD ([], false)))
      simp only [Option.getD_some, wtR_nil] at this ⊢
      unfold cellW at this
      omega
    · exact ⟨h, rfl⟩
  rw [if_neg k2]
  by_cases k3 : k = 3
  · rw [if_pos k3]
    have ho := hk (by omega)
    subst ho
    have ec : wtR f (cameR k s g []) = 0 := by subst k3; rfl
    rw [ec]
    unfold unrR
    cases e : S i with
    | none => exact ⟨h, rfl⟩
    | some p =>
      obtain ⟨l, lo⟩ := p
      have hi := h.at e
      refine ⟨h.upd hi _, ?_⟩
      have := heldW_upd (f := f) (S := S) hi none
      have ec : cellW f S i = wtR f (frefs l) := by unfold cellW; rw [e]; rfl
      rw [ec] at this
      simp only [Option.getD_none, frefs, wtR_nil] at this
      dsimp only
      omega
  rw [if_neg k3]
  by_cases k1 : k = 1
  · rw [if_pos k1]
    subst k1
    dsimp only
    obtain ⟨h1, e1⟩ := puts_held (f := f) (ou := ou) (mergedH Os) h
    obtain ⟨h2, e2⟩ := loses_held (f := f) (lostL Os) h1
    refine ⟨h2, ?_⟩
    have ep := hrefs_perm (f := f) (merged_perm Os)
    unfold pubD pubG cameR
    rw [if_pos rfl, wtR_app, wtR_app]
    omega
  rw [if_neg k1]
  have ho := hk k1
  subst ho
  have ec : wtR f (cameR k s g []) = 0 := by unfold cameR; rw [if_neg k1]; rfl
  rw [ec]
  by_cases k4 : k = 4
  · rw [if_pos k4]
    unfold polR
    split
    · exact ⟨h, rfl⟩
    · cases e : S i with
      | none => exact ⟨h, rfl⟩
      | some p =>
        obtain ⟨l, lo⟩ := p
        dsimp only
        split
        · exact ⟨h, rfl⟩
        · have hi := h.at e
          refine ⟨h.upd hi _, ?_⟩
          generalize min n.toNat l.length = q
          have := heldW_upd (f := f) (S := S) hi (some (l.drop q, lo))
          have ec : cellW f S i = wtR f (frefs l) := by unfold cellW; rw [e]; rfl
          rw [ec] at this
          have e2 := congrArg (fun z => wtR f (frefs z)) (List.take_append_drop q l)
          rw [frefs_app, wtR_app] at e2
          simp only [Option.getD_some] at this
          dsimp only
          omega
  · rw [if_neg k4]
    split
    · exact ⟨h, rfl⟩
    · exact ⟨h, rfl⟩
end
end Go.Proofs.Ytepmealhnnoahaa
namespace Go.Proofs.Ytepmealhnnoahaa
set_option linter.unusedSimpArgs false
open Go.ChangeShapes Go.WideShapes Go.ChangeAt Go.RowKit Go.Maps
set_option linter.unusedVariables false
theorem invKey {key : Value} {kl : Lit} (h : keyOf Try.prog 3 key = some kl) : ∃ x, key = Value.int .i64 x := by
  obtain ⟨x, rfl, _⟩ := Maps.keyOf_int_inv Try.underlying3 h
  exact ⟨x, rfl⟩
theorem invWt {H : Type} {v : Value} {y : DataW H × List MemPlace} (h : wtElem v = some y) : ∃ q : Wt, v = q.val := by
  unfold wtElem at h
  split at h
  · rename_i hx; exact hx
  · cases h
theorem key3 : Keyed Try.prog 3 := int_keyed Try.underlying3
theorem wf_small {i : Int} (h0 : 0 ≤ i) (h1 : i < 1000000) : (Lit.int .i64 i).wf = true := by
  simp only [Lit.wf, Bool.and_eq_true, decide_eq_true_eq]
  have a1 : IntKind.i64.min = -9223372036854775808 := rfl
  have a2 : IntKind.i64.max = 9223372036854775807 := rfl
  omega
def refN (S : Int → Option (List Fnd × Bool)) (k : Int) : Nat := cellW (fun _ => 1) S k
def heldP (S : Int → Option (List Fnd × Bool)) (left : Lit → Bool) : Nat := sumN (fun k => if left (.int .i64 (k : Int)) then 0 else refN S (k : Int)) 41
theorem sumN_le {g : Nat → Nat} {B : Nat} : ∀ n, (∀ k, k < n → g k ≤ B) → sumN g n ≤ n * B
  | 0, _ => by simp [sumN]
  | n + 1, H => by
    have h1 := sumN_le n (fun k hk => H k (by omega))
    have h2 := H n (by omega)
    simp only [sumN]
    rw [Nat.succ_mul]
    omega
theorem heldP_step {S : Int → Option (List Fnd × Bool)} {left : Lit → Bool} {x : Int} (hx : 0 ≤ x ∧ x ≤ 40) (hl : left (.int .i64 x) = true) : heldP S (fun z => left z && !z.sameKey (.int .i64 x)) = heldP S left + refN S x := by
  obtain ⟨j, rfl⟩ : ∃ j : Nat, x = (j : Int) := ⟨x.toNat, by omega⟩
  have := sumN_upd (g := fun k => if (left (.int .i64 (k : Int)) && !(Lit.int .i64 (k : Int)).sameKey (.int .i64 (j : Int))) then 0 else refN S (k : Int)) (h := fun k => if left (.int .i64 (k : Int)) then 0 else refN S (k : Int)) (j := j) 41 (by omega) (fun k hk hne => by
    have e : (Lit.int .i64 (k : Int)).sameKey (.int .i64 (j : Int)) = false := by
      cases h : (Lit.int .i64 (k : Int)).sameKey (.int .i64 (j : Int)) with
      | false => rfl
      | true => exact absurd (WideAt.sameKey_eq h) (fun e => hne (by injection e with _ e; omega))
    rw [e]
    simp)
  have e : (Lit.int .i64 (j : Int)).sameKey (.int .i64 (j : Int)) = true := WideAt.sameKey_self (by trivial)
  rw [e, hl] at this
  simp only [Bool.not_true, Bool.and_false, if_true, Bool.false_eq_true, if_false, Nat.add_zero] at this
  unfold heldP
  exact this
def HdRel (D : DataW Unit) (w0 : World) (mb r cnt : Nat) (S : Int → Option (List Fnd × Bool)) (gh : Nat) (v3 : Value) (wr : World) : Prop :=
  ∃ left : Lit → Bool, wr.ranges Try.prog 3 wtElem mb r cnt D left gh ∧ v3 = .int .i64 (heldP S left : Int) ∧ Turn (fun k => k = r) w0 wr ∧ (∀ kl, left kl = true → Maps.has D kl = true)
def InRel (l : List Fnd) (s : Nat) (w4 : World) (gh : Nat) (v3 v22 : Value) (wr : World) : Prop :=
  ∃ k : Nat, v22 = .int .i64 (k : Int) ∧ v3 = .int .i64 ((s + (frefs (l.take k)).length : Nat) : Int) ∧ k ≤ l.length ∧ gh = l.length - k ∧ Turn (fun _ => False) w4 wr
section
variable {w w' : World} {d mb base : Nat} {qu ou : Int} {cnt m : Nat} {S : Int → Option (List Fnd × Bool)} {P : Nat → Prop}
set_option maxRecDepth 100000 in
set_option maxHeartbeats 8000000 in
theorem DAt.held (h : DAt w d mb base qu ou cnt m S P) (hD : DomS S) (hB : ∀ i l lo, S i = some (l, lo) → l.length ≤ 10000 ∧ (frefs l).length ≤ 20000) :
    Calls Try.prog 17 #[.pointer (some ⟨d, 0, none⟩)] w fun e w' => e = .returned (.int .i64 (heldW (fun _ => 1) S : Int)) ∧ Turn (fun _ => False) w w' := by
  obtain ⟨⟨Q, F, M, c, h1, h2, h3, h4, rfl, rfl⟩, hb, hc⟩ := h
  have c7 := h2.c7
  obtain ⟨D, hown, hsz, hat⟩ := h2.mp.ex
  have ATK : ∀ (kl : Lit), Maps.has D kl = true → keyOf Try.prog 3 (.int .i64 0) = keyOf Try.prog 3 (.int .i64 0) := fun _ _ => rfl
  clear ATK
  have bnd : ∀ k : Int, refN (absS Q F) k ≤ 20000 := fun k => by
    unfold refN cellW
    rw [wtR_one]
    cases e : absS Q F k with
    | none => simp [frefs]
    | some p => obtain ⟨l, lo⟩ := p; exact (hB k l lo e).2
  have bndP : ∀ left, heldP (absS Q F) left ≤ 41 * 20000 := fun left => sumN_le 41 (fun k _ => by
    split
    · exact Nat.zero_le _
    · exact bnd _)
  have H0 := Lib.hid (And.intro h2 (And.intro h3 (And.intro hD (And.intro hB (And.intro hat (And.intro bnd bndP))))))
  clear h1 h2 h3 h4 hb hc hat hsz bnd bndP hD hB
  go_enter Try.func17, Try.ntmps17
  go_wp2_with (at_range; refine wpList_range_own _ rfl _ 80 rfl 3 94 key3 Try.underlying80 wtElem mb c D rfl hown ?_; intro w0 hrg0 hg0 hs0)
  go_frame
  obtain ⟨h2, h3, hD, hB, hat, bnd, bndP⟩ := H0.out
  have R0 : HdRel D w0 mb w.heap.size c (absS Q F) (Maps.size D) (.int .i64 0) w0 := ⟨_, hrg0, by
    have : heldP (absS Q F) (Maps.has D) = 0 := by
      have := sumN_le (g := fun k => if Maps.has D (.int .i64 (k : Int)) then 0 else refN (absS Q F) (k : Int)) (B := 0) 41 (fun k hk => by
        have e := (hat (k : Int) (wf_small (by omega) (by omega))).1
        split
        · exact Nat.le_refl _
        · rename_i hn
          unfold refN cellW absS
          cases hq : Q (k : Int) with
          | none => simp [frefs, wtR]
          | some q => rw [hq] at e; exact absurd e hn)
      unfold heldP
      omega
    rw [this]; rfl, Turn.refl _ _, fun _ h => h⟩
  have TW : Turn (fun _ => False) w w0 := (Turn.refl _ w).grown hg0 (fun k hk => by cases hk)
  have HT := Lib.hid (show Turn (fun _ => False) w w0 ∧ w.heap.size ≤ w.heap.size from ⟨TW, Nat.le_refl _⟩)
  obtain ⟨wsz, hwsz⟩ : ∃ z, z = w.heap.size := ⟨_, rfl⟩
  clear hrg0 hg0 hs0 c7 hown h2 h3 hD hB hat bnd bndP TW
  have HT2 : Hid (Turn (fun _ => False) w w0 ∧ w.heap.size ≤ wsz) := Lib.hid ⟨HT.out.1, by omega⟩
  clear HT
  have HT := HT2
  clear HT2
  rw [← hwsz] at R0 ⊢
  clear hwsz
  generalize wsz = r at *
  go_loopg [3] (Maps.size D) (fun gh v3 wr => HdRel D w0 mb r c (absS Q F) gh v3 wr)
  case atStart => exact R0
  case round =>
    clear R0
    obtain ⟨left, hrg, rfl, T, hl⟩ := hrel
    go_wp2_with (at_next; refine wpList_next_ranges _ rfl _ rfl 3 key3 wtElem (Value.int .i64) Wt.val (fun _ _ h => invKey h) (fun _ _ h => invWt h) mb r c D left _ rfl hrg ?_ ?_)
    · intro hc0 hl0
      have e : heldP (absS Q F) left = heldW (fun _ => 1) (absS Q F) := by
        unfold heldP heldW
        exact sumN_congr 41 (fun k _ => by rw [hl0]; rfl)
      rw [e]
      have FIN := Lib.hid (show Turn (fun _ => False) w wr from HT.out.1.comp T (fun k hk e => by have := HT.out.2; omega))
      clear hrg T hl hc0 hl0 HT H0 e
      go_wp2_with fail
      go_ret
      exact ⟨rfl, FIN.out⟩
    · intro x q kl y1 y2 w2 cnt2 hkl hlx hRy haty hrg2 hlt hg2 hs2 hen
      obtain ⟨x', ex, rfl, hwx⟩ := Maps.keyOf_int_inv Try.underlying3 hkl
      obtain rfl : x = x' := by injection ex
      obtain ⟨h2, h3, hD, hB, hat, bnd, bndP⟩ := H0.out
      obtain ⟨a1, a2⟩ := hat x hwx
      have hhas := hl _ hlx
      rw [a1] at hhas
      obtain ⟨q', hq'⟩ := Option.isSome_iff_exists.1 hhas
      have eq : q = q' := by
        have z := a2 q' hq' .nil
        have z2 := Option.some.inj ((wtElem_val q).symm.trans hRy)
        rw [haty] at z
        have z3 : (q.dat : DataW Unit) = y1 := congrArg Prod.fst z2
        rw [← z3] at z
        exact Wt.dat_inj z
      subst eq
      have hS : absS Q F x = some (F x, q.lost) := by unfold absS; rw [hq']; rfl
      have hx := hD.at hS
      have hstep := heldP_step (S := absS Q F) hx hlx
      have hbnd := bndP (fun z => left z && !z.sameKey (.int .i64 x))
      obtain ⟨hBl, hBr⟩ := hB x _ _ hS
      have hrN : refN (absS Q F) x = (frefs (F x)).length := by unfold refN cellW; rw [wtR_one, hS]; rfl
      rw [hrN] at hstep
      obtain ⟨eqn, hrow⟩ := h3.row x q hq'
      have T2 : Turn (fun k => k = r) w0 w2 := T.trans ((Turn.refl _ wr).grown hg2 (fun k hk => .inl (by cases hk; rfl)))
      have TW2 : Turn (fun _ => False) w w2 := HT.out.1.comp T2 (fun k hk e => by have := HT.out.2; omega)
      have hrow2 := hrow.turn TW2 (fun _ _ f => f) (fun _ _ f => f)
      obtain ⟨bk, n, cap, lo⟩ := q
      dsimp only at eqn
      subst eqn
      obtain ⟨ad, had⟩ : ∃ ad : Option Addr, bk.map (fun b => (⟨b, 0, none⟩ : Addr)) = ad := ⟨_, rfl⟩
      unfold Wt.val Wt.sl at hen ⊢
      unfold Wt.sl at hrow2
      dsimp only at hen hrow2 ⊢
      rw [had] at hen hrow2 ⊢
      obtain ⟨s, hs⟩ : ∃ s, heldP (absS Q F) left = s := ⟨_, rfl⟩
      obtain ⟨s2, hs2'⟩ : ∃ s2, heldP (absS Q F) (fun z => left z && !z.sameKey (.int .i64 x)) = s2 := ⟨_, rfl⟩
      have FIN := Lib.hid (show ∀ W4 : World, Turn (fun _ => False) w2 W4 → HdRel D w0 mb r c (absS Q F) cnt2 (.int .i64 (s2 : Int)) W4 from fun W4 T4 => by
        have gg : w2.grownBy W4 none := ⟨T4.os, T4.tape, T4.output, T4.size, fun i hi _ => T4.block i hi (fun f => f)⟩
        exact ⟨_, hrg2.kept gg (by simp) (by simp), by rw [hs2'], T2.comp T4 (fun _ _ f => f.elim), fun kl h => hl kl (by simp only [Bool.and_eq_true] at h; exact h.1)⟩)
      rw [hs] at hstep ⊢
      rw [hs2'] at hstep hbnd
      generalize F x = l at *
      have G := Lib.hid (And.intro hrow2 (And.intro had (And.intro hstep (And.intro hbnd (And.intro hBl (And.intro hBr hlt))))))
      clear hrg hl T hkl hlx hRy haty hrg2 hlt hg2 hs2 a1 a2 hhas hq' hS hx hstep hbnd hBl hBr hrN hrow hrow2 T2 TW2 had hs hs2' ex hwx h2 h3 hD hB hat bnd bndP H0
      have R1 : Turn (fun _ => False) w2 (w2.alloc (.cells #[.slice ad l.length cap, .bool lo] 94)) := (Turn.refl _ w2).alloc _
      have z94 : (w2.alloc (.cells #[.slice ad l.length cap, .bool lo] 94)).cell? ⟨w2.heap.size, 0, none⟩ = some (.slice ad l.length cap) := range_new w2 [.slice ad l.length cap, .bool lo] 94 0 _ rfl
      have G2 := Lib.hid R1
      clear R1
      go_upto_region 6 with fail
      generalize (w2.alloc (.cells #[.slice ad l.length cap, .bool lo] 94)) = W4 at *
      generalize w2.heap.size = b5 at *
      have R0 : InRel l s W4 l.length (.int .i64 (s : Int)) (.int .i64 0) W4 := ⟨0, rfl, by simp [frefs], Nat.zero_le _, rfl, Turn.refl _ _⟩
      go_wp2_with fail
      clear z94
      go_loopg [3, 22] l.length (fun gh v3 v22 wr => InRel l s W4 gh v3 v22 wr)
      case atStart => exact R0
      case round =>
        clear R0
        obtain ⟨k, rfl, rfl, hk, hg, T⟩ := hrel
        obtain ⟨hrow2, had, hstep, hbnd, hBl, hBr, hlt⟩ := G.out
        by_cases hkl : k < l.length
        · have u1 : decide ((k : Int) < (l.length : Int)) = true := decide_eq_true (by omega)
          have u2 : decide (k < l.length) = true := decide_eq_true hkl
          have k0 : (0 : Int) ≤ (k : Int) := by omega
          have k1 : (k : Int) < (l.length : Int) := by omega
          obtain ⟨f, hf⟩ : ∃ f, l[k]? = some f := ⟨_, List.getElem?_eq_getElem hkl⟩
          have hr := (hrow2.turn G2.out (fun _ _ f => f) (fun _ _ f => f)).turn T (fun _ _ f => f) (fun _ _ f => f)
          obtain ⟨ps, hps, ho, hall⟩ := hr.ex
          obtain ⟨p, hp⟩ : ∃ p, ps[k]? = some p := ⟨_, List.getElem?_eq_getElem (by omega)⟩
          have hfa := hall k f p hf hp
          obtain ⟨g, rfl⟩ : ∃ g : Nat, ad = some ⟨g, 0, none⟩ := by
            obtain ⟨a, cc, e, hs⟩ := own_slice ho
            obtain ⟨g, hs⟩ := hs (by omega)
            exact ⟨g, by injection e with e1 e2 e3; rw [e1, hs]⟩
          obtain ⟨ra, rc, er⟩ : ∃ ra rc, p.2 = .slice ra f.refs.length rc := by
            obtain ⟨b, cap, e, _⟩ := hfa.refs
            exact ⟨_, _, e⟩
          obtain ⟨sa, sc, es⟩ : ∃ sa sc, p.1 = .slice sa f.sets.length sc := by
            obtain ⟨b, cap, e⟩ := hfa.sets.sl
            exact ⟨_, _, e⟩
          obtain ⟨f1, f2⟩ := fcells_at ps k p hp
          have hlk : k * 2 + 1 < l.length * 2 := by omega
          have x1 := (ho.cellAt (k * 2) (by omega)).trans f1
          have x2 := (ho.cellAt (k * 2 + 1) hlk).trans f2
          rw [es] at x1
          rw [er] at x2
          have hfs := frefs_step hf
          have hle : (frefs (l.take (k + 1))).length ≤ 20000 := Nat.le_trans (frefs_take l _) hBr
          have hle0 : (frefs (l.take k)).length ≤ 20000 := Nat.le_trans (frefs_take l _) hBr
          have hlen : (frefs (l.take (k + 1))).length = (frefs (l.take k)).length + f.refs.length := by rw [hfs, List.length_append]
          have hfr : f.refs.length ≤ 20000 := by omega
          have STEP := Lib.hid (show ∀ W, Turn (fun _ => False) wr W → InRel l s W4 (l.length - (k + 1)) (.int .i64 (((s + (frefs (l.take k)).length : Nat) : Int) + (f.refs.length : Int))) (.int .i64 ((k : Int) + 1)) W from fun W t => ⟨k + 1, congrArg (Value.int .i64) (Int.natCast_succ k).symm, congrArg (Value.int .i64) (by rw [hlen]; omega), by omega, rfl, T.trans t⟩)
          have hs1 : s ≤ 900000 := by omega
          have e1 : wrap64 ((k : Int) + 1) = (k : Int) + 1 := by unfold wrap64; omega
          have G3 := Lib.hid (And.intro hg hkl)
          have tA := Lib.hid (show Turn (fun _ => False) wr (wr.alloc (.cells #[.slice sa f.sets.length sc, .slice ra f.refs.length rc] 71)) from (Turn.refl _ wr).alloc _)
          have ht : s + (frefs (l.take k)).length ≤ 1000000 := by omega
          generalize s + (frefs (l.take k)).length = t at *
          have e2 : wrap64 ((t : Int) + (f.refs.length : Int)) = (t : Int) + (f.refs.length : Int) := by unfold wrap64; omega
          clear hr ho hall hp hfa er es f1 f2 hlk hfs hle hle0 hlen hf hkl hg hps T hrow2 had hstep hbnd hBl hlt hs1
          generalize f.refs.length = fr at *
          generalize f.sets.length = fs at *
          go_wp2_with fail
          go_roundg (l.length - (k + 1))
          case measure => have := G3.out.1; have := G3.out.2; omega
          case rel => first | exact STEP.out _ tA.out | (rw [e1]; exact STEP.out _ tA.out)
        · obtain rfl : k = l.length := by omega
          have FIN2 := Lib.hid (FIN.out wr (G2.out.trans T))
          have e1 : s + (frefs (l.take l.length)).length = s2 := by rw [List.take_length]; omega
          rw [e1]
          have G3 := Lib.hid hlt
          clear hg T hrow2 had hstep hbnd hBl hBr hlt hk FIN hkl e1
          go_wp2_with fail
          go_roundg cnt2
          case measure => exact G3.out
          case rel => exact FIN2.out
end
end Go.Proofs.Ytepmealhnnoahaa
namespace Go.Proofs.Ytepmealhnnoahaa
set_option linter.unusedSimpArgs false
open Go.ChangeShapes Go.WideShapes Go.ChangeAt Go.RowKit
set_option linter.unusedVariables false
/-- Refs that are read, wherever they lie. -/
def RefsIn (w : World) (v : Value) (l : List (Int × Int)) : Prop :=
  (v = .slice none 0 0 ∧ l = []) ∨ ∃ (b off c : Nat), v = .slice (some ⟨b, off, none⟩) l.length c ∧ w.rangeAt b off (rcells l)
theorem refsin_own {w : World} {base : Nat} {v : Value} {l : List (Int × Int)} (h : w.ownsRow base 38 2 v l.length (rcells l)) : RefsIn w v l := by
  obtain ⟨a, c, e, ha⟩ := own_slice h
  rcases h.2 with ⟨e1, e2⟩ | ⟨g, cap, cur, e1, _⟩
  · exact .inl ⟨e1, List.eq_nil_of_length_eq_zero e2⟩
  · subst e1
    refine .inr ⟨g, 0, cap, rfl, fun j u hu => ?_⟩
    have hj := (List.getElem?_eq_some_iff.1 hu).1
    rw [rcells_len] at hj
    rw [Nat.zero_add]
    exact (h.cellAt j hj).trans hu
theorem refsin_row {w : World} {v : Value} {l : List (Int × Int)} (h : RowV w 38 2 l.length v (rcells l)) : RefsIn w v l := by
  obtain ⟨b, cap, e, hb, hx, _⟩ := h
  exact .inr ⟨b, 0, cap, e, hx⟩
theorem app_refsI {W : World} {base : Nat} {v v2 : Value} {l m : List (Int × Int)} (ho : W.ownsRow base 38 2 v l.length (rcells l)) (h2 : RefsIn W v2 m) (hn : l.length + m.length ≤ 1000000) (hb : base ≤ W.heap.size) (ty : TypeId) :
    ∃ v' W', (Builtin.append_ #[54, 54] ty #[v, v2]).run Try.prog W = .ok v' W' ∧ W'.ownsRow base 38 2 v' (l ++ m).length (rcells (l ++ m)) ∧ Turn (fun q => v.ownBlock = some q) W W' ∧ (∀ q, v'.ownBlock = some q → v.ownBlock = some q ∨ W.heap.size ≤ q) := by
  obtain ⟨i3, j1, j2, j3, j4⟩ := info_parts info38c
  rcases h2 with ⟨rfl, rfl⟩ | ⟨b, off, c, rfl, hx⟩
  · refine ⟨v, W, ?_, by simpa using ho, Turn.refl _ _, fun q h => .inl h⟩
    rcases ho.2 with ⟨rfl, e⟩ | ⟨g, cap, cur, rfl, _, _, hnc, _⟩
    · simp [Builtin.append_, run_underlying Try.underlying54, sizeOf, typeInfo, j1, Builtin.lenOf, Builtin.firstCells]
    · simp [Builtin.append_, run_underlying Try.underlying54, sizeOf, typeInfo, j1, Builtin.lenOf, Builtin.firstCells, hnc, storeCells]
  · obtain ⟨v', w', hr, ho', hg, _, hbl⟩ := run_append_own_at W base 54 ty 38 i3 _ 2 16 Try.underlying54 j1 j2 j3 j4 rfl (by decide) _ _ _ ho ⟨b, off, none⟩ m.length c (rcells m) (rcells_len m) (fun j u hu => by
      rw [Go.WideShapes.add_plain]
      exact hx j u hu) (rcells_one m) (by unfold maxLen; omega) (by omega) hb
    refine ⟨v', w', hr, by rw [rcells_app, List.length_append]; exact ho', (Turn.refl _ _).grown hg (fun k hk => .inl hk), fun q hq => ?_⟩
    rcases hbl with e | e
    · exact .inl (e ▸ hq)
    · rw [e] at hq
      cases hq
      exact .inr (Nat.le_refl _)
theorem RefsIn.turn {Z : Nat → Prop} {w w' : World} {v : Value} {l : List (Int × Int)} (h : RefsIn w v l) (T : Turn Z w w') (hz : ∀ k, v.ownBlock = some k → ¬ Z k) : RefsIn w' v l := by
  rcases h with h | ⟨b, off, c, rfl, hx⟩
  · exact .inl h
  · exact .inr ⟨b, off, c, rfl, range_turn hx T (hz b rfl)⟩
def cfg7 (x y : Int) : List Value := [.int .i64 0, .int .i64 0, .int .i64 0, .int .i64 (quOf x), .int .i64 0, .int .i64 (ouOf y), .int .i64 0]
theorem cntR_wt (r : Int × Int) (l : List (Int × Int)) : cntR r l = wtR (fun p => if p.1 == r.1 && p.2 == r.2 then 1 else 0) l := by
  induction l with
  | nil => rfl
  | cons p l ih => simp only [cntR, wtR, List.map_cons, List.sum_cons] at ih ⊢; rw [ih]
theorem DomS.none : DomS noneS := fun i h => absurd rfl h
/-- Between two calls: what came, and what was let go, lie in rows of their own. -/
structure HS (w : World) (x y : Int) (d base i mb m : Nat) (S : DS) (P : Nat → Prop) (R G : List (Int × Int)) (vr vg : Value) (wr : World) : Prop where
  desk : DAt wr d mb base (quOf x) (ouOf y) (i * 30) m S P
  own : ∀ k, P k → w.heap.size ≤ k
  inv : InvS (ouOf y) S
  dom : DomS S
  mq : (m : Int) ≤ quOf x
  refs : wr.ownsRow w.heap.size 38 2 vr R.length (rcells R)
  gone : wr.ownsRow w.heap.size 38 2 vg G.length (rcells G)
  ra : ∀ k, vr.ownBlock = some k → ¬ P k
  ga : ∀ k, vg.ownBlock = some k → ¬ P k
  ap : ∀ k, vr.ownBlock = some k → vg.ownBlock ≠ some k
  sum : ∀ f, wtR f R = wtR f G + heldW f S
  len : R.length ≤ i * 50
  turn : Turn (fun _ => False) w wr
theorem HS.glen {w : World} {x y : Int} {d base i mb m : Nat} {S : DS} {P : Nat → Prop} {R G : List (Int × Int)} {vr vg : Value} {wr : World} (h : HS w x y d base i mb m S P R G vr vg wr) : R.length = G.length + heldW (fun _ => 1) S := by
  have := h.sum (fun _ => 1)
  rwa [wtR_one, wtR_one] at this
/-- The rounds. -/
def HoRel (w : World) (x y : Int) (d base : Nat) (L : List ActV) (gh : Nat) (v7 v8 v9 v10 : Value) (wr : World) : Prop :=
  ∃ (i mb m : Nat) (S : DS) (P : Nat → Prop) (R G : List (Int × Int)), v10 = .int .i64 (i : Int) ∧ i ≤ min L.length 40 ∧ gh = min L.length 40 - i ∧ v7 = .int .i64 ((R.length : Int) - (G.length : Int)) ∧ HS w x y d base i mb m S P R G v8 v9 wr
/-- While the refs of hits are put behind what came. -/
def PutRel (B : Nat) (R : List (Int × Int)) (vr : Value) (w5 : World) (K : List (Int × Int)) (v8 : Value) (wr : World) : Prop :=
  wr.ownsRow B 38 2 v8 (R ++ K).length (rcells (R ++ K)) ∧ (∀ q, v8.ownBlock = some q → vr.ownBlock = some q ∨ w5.heap.size ≤ q) ∧ Turn (fun q => vr.ownBlock = some q) w5 wr
def OutRel (B : Nat) (R : List (Int × Int)) (vr : Value) (w5 : World) (Os : List OutV) (gh : Nat) (v8 v15 : Value) (wr : World) : Prop :=
  ∃ k : Nat, v15 = .int .i64 (k : Int) ∧ k ≤ Os.length ∧ gh = Os.length - k ∧ PutRel B R vr w5 (hrefs (hitsL (Os.take k)).flatten) v8 wr
def HitRel (B : Nat) (R : List (Int × Int)) (vr : Value) (w5 : World) (K0 : List (Int × Int)) (H : List Ht) (gh : Nat) (v8 v16 : Value) (wr : World) : Prop :=
  ∃ j : Nat, v16 = .int .i64 (j : Int) ∧ j ≤ H.length ∧ gh = H.length - j ∧ PutRel B R vr w5 (K0 ++ hrefs (H.take j)) v8 wr
theorem hrefs_step {H : List Ht} {j : Nat} {x : Ht} (h : H[j]? = some x) : hrefs (H.take (j + 1)) = hrefs (H.take j) ++ x.f.refs := by
  rw [List.take_add_one, h, hrefs_app]
  simp [hrefs, frefs]
theorem outs_step {Os : List OutV} {k : Nat} {o : OutV} (h : Os[k]? = some o) : hrefs (hitsL (Os.take (k + 1))).flatten = hrefs (hitsL (Os.take k)).flatten ++ hrefs o.hits := by
  rw [List.take_add_one, h]
  unfold hitsL
  rw [List.map_append, List.flatten_append, hrefs_app]
  simp
end Go.Proofs.Ytepmealhnnoahaa
namespace Go.Proofs.Ytepmealhnnoahaa
set_option linter.unusedSimpArgs false
open Go.ChangeShapes Go.WideShapes Go.ChangeAt Go.RowKit
set_option linter.unusedVariables false
def SortH (l : List Ht) : Prop := l.Pairwise (fun a b => a.id ≤ b.id)
theorem min_of : ∀ (L : List Ht), L ≠ [] → ∃ x ∈ L, ∀ y ∈ L, x.id ≤ y.id
  | [], h => absurd rfl h
  | [a], _ => ⟨a, by simp, fun y hy => by simp at hy; rw [hy]; exact Int.le_refl _⟩
  | a :: b :: L, _ => by
    obtain ⟨x, hx, hm⟩ := min_of (b :: L) (by simp)
    by_cases h : a.id ≤ x.id
    · exact ⟨a, by simp, fun y hy => by
        rcases List.mem_cons.1 hy with rfl | hy
        · exact Int.le_refl _
        · exact Int.le_trans h (hm y hy)⟩
    · exact ⟨x, List.mem_cons_of_mem _ hx, fun y hy => by
        rcases List.mem_cons.1 hy with rfl | hy
        · omega
        · exact hm y hy⟩
theorem leastB_of {S : List (List Ht)} {j : Nat} {x : Ht} (h : ∀ (k : Nat) (y : Ht) (l : List Ht), S[k]? = some (y :: l) → x.id ≤ y.id) : leastB ltH S j x = true := by
  unfold leastB
  refine List.all_eq_true.2 (fun k hk => ?_)
  unfold okB
  cases e : S[k]? with
  | none => simp
  | some l =>
    cases l with
    | nil => simp
    | cons y l =>
      have := h k y l e
      have hn : ltH y x = false := by unfold ltH; exact decide_eq_false (by omega)
      simp [hn]
theorem of_leastB {S : List (List Ht)} {j : Nat} {x : Ht} (h : leastB ltH S j x = true) {k : Nat} {y : Ht} {l : List Ht} (hk : k ≠ j) (e : S[k]? = some (y :: l)) : x.id ≤ y.id := by
  unfold leastB at h
  have h1 := List.all_eq_true.1 h k (List.mem_range.2 (List.getElem?_eq_some_iff.1 e).1)
  unfold okB at h1
  rw [e] at h1
  have hkj : (k == j) = false := beq_eq_false_iff_ne.2 hk
  rw [hkj] at h1
  simp [ltH] at h1
  exact h1
theorem exists_first {S : List (List Ht)} {j : Nat} {y : Ht} {l : List Ht} (e : S[j]? = some (y :: l)) : ∃ i, i < S.length ∧ isFirst ltH S i = true := by
  have hne : S.filterMap List.head? ≠ [] := fun h => by
    have := List.filterMap_eq_nil_iff.1 h (y :: l) (List.mem_of_getElem? e)
    simp at this
  obtain ⟨x, hx, hm⟩ := min_of _ hne
  obtain ⟨a, ha, hh⟩ := List.mem_filterMap.1 hx
  obtain ⟨i, hi⟩ := List.getElem?_of_mem ha
  cases a with
  | nil => simp at hh
  | cons z a =>
    simp at hh
    subst hh
    refine ⟨i, (List.getElem?_eq_some_iff.1 hi).1, ?_⟩
    unfold isFirst
    rw [hi]
    exact leastB_of (fun k y l hk => hm y (List.mem_filterMap.2 ⟨_, List.mem_of_getElem? hk, rfl⟩))
/-- The first row's number is the least, and those ahead of it have greater ones. -/
theorem first_least {S : List (List Ht)} {i : Nat} {x : Ht} {l : List Ht} (h : firstAt ltH S = (i : Int)) (e : S[i]? = some (x :: l)) : (∀ (k : Nat) (y : Ht) (l' : List Ht), S[k]? = some (y :: l') → x.id ≤ y.id) ∧ ∀ (k : Nat) (y : Ht) (l' : List Ht), k < i → S[k]? = some (y :: l') → x.id < y.id := by
  obtain ⟨j, hj, hf⟩ := exists_first e
  have hfind : (List.range S.length).find? (isFirst ltH S) = some i := by
    unfold firstAt at h
    cases hq : (List.range S.length).find? (isFirst ltH S) with
    | none => exact absurd hf (by have := List.find?_eq_none.1 hq j (List.mem_range.2 hj); simpa using this)
    | some q => rw [hq] at h; have h : (q : Int) = (i : Int) := by simpa using h
                have h : q = i := by omega
                rw [h]
  have h1 : isFirst ltH S i = true := by simpa using List.find?_some hfind
  have hlb : leastB ltH S i x = true := by unfold isFirst at h1; rw [e] at h1; exact h1
  have hall : ∀ (k : Nat) (y : Ht) (l' : List Ht), S[k]? = some (y :: l') → x.id ≤ y.id := fun k y l' hk => by
    by_cases q : k = i
    · subst q
      rw [e] at hk
      cases hk
      exact Int.le_refl _
    · exact of_leastB hlb q hk
  refine ⟨hall, fun k y l' hk e2 => ?_⟩
  by_cases hlt : x.id < y.id
  · exact hlt
  · exfalso
    have h2 : isFirst ltH S k = true := by
      unfold isFirst
      rw [e2]
      exact leastB_of (fun m z l3 hm => by have := hall m z l3 hm; omega)
    obtain ⟨_, az, bs, hab, hno⟩ := List.find?_eq_some_iff_append.1 hfind
    have hi : i = az.length := by
      have := congrArg (fun z => z[az.length]?) hab
      simp at this
      obtain ⟨_, this⟩ := List.getElem?_eq_some_iff.1 this
      simp at this
      omega
    have hmem : k ∈ az := by
      have hkl : k < az.length := by omega
      have := congrArg (fun z => z[k]?) hab
      rw [List.getElem?_append_left hkl] at this
      have hr : (List.range S.length)[k]? = some k := by
        rw [List.getElem?_range (by have := (List.getElem?_eq_some_iff.1 e2).1; omega)]
      rw [hr] at this
      exact List.mem_of_getElem? this.symm
    have := hno k hmem
    rw [h2] at this
    simp at this
theorem flatten_filter {α : Type} {p : α → Bool} : ∀ {S : List (List α)} {i : Nat} {x : α} {l : List α}, S[i]? = some (x :: l) → (p x = true → ∀ (k : Nat) (l' : List α), k < i → S[k]? = some l' → ∀ y ∈ l', p y = false) → S.flatten.filter p = (if p x then [x] else []) ++ (S.set i l).flatten.filter p
  | [], i, x, l, h, _ => by simp at h
  | a :: S, 0, x, l, h, _ => by
    simp at h
    subst h
    simp only [List.flatten_cons, List.set_cons_zero, List.cons_append, List.filter_append]
    cases hp : p x <;> simp [hp, List.filter_cons]
  | a :: S, i + 1, x, l, h, hno => by
    have h : S[i]? = some (x :: l) := by simpa using h
    have ih := flatten_filter h (fun hp k l' hk hl => hno hp (k + 1) l' (by omega) (by simpa using hl))
    simp only [List.flatten_cons, List.set_cons_succ, List.filter_append]
    rw [ih]
    cases hp : p x with
    | false => simp
    | true =>
      have : a.filter p = [] := List.filter_eq_nil_iff.2 (fun y hy => by have := hno hp 0 a (by omega) (by simp) y hy; simp [this])
      rw [this]
      simp
theorem merge_filter (c : Int) : ∀ (n : Nat) (S : List (List Ht)), total S = n → (∀ l ∈ S, SortH l) → (mergeN ltH n S).filter (fun x => x.id == c) = S.flatten.filter (fun x => x.id == c)
  | n, S, hn, hs => by
    rcases firstAt_or ltH S with h | ⟨i, x, l, h, e⟩
    · have hz := firstAt_none h
      have : S.flatten = [] := List.flatten_eq_nil_iff.2 hz
      rw [this, mergeN_none h]
    · have ht := total_set e
      cases n with
      | zero => omega
      | succ n =>
        obtain ⟨f1, f2⟩ := first_least h e
        have hs' : ∀ l' ∈ S.set i l, SortH l' := fun l' hl' => by
          rcases List.mem_or_eq_of_mem_set hl' with q | rfl
          · exact hs l' q
          · exact (List.pairwise_cons.1 (hs _ (List.mem_of_getElem? e))).2
        have ih := merge_filter c n (S.set i l) (by omega) hs'
        rw [mergeN_step h e, flatten_filter (p := fun x => x.id == c) e (fun hp k l' hk hl y hy => by
          have hc : x.id = c := by simpa using hp
          cases l' with
          | nil => simp at hy
          | cons z l' =>
            have h1 := f2 k z l' hk hl
            have h2 : z.id ≤ y.id := by
              rcases List.mem_cons.1 hy with rfl | hy
              · exact Int.le_refl _
              · exact (List.pairwise_cons.1 (hs _ (List.mem_of_getElem? hl))).1 y hy
            exact beq_eq_false_iff_ne.2 (by omega))]
        rw [List.filter_cons, ih]
        cases (x.id == c) <;> simp
theorem merged_filter {Os : List OutV} (h : ∀ o ∈ Os, SortH o.hits) (c : Int) : (mergedH Os).filter (fun x => x.id == c) = (hitsL Os).flatten.filter (fun x => x.id == c) :=
  merge_filter c _ _ rfl (fun l hl => by
    unfold hitsL at hl
    obtain ⟨o, ho, rfl⟩ := List.mem_map.1 hl
    exact h o ho)
/-! A desk, query by query. -/
def putOne (ou : Int) (v : Option (List Fnd × Bool)) (f : Fnd) : Option (List Fnd × Bool) := match v with
  | none => none
  | some (l, lo) => if lo = true ∨ ou ≤ (l.length : Int) then some (l, true) else some (l ++ [f], false)
section
variable {S : Int → Option (List Fnd × Bool)} {ou qu : Int}
theorem putD_at (x : Ht) (i : Int) : putD ou S x i = if x.id = i then putOne ou (S i) x.f else S i := by
  unfold putD
  by_cases e : x.id = i
  · subst e
    rw [if_pos rfl]
    unfold putOne
    cases hs : S x.id with
    | none => exact hs
    | some p =>
      obtain ⟨l, lo⟩ := p
      dsimp only
      split
      · rw [updI_at]
      · rw [updI_at]
  · rw [if_neg e]
    cases hs : S x.id with
    | none => rfl
    | some p =>
      obtain ⟨l, lo⟩ := p
      dsimp only
      split
      · rw [updI_off _ _ (fun q => e q.symm)]
      · rw [updI_off _ _ (fun q => e q.symm)]
theorem putsD_at (i : Int) : ∀ (H : List Ht) (S : Int → Option (List Fnd × Bool)), putsD ou S H i = (H.filter (fun x => x.id == i)).foldl (fun v x => putOne ou v x.f) (S i)
  | [], S => rfl
  | x :: H, S => by
    have e : putsD ou S (x :: H) = putsD ou (putD ou S x) H := rfl
    rw [e, putsD_at i H, putD_at, List.filter_cons]
    by_cases h : x.id = i
    · rw [if_pos h, if_pos (by simpa using h)]
      rfl
    · rw [if_neg h, if_neg (by simpa using h)]
theorem loseD_at (j i : Int) : loseD S j i = if j = i then (S i).map (fun p => (p.1, true)) else S i := by
  unfold loseD
  by_cases e : j = i
  · subst e
    rw [if_pos rfl]
    cases hs : S j with
    | none => exact hs
    | some p => obtain ⟨l, lo⟩ := p; exact updI_at _ _ _
  · rw [if_neg e]
    cases hs : S j with
    | none => rfl
    | some p => obtain ⟨l, lo⟩ := p; exact updI_off _ _ (fun q => e q.symm)
theorem losesD_at (i : Int) : ∀ (l : List Int) (S : Int → Option (List Fnd × Bool)), losesD S l i = if i ∈ l then (S i).map (fun p => (p.1, true)) else S i
  | [], S => by rw [if_neg List.not_mem_nil]; rfl
  | j :: l, S => by
    have e : losesD S (j :: l) = losesD (loseD S j) l := rfl
    rw [e, losesD_at i l, loseD_at]
    by_cases h1 : j = i
    · subst h1
      have hm : j ∈ j :: l := by simp
      rw [if_pos rfl, if_pos hm]
      split
      · cases S j <;> rfl
      · rfl
    · rw [if_neg h1]
      by_cases h2 : i ∈ l
      · have hm : i ∈ j :: l := by simp [h2]
        rw [if_pos h2, if_pos hm]
      · have hm : ¬ i ∈ j :: l := by simp [h2]; exact fun q => h1 q.symm
        rw [if_neg h2, if_neg hm]
theorem putOne_some (v : Option (List Fnd × Bool)) (f : Fnd) : (putOne ou v f).isSome = v.isSome := by
  unfold putOne
  cases v with
  | none => rfl
  | some p => obtain ⟨l, lo⟩ := p; dsimp only; split <;> rfl
theorem puts_some (H : List Ht) : ∀ v : Option (List Fnd × Bool), (H.foldl (fun v x => putOne ou v x.f) v).isSome = v.isSome := by
  induction H with
  | nil => exact fun v => rfl
  | cons x H ih => exact fun v => (ih _).trans (putOne_some v x.f)
end
/-! With what comes for odd numbers left out. -/
def evenO (Os : List OutV) : List OutV := Os.map (fun o => ⟨o.hits.filter (fun x => x.id % 2 == 0), o.lost.filter (fun x => x % 2 == 0)⟩)
theorem even_flat (Os : List OutV) {c : Int} (hc : c % 2 = 0) : (hitsL (evenO Os)).flatten.filter (fun x => x.id == c) = (hitsL Os).flatten.filter (fun x => x.id == c) := by
  induction Os with
  | nil => rfl
  | cons o Os ih =>
    have e1 : (hitsL (evenO (o :: Os))).flatten = o.hits.filter (fun x => x.id % 2 == 0) ++ (hitsL (evenO Os)).flatten := rfl
    have e2 : (hitsL (o :: Os)).flatten = o.hits ++ (hitsL Os).flatten := rfl
    rw [e1, e2, List.filter_append, List.filter_append, ih, List.filter_filter]
    congr 1
    refine List.filter_congr (fun x _ => ?_)
    by_cases h : x.id = c
    · have h1 : (x.id == c) = true := by simpa using h
      have h2 : (x.id % 2 == 0) = true := by rw [h]; simpa using hc
      rw [h1, h2]; rfl
    · have h1 : (x.id == c) = false := by simpa using h
      rw [h1]; rfl
theorem even_lost (Os : List OutV) {c : Int} (hc : c % 2 = 0) : c ∈ lostL (evenO Os) ↔ c ∈ lostL Os := by
  unfold lostL evenO
  simp only [List.map_map, List.mem_flatten, List.mem_map, Function.comp]
  refine ⟨?_, ?_⟩
  · rintro ⟨l, ⟨o, ho, rfl⟩, hx⟩
    exact ⟨_, ⟨o, ho, rfl⟩, (List.mem_filter.1 hx).1⟩
  · rintro ⟨l, ⟨o, ho, rfl⟩, hx⟩
    exact ⟨_, ⟨o, ho, rfl⟩, List.mem_filter.2 ⟨hx, by simpa using hc⟩⟩
theorem even_sort {Os : List OutV} (h : ∀ o ∈ Os, SortH o.hits) : ∀ o ∈ evenO Os, SortH o.hits := fun o ho => by
  unfold evenO at ho
  obtain ⟨q, hq, rfl⟩ := List.mem_map.1 ho
  exact List.Pairwise.filter _ (h q hq)
abbrev DSx := Int → Option (List Fnd × Bool)
/-- Two desks that have the same queries, and the same of those of even numbers. -/
def ApR (S T : DSx) : Prop := (∀ i, (S i).isSome = (T i).isSome) ∧ ∀ i, i % 2 = 0 → S i = T i
section
variable {S T : DSx} {qu ou : Int}
theorem ApR.upd (h : ApR S T) {i : Int} {a b : Option (List Fnd × Bool)} (h1 : a.isSome = b.isSome) (h2 : i % 2 = 0 → a = b) : ApR (updI S i a) (updI T i b) := by
  refine ⟨fun j => ?_, fun j hj => ?_⟩
  · by_cases e : j = i
    · subst e; rw [updI_at, updI_at]; exact h1
    · rw [updI_off _ _ e, updI_off _ _ e]; exact h.1 j
  · by_cases e : j = i
    · subst e; rw [updI_at, updI_at]; exact h2 hj
    · rw [updI_off _ _ e, updI_off _ _ e]; exact h.2 j hj
theorem ApR.pub (h : ApR S T) {Os : List OutV} (hs : ∀ o ∈ Os, SortH o.hits) : ApR (pubD ou S Os) (pubD ou T (evenO Os)) := by
  refine ⟨fun i => ?_, fun i hi => ?_⟩
  · unfold pubD
    rw [losesD_at, losesD_at, putsD_at, putsD_at]
    have e1 := puts_some (ou := ou) ((mergedH Os).filter (fun x => x.id == i)) (S i)
    have e2 := puts_some (ou := ou) ((mergedH (evenO Os)).filter (fun x => x.id == i)) (T i)
    have e0 := h.1 i
    have ms : ∀ (c : Prop) [Decidable c] (v : Option (List Fnd × Bool)), (if c then v.map (fun p => (p.1, true)) else v).isSome = v.isSome := fun c _ v => by
      split
      · cases v <;> rfl
      · rfl
    rw [ms, ms, e1, e2, e0]
  · unfold pubD
    rw [losesD_at, losesD_at, putsD_at, putsD_at, merged_filter hs, merged_filter (even_sort hs), even_flat Os hi, h.2 i hi]
    by_cases hl : i ∈ lostL Os
    · rw [if_pos hl, if_pos ((even_lost Os hi).2 hl)]
    · rw [if_neg hl, if_neg (fun q => hl ((even_lost Os hi).1 q))]
theorem ApR.does (h : ApR S T) {Os : List OutV} (hs : ∀ o ∈ Os, SortH o.hits) {m : Nat} {stamp k i n s g : Int} :
    ApR (doR qu ou S m stamp k i n s g Os).S (doR qu ou T m stamp k i n s g (evenO Os)).S ∧ (doR qu ou S m stamp k i n s g Os).m = (doR qu ou T m stamp k i n s g (evenO Os)).m ∧
      (k ≠ 4 ∨ i % 2 = 0 → (doR qu ou S m stamp k i n s g Os).err = (doR qu ou T m stamp k i n s g (evenO Os)).err ∧ (doR qu ou S m stamp k i n s g Os).num = (doR qu ou T m stamp k i n s g (evenO Os)).num ∧ (doR qu ou S m stamp k i n s g Os).ms = (doR qu ou T m stamp k i n s g (evenO Os)).ms) := by
  unfold doR
  by_cases k2 : k = 2
  · rw [if_pos k2, if_pos k2]
    unfold regR
    split
    · refine ⟨h.upd rfl (fun hi => by rw [h.2 _ hi]), ?_, fun _ => ⟨rfl, rfl, rfl⟩⟩
      dsimp only
      rw [h.1]
    · exact ⟨h, rfl, fun _ => ⟨rfl, rfl, rfl⟩⟩
  rw [if_neg k2, if_neg k2]
  by_cases k3 : k = 3
  · rw [if_pos k3, if_pos k3]
    have e0 := h.1 i
    unfold unrR
    cases hS : S i with
    | none =>
      rw [hS] at e0
      cases hT : T i with
      | none => exact ⟨h, rfl, fun _ => ⟨rfl, rfl, rfl⟩⟩
      | some p => rw [hT] at e0; cases e0
    | some p =>
      obtain ⟨l, lo⟩ := p
      rw [hS] at e0
      cases hT : T i with
      | none => rw [hT] at e0; cases e0
      | some q =>
        obtain ⟨l', lo'⟩ := q
        exact ⟨h.upd rfl (fun _ => rfl), rfl, fun _ => ⟨rfl, rfl, rfl⟩⟩
  rw [if_neg k3, if_neg k3]
  by_cases k1 : k = 1
  · rw [if_pos k1, if_pos k1]
    exact ⟨h.pub hs, rfl, fun _ => ⟨rfl, rfl, rfl⟩⟩
  rw [if_neg k1, if_neg k1]
  by_cases k4 : k = 4
  · rw [if_pos k4, if_pos k4]
    unfold polR
    split
    · exact ⟨h, rfl, fun _ => ⟨rfl, rfl, rfl⟩⟩
    · have e0 := h.1 i
      by_cases hi : i % 2 = 0
      · rw [h.2 i hi]
        cases hT : T i with
        | none => exact ⟨h, rfl, fun _ => ⟨rfl, rfl, rfl⟩⟩
        | some q =>
          obtain ⟨l', lo'⟩ := q
          dsimp only
          split
          · exact ⟨h, rfl, fun _ => ⟨rfl, rfl, rfl⟩⟩
          · exact ⟨h.upd rfl (fun _ => rfl), rfl, fun _ => ⟨rfl, rfl, rfl⟩⟩
      · have hno : ¬ (k ≠ 4 ∨ i % 2 = 0) := fun q => q.elim (fun q => q k4) hi
        cases hS : S i with
        | none =>
          rw [hS] at e0
          cases hT : T i with
          | none => exact ⟨h, rfl, fun _ => ⟨rfl, rfl, rfl⟩⟩
          | some p => rw [hT] at e0; cases e0
        | some p =>
          obtain ⟨l, lo⟩ := p
          rw [hS] at e0
          cases hT : T i with
          | none => rw [hT] at e0; cases e0
          | some q =>
            obtain ⟨l', lo'⟩ := q
            dsimp only
            have idl : ∀ j, S j = updI S i (some (l, lo)) j := fun j => by
              by_cases e : j = i
              · subst e; rw [updI_at]; exact hS
              · rw [updI_off _ _ e]
            have idr : ∀ j, T j = updI T i (some (l', lo')) j := fun j => by
              by_cases e : j = i
              · subst e; rw [updI_at]; exact hT
              · rw [updI_off _ _ e]
            have el : S = updI S i (some (l, lo)) := funext idl
            have er : T = updI T i (some (l', lo')) := funext idr
            split
            · split
              · exact ⟨h, rfl, fun q => absurd q hno⟩
              · refine ⟨?_, rfl, fun q => absurd q hno⟩
                dsimp only
                conv => lhs; rw [el]
                exact h.upd rfl (fun q => absurd q hi)
            · split
              · refine ⟨?_, rfl, fun q => absurd q hno⟩
                dsimp only
                conv => rhs; rw [er]
                exact h.upd rfl (fun q => absurd q hi)
              · exact ⟨h.upd rfl (fun q => absurd q hi), rfl, fun q => absurd q hno⟩
  · rw [if_neg k4, if_neg k4]
    split
    · exact ⟨h, rfl, fun _ => ⟨rfl, rfl, rfl⟩⟩
    · exact ⟨h, rfl, fun _ => ⟨rfl, rfl, rfl⟩⟩
end
end Go.Proofs.Ytepmealhnnoahaa
namespace Go.Proofs.Ytepmealhnnoahaa
set_option linter.unusedSimpArgs false
open Go.ChangeShapes Go.WideShapes Go.ChangeAt Go.RowKit
set_option linter.unusedVariables false
section
variable {α : Type} {key : α → Int} {l : List α} {i : Int}
theorem posK_after : ∀ k q y, posK key l i k ≤ q → q < k → l[q]? = some y → i < key y
  | 0, q, y, _, h, _ => by omega
  | k + 1, q, y, h1, h2, h3 => by
    unfold posK at h1
    split at h1
    · rename_i z hz
      split at h1
      · rename_i hlt
        by_cases e : q = k
        · subst e
          rw [h3] at hz
          cases hz
          exact hlt
        · exact posK_after k q y h1 (by omega) h3
      · omega
    · omega
theorem posK_before : ∀ k p y, posK key l i k = p + 1 → l[p]? = some y → key y ≤ i
  | 0, p, y, h, _ => by simp [posK] at h
  | k + 1, p, y, h, h3 => by
    unfold posK at h
    split at h
    · rename_i z hz
      split at h
      · exact posK_before k p y h h3
      · rename_i hlt
        have : k = p := by omega
        subst this
        rw [h3] at hz
        cases hz
        omega
    · rename_i hz
      have : k = p := by omega
      subst this
      rw [h3] at hz
      cases hz
theorem insK_sort {x : α} (h : l.Pairwise (fun a b => key a ≤ key b)) : (insK key l x).Pairwise (fun a b => key a ≤ key b) := by
  unfold insK
  obtain ⟨p, hp⟩ : ∃ p, posK key l (key x) l.length = p := ⟨_, rfl⟩
  rw [hp]
  have hb : ∀ a ∈ l.take p, key a ≤ key x := fun a ha => by
    obtain ⟨q, hq⟩ := List.mem_iff_getElem?.1 ha
    have hql := (List.getElem?_eq_some_iff.1 hq).1
    rw [List.length_take] at hql
    rw [List.getElem?_take_of_lt (by omega)] at hq
    obtain ⟨p', rfl⟩ : ∃ p', p = p' + 1 := ⟨p - 1, by omega⟩
    have hpl : p' < l.length := by have := posK_le key l (key x) l.length; omega
    have h1 := posK_before l.length p' l[p'] hp (List.getElem?_eq_getElem hpl)
    by_cases e : q = p'
    · subst e
      rw [List.getElem?_eq_getElem hpl] at hq
      cases hq
      exact h1
    · have h2 := List.pairwise_iff_getElem.1 h q p' (by omega) hpl (by omega)
      have h3 := (List.getElem?_eq_some_iff.1 hq).2
      rw [h3] at h2
      omega
  have ha : ∀ b ∈ l.drop p, key x ≤ key b := fun b hb => by
    obtain ⟨q, hq⟩ := List.mem_iff_getElem?.1 hb
    rw [List.getElem?_drop] at hq
    have := posK_after (key := key) (i := key x) l.length (p + q) b (by omega) (List.getElem?_eq_some_iff.1 hq).1 hq
    omega
  refine List.pairwise_append.2 ⟨h.sublist (List.take_sublist _ _), List.pairwise_cons.2 ⟨ha, h.sublist (List.drop_sublist _ _)⟩, fun a h1 b h2 => ?_⟩
  rcases List.mem_cons.1 h2 with rfl | h2
  · exact hb a h1
  · have := hb a h1
    have := ha b h2
    omega
end
theorem hitsA_sort (a : ActV) (stamp : Int) (k : Nat) : ∀ i, (hitsA a stamp k i).Pairwise (fun x y => x.1 ≤ y.1)
  | 0 => List.Pairwise.nil
  | i + 1 => by
    unfold hitsA
    split
    · exact insK_sort (hitsA_sort a stamp k i)
    · exact hitsA_sort a stamp k i
theorem outs_sort {a : ActV} {st : Int} {Os : List OutV} (h : OutsOf a st Os) : ∀ o ∈ Os, SortH o.hits := fun o ho => by
  rcases h with ⟨_, rfl⟩ | ⟨_, O, rfl, hq⟩
  · simp at ho
  · have key : ∀ k, k < 3 → SortH (O k).hits := fun k hk => by
      have h1 := (hq k hk).1
      have h2 := hitsA_sort a st k (min a.hits.length 6)
      rw [← h1] at h2
      exact (List.pairwise_map (f := Ht.abs)).1 h2
    simp at ho
    rcases ho with rfl | rfl | rfl
    · exact key 0 (by omega)
    · exact key 1 (by omega)
    · exact key 2 (by omega)
section
variable {S : DS} {ou qu : Int}
/-- What a desk keeps, of what comes in any order. -/
theorem InvS.does2 (h : InvS ou S) (ho : 0 ≤ ou) {m : Nat} (hm : (m : Int) ≤ qu) {stamp k i n s g : Int} {Os : List OutV} (hO : ∀ x ∈ mergedH Os, x.f.refs.length ≤ 2 ∧ x.f.sets.length ≤ 2) : InvS ou (doR qu ou S m stamp k i n s g Os).S ∧ ((doR qu ou S m stamp k i n s g Os).m : Int) ≤ qu := by
  have hP : InvS ou (pubD ou S Os) := InvS.loses _ (InvS.puts _ h hO)
  unfold doR
  split
  · unfold regR
    split
    · rename_i hlt
      refine ⟨?_, ?_⟩
      · cases e : S stamp with
        | none => exact h.upd (by simpa using ho) (fun f hf => by simp at hf)
        | some p =>
          obtain ⟨l, lo⟩ := p
          obtain ⟨h1, h2⟩ := h _ _ _ e
          exact h.upd h1 h2
      · show ((if (S stamp).isSome then m else m + 1 : Nat) : Int) ≤ qu
        split <;> omega
    · exact ⟨h, hm⟩
  · split
    · unfold unrR
      split
      · exact ⟨h, hm⟩
      · refine ⟨fun j l' lo' e => ?_, ?_⟩
        · have e : updI S i none j = some (l', lo') := e
          by_cases q : j = i
          · subst q
            rw [updI_at] at e
            cases e
          · rw [updI_off _ _ q] at e
            exact h j l' lo' e
        · show ((m - 1 : Nat) : Int) ≤ qu
          omega
    · split
      · exact ⟨hP, hm⟩
      · split
        · unfold polR
          split
          · exact ⟨h, hm⟩
          · split
            · exact ⟨h, hm⟩
            · rename_i l lo e
              obtain ⟨h1, h2⟩ := h _ _ _ e
              split
              · exact ⟨h, hm⟩
              · exact ⟨h.upd (by rw [List.length_drop]; omega) (fun f hf => h2 f (List.mem_of_mem_drop hf)), hm⟩
        · split
          · exact ⟨h, hm⟩
          · exact ⟨h, hm⟩
theorem does_ms (h : InvS ou S) (ho : ou ≤ 4096) {m : Nat} {stamp k i n s g : Int} {Os : List OutV} : (∀ l ∈ (doR qu ou S m stamp k i n s g Os).ms, l.length ≤ 1000) ∧ (doR qu ou S m stamp k i n s g Os).ms.length ≤ 1000000 := by
  have nil : (∀ l ∈ ([] : List (List (List Int))), l.length ≤ 1000) ∧ ([] : List (List (List Int))).length ≤ 1000000 := ⟨fun l hl => by simp at hl, by simp⟩
  unfold doR
  split
  · unfold regR; split <;> exact nil
  · split
    · unfold unrR; split <;> exact nil
    · split
      · exact nil
      · split
        · unfold polR
          split
          · exact nil
          · split
            · exact nil
            · rename_i l lo e
              obtain ⟨h1, h2⟩ := h _ _ _ e
              split
              · exact nil
              · refine ⟨fun q hq => ?_, ?_⟩
                · obtain ⟨f, hf, rfl⟩ := List.mem_map.1 hq
                  have := (h2 f (List.mem_of_mem_take hf)).2
                  omega
                · show ((l.take (min n.toNat l.length)).map (·.sets)).length ≤ 1000000
                  rw [List.length_map, List.length_take]
                  omega
        · split <;> exact nil
end
set_option maxRecDepth 100000 in
set_option maxHeartbeats 4000000 in
theorem same_ans {w : World} {e1 n1 e2 n2 : Int} {a1 a2 : Option Addr} {c1 c2 : Nat} {A B : List (List (List Int))} {g1 g2 : Nat} {N1 N2 : Nat → Prop} (h1 : MRow w g1 N1 (.slice a1 A.length c1) A) (h2 : MRow w g2 N2 (.slice a2 B.length c2) B) (s1 : ∀ l ∈ A, l.length ≤ 1000) (s2 : ∀ l ∈ B, l.length ≤ 1000) (hA : A.length ≤ 1000000) (hB : B.length ≤ 1000000) :
    Calls Try.prog 15 #[.agg #[.int .i64 e1, .int .i64 n1, .slice a1 A.length c1], .agg #[.int .i64 e2, .int .i64 n2, .slice a2 B.length c2]] w (BoolYes (e1 = e2 ∧ n1 = n2 ∧ A = B) w) := by
  obtain ⟨V, hV⟩ : ∃ V, V = w.alloc (.cells #[.int .i64 e1, .int .i64 n1, .slice a1 A.length c1] 53) := ⟨_, rfl⟩
  have TV : Turn (fun _ => False) w V := by rw [hV]; exact (Turn.refl _ w).alloc _
  have SV : V.heap.size = w.heap.size + 1 := by rw [hV, World.size_alloc]
  have RV : V.rangeAt w.heap.size 0 [.int .i64 e1, .int .i64 n1, .slice a1 A.length c1] := by rw [hV]; exact range_new w [.int .i64 e1, .int .i64 n1, .slice a1 A.length c1] 53
  obtain ⟨W, hW⟩ : ∃ W, W = V.alloc (.cells #[.int .i64 e2, .int .i64 n2, .slice a2 B.length c2] 53) := ⟨_, rfl⟩
  have TW : Turn (fun _ => False) V W := by rw [hW]; exact (Turn.refl _ V).alloc _
  have RW : W.rangeAt (w.heap.size + 1) 0 [.int .i64 e2, .int .i64 n2, .slice a2 B.length c2] := by rw [hW, ← SV]; exact range_new V [.int .i64 e2, .int .i64 n2, .slice a2 B.length c2] 53
  have RV2 := range_turn RV TW id
  have x0 : W.cell? ⟨w.heap.size, 0, none⟩ = some (.int .i64 e1) := RV2 0 _ rfl
  have x1 : W.cell? ⟨w.heap.size, 1, none⟩ = some (.int .i64 n1) := RV2 1 _ rfl
  have x2 : W.cell? ⟨w.heap.size, 2, none⟩ = some (.slice a1 A.length c1) := RV2 2 _ rfl
  have y0 : W.cell? ⟨w.heap.size + 1, 0, none⟩ = some (.int .i64 e2) := RW 0 _ rfl
  have y1 : W.cell? ⟨w.heap.size + 1, 1, none⟩ = some (.int .i64 n2) := RW 1 _ rfl
  have y2 : W.cell? ⟨w.heap.size + 1, 2, none⟩ = some (.slice a2 B.length c2) := RW 2 _ rfl
  have T := TV.trans TW
  have C := Lib.hid (rsame_is (mats_of (h1.turn T (fun _ _ f => f.elim) (fun _ _ f => f)) s1) (mats_of (h2.turn T (fun _ _ f => f.elim) (fun _ _ f => f)) s2) hA hB)
  have HT := Lib.hid T
  rw [hV] at hW
  have HW := Lib.hid hW
  clear hV TV SV RV hW TW RW RV2 T h1 h2 hA hB s1 s2
  generalize hna : A.length = na at *
  generalize hnb : B.length = nb at *
  generalize hs : w.heap.size = s at *
  clear hna hnb
  go_enter Try.func15, Try.ntmps15
  go_upto_region 1 with fail
  try rw [hs]
  rw [← HW.out]
  clear hs HW
  go_wp2_with fail
  with_reducible refine C.out.mono ?_
  rintro en W3 ⟨t, rfl, ht, dd, rfl⟩
  have FIN := Lib.hid (show Turn (fun _ => False) w (W.drewN dd) from HT.out.drewN dd)
  cases t with
  | false =>
    have NO := Lib.hid (show ¬ A = B from fun q => by have := ht q; cases this)
    clear ht C HT
    go_wp2
    go_ret
    exact ⟨_, rfl, fun q => absurd q.2.2 NO.out, FIN.out⟩
  | true =>
    clear ht C HT
    by_cases q1 : e1 = e2
    · have z1 : (e1 == e2) = true := beq_iff_eq.2 q1
      by_cases q2 : n1 = n2
      · have z2 : (n1 == n2) = true := beq_iff_eq.2 q2
        clear q1 q2
        go_wp2
        go_ret
        exact ⟨_, rfl, fun q => rfl, FIN.out⟩
      · have z2 : (n1 == n2) = false := beq_eq_false_iff_ne.2 q2
        have Q := Lib.hid q2
        clear q1 q2
        go_wp2
        go_ret
        exact ⟨_, rfl, fun q => absurd q.2.1 Q.out, FIN.out⟩
    · have z1 : (e1 == e2) = false := beq_eq_false_iff_ne.2 q1
      have Q := Lib.hid q1
      clear q1
      go_wp2
      go_ret
      exact ⟨_, rfl, fun q => absurd q.1 Q.out, FIN.out⟩
end Go.Proofs.Ytepmealhnnoahaa
namespace Go.Proofs.Ytepmealhnnoahaa
set_option linter.unusedSimpArgs false
open Go.ChangeShapes Go.WideShapes Go.ChangeAt Go.RowKit
set_option linter.unusedVariables false
abbrev nilv : Value := .slice none 0 0
theorem info68c : (Try.prog.info? 68).map (fun i => (i.zero, i.size, i.bytes)) = some (some (.agg #[.slice none 0 0, .slice none 0 0, .slice none 0 0, .slice none 0 0]), 4, 96) := by kernel_rfl
theorem made_four (n : Nat) (hn : n ≤ 3) : (madeCells (Value.agg #[.slice none 0 0, .slice none 0 0, .slice none 0 0, .slice none 0 0]).cells (n * 4)) = (List.replicate (n * 4) (Value.slice none 0 0)).toArray := by
  have hz : ∀ i, (Value.agg #[.slice none 0 0, .slice none 0 0, .slice none 0 0, .slice none 0 0]).cells[i % (Value.agg #[.slice none 0 0, .slice none 0 0, .slice none 0 0, .slice none 0 0]).cells.size]! = .slice none 0 0 := fun i => by
    have e : (Value.agg #[.slice none 0 0, .slice none 0 0, .slice none 0 0, .slice none 0 0]).cells = #[.slice none 0 0, .slice none 0 0, .slice none 0 0, .slice none 0 0] := by simp [Value.cells]
    rw [e]
    have h4 : i % 4 = 0 ∨ i % 4 = 1 ∨ i % 4 = 2 ∨ i % 4 = 3 := by omega
    have e4 : (#[Value.slice none 0 0, .slice none 0 0, .slice none 0 0, .slice none 0 0] : Array Value).size = 4 := rfl
    rw [e4]
    rcases h4 with h | h | h | h <;> rw [h] <;> rfl
  apply Array.ext
  · simp [size_madeCells]
  · intro i h1 h2
    simp only [madeCells, Array.getElem_map, Array.getElem_range, hz, List.getElem_toArray, List.getElem_replicate]
theorem make_outs (w : World) (n : Nat) (hn : n ≤ 3) : ∃ W, (Instr.makeSlice 44 (.int .i64 (n : Int)) (.int .i64 (n : Int))).run Try.prog w = .ok (.slice (some ⟨w.heap.size, 0, none⟩) n n) W ∧ (∀ k, k < n → W.rangeAt w.heap.size (k * 4) [.slice none 0 0, .slice none 0 0, .slice none 0 0, .slice none 0 0]) ∧ Blk W w.heap.size 68 ∧ Turn (fun _ => False) w W := by
  obtain ⟨i, p1, p2, p3, p4⟩ := info_parts info68c
  have h := run_make (P := Try.prog) w 44 68 i _ Try.underlying44 p1 p2 .i64 .i64 (n : Int) (n : Int) (by omega) (by omega) (by rw [p4]; omega) (by omega)
  rw [Int.toNat_natCast, p3] at h
  refine ⟨_, h, ?_, ?_, (Turn.refl _ w).alloc _⟩
  · have e := made_four n hn
    rw [e]
    intro k hk j v hv
    have hj := (List.getElem?_eq_some_iff.1 hv).1
    have ev : v = .slice none 0 0 := by
      match j, hv with
      | 0, hv => cases hv; rfl
      | 1, hv => cases hv; rfl
      | 2, hv => cases hv; rfl
      | 3, hv => cases hv; rfl
    have := range_new w (List.replicate (n * 4) (Value.slice none 0 0)) 68 (k * 4 + j) (.slice none 0 0) (by rw [List.getElem?_replicate, if_pos (by simp at hj; omega)])
    rw [Nat.zero_add] at this
    rw [ev]
    exact this
  · have : ∀ a : Array Value, Blk (w.alloc (.cells a 68)) w.heap.size 68 := fun a => by have := Blk.new w a.toList 68; simpa using this
    exact this _
/-- The rows that are made: those below k are, of n. -/
structure EvAt (ob n k : Nat) (Es : List OutV) (wX wr : World) : Prop where
  rows : ∀ k', k' < k → ∀ o, Es[k']? = some o → ∃ vh vl, wr.rangeAt ob (k' * 4) [vh, vl, .slice none 0 0, .slice none 0 0] ∧ wr.ownsRow wX.heap.size 73 3 vh o.hits.length (hcells o.hits) ∧ wr.ownsRow wX.heap.size 3 1 vl o.lost.length (icells o.lost)
  nils : ∀ k', k ≤ k' → k' < n → wr.rangeAt ob (k' * 4) [.slice none 0 0, .slice none 0 0, .slice none 0 0, .slice none 0 0]
  blk : Blk wr ob 68
  hob : wX.heap.size ≤ ob
  turn : Turn (fun _ => False) wX wr
/-- Row k while it is made. -/
structure RowK (ob k : Nat) (wk : World) (vh vl : Value) (Hs : List Ht) (Ls : List Int) (wr : World) : Prop where
  ch : wr.cell? ⟨ob, k * 4, none⟩ = some vh
  cl : wr.cell? ⟨ob, k * 4 + 1, none⟩ = some vl
  oh : wr.ownsRow wk.heap.size 73 3 vh Hs.length (hcells Hs)
  ol : wr.ownsRow wk.heap.size 3 1 vl Ls.length (icells Ls)
  oth : ∀ c, c ≠ k * 4 → c ≠ k * 4 + 1 → wr.cell? ⟨ob, c, none⟩ = wk.cell? ⟨ob, c, none⟩
  blk : Blk wr ob 68
  turn : Turn (fun q => q = ob) wk wr
theorem own_tyv {w : World} {base b : Nat} {e t : TypeId} {size n : Nat} {v : Value} {xs : List Value} (h : w.ownsRow base e size v n xs) (hb : Blk w b t) (ht : e ≠ t) : ¬ v.ownBlock = some b := fun q => own_ty h hb ht b q rfl
theorem own_ne {w : World} {b1 b2 : Nat} {e1 e2 : TypeId} {s1 s2 n1 n2 : Nat} {v1 v2 : Value} {x1 x2 : List Value} (h1 : w.ownsRow b1 e1 s1 v1 n1 x1) (h2 : w.ownsRow b2 e2 s2 v2 n2 x2) (hne : e1 ≠ e2) {k : Nat} (hk : v1.ownBlock = some k) : ¬ v2.ownBlock = some k := fun q => by
  rcases own_apart h1 h2 hne with e | e
  · rw [e] at hk; cases hk
  · exact e (hk.trans q.symm)
section
variable {ob n k : Nat} {Es : List OutV} {wX wk wr W : World} {vh vl : Value} {Hs : List Ht} {Ls : List Int}
theorem EvAt.turns (h : EvAt ob n k Es wX wr) (T : Turn (fun _ => False) wr W) : EvAt ob n k Es wX W :=
  ⟨fun k' hk o ho => by
    obtain ⟨a, b, h1, h2, h3⟩ := h.rows k' hk o ho
    exact ⟨a, b, range_turn h1 T id, own_turn h2 T (fun _ _ f => f), own_turn h3 T (fun _ _ f => f)⟩, fun k' h1 h2 => range_turn (h.nils k' h1 h2) T id, h.blk.turn T id, h.hob, h.turn.trans T⟩
theorem RowK.turns (h : RowK ob k wk vh vl Hs Ls wr) (T : Turn (fun _ => False) wr W) : RowK ob k wk vh vl Hs Ls W :=
  ⟨T.cell id h.ch, T.cell id h.cl, own_turn h.oh T (fun _ _ f => f), own_turn h.ol T (fun _ _ f => f), fun c h1 h2 => (World.cell?_of_block (a := ⟨ob, c, none⟩) (T.block ob h.blk.lt (fun f => f))).trans (h.oth c h1 h2), h.blk.turn T id, h.turn.comp T (fun _ _ f => f.elim)⟩
theorem EvAt.start (h : EvAt ob n k Es wX wk) (hk : k < n) : RowK ob k wk (.slice none 0 0) (.slice none 0 0) [] [] wk :=
  ⟨h.nils k (Nat.le_refl _) hk 0 _ rfl, h.nils k (Nat.le_refl _) hk 1 _ rfl, ⟨rfl, .inl ⟨rfl, rfl⟩⟩, ⟨rfl, .inl ⟨rfl, rfl⟩⟩, fun _ _ _ => rfl, h.blk, Turn.refl _ _⟩
theorem EvAt.step (h : EvAt ob n k Es wX wk) (hk : k < n) {o : OutV} (ho : Es[k]? = some o) (r : RowK ob k wk vh vl o.hits o.lost wr) : EvAt ob n (k + 1) Es wX wr := by
  have T : Turn (fun _ => False) wX wr := h.turn.comp r.turn (fun q hq e => by have := h.hob; omega)
  have szk := h.turn.size
  have keep : ∀ k' vs, k' ≠ k → vs.length = 4 → wk.rangeAt ob (k' * 4) vs → wr.rangeAt ob (k' * 4) vs := fun k' vs hne hl hr j v hv => by
    have hj := (List.getElem?_eq_some_iff.1 hv).1
    rw [r.oth _ (by omega) (by omega)]
    exact hr j v hv
  refine ⟨fun k' hk' o' ho' => ?_, fun k' h1 h2 => keep k' _ (by omega) rfl (h.nils k' (by omega) h2), r.blk, h.hob, T⟩
  by_cases e : k' = k
  · subst e
    rw [ho] at ho'
    cases ho'
    have n4 := h.nils k' (Nat.le_refl _) hk
    refine ⟨vh, vl, fun j v hv => ?_, own_base r.oh szk, own_base r.ol szk⟩
    match j, hv with
    | 0, hv => cases hv; exact r.ch
    | 1, hv => cases hv; exact r.cl
    | 2, hv => cases hv; rw [r.oth _ (by omega) (by omega)]; exact n4 2 _ rfl
    | 3, hv => cases hv; rw [r.oth _ (by omega) (by omega)]; exact n4 3 _ rfl
  · obtain ⟨a, b, h1, h2, h3⟩ := h.rows k' (by omega) o' ho'
    exact ⟨a, b, keep k' _ e rfl h1, own_turn h2 r.turn (fun q hq e2 => own_tyv h2 h.blk (by decide) (e2 ▸ hq)), own_turn h3 r.turn (fun q hq e2 => own_tyv h3 h.blk (by decide) (e2 ▸ hq))⟩
theorem EvAt.outs (h : EvAt ob Es.length Es.length Es wX wr) {N : Nat → Prop} (hN : ∀ q, N q → q < wX.heap.size) : OutsAt wr N (.slice (some ⟨ob, 0, none⟩) Es.length Es.length) Es :=
  ⟨_, ob, 0, _, rfl, .inr ⟨rfl, h.blk⟩, fun k o hk => by
    obtain ⟨vh, vl, h1, h2, h3⟩ := h.rows k (List.getElem?_eq_some_iff.1 hk).1 o hk
    rw [Nat.zero_add]
    exact ⟨vh, vl, none, 0, 0, none, 0, 0, h1, rowAt_own h2, ints_own h3 hN⟩⟩
theorem EvAt.world (h : EvAt ob n k Es wX wk) (T : Turn (fun q => q = ob) wk W) : Turn (fun _ => False) wX W := h.turn.comp T (fun q hq e => by have := h.hob; omega)
theorem RowK.addH {V : World} (h : RowK ob k wk vh vl Hs Ls V) (hn : Hs.length ≤ 100) (x : Ht) :
    ∃ v' W', (Builtin.append_ #[66, 66] 66 #[vh, .slice (some ⟨V.heap.size, 0, none⟩) 1 1]).run Try.prog (V.alloc (.cells #[.int .i64 x.id, .slice x.sa x.sn x.sc, .slice x.ra x.rn x.rc] 73)) = .ok v' W' ∧ W'.cell? ⟨ob, k * 4, none⟩ = some vh ∧ Blk W' ob 68 ∧ Turn (fun q => q = ob) wk W' ∧
      RowK ob k wk v' vl (Hs ++ [x]) Ls (W'.setCell ⟨ob, k * 4, none⟩ v') := by
  obtain ⟨i3, p1, p2, p3, p4⟩ := info_parts info73
  have TA : Turn (fun _ => False) V (V.alloc (.cells #[.int .i64 x.id, .slice x.sa x.sn x.sc, .slice x.ra x.rn x.rc] 73)) := (Turn.refl _ V).alloc _
  have RA : (V.alloc (.cells #[.int .i64 x.id, .slice x.sa x.sn x.sc, .slice x.ra x.rn x.rc] 73)).rangeAt V.heap.size 0 [.int .i64 x.id, .slice x.sa x.sn x.sc, .slice x.ra x.rn x.rc] := range_new V [.int .i64 x.id, .slice x.sa x.sn x.sc, .slice x.ra x.rn x.rc] 73
  have hA := h.turns TA
  generalize (V.alloc (.cells #[.int .i64 x.id, .slice x.sa x.sn x.sc, .slice x.ra x.rn x.rc] 73)) = V1 at *
  obtain ⟨v', W', hr, own', hg, _, hbl⟩ := run_append_own_at V1 wk.heap.size 66 66 73 i3 _ 3 56 Try.underlying66 p1 p2 p3 p4 rfl (by decide) _ _ _ hA.oh ⟨V.heap.size, 0, none⟩ 1 1 [.int .i64 x.id, .slice x.sa x.sn x.sc, .slice x.ra x.rn x.rc] rfl (fun j u hu => by
    rw [Go.WideShapes.add_plain]
    exact RA j u hu) (fun u hu => by
    simp only [List.mem_cons, List.not_mem_nil, or_false] at hu
    rcases hu with rfl | rfl | rfl <;> rfl) (by unfold maxLen; omega) (by omega) hA.turn.size
  have TG : Turn (fun q => vh.ownBlock = some q) V1 W' := (Turn.refl _ _).grown hg (fun q hq => .inl hq)
  have nob : ¬ vh.ownBlock = some ob := own_tyv hA.oh hA.blk (by decide)
  have lh : ∀ q, vh.ownBlock = some q → wk.heap.size ≤ q := fun q hq => (hA.oh.lt q hq).1
  have T1 : Turn (fun q => q = ob) wk W' := hA.turn.comp TG (fun q hq e => by have := lh q e; omega)
  have c1 := TG.cell nob hA.ch
  have c2 := TG.cell nob hA.cl
  have b1 := hA.blk.turn TG nob
  have T2 : Turn (fun q => q = ob) W' (W'.setCell ⟨ob, k * 4, none⟩ v') := Turn.put _ _ _ _
  have oL := own_turn hA.ol TG (fun q hq e => own_ne hA.ol hA.oh (by decide) hq e)
  have e3 : hcells Hs ++ [.int .i64 x.id, .slice x.sa x.sn x.sc, .slice x.ra x.rn x.rc] = hcells (Hs ++ [x]) := by rw [hcells_app]; rfl
  rw [e3] at own'
  refine ⟨v', W', hr, c1, b1, T1, World.cell?_setCell_same W' _ _ c1, by rw [cell_off _ _ _ _ _ (by omega)]; exact c2, ?_, own_turn oL T2 (fun q hq e => own_tyv oL b1 (by decide) (e ▸ hq)), fun c h1 h2 => ?_, b1.set _ _, T1.trans T2⟩
  · rw [List.length_append]
    exact own_turn own' T2 (fun q hq e => own_tyv own' b1 (by decide) (e ▸ hq))
  · rw [cell_off _ _ _ _ _ (fun e => h1 e.symm)]
    exact (World.cell?_of_block (a := ⟨ob, c, none⟩) (TG.block ob hA.blk.lt nob)).trans (hA.oth c h1 h2)
theorem RowK.addL {V : World} (h : RowK ob k wk vh vl Hs Ls V) (hn : Ls.length ≤ 100) (x : Int) :
    ∃ v' W', (Builtin.append_ #[46, 46] 46 #[vl, .slice (some ⟨V.heap.size, 0, none⟩) 1 1]).run Try.prog (V.alloc (.cells #[.int .i64 x] 3)) = .ok v' W' ∧ W'.cell? ⟨ob, k * 4 + 1, none⟩ = some vl ∧ Blk W' ob 68 ∧ Turn (fun q => q = ob) wk W' ∧
      RowK ob k wk vh v' Hs (Ls ++ [x]) (W'.setCell ⟨ob, k * 4 + 1, none⟩ v') := by
  obtain ⟨i3, p1, p2, p3, p4⟩ := info_parts info3c
  have TA : Turn (fun _ => False) V (V.alloc (.cells #[.int .i64 x] 3)) := (Turn.refl _ V).alloc _
  have RA : (V.alloc (.cells #[.int .i64 x] 3)).rangeAt V.heap.size 0 [.int .i64 x] := range_new V [.int .i64 x] 3
  have hA := h.turns TA
  generalize (V.alloc (.cells #[.int .i64 x] 3)) = V1 at *
  obtain ⟨v', W', hr, own', hg, _, hbl⟩ := run_append_own_at V1 wk.heap.size 46 46 3 i3 _ 1 8 Try.underlying46 p1 p2 p3 p4 rfl (by decide) _ _ _ hA.ol ⟨V.heap.size, 0, none⟩ 1 1 [.int .i64 x] rfl (fun j u hu => by
    rw [Go.WideShapes.add_plain]
    exact RA j u hu) (fun u hu => by
    simp only [List.mem_cons, List.not_mem_nil, or_false] at hu
    rcases hu with rfl; rfl) (by unfold maxLen; omega) (by omega) hA.turn.size
  have TG : Turn (fun q => vl.ownBlock = some q) V1 W' := (Turn.refl _ _).grown hg (fun q hq => .inl hq)
  have nob : ¬ vl.ownBlock = some ob := own_tyv hA.ol hA.blk (by decide)
  have lh : ∀ q, vl.ownBlock = some q → wk.heap.size ≤ q := fun q hq => (hA.ol.lt q hq).1
  have T1 : Turn (fun q => q = ob) wk W' := hA.turn.comp TG (fun q hq e => by have := lh q e; omega)
  have c1 := TG.cell nob hA.ch
  have c2 := TG.cell nob hA.cl
  have b1 := hA.blk.turn TG nob
  have T2 : Turn (fun q => q = ob) W' (W'.setCell ⟨ob, k * 4 + 1, none⟩ v') := Turn.put _ _ _ _
  have oH := own_turn hA.oh TG (fun q hq e => own_ne hA.oh hA.ol (by decide) hq e)
  have e3 : icells Ls ++ [.int .i64 x] = icells (Ls ++ [x]) := by unfold icells; rw [List.map_append]; rfl
  rw [e3] at own'
  refine ⟨v', W', hr, c2, b1, T1, by rw [cell_off _ _ _ _ _ (by omega)]; exact c1, World.cell?_setCell_same W' _ _ c2, own_turn oH T2 (fun q hq e => own_tyv oH b1 (by decide) (e ▸ hq)), ?_, fun c h1 h2 => ?_, b1.set _ _, T1.trans T2⟩
  · rw [List.length_append]
    exact own_turn own' T2 (fun q hq e => own_tyv own' b1 (by decide) (e ▸ hq))
  · rw [cell_off _ _ _ _ _ (fun e => h2 e.symm)]
    exact (World.cell?_of_block (a := ⟨ob, c, none⟩) (TG.block ob hA.blk.lt nob)).trans (hA.oth c h1 h2)
end
end Go.Proofs.Ytepmealhnnoahaa
