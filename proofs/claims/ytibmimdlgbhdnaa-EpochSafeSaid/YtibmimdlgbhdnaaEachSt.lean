/-
  What holds between two acts of EpochEach, and what each call leaves of it.
-/
import Derived.Test.YtibmimdlgbhdnaaEach
import Derived.Test.YtibmimdlgbhdnaaRipeWalk
namespace Go.Proofs.Ytibmimdlgbhdnaa
open Go.ChangeShapes Go.WideShapes Go.ChangeAt Go.RowKit
set_option linter.unusedVariables false

def recOf (A : Nat → Int) (k : Nat) : Int × Int × Int := ((k : Int), 0, A k)

structure ELink (n i : Nat) (now : Int) (Q : Nat → List (Int × Int × Int)) (O : Nat → List Nat) (A : Nat → Int) (N : Nat → Nat) : Prop where
  q : ∀ a, a < n → Q a = ((O a).drop (N a)).map (recOf A)
  le : ∀ a, a < n → N a ≤ (O a).length
  low : ∀ a, a < n → ∀ k ∈ O a, k < i
  len : ∀ a, a < n → (O a).length ≤ i
  srt : ∀ a, a < n → Srt now (Q a)

section
variable {n i : Nat} {now : Int} {Q : Nat → List (Int × Int × Int)} {O : Nat → List Nat} {A : Nat → Int} {N : Nat → Nat}
theorem ELink.more (h : ELink n i now Q O A N) {i' : Nat} {now' : Int} (hi : i ≤ i') (hn : now ≤ now') : ELink n i' now' Q O A N :=
  ⟨h.q, h.le, fun a ha k hk => Nat.lt_of_lt_of_le (h.low a ha k hk) hi, fun a ha => Nat.le_trans (h.len a ha) hi, fun a ha => (h.srt a ha).more hn⟩
theorem recs_upd (l : List Nat) (v : Int) (h : ∀ k ∈ l, k < i) : l.map (recOf (upd A i v)) = l.map (recOf A) := by
  refine List.map_congr_left (fun k hk => ?_)
  unfold recOf
  rw [upd_off _ _ (by have := h k hk; omega)]
theorem ELink.retired (h : ELink n i now Q O A N) {a : Nat} (ha : a < n) : ELink n (i + 1) now (upd Q a (Q a ++ [((i : Int), 0, now)])) (upd O a (O a ++ [i])) (upd A i now) N := by
  refine ⟨fun b hb => ?_, fun b hb => ?_, fun b hb k hk => ?_, fun b hb => ?_, fun b hb => ?_⟩
  · by_cases e : b = a
    · subst e
      rw [upd_at, upd_at, List.drop_append_of_le_length (h.le b hb), List.map_append, recs_upd _ _ (fun k hk => h.low b hb k (List.mem_of_mem_drop hk)), ← h.q b hb]
      simp [recOf, upd_at]
    · rw [upd_off _ _ e, upd_off _ _ e, recs_upd _ _ (fun k hk => h.low b hb k (List.mem_of_mem_drop hk))]
      exact h.q b hb
  · by_cases e : b = a
    · subst e
      rw [upd_at, List.length_append]
      have := h.le b hb
      omega
    · rw [upd_off _ _ e]
      exact h.le b hb
  · by_cases e : b = a
    · subst e
      rw [upd_at] at hk
      rcases List.mem_append.1 hk with hk | hk
      · have := h.low b hb k hk
        omega
      · simp at hk
        omega
    · rw [upd_off _ _ e] at hk
      have := h.low b hb k hk
      omega
  · by_cases e : b = a
    · subst e
      rw [upd_at, List.length_append]
      have := h.len b hb
      simp
      omega
    · rw [upd_off _ _ e]
      have := h.len b hb
      omega
  · by_cases e : b = a
    · subst e
      rw [upd_at]
      exact (h.srt b hb).snoc _ _
    · rw [upd_off _ _ e]
      exact h.srt b hb
theorem ELink.ripened (h : ELink n i now Q O A N) {a m : Nat} (ha : a < n) (hm : m ≤ (Q a).length) (hk : kept now (Q a) = (Q a).drop m) : ELink n i now (upd Q a (kept now (Q a))) O A (upd N a (N a + m)) := by
  have hl : (Q a).length = (O a).length - N a := by rw [h.q a ha, List.length_map, List.length_drop]
  have hle := h.le a ha
  refine ⟨fun b hb => ?_, fun b hb => ?_, h.low, h.len, fun b hb => ?_⟩
  · by_cases e : b = a
    · subst e
      rw [upd_at, upd_at, hk, h.q b hb, List.map_drop, List.map_drop, List.drop_drop]
    · rw [upd_off _ _ e, upd_off _ _ e]
      exact h.q b hb
  · by_cases e : b = a
    · subst e
      rw [upd_at]
      omega
    · rw [upd_off _ _ e]
      exact h.le b hb
  · by_cases e : b = a
    · subst e
      rw [upd_at]
      exact ⟨(h.srt b hb).1.sublist List.filter_sublist, fun q hq => (h.srt b hb).2 q (kept_mem hq)⟩
    · rw [upd_off _ _ e]
      exact h.srt b hb
theorem ELink.limbo (h : ELink n i now Q O A N) {a : Nat} (ha : a < n) : (Q a).length + N a = (O a).length := by
  have hl : (Q a).length = (O a).length - N a := by rw [h.q a ha, List.length_map, List.length_drop]
  have := h.le a ha
  omega
/-- The j-th of the limbo is the j-th that is next. -/
theorem ELink.at (h : ELink n i now Q O A N) {a j : Nat} (ha : a < n) (hj : j < (Q a).length) : ∃ k, (O a)[N a + j]? = some k ∧ k < i ∧ (Q a)[j]? = some (recOf A k) := by
  have hl := h.limbo ha
  refine ⟨(O a)[N a + j]'(by omega), List.getElem?_eq_getElem (by omega), h.low a ha _ (List.getElem_mem _), ?_⟩
  rw [h.q a ha, List.getElem?_map, List.getElem?_drop, List.getElem?_eq_getElem (by omega)]
  rfl
end

structure ESt (w wr : World) (x lb n base ob tb nb : Nat) (now : Int) (P : Nat → Int) (V : Nat → Value) (Q : Nat → List (Int × Int × Int)) (Vo : Nat → Value) (O : Nat → List Nat) (A : Nat → Int) (N : Nat → Nat) (i : Nat) : Prop where
  epo : Epo wr x lb n base now P V Q
  arr : Arr wr ob tb nb base Vo O A N
  tr : Turn (From w.heap.size) w wr
  link : ELink n i now Q O A N
structure ELaid (w : World) (x lb n base ob tb nb : Nat) : Prop where
  off : EOff x lb ob tb nb base
  hx : w.heap.size ≤ x
  hl : w.heap.size ≤ lb
  ho : w.heap.size ≤ ob
  ht : w.heap.size ≤ tb
  hn : w.heap.size ≤ nb
  n1 : 1 ≤ n
  n5 : n ≤ 5

section
variable {w wr w' : World} {x lb n base ob tb nb i : Nat} {now : Int} {P : Nat → Int} {V Vo : Nat → Value} {Q : Nat → List (Int × Int × Int)} {O : Nat → List Nat} {A : Nat → Int} {N : Nat → Nat}
theorem ELaid.epoS (L : ELaid w x lb n base ob tb nb) (h : Epo wr x lb n base now P V Q) (ht : Turn (EpoOwn x lb n V) wr w') (tr : Turn (From w.heap.size) w wr) : Turn (From w.heap.size) w w' := by
  have l1 := L.hx
  have l2 := L.hl
  have l3 := L.off.bx
  refine tr.trans (ht.more (fun k _ hk => ?_))
  unfold From
  rcases hk with rfl | rfl | ⟨a, ha, e⟩
  · exact l1
  · exact l2
  · have := h.rowx ha e
    omega
theorem ELaid.arrS (L : ELaid w x lb n base ob tb nb) (h : Arr wr ob tb nb base Vo O A N) (ht : Turn (AOwn ob tb nb Vo) wr w') (tr : Turn (From w.heap.size) w wr) : Turn (From w.heap.size) w w' := by
  have l1 := L.ho
  have l2 := L.ht
  have l3 := L.hn
  have l4 := h.lo
  refine tr.trans (ht.more (fun k _ hk => ?_))
  unfold From
  rcases hk with rfl | rfl | rfl | ⟨a, ha, e⟩
  · exact l1
  · exact l2
  · exact l3
  · have := ((h.rows a ha).lt k e).1
    omega
theorem ESt.alloc (h : ESt w wr x lb n base ob tb nb now P V Q Vo O A N i) (o : Obj) : ESt w (wr.alloc o) x lb n base ob tb nb now P V Q Vo O A N i :=
  ⟨h.epo.alloc o, h.arr.same ((Turn.refl _ wr).alloc o), h.tr.alloc o, h.link⟩
theorem ESt.same (h : ESt w wr x lb n base ob tb nb now P V Q Vo O A N i) (ht : Turn (fun _ => False) wr w') : ESt w w' x lb n base ob tb nb now P V Q Vo O A N i :=
  ⟨h.epo.same ht, h.arr.same ht, h.tr.trans ht.none, h.link⟩
theorem ESt.step (L : ELaid w x lb n base ob tb nb) (h : ESt w wr x lb n base ob tb nb now P V Q Vo O A N i) {now' : Int} {P' : Nat → Int} (h1 : Epo w' x lb n base now' P' V Q) (ht : Turn (EpoOwn x lb n V) wr w') (hn : now ≤ now') : ESt w w' x lb n base ob tb nb now' P' V Q Vo O A N (i + 1) :=
  ⟨h1, h.arr.keepE h.epo L.off ht, L.epoS h.epo ht h.tr, h.link.more (Nat.le_succ i) hn⟩
theorem ESt.pin (L : ELaid w x lb n base ob tb nb) (h : ESt w wr x lb n base ob tb nb now P V Q Vo O A N i) {a : Nat} (ha : a < n) :
    Calls Try.prog 33 #[.pointer (some ⟨x, 0, none⟩), .int .i64 (a : Int)] wr fun e w' => ∃ b P', e = .returned (.bool b) ∧ ESt w w' x lb n base ob tb nb now P' V Q Vo O A N (i + 1) := by
  by_cases hp : P a = -1
  · exact (h.epo.pin_yes ha hp).mono fun e w' ⟨he, h1, t1⟩ => ⟨true, _, he, h.step L h1 t1 (Int.le_refl _)⟩
  · exact (h.epo.pin_no ha hp).mono fun e w' ⟨he, hw⟩ => ⟨false, P, he, by rw [← hw]; exact h.step L h.epo (Turn.refl _ _) (Int.le_refl _)⟩
theorem ESt.unpin (L : ELaid w x lb n base ob tb nb) (h : ESt w wr x lb n base ob tb nb now P V Q Vo O A N i) {a : Nat} (ha : a < n) :
    Calls Try.prog 35 #[.pointer (some ⟨x, 0, none⟩), .int .i64 (a : Int)] wr fun e w' => ∃ b P', e = .returned (.bool b) ∧ ESt w w' x lb n base ob tb nb now P' V Q Vo O A N (i + 1) := by
  by_cases hp : P a = -1
  · exact (unpin_not wr _ _ (h.epo.pinned_no ha hp)).mono fun e w' ⟨he, hw⟩ => ⟨false, P, he, by rw [← hw]; exact h.step L h.epo (Turn.refl _ _) (Int.le_refl _)⟩
  · exact (h.epo.unpin_yes ha hp).mono fun e w' ⟨he, h1, t1⟩ => ⟨true, _, he, h.step L h1 t1 (Int.le_refl _)⟩
theorem ESt.adv (L : ELaid w x lb n base ob tb nb) (h : ESt w wr x lb n base ob tb nb now P V Q Vo O A N i) (hm : now < 1000000) :
    Calls Try.prog 42 #[.pointer (some ⟨x, 0, none⟩)] wr fun e w' => ∃ b now', e = .returned (.bool b) ∧ now' ≤ now + 1 ∧ ESt w w' x lb n base ob tb nb now' P V Q Vo O A N (i + 1) := by
  by_cases hall : ∀ j, j < n → P j = -1 ∨ P j = now
  · exact (h.epo.advance_yes L.n1 hm hall).mono fun e w' ⟨he, h1, t1⟩ => ⟨true, _, he, Int.le_refl _, h.step L h1 t1 (by omega)⟩
  · obtain ⟨j, hj, h1, h2⟩ : ∃ j, j < n ∧ P j ≠ -1 ∧ P j ≠ now := Classical.byContradiction fun hc => hall fun j hj => Classical.byContradiction fun hd => hc ⟨j, hj, fun e => hd (.inl e), fun e => hd (.inr e)⟩
    exact (h.epo.advance_no j hj h1 h2).mono fun e w' ⟨he, hw⟩ => ⟨false, now, he, by omega, by rw [← hw]; exact h.step L h.epo (Turn.refl _ _) (Int.le_refl _)⟩
/-- A ref retired; the arrays are not yet told. -/
theorem ESt.retire (L : ELaid w x lb n base ob tb nb) (h : ESt w wr x lb n base ob tb nb now P V Q Vo O A N i) {a : Nat} (ha : a < n) (hi : i ≤ 1000) :
    Calls Try.prog 37 #[.pointer (some ⟨x, 0, none⟩), .int .i64 (a : Int), .agg #[.int .i64 (i : Int), .int .i64 0]] wr fun e w' => e = .returned (.bool true) ∧ ∃ V', Epo w' x lb n base now P V' (upd Q a (Q a ++ [((i : Int), 0, now)])) ∧ Arr w' ob tb nb base Vo O A N ∧ Turn (From w.heap.size) w w' :=
  (h.epo.retire ha (i : Int) 0 (by have := h.link.limbo ha; have := h.link.len a ha; omega)).mono fun e w' ⟨he, v', h1, t1⟩ => ⟨he, _, h1, h.arr.keepE h.epo L.off t1, L.epoS h.epo t1 h.tr⟩
/-- The order is told. -/
theorem ordered (L : ELaid w x lb n base ob tb nb) (h1 : Epo wr x lb n base now P V Q) (g1 : Arr wr ob tb nb base Vo O A N) (tr : Turn (From w.heap.size) w wr) {a : Nat} (ha : a < 5) {w5 : World} {o : Obj} {g cap : Nat} (hgrow : (wr.alloc o).grownBy w5 (Vo a).ownBlock)
    (hown : w5.ownsRow base 3 1 (.slice (some ⟨g, 0, none⟩) ((O a).length + 1) cap) ((O a).length + 1) (ids (O a) ++ [.int .i64 (i : Int)])) (hat : (Vo a).ownBlock = some g ∨ g = wr.heap.size + 1) :
    ∃ Vo', Epo (w5.setCell ⟨ob, a, none⟩ (.slice (some ⟨g, 0, none⟩) ((O a).length + 1) cap)) x lb n base now P V Q ∧ Arr (w5.setCell ⟨ob, a, none⟩ (.slice (some ⟨g, 0, none⟩) ((O a).length + 1) cap)) ob tb nb base Vo' (upd O a (O a ++ [i])) A N ∧ Turn (From w.heap.size) w (w5.setCell ⟨ob, a, none⟩ (.slice (some ⟨g, 0, none⟩) ((O a).length + 1) cap)) := by
  have t1 : Turn (fun _ => False) wr (wr.alloc o) := (Turn.refl _ wr).alloc o
  have g5 := g1.same t1
  have h5 := h1.same t1
  have Z := g5.put ha (v' := .slice (some ⟨g, 0, none⟩) ((O a).length + 1) cap) (q' := O a ++ [i]) ((Turn.refl _ _).grown hgrow (fun k hk => .inl hk))
    (by rw [List.length_append]; simpa [ids] using hown) (fun b hb hba => .inr (fun e => by
      rcases hat with q | q
      · rcases g1.apart a b ha hb (Ne.symm hba) with q2 | q2
        · rw [q] at q2
          cases q2
        · exact q2 (by rw [q]; exact e)
      · have := ((g1.rows b hb).lt g e.symm).2
        omega))
  exact ⟨_, h5.keepA g5 L.off Z.2, Z.1, L.arrS g5 Z.2 (tr.trans t1.none)⟩
/-- The epoch is told. -/
theorem dated {a : Nat} (L : ELaid w x lb n base ob tb nb) (h1 : Epo wr x lb n base now P V (upd Q a (Q a ++ [((i : Int), 0, now)]))) (g1 : Arr wr ob tb nb base Vo (upd O a (O a ++ [i])) A N) (tr : Turn (From w.heap.size) w wr) (hl : ELink n i now Q O A N) (ha : a < n) (hi : i < 60) :
    ESt w (wr.setCell ⟨tb, i, none⟩ (.int .i64 now)) x lb n base ob tb nb now P V (upd Q a (Q a ++ [((i : Int), 0, now)])) Vo (upd O a (O a ++ [i])) (upd A i now) N (i + 1) := by
  obtain ⟨g2, t2⟩ := g1.setAt hi now
  exact ⟨h1.keepA g1 L.off t2, g2, L.arrS g1 t2 tr, hl.retired ha⟩
end
end Go.Proofs.Ytibmimdlgbhdnaa
