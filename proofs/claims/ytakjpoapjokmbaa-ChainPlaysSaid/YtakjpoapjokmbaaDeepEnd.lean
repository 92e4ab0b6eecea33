/-
  What holds behind the pushes of ChainDeep.
-/
import Derived.Test.YtakjpoapjokmbaaDeepSt
namespace Go.Proofs.Ytakjpoapjokmbaa
open Go.ChangeShapes Go.WideShapes Go.ChangeAt Go.RowKit
set_option linter.unusedVariables false

structure ESt (w : World) (c mb n₀ d n : Nat) (v9 : Value) (l : List Nd) (wr : World) : Prop where
  len : l.length = n
  ch : ∃ nn G, nn ≤ 2 * n + d ∧ Chn wr c mb nn n (n : Int) G ∧ GL d l G
  sts : Sts wr n₀ v9 (setsL l)
  bel : Below w.heap.size w wr
section
variable {w wr w' : World} {c mb n₀ s n d cell : Nat} {v9 : Value} {l : List Nd}
theorem DSt.done (h : DSt w c mb n₀ 0 n cell v9 l wr) (hn : 0 < n) : ESt w c mb n₀ 0 n v9 l wr := by
  have e : padL (setsL l) cell = setsL l := by
    refine padL_of (((laid_sets l).len cell).2 ?_)
    obtain ⟨q, hq⟩ : ∃ q, l[n - 1]? = some q := ⟨_, List.getElem?_eq_getElem (by have := h.len; omega)⟩
    have := h.lst q hq
    exact ⟨q, List.mem_of_getElem? hq, by omega⟩
  exact ⟨h.len, h.ch, by rw [← e]; exact h.sts, h.bel⟩
def D1Post (w : World) (c mb n₀ d n : Nat) (v9 : Value) (l : List Nd) (e : Ending) (w' : World) : Prop :=
  ∃ ad cap, e = .returned (.tuple #[.slice ad 0 cap, .bool true]) ∧ ESt w c mb n₀ (d + 1) n v9 l w'
theorem ESt.drop (h : ESt w c mb n₀ d n v9 l wr) (hd : d + 1 < n) (hn : n ≤ 12) (h1 : c < n₀) (h2 : mb < n₀) (h3 : w.heap.size ≤ c) (h4 : w.heap.size ≤ mb) :
    Calls Try.prog 17 #[.pointer (some ⟨c, 0, none⟩), .int .i64 (d : Int)] wr (D1Post w c mb n₀ d n v9 l) := by
  obtain ⟨nn, G, a1, a2, a3⟩ := h.ch
  have hlen := h.len
  obtain ⟨q, hG, hok, hr, hg⟩ := a3.drop (by omega) (by omega) 0
  refine (drop_at (f := 1) a2 hG (by omega) (by omega) hok (by omega) (by omega)).mono ?_
  rintro e W ⟨v, n', rfl, r, hc, hn', bt⟩
  rw [hr] at r hc
  obtain ⟨ad, cap, rfl, _⟩ := rrow_slice r
  exact ⟨ad, cap, rfl, hlen, ⟨n', _, by omega, hc, hg⟩, h.sts.bt (Bt.of_but bt) h1 h2, h.bel.trans (bt.below h4 h.bel.size)⟩
def SPost (wr : World) (l : List Nd) (e : Ending) (w' : World) : Prop := ∃ v, e = .returned v ∧ Sts w' wr.heap.size v (setsL l) ∧ Below wr.heap.size wr w'
theorem ESt.below (h : ESt w c mb n₀ d n v9 l wr) (hb : Below wr.heap.size wr w') : ESt w c mb n₀ d n v9 l w' := by
  obtain ⟨nn, G, a1, a2, a3⟩ := h.ch
  exact ⟨h.len, ⟨nn, G, a1, a2.below hb, a3⟩, h.sts.below hb, h.bel.trans (hb.mono h.bel.size)⟩
theorem ESt.sets {k : Nat} (h : ESt w c mb n₀ d n v9 l wr) (hn : n = k + 1) (hd : k ≤ d) (hk : n ≤ 12) : Calls Try.prog 19 #[.pointer (some ⟨c, 0, none⟩), .int .i64 (k : Int)] wr (SPost wr l) := by
  obtain ⟨nn, G, a1, a2, a3⟩ := h.ch
  have hlen := h.len
  obtain ⟨b1, b2, b3⟩ := a3.path (hlen.trans hn) hd (by omega)
  refine (a2.sets (i := (k : Int)) (wf_small (by omega) (by omega)) b1 (by omega) (fun q hq => ?_)).mono ?_
  · rw [b2] at hq
    obtain ⟨j, hj⟩ := List.getElem?_of_mem (List.mem_reverse.1 hq)
    exact ⟨(a3.rw.at_ j q hj).2.2.2.2.1, (a3.rw.at_ j q hj).2.2.2.2.2⟩
  · rintro e W ⟨v, rfl, hs, hb⟩
    rw [b3] at hs
    exact ⟨v, rfl, hs, hb⟩
theorem ESt.few (h : ESt w c mb n₀ d n v9 l wr) : (setsL l).length ≤ 6 := by
  obtain ⟨nn, G, a1, a2, a3⟩ := h.ch
  refine setsL_len l (fun q hq => ?_)
  obtain ⟨j, hj⟩ := List.getElem?_of_mem hq
  exact (a3.rw.at_ j q hj).2.2.2.2.2
theorem setsL_rows' (l : List Nd) (hl : l.length ≤ 100) : ∀ (j : Nat) (r : List Int), (setsL l)[j]? = some r → r.length ≤ 100000 := fun j r h => by have := setsL_rows l j r h; omega
def LPost (w wr : World) (c mb n : Nat) (e : Ending) (w' : World) : Prop :=
  ∃ g cap, e = .returned (.tuple #[.slice (some ⟨g, 0, none⟩) n cap, .bool true]) ∧ (∀ i, i < n → w'.cell? ⟨g, i * 2, none⟩ = some (.int .i64 ((n : Int) - 1 - i))) ∧ (∃ nn G, Chn w' c mb nn 0 (n : Int) G) ∧ Below w.heap.size w w'
theorem ESt.last {k : Nat} (h : ESt w c mb n₀ d n v9 l wr) (hn : n = k + 1) (hd : k ≤ d) (hk : n ≤ 12) (hd2 : d ≤ 12) (h4 : w.heap.size ≤ mb) :
    Calls Try.prog 17 #[.pointer (some ⟨c, 0, none⟩), .int .i64 (k : Int)] wr (LPost w wr c mb n) := by
  obtain ⟨nn, G, a1, a2, a3⟩ := h.ch
  have hlen := h.len
  obtain ⟨b1, b2⟩ := a3.last (hlen.trans hn) hd (by omega)
  refine (drop_at (f := k + 1) a2 (a3.all (hlen.trans hn) hd k (Nat.le_refl _)) (by omega) (by omega) b1 (by omega) (by omega)).mono ?_
  rintro e W ⟨v, n', rfl, r, hc, hn', bt⟩
  rw [b2] at r hc
  simp only [List.length_map, List.length_reverse, List.length_range] at r hc
  obtain ⟨ad, cap, rfl, had⟩ := rrow_slice r
  obtain ⟨g, rfl⟩ := had (by omega)
  subst hn
  refine ⟨g, cap, rfl, fun i hi => ?_, ⟨n', _, by rw [Nat.sub_self] at hc; exact hc⟩, h.bel.trans (bt.below h4 h.bel.size)⟩
  refine (r.cellAt (i * 2) (by omega)).trans ((rcells_at _ i ((((k - i : Nat)) : Int), 0) ?_).1.trans ?_)
  · rw [List.getElem?_map, List.getElem?_reverse (by simp; omega)]
    simp
    rw [List.getElem?_range (by omega)]
    simp
  · congr 2
    omega
end
end Go.Proofs.Ytakjpoapjokmbaa
