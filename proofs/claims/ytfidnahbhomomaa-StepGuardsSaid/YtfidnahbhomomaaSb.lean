/-
  Rows of numbers, cut anew.
-/
import Derived.Test.YtfidnahbhomomaaSa
import Derived.Laws.MakeOwn
namespace Go.Proofs.Ytfidnahbhomomaa
open Go.ChangeShapes Go.WideShapes Go.ChangeAt Go.RowKit
set_option linter.unusedVariables false
set_option linter.unusedSimpArgs false
theorem info22 : (Try.prog.info? 22).map (fun i => (i.zero, i.size, i.bytes)) = some (some (.slice none 0 0), 1, 24) := by kernel_rfl
theorem make22 {n : Nat} (h2 : n ≤ 4096) (w : World) : (Instr.makeSlice 38 (.int .i64 (n : Int)) (.int .i64 (n : Int))).run Try.prog w = .ok (.slice (some ⟨w.heap.size, 0, none⟩) n n) (w.alloc (.cells (madeCells #[.slice none 0 0] n) 22)) := by
  obtain ⟨i, hi, he⟩ := Option.map_eq_some_iff.mp info22
  simp only [Prod.mk.injEq] at he
  obtain ⟨hz, hs, hb⟩ := he
  have := run_make (P := Try.prog) w 38 22 i (.slice none 0 0) Try.underlying38 hi hz .i64 .i64 (n : Int) (n : Int) (by omega) (by omega) (by rw [hb]; omega) (by omega)
  rw [hs] at this
  simpa [Value.cells] using this
/-- Where row k begins. -/
def offI (L : List (List Int)) (k : Nat) : Nat := (flatI (L.take k)).length
theorem offI_step {L : List (List Int)} {k : Nat} {l : List Int} (h : L[k]? = some l) : offI L (k + 1) = offI L k + l.length := by
  unfold offI
  rw [flat_take h, List.length_append]
theorem offI_le {L : List (List Int)} (h : L.length ≤ 12 ∧ ∀ x ∈ L, x.length ≤ 50) (k : Nat) : offI L k ≤ 600 := flat_len h k
theorem flatI_at {L : List (List Int)} {k : Nat} {l : List Int} (h : L[k]? = some l) {j : Nat} {x : Int} (hx : l[j]? = some x) : (flatI L)[offI L k + j]? = some x := by
  have e : L = L.take (k + 1) ++ L.drop (k + 1) := (List.take_append_drop (k + 1) L).symm
  have e2 : flatI L = flatI (L.take (k + 1)) ++ flatI (L.drop (k + 1)) := by
    conv => lhs; rw [e]
    unfold flatI
    rw [List.flatten_append]
  rw [e2, flat_take h, List.append_assoc]
  unfold offI
  rw [List.getElem?_append_right (by omega), Nat.add_sub_cancel_left, List.getElem?_append_left (List.getElem?_eq_some_iff.1 hx).1]
  exact hx
def cutV (nb : Nat) (L : List (List Int)) (k : Nat) : Value := .slice (some ⟨nb, offI L k, none⟩) ((L[k]?).getD []).length ((L[k]?).getD []).length
def CutR (W : World) (g nb : Nat) (L : List (List Int)) (gh : Nat) (v5 v16 : Value) (wr : World) : Prop :=
  ∃ k : Nat, v16 = .int .i64 (k : Int) ∧ k ≤ L.length ∧ gh = L.length - k ∧ v5 = .int .i64 ((offI L k : Nat) : Int) ∧ Blk wr g 22 ∧ (∀ j, j < k → wr.cell? ⟨g, j, none⟩ = some (cutV nb L j)) ∧ (∀ j, k ≤ j → j < L.length → wr.cell? ⟨g, j, none⟩ = some (.slice none 0 0)) ∧ Turn (fun q => q = g) W wr
theorem offI_all (L : List (List Int)) (k : Nat) : offI L k ≤ (flatI L).length := by
  have e : flatI L = flatI (L.take k) ++ flatI (L.drop k) := by
    conv => lhs; rw [(List.take_append_drop k L).symm]
    unfold flatI
    rw [List.flatten_append]
  rw [e, List.length_append]
  unfold offI
  omega
theorem wrapC {k n : Nat} (h : k < n) (hn : n ≤ 12) : wrap64 ((k : Int) + 1) = (k : Int) + 1 := by unfold wrap64; omega
theorem wrapO {o m : Nat} (h : o ≤ 600) (hm : m ≤ 50) : wrap64 ((o : Int) + (m : Int)) = (o : Int) + (m : Int) := by unfold wrap64; omega
theorem own_cap {w : World} {base n cap size : Nat} {e : TypeId} {a : Option Addr} {xs : List Value} (h : w.ownsRow base e size (.slice a n cap) n xs) : n ≤ cap := by
  rcases h.2 with ⟨e, e2⟩ | ⟨g', cap', cu, e, hb, hgg, hnc, _⟩
  · simp at e; omega
  · simp at e
    obtain ⟨_, rfl⟩ := e
    exact hnc
theorem cut_ne {w W : World} {b i g : Nat} {u : Value} (T : Turn (fun _ => False) w W) (hg : w.heap.size ≤ g) (h : w.cell? ⟨b, i, none⟩ = some u) : ¬ b = g := fun e => by
  have := block_lt_of_cell h
  dsimp only at this
  omega
theorem cut_step {W wr : World} {g nb k : Nat} {L : List (List Int)} {l : List Int} (hb : Blk wr g 22) (hlo : ∀ j, j < k → wr.cell? ⟨g, j, none⟩ = some (cutV nb L j)) (hhi : ∀ j, k ≤ j → j < L.length → wr.cell? ⟨g, j, none⟩ = some (.slice none 0 0)) (hT : Turn (fun q => q = g) W wr) (hl : L[k]? = some l) (hk : k < L.length) :
    Turn (fun q => q = g) W (wr.setCell ⟨g, k, none⟩ (.slice (some ⟨nb, offI L k, none⟩) l.length l.length)) ∧ Blk (wr.setCell ⟨g, k, none⟩ (.slice (some ⟨nb, offI L k, none⟩) l.length l.length)) g 22 ∧
      (∀ j, j < k + 1 → (wr.setCell ⟨g, k, none⟩ (.slice (some ⟨nb, offI L k, none⟩) l.length l.length)).cell? ⟨g, j, none⟩ = some (cutV nb L j)) ∧ (∀ j, k + 1 ≤ j → j < L.length → (wr.setCell ⟨g, k, none⟩ (.slice (some ⟨nb, offI L k, none⟩) l.length l.length)).cell? ⟨g, j, none⟩ = some (.slice none 0 0)) := by
  refine ⟨hT.trans (Turn.put _ _ _ _), hb.set _ _, fun j hj => ?_, fun j hj hj2 => ?_⟩
  · by_cases e : j = k
    · subst e
      rw [World.cell?_setCell_same _ _ _ (hhi j (Nat.le_refl _) hk)]
      unfold cutV
      rw [hl]
      rfl
    · rw [cell_off _ _ _ _ _ (fun q => e q.symm)]
      exact hlo j (by omega)
  · rw [cell_off _ _ _ _ _ (by omega)]
    exact hhi j (by omega) hj2
theorem cut_end {w W wr : World} {g nb nc : Nat} {na : Option Addr} {L : List (List Int)} {base : Nat} (T : Turn (fun _ => False) w W) (HO : W.ownsRow base 3 1 (.slice na (flatI L).length nc) (flatI L).length (intsV (flatI L))) (hnb : 0 < (flatI L).length → na = some ⟨nb, 0, none⟩) (hg : w.heap.size ≤ g) (hlo : ∀ j, j < L.length → wr.cell? ⟨g, j, none⟩ = some (cutV nb L j)) (hT : Turn (fun q => q = g) W wr) (hb : Blk W g 22) (hbase : w.heap.size ≤ base) :
    (∀ W2, Turn (fun q => q < w.heap.size) wr W2 → RowsAt W2 (.slice (some ⟨g, 0, none⟩) L.length L.length) L) ∧ Turn (fun _ => False) w wr := by
  refine ⟨fun W2 T2 => ⟨_, g, 0, _, rfl, .inr rfl, fun k l hl => ?_⟩, T.comp hT (fun q hq e => by omega)⟩
  have hkl := (List.getElem?_eq_some_iff.1 hl).1
  refine ⟨_, by rw [Nat.zero_add]; exact T2.cell (Nat.not_lt.2 hg) (hlo k hkl), ?_⟩
  unfold cutV
  rw [hl]
  refine ⟨_, nb, offI L k, l.length, rfl, Nat.le_refl _, .inr rfl, fun j x hj => ?_⟩
  have hx := flatI_at hl hj
  have hz : 0 < (flatI L).length := by have := (List.getElem?_eq_some_iff.1 hx).1; omega
  have e := hnb hz
  subst e
  have hbn : Blk W nb 3 := by
    rcases HO.2 with ⟨e, _⟩ | ⟨g', cap', cu, e, _, hgg, _⟩
    · cases e
    · injection e with z1
      injection z1 with z1
      injection z1 with z1
      subst z1
      exact ⟨_, hgg⟩
  have ne : nb ≠ g := hbn.ne hb (by decide)
  have hc := HO.cellAt (offI L k + j) (by have := (List.getElem?_eq_some_iff.1 hx).1; omega)
  unfold intsV at hc
  rw [List.getElem?_map, hx] at hc
  have hnb2 : w.heap.size ≤ nb := Nat.le_trans hbase (HO.lt nb rfl).1
  exact T2.cell (Nat.not_lt.2 hnb2) (hT.cell ne hc)
set_option maxRecDepth 100000 in
set_option maxHeartbeats 4000000 in
theorem cut_is {w : World} {v : Value} {L : List (List Int)} (h : RowsAt w v L) (hL : L.length ≤ 12 ∧ ∀ x ∈ L, x.length ≤ 50) (h1 : ∀ x ∈ L, 1 ≤ x.length) :
    Calls Try.prog 37 #[v] w fun e w' => ∃ v', e = .returned v' ∧ (∀ W2, Turn (fun q => q < w.heap.size) w' W2 → RowsAt W2 v' L) ∧ Turn (fun _ => False) w w' := by
  have CO := Lib.hid (concat_is h hL)
  obtain ⟨a, b, off, cap, rfl, ha, hx⟩ := h
  have HX := Lib.hid hx
  clear hx
  have hl0 := hL.1
  go_enter Try.func37, Try.ntmps37
  go_wp2_with fail
  with_reducible refine CO.out.mono ?_
  rintro en w1 ⟨nv, rfl, ho, T1⟩
  clear CO
  have MK := make22 (n := L.length) (by omega) w1
  obtain ⟨W, hW⟩ : ∃ W, W = w1.alloc (.cells (madeCells #[.slice none 0 0] L.length) 22) := ⟨_, rfl⟩
  have TW : Turn (fun _ => False) w1 W := by rw [hW]; exact (Turn.refl _ w1).alloc _
  have BW : Blk W w1.heap.size 22 := by
    rw [hW]
    have := Blk.new w1 (madeCells #[.slice none 0 0] L.length).toList 22
    rw [Array.toArray_toList] at this
    exact this
  have RW : ∀ j, j < L.length → W.cell? ⟨w1.heap.size, j, none⟩ = some (.slice none 0 0) := fun j hj => by
    have h0 := range_new w1 (madeCells #[.slice none 0 0] L.length).toList 22
    rw [Array.toArray_toList, ← hW] at h0
    have := h0 j (.slice none 0 0) (by simp [madeCells, hj, Nat.mod_one])
    rw [Nat.zero_add] at this
    exact this
  rw [← hW] at MK
  have ho2 := own_turn ho TW (fun _ _ f => f)
  obtain ⟨na, nc, rfl, hna⟩ := own_slice ho
  have HT := Lib.hid (T1.trans TW)
  have HO := Lib.hid ho2
  have gw : w.heap.size ≤ w1.heap.size := T1.size
  clear hW TW T1 ho ho2
  generalize w1.heap.size = g at *
  have R0 : ∀ nb, CutR W g nb L L.length (.int .i64 0) (.int .i64 0) W := fun nb => ⟨0, rfl, Nat.zero_le _, rfl, rfl, BW, fun j hj => absurd hj (Nat.not_lt_zero j), fun j _ hj => RW j hj, Turn.refl _ _⟩
  obtain ⟨nb, hnb⟩ : ∃ nb, 0 < (flatI L).length → na = some ⟨nb, 0, none⟩ := by
    by_cases hz : 0 < (flatI L).length
    · obtain ⟨q, hq⟩ := hna hz
      exact ⟨q, fun _ => hq⟩
    · exact ⟨0, fun h => absurd h hz⟩
  have R0 := R0 nb
  have HBG := Lib.hid BW
  clear BW RW hna
  go_wp2_with fail
  clear MK
  go_loopg [5, 6, 7, 8, 16] L.length (fun gh v5 v6 v7 v8 v16 wr => CutR W g nb L gh v5 v16 wr)
  case atStart => exact R0
  case round =>
    clear R0
    obtain ⟨k, rfl, hk, hg, rfl, hb, hlo, hhi, hT⟩ := hrel
    have HC := Lib.hid (And.intro hb (And.intro hlo (And.intro hhi hT)))
    have hof := offI_le hL k
    by_cases hkl : k < L.length
    · obtain rfl := ha.resolve_left (fun e => by rw [e] at hkl; simp at hkl)
      obtain ⟨l, hl⟩ : ∃ l, L[k]? = some l := ⟨_, List.getElem?_eq_getElem hkl⟩
      obtain ⟨r, z, hra⟩ := HX.out k l hl
      have hl50 := hL.2 l (List.mem_of_getElem? hl)
      have hl1 := h1 l (List.mem_of_getElem? hl)
      have z2 := hT.cell (cut_ne HT.out gw z) (HT.out.cell id z)
      obtain ⟨p, b2, o2, c2, rfl, -, -, -⟩ := hra
      have hfl : offI L k + l.length ≤ (flatI L).length := by rw [← offI_step hl]; exact offI_all L (k + 1)
      have hna := hnb (by omega)
      subst hna
      have hnc := own_cap HO.out
      have t1 : decide ((k : Int) < (L.length : Int)) = true := decide_eq_true (Int.ofNat_lt.2 hkl)
      have t2 : decide (k < L.length) = true := decide_eq_true hkl
      have k0 : (0 : Int) ≤ (k : Int) := Int.natCast_nonneg k
      have k1 : (k : Int) < (L.length : Int) := Int.ofNat_lt.2 hkl
      have yg := hhi k (Nat.le_refl _) hkl
      have fg := hb.fz k
      have ek := wrapC hkl hL.1
      obtain ⟨T2, hB2, hlo2, hhi2⟩ := cut_step hb hlo hhi hT hl hkl (nb := nb)
      have FIN := Lib.hid (show CutR W g nb L (L.length - (k + 1)) (.int .i64 ((offI L k + l.length : Nat) : Int)) (.int .i64 ((k : Int) + 1)) (wr.setCell ⟨g, k, none⟩ (.slice (some ⟨nb, offI L k, none⟩) l.length l.length)) from ⟨k + 1, congrArg (Value.int .i64) (Int.natCast_succ k).symm, hkl, rfl, by rw [offI_step hl], hB2, hlo2, hhi2, T2⟩)
      have G := Lib.hid (And.intro hg hkl)
      clear hb hlo hhi hT HC hl T2 hB2 hlo2 hhi2 hk hg z
      generalize offI L k = o at *
      generalize l.length = m at *
      have eo := wrapO (o := o) (m := m) hof hl50
      have o0 : (0 : Int) ≤ (o : Int) := Int.natCast_nonneg o
      have o1 : (o : Int) ≤ (o : Int) + (m : Int) := by omega
      have o2 : (o : Int) + (m : Int) ≤ (nc : Int) := by omega
      have o3 : o + m - o = m := by omega
      have o4 : ¬ o + m = o := by omega
      go_wp2_with fail
      go_roundg (L.length - (k + 1))
      case measure => have := G.out.1; have := G.out.2; omega
      case rel => first | exact FIN.out | (rw [ek]; exact FIN.out)
    · obtain rfl : k = L.length := Nat.le_antisymm hk (Nat.not_lt.1 hkl)
      have t1 : decide ((L.length : Int) < (L.length : Int)) = false := decide_eq_false (Int.lt_irrefl _)
      have t2 : decide (L.length < L.length) = false := decide_eq_false (Nat.lt_irrefl _)
      have FIN := Lib.hid (show (∀ W2, Turn (fun q => q < w.heap.size) wr W2 → RowsAt W2 (.slice (some ⟨g, 0, none⟩) L.length L.length) L) ∧ Turn (fun _ => False) w wr from cut_end HT.out HO.out hnb gw hlo hT HBG.out (Nat.le_refl _))
      clear hb hlo hhi hT HC hk hkl hg
      go_wp2
      go_ret
      exact ⟨_, rfl, FIN.out⟩
end Go.Proofs.Ytfidnahbhomomaa
