/-
  Rows of rows of numbers that nobody writes to: copied.
-/
import Derived.Test.YtepmealhnnoahaaQc
namespace Go.Proofs.Ytepmealhnnoahaa
open Go.ChangeShapes Go.WideShapes Go.ChangeAt Go.RowKit
set_option linter.unusedVariables false
def icells (l : List Int) : List Value := l.map (fun x => .int .i64 x)
theorem icells_one (l : List Int) : ∀ u ∈ icells l, u.oneCell' = true := fun u hu => by
  obtain ⟨x, _, rfl⟩ := List.mem_map.1 hu
  rfl
/-- Rows of numbers, none of which is empty; N: the blocks that they don't lie in. -/
def SetsIn (w : World) (N : Nat → Prop) (vs : List Value) (L : List (List Int)) : Prop :=
  vs.length = L.length ∧ ∀ (j : Nat) (l : List Int) (u : Value), L[j]? = some l → vs[j]? = some u → RowV w 3 1 l.length u (icells l) ∧ (∀ k, u.ownBlock = some k → ¬ N k) ∧ 1 ≤ l.length ∧ l.length ≤ 1000
def SetsAt (w : World) (N : Nat → Prop) (v : Value) (L : List (List Int)) : Prop :=
  ∃ b cap vs, v = .slice (some ⟨b, 0, none⟩) L.length cap ∧ ¬ N b ∧ Blk w b 46 ∧ w.rangeAt b 0 vs ∧ SetsIn w N vs L
theorem SetsIn.turn {S N : Nat → Prop} {w w' : World} {vs : List Value} {L : List (List Int)} (h : SetsIn w N vs L) (T : Turn S w w') (hs : ∀ k, k < w.heap.size → S k → N k) : SetsIn w' N vs L :=
  ⟨h.1, fun j l u hl hu => by
    obtain ⟨h1, h2, h3⟩ := h.2 j l u hl hu
    refine ⟨h1.turn T (fun k hk hS => ?_), h2, h3⟩
    obtain ⟨b, cap, e, hb, _⟩ := h1
    have : b = k := by rw [e] at hk; simpa [Value.ownBlock] using hk
    exact h2 k hk (hs k (by rw [← this]; exact hb.lt) hS)⟩
theorem SetsAt.turn {S N : Nat → Prop} {w w' : World} {v : Value} {L : List (List Int)} (h : SetsAt w N v L) (T : Turn S w w') (hs : ∀ k, k < w.heap.size → S k → N k) : SetsAt w' N v L := by
  obtain ⟨b, cap, vs, e, hn, hb, hr, hi⟩ := h
  have hS : ¬ S b := fun q => hn (hs b hb.lt q)
  exact ⟨b, cap, vs, e, hn, hb.turn T hS, range_turn hr T hS, hi.turn T hs⟩
theorem info46 : (Try.prog.info? 46).map (fun i => (i.zero, i.size, i.bytes)) = some (some (.slice none 0 0), 1, 24) := by kernel_rfl
theorem make46 {n : Nat} (h2 : n ≤ 4096) (w : World) : (Instr.makeSlice 69 (.int .i64 (n : Int)) (.int .i64 (n : Int))).run Try.prog w = .ok (.slice (some ⟨w.heap.size, 0, none⟩) n n) (w.alloc (.cells (madeCells #[.slice none 0 0] n) 46)) := by
  obtain ⟨i, hi, he⟩ := Option.map_eq_some_iff.mp info46
  simp only [Prod.mk.injEq] at he
  obtain ⟨hz, hs, hb⟩ := he
  have := run_make (P := Try.prog) w 69 46 i (.slice none 0 0) Try.underlying69 hi hz .i64 .i64 (n : Int) (n : Int) (by omega) (by omega) (by rw [hb]; omega) (by omega)
  rw [hs] at this
  simpa [Value.cells] using this
/-- What is copied of the first k. -/
def ERel (w : World) (N : Nat → Prop) (L : List (List Int)) (b5 : Nat) (gh : Nat) (v15 : Value) (wr : World) : Prop :=
  ∃ (k : Nat) (us : List Value), v15 = .int .i64 (k : Int) ∧ k ≤ L.length ∧ gh = L.length - k ∧ us.length = k ∧ Blk wr b5 46 ∧ wr.rangeAt b5 0 us ∧ (∀ j : Nat, k ≤ j → j < L.length → wr.cell? ⟨b5, j, none⟩ = some (.slice none 0 0)) ∧
    (∀ (j : Nat) (l : List Int) (u : Value), L[j]? = some l → us[j]? = some u → RowV wr 3 1 l.length u (icells l) ∧ (∀ q, u.ownBlock = some q → w.heap.size ≤ q)) ∧ Turn (fun _ => False) w wr ∧ b5 < wr.heap.size
set_option maxRecDepth 100000 in
set_option maxHeartbeats 4000000 in
theorem each_sets {w : World} {N : Nat → Prop} {v : Value} {L : List (List Int)} (h : SetsAt w N v L) (hL : 1 ≤ L.length ∧ L.length ≤ 1000) :
    Calls Try.prog 52 #[v, .func (.func 53) #[] #[]] w fun e w' => ∃ b5 us, e = .returned (.slice (some ⟨b5, 0, none⟩) L.length L.length) ∧ w.heap.size ≤ b5 ∧ Blk w' b5 46 ∧ w'.rangeAt b5 0 us ∧ us.length = L.length ∧
      (∀ (j : Nat) (l : List Int) (u : Value), L[j]? = some l → us[j]? = some u → RowV w' 3 1 l.length u (icells l) ∧ (∀ q, u.ownBlock = some q → w.heap.size ≤ q)) ∧ Turn (fun _ => False) w w' := by
  obtain ⟨b, cap, vs, rfl, hnb, hb, hr, hi⟩ := h
  have HE := fun w => Lib.run_eql_slice_nil (P := Try.prog) w 69 46 (some ⟨b, 0, none⟩) L.length cap 0 0 Try.underlying69
  have MK := make46 (n := L.length) (by omega)
  obtain ⟨W, hW⟩ : ∃ W, W = w.alloc (.cells (madeCells #[.slice none 0 0] L.length) 46) := ⟨_, rfl⟩
  have TW : Turn (fun _ => False) w W := by rw [hW]; exact (Turn.refl _ w).alloc _
  have BW : Blk W w.heap.size 46 := by
    rw [hW]
    have := Blk.new w (madeCells #[.slice none 0 0] L.length).toList 46
    rw [Array.toArray_toList] at this
    exact this
  have RW : ∀ j, j < L.length → W.cell? ⟨w.heap.size, j, none⟩ = some (.slice none 0 0) := fun j hj => by
    have h0 := range_new w (madeCells #[.slice none 0 0] L.length).toList 46
    rw [Array.toArray_toList, ← hW] at h0
    have := h0 j (.slice none 0 0) (by simp [madeCells, hj, Nat.mod_one])
    rw [Nat.zero_add] at this
    exact this
  have R0 : ERel w N L w.heap.size L.length (.int .i64 0) W := ⟨0, [], rfl, Nat.zero_le _, rfl, rfl, BW, fun j u hu => by simp at hu, fun j _ hj => RW j hj, fun j l u _ hu => by simp at hu, TW, BW.lt⟩
  have K := Lib.hid (And.intro hb (And.intro hr (And.intro hi hL)))
  clear TW BW RW hb hr hi hnb
  go_enter Try.func52, Try.ntmps52
  go_upto_region 4 with fail
  rw [← hW]
  clear hW MK
  generalize hb5 : w.heap.size = b5 at R0
  have HB := Lib.hid hb5
  clear hb5
  go_wp2_with fail
  go_loopg [15] L.length (fun gh v15 wr => ERel w N L b5 gh v15 wr)
  case atStart => exact R0
  case round =>
    clear R0
    obtain ⟨k, us, rfl, hk, hg, hul, hB5, hR5, hZ, hU, hT, hlt⟩ := hrel
    by_cases hkn : k < L.length
    · have u1 : decide ((k : Int) < (L.length : Int)) = true := decide_eq_true (by omega)
      have u2 : decide (k < L.length) = true := decide_eq_true hkn
      obtain ⟨l, hl⟩ : ∃ l, L[k]? = some l := ⟨_, List.getElem?_eq_getElem hkn⟩
      obtain ⟨x, hx⟩ : ∃ x, vs[k]? = some x := ⟨_, List.getElem?_eq_getElem (by rw [K.out.2.2.1.1]; exact hkn)⟩
      obtain ⟨hrow, hnk, hl1, hl2⟩ := K.out.2.2.1.2 k l x hl hx
      have y0 : wr.cell? ⟨b, k, none⟩ = some x := by
        have := hT.cell (fun f => f) (K.out.2.1 k x hx)
        rw [Nat.zero_add] at this
        exact this
      have hrw := hrow.turn hT (fun _ _ f => f)
      obtain ⟨xb, xc, hxe, _⟩ := hrow
      subst hxe
      have CL := Lib.hid (clone_ints hrw (icells_one l) ⟨hl1, by omega⟩)
      have z0 := hZ k (Nat.le_refl _) hkn
      have fz := hB5.fz k
      have G := Lib.hid (And.intro hk (And.intro hg (And.intro hul (And.intro hB5 (And.intro hR5 (And.intro hZ (And.intro hU (And.intro hT (And.intro hlt (And.intro hkn (And.intro hl K.out.2.2.2)))))))))))
      have j0 : (0 : Int) ≤ (k : Int) := by omega
      have j1 : (k : Int) < (L.length : Int) := by omega
      clear hk hg hul hB5 hR5 hZ hU hT hlt hkn hrw hl hx hnk hl1 hl2
      go_wp2_with fail
      with_reducible refine CL.out.mono ?_
      rintro en W3 ⟨v', rfl, hv', hfr, T3⟩
      have hv0 := hv'
      obtain ⟨vb, vc, hve, _⟩ := hv0
      subst hve
      have z1 := T3.cell (fun f => f) z0
      have fz1 : W3.frozen? ⟨b5, k, none⟩ = false := (G.out.2.2.2.1.turn T3 (fun f => f)).fz k
      have FV := Lib.hid (And.intro hv' (And.intro hfr T3))
      clear hv' hfr T3 z0 fz CL
      go_wp2_with fail
      go_roundg (L.length - (k + 1))
      case measure => have := G.out.2.1; have := G.out.2.2.2.2.2.2.2.2.2.1; omega
      case rel =>
        obtain ⟨hk, hg, hul, hB5, hR5, hZ, hU, hT, hlt, hkn, hl, hL2⟩ := G.out
        obtain ⟨hv', hfr, T3⟩ := FV.out
        have T4 : Turn (fun q => q = b5) W3 (W3.setCell ⟨b5, k, none⟩ (.slice (some ⟨vb, 0, none⟩) l.length vc)) := Turn.put _ _ _ _
        have hB3 := hB5.turn T3 (fun f => f)
        have hlt3 := hB3.lt
        have nb : ∀ q, q < W3.heap.size → q = b5 → ¬ (w.heap.size ≤ q ∧ q ≠ b5) := fun q _ e f => f.2 e
        have off : ∀ {e : TypeId} {u : Value} {m : Nat} {ys : List Value}, RowV W3 3 1 m u ys → ∀ q, u.ownBlock = some q → ¬ (q = b5) := fun hr q hq e => by
          obtain ⟨b', c', e', hb', _⟩ := hr
          rw [e'] at hq
          have : b' = q := by simpa [Value.ownBlock] using hq
          subst this
          exact hb'.ne hB3 (by decide) e
        refine ⟨k + 1, us ++ [.slice (some ⟨vb, 0, none⟩) l.length vc], ?_, by omega, rfl, by simp [hul], hB3.set _ _, fun j u hj => ?_, fun j h1 h2 => ?_, fun j l2 u hl2 hu => ?_, ?_, by simpa using hlt3⟩
        · exact congrArg (Value.int .i64) (by omega)
        · rw [Nat.zero_add]
          by_cases e : j < us.length
          · rw [List.getElem?_append_left e] at hj
            rw [cell_off _ _ _ _ _ (by omega)]
            have := T3.cell (fun f => f) (hR5 j u hj)
            rw [Nat.zero_add] at this
            exact this
          · have e2 : j = k := by have := (List.getElem?_eq_some_iff.1 hj).1; simp at this; omega
            subst e2
            rw [← hul] at hj
            simp at hj
            subst hj
            exact World.cell?_setCell_same _ _ _ z1
        · rw [cell_off _ _ _ _ _ (by omega)]
          exact T3.cell (fun f => f) (hZ j (by omega) h2)
        · by_cases e : j < us.length
          · rw [List.getElem?_append_left e] at hu
            obtain ⟨a1, a2⟩ := hU j l2 u hl2 hu
            have a3 := a1.turn T3 (fun _ _ f => f)
            exact ⟨a3.turn T4 (off (e := 3) a3), a2⟩
          · have e2 : j = k := by have := (List.getElem?_eq_some_iff.1 hu).1; simp at this; omega
            subst e2
            rw [← hul] at hu
            simp at hu
            subst hu
            rw [hl] at hl2
            injection hl2 with hl2
            subst hl2
            exact ⟨hv'.turn T4 (off (e := 3) hv'), fun q hq => Nat.le_trans hT.size (hfr q hq)⟩
        · exact (hT.trans T3).comp T4 (fun q hq e => by have := HB.out; omega)
    · obtain rfl : k = L.length := by omega
      have u1 : decide ((L.length : Int) < (L.length : Int)) = false := decide_eq_false (by omega)
      have u2 : decide (L.length < L.length) = false := decide_eq_false (by omega)
      have FIN := Lib.hid (show w.heap.size ≤ b5 ∧ Blk wr b5 46 ∧ wr.rangeAt b5 0 us ∧ us.length = L.length ∧ (∀ (j : Nat) (l : List Int) (u : Value), L[j]? = some l → us[j]? = some u → RowV wr 3 1 l.length u (icells l) ∧ (∀ q, u.ownBlock = some q → w.heap.size ≤ q)) ∧ Turn (fun _ => False) w wr from ⟨by have := HB.out; omega, hB5, hR5, hul, hU, hT⟩)
      clear hk hg hul hB5 hR5 hZ hU hT hlt hkn K
      go_wp2_with fail
      go_ret
      exact ⟨b5, us, rfl, FIN.out⟩
end Go.Proofs.Ytepmealhnnoahaa
