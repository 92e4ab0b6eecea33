/-
  Matches put in order: Sort itself.
-/
import Derived.Deep.RegionHeld3
import Derived.Test.YtibmimdlgbhdnaaTupV
import Derived.Test.YtibmimdlgbhdnaaTupG
namespace Go.Proofs.Ytibmimdlgbhdnaa
open Go.ChangeShapes Go.WideShapes Go.ChangeAt Go.RowKit
set_option linter.unusedVariables false

/-- Matches that can be read. -/
def MatsAt (w : World) (v : Value) (MS : List Mat) : Prop :=
  ∃ (a : Option Addr) (b off cap : Nat), v = .slice a MS.length cap ∧ (MS = [] ∨ a = some ⟨b, off, none⟩) ∧ ∀ (k : Nat) (M : Mat), MS[k]? = some M → ∃ r, w.cell? ⟨b, off + k, none⟩ = some r ∧ RowsAt w r M
theorem MatsAt.turn {w w' : World} {v : Value} {MS : List Mat} (h : MatsAt w v MS) (t : Turn (fun _ => False) w w') : MatsAt w' v MS := by
  obtain ⟨a, b, off, cap, e, ha, hx⟩ := h
  exact ⟨a, b, off, cap, e, ha, fun k l hl => by
    obtain ⟨r, hc, hr⟩ := hx k l hl
    exact ⟨r, t.cell id hc, hr.turn t⟩⟩
theorem RowP.lt {P : Nat → Prop} {w : World} {v : Value} {l : List Int} (h : RowP P w v l) : RowP (fun k => P k ∧ k < w.heap.size) w v l := by
  obtain ⟨a, b, off, cap, e, hc, ha, hx⟩ := h
  refine ⟨a, b, off, cap, e, hc, ?_, hx⟩
  rcases ha with ha | ⟨ha, hb⟩
  · exact .inl ha
  · by_cases h0 : l = []
    · exact .inl h0
    · exact .inr ⟨ha, hb, block_lt_of_cell (hx 0 _ (List.getElem?_eq_getElem (List.length_pos_iff.2 h0)))⟩
theorem RowsP.lt {P : Nat → Prop} {w : World} {v : Value} {L : Mat} (h : RowsP P w v L) : RowsP (fun k => P k ∧ k < w.heap.size) w v L := by
  obtain ⟨a, b, off, cap, e, ha, hx⟩ := h
  refine ⟨a, b, off, cap, e, ?_, fun k l hl => ?_⟩
  · rcases ha with ha | ⟨ha, hb⟩
    · exact .inl ha
    · by_cases h0 : L = []
      · exact .inl h0
      · obtain ⟨r, q1, _⟩ := hx 0 _ (List.getElem?_eq_getElem (List.length_pos_iff.2 h0))
        exact .inr ⟨ha, hb, block_lt_of_cell q1⟩
  · obtain ⟨r, q1, q2⟩ := hx k l hl
    exact ⟨r, q1, q2.lt⟩
theorem RowP.still {P : Nat → Prop} {w w' : World} {v : Value} {l : List Int} (h : RowP P w v l) (hk : ∀ k, P k → k < w.heap.size → w'.heap[k]? = w.heap[k]?) : RowP P w' v l :=
  (h.lt.keep fun k hk1 => hk k hk1.1 hk1.2).imp fun k hk1 => hk1.1
theorem RowsP.still {P : Nat → Prop} {w w' : World} {v : Value} {L : Mat} (h : RowsP P w v L) (hk : ∀ k, P k → k < w.heap.size → w'.heap[k]? = w.heap[k]?) : RowsP P w' v L :=
  (h.lt.keep fun k hk1 => hk k hk1.1 hk1.2).imp fun k hk1 => hk1.1
theorem rowP_own {w : World} {base : Nat} {v : Value} {l : List Int} (h : w.ownsRow base 3 1 v l.length (intsV l)) : RowP (fun k => base ≤ k) w v l := by
  obtain ⟨a, b, off, cap, e, hc, ha, hx⟩ := rowAt_own h
  refine ⟨a, b, off, cap, e, hc, ha.imp id fun ha => ⟨ha, ?_⟩, hx⟩
  subst ha
  exact (h.lt b (by rw [e]; rfl)).1
/-- The first i of the matches are copied. -/
def SoRel (w : World) (MS : List Mat) (gh : Nat) (v : Value) (wr : World) : Prop :=
  ∃ (i : Nat) (xs : List Value), v = .int .i64 (i : Int) ∧ i ≤ MS.length ∧ gh = MS.length - i ∧ wr.ownsRow w.heap.size 22 1 (.slice (some ⟨w.heap.size, 0, none⟩) MS.length MS.length) MS.length xs ∧
    (∀ k M, k < i → MS[k]? = some M → ∃ r, xs[k]? = some r ∧ RowsP (fun b => b ≠ w.heap.size) wr r M) ∧ Turn (fun _ => False) w wr
/-- The first k of a match's rows are copied. -/
def SiRel (W1 : World) (g h : Nat) (M : Mat) (gh : Nat) (v : Value) (wr : World) : Prop :=
  ∃ (k : Nat) (ys : List Value), v = .int .i64 (k : Int) ∧ k ≤ M.length ∧ gh = M.length - k ∧ wr.ownsRow h 27 1 (.slice (some ⟨h, 0, none⟩) M.length M.length) M.length ys ∧
    (∀ j l, j < k → M[j]? = some l → ∃ r, ys[j]? = some r ∧ RowP (fun b => b ≠ g ∧ b ≠ h) wr r l) ∧ Turn (fun b => b = h) W1 wr
theorem si_put {W1 wr w5 : World} {g h k : Nat} {M : Mat} {ys : List Value} {v' : Value} {l : List Int} (hg : g < wr.heap.size) (hh : h < wr.heap.size) (hk : k < M.length) (hl : M[k]? = some l)
    (ho : wr.ownsRow h 27 1 (.slice (some ⟨h, 0, none⟩) M.length M.length) M.length ys) (hr : ∀ j l, j < k → M[j]? = some l → ∃ r, ys[j]? = some r ∧ RowP (fun b => b ≠ g ∧ b ≠ h) wr r l) (T : Turn (fun b => b = h) W1 wr)
    (hv : w5.ownsRow wr.heap.size 3 1 v' l.length (intsV l)) (T5 : Turn (fun _ => False) wr w5) :
    SiRel W1 g h M (M.length - (k + 1)) (.int .i64 ((k + 1 : Nat) : Int)) (w5.setCell ⟨h, k, none⟩ v') := by
  have ho5 := own_turn ho T5 (fun _ _ => id)
  have hst := (ho5.stored k v').1
  have hyl := ho.1
  have keep : ∀ b, b ≠ h → (w5.setCell ⟨h, k, none⟩ v').heap[b]? = w5.heap[b]? := fun b hb => Below.heap_setCell _ _ _ _ (by exact hb)
  refine ⟨k + 1, ys.set k v', rfl, by omega, rfl, hst, fun j l' hj hl' => ?_, (T.trans (T5.more fun _ _ f => f.elim)).setCell (p := ⟨h, k, none⟩) (.inl rfl) v'⟩
  by_cases e : j = k
  · subst e
    rw [hl] at hl'
    cases hl'
    refine ⟨v', List.getElem?_set_self (by omega), ?_⟩
    exact ((rowP_own hv).imp fun b hb => (show b ≠ g ∧ b ≠ h from ⟨by omega, by omega⟩)).still fun b hb _ => keep b hb.2
  · obtain ⟨r, q1, q2⟩ := hr j l' (by omega) hl'
    refine ⟨r, by rw [List.getElem?_set_ne (Ne.symm e)]; exact q1, ?_⟩
    exact (q2.still fun b _ hb => T5.block b hb id).still fun b hb _ => keep b hb.2
/-- A match's rows are all copied: it is the next one. -/
theorem so_next {w wr W1 w2 : World} {g h i : Nat} {MS : List Mat} {M : Mat} {xs : List Value} (hg : g = w.heap.size) (hi : i < MS.length) (hM : MS[i]? = some M) (hh : h = wr.heap.size) (hwg : g < wr.heap.size)
    (ho : wr.ownsRow g 22 1 (.slice (some ⟨g, 0, none⟩) MS.length MS.length) MS.length xs) (hr : ∀ k M, k < i → MS[k]? = some M → ∃ r, xs[k]? = some r ∧ RowsP (fun b => b ≠ g) wr r M) (T : Turn (fun _ => False) w wr)
    (hW1 : W1 = (wr.setCell ⟨g, i, none⟩ (.slice (some ⟨h, 0, none⟩) M.length M.length)).alloc (.cells (madeCells #[.slice none 0 0] M.length) 27))
    (k : Nat) (hs : SiRel W1 g h M 0 (.int .i64 (k : Int)) w2) (hk : k = M.length) : SoRel w MS (MS.length - (i + 1)) (.int .i64 ((i + 1 : Nat) : Int)) w2 := by
  obtain ⟨k', ys, e, hk', hg', hoh, hrh, T2⟩ := hs
  injection e with _ e
  obtain rfl : k' = M.length := by omega
  subst hg
  have ho2 := ((ho.stored i (.slice (some ⟨h, 0, none⟩) M.length M.length)).1).alloc (.cells (madeCells #[.slice none 0 0] M.length) 27)
  rw [← hW1] at ho2
  have z1 : W1.heap.size = wr.heap.size + 1 := by rw [hW1]; simp
  have bk : ∀ b, b ≠ w.heap.size → b < wr.heap.size → W1.heap[b]? = wr.heap[b]? := fun b h1 h2 => by
    rw [hW1]
    exact (Below.heap_alloc _ _ _ (by simpa using h2)).trans (Below.heap_setCell _ _ _ _ (by exact h1))
  have hx := ho.1
  refine ⟨i + 1, xs.set i (.slice (some ⟨h, 0, none⟩) M.length M.length), rfl, by omega, rfl, own_turn ho2 T2 (fun b hb => ?_), fun j M' hj hM' => ?_, ?_⟩
  · have : w.heap.size = b := by simpa [Value.ownBlock] using hb
    show ¬ b = h
    omega
  · by_cases e : j = i
    · subst e
      rw [hM] at hM'
      cases hM'
      refine ⟨_, List.getElem?_set_self (by omega), some ⟨h, 0, none⟩, h, 0, M.length, rfl, .inr ⟨rfl, by omega⟩, fun q l hl => ?_⟩
      have hq := (List.getElem?_eq_some_iff.1 hl).1
      obtain ⟨r, q1, q2⟩ := hrh q l hq hl
      refine ⟨r, ?_, q2.imp fun b hb => hb.1⟩
      rw [Nat.zero_add]
      exact (hoh.cellAt q (by omega)).trans q1
    · obtain ⟨r, q1, q2⟩ := hr j M' (by omega) hM'
      refine ⟨r, by rw [List.getElem?_set_ne (Ne.symm e)]; exact q1, ?_⟩
      exact q2.still fun b hb hb2 => (T2.block b (by omega) (by omega)).trans (bk b hb hb2)
  · refine (((T.setCell (p := ⟨w.heap.size, i, none⟩) (.inr (Nat.le_refl _)) (.slice (some ⟨h, 0, none⟩) M.length M.length))).alloc _).comp (hW1 ▸ T2) fun b hb he => ?_
    have := T.size
    omega
theorem info22 : (Try.prog.info? 22).map (fun i => (i.zero, i.size, i.bytes)) = some (some (.slice none 0 0), 1, 24) := by kernel_rfl
def SortPost (w : World) (MS : List Mat) (w' : World) : Prop := ∃ E g cap, E.map Prod.snd = MS ∧ SortSt w.heap.size g cap w' E ∧ E.length = MS.length ∧ Turn (fun _ => False) w w'
theorem so_done {w wr : World} {MS : List Mat} {xs : List Value} (hl : ∀ M ∈ MS, M.length ≤ 1000000) (hll : ∀ M ∈ MS, ∀ x ∈ M, x.length ≤ 1000000) (ho : wr.ownsRow w.heap.size 22 1 (.slice (some ⟨w.heap.size, 0, none⟩) MS.length MS.length) MS.length xs)
    (hr : ∀ k M, k < MS.length → MS[k]? = some M → ∃ r, xs[k]? = some r ∧ RowsP (fun b => b ≠ w.heap.size) wr r M) : ∃ E, E.map Prod.snd = MS ∧ E.length = MS.length ∧ SortSt w.heap.size w.heap.size MS.length wr E := by
  have hx := ho.1
  have e2 : (xs.zip MS).map Prod.snd = MS := List.map_snd_zip (by omega)
  have e1 : (xs.zip MS).map Prod.fst = xs := List.map_fst_zip (by omega)
  have el : (xs.zip MS).length = MS.length := by simp; omega
  refine ⟨xs.zip MS, e2, el, by rw [e1, el]; exact ho, fun e he => ?_⟩
  obtain ⟨k, hk⟩ := List.mem_iff_getElem?.1 he
  obtain ⟨h1, h2⟩ := List.getElem?_zip_eq_some.1 hk
  have hm := List.mem_of_getElem? h2
  obtain ⟨r, q1, q2⟩ := hr k e.2 (List.getElem?_eq_some_iff.1 h2).1 h2
  rw [h1] at q1
  injection q1 with q1
  exact ⟨by rw [q1]; exact q2, hl _ hm, hll _ hm⟩
set_option maxRecDepth 100000 in
set_option maxHeartbeats 4000000 in
/-- What Sort gives: the same matches, in order, in rows of its own. -/
theorem sort_any {w : World} {v : Value} {MS : List Mat} (h : MatsAt w v MS) (hn : MS.length ≤ 12) (hl : ∀ M ∈ MS, M.length ≤ 1000000) (hll : ∀ M ∈ MS, ∀ x ∈ M, x.length ≤ 1000000) :
    Calls Try.prog 23 #[v] w fun e w' => ∃ E g cap, e = .returned (.slice (some ⟨g, 0, none⟩) E.length cap) ∧ (E.map Prod.snd).Perm MS ∧ SortSt w.heap.size g cap w' E ∧ E.Pairwise leE ∧ Turn (fun _ => False) w w' := by
  obtain ⟨av, b, off, cap, rfl, e0, hx⟩ := h
  have HX := Lib.hid (And.intro hx (And.intro hl hll))
  obtain ⟨i2, ji, jz, js, jb⟩ := info_parts info22
  obtain ⟨i7, ki, kz, ks, kb⟩ := info_parts info27
  have hmk : ∀ w, (Instr.makeSlice 24 (.int .i64 (MS.length : Int)) (.int .i64 (MS.length : Int))).run Try.prog w = .ok (.slice (some ⟨w.heap.size, 0, none⟩) MS.length MS.length) (w.alloc (.cells (madeCells #[.slice none 0 0] MS.length) 22)) := fun w => by
    have := run_make (P := Try.prog) w 24 22 i2 (.slice none 0 0) Try.underlying24 ji jz .i64 .i64 (MS.length : Int) (MS.length : Int) (by omega) (by omega) (by rw [jb]; omega) (by omega)
    rw [js] at this
    simpa [Value.cells] using this
  have hmr : ∀ (n : Nat) w, n ≤ 1000000 → (Instr.makeSlice 22 (.int .i64 (n : Int)) (.int .i64 (n : Int))).run Try.prog w = .ok (.slice (some ⟨w.heap.size, 0, none⟩) n n) (w.alloc (.cells (madeCells #[.slice none 0 0] n) 27)) := fun n w hn => by
    have := run_make (P := Try.prog) w 22 27 i7 (.slice none 0 0) Try.underlying22 ki kz .i64 .i64 (n : Int) (n : Int) (by omega) (by omega) (by rw [kb]; omega) (by omega)
    rw [ks] at this
    simpa [Value.cells] using this
  have HMR := Lib.hid hmr
  have R0 : SoRel w MS MS.length (.int .i64 0) (w.alloc (.cells (madeCells #[.slice none 0 0] MS.length) 22)) := by
    refine ⟨0, (madeCells #[.slice none 0 0] MS.length).toList, rfl, Nat.zero_le _, rfl, World.ownsRow_lit (base := w.heap.size) (e := 22) (size := 1) w _ _ (Nat.le_refl _) (by unfold maxLen; omega) (by simp [madeCells]), fun k M hk => absurd hk (Nat.not_lt_zero k), (Turn.refl _ w).alloc _⟩
  clear ji jz js jb ki kz ks kb hx hl hll hmr
  go_enter Try.func23, Try.ntmps23
  go_wp2_with fail
  clear hmk
  go_loopg [13] MS.length (fun gh v wr => SoRel w MS gh v wr)
  case atStart => exact R0
  case round =>
    clear R0
    obtain ⟨i, xs, rfl, hi, hg, ho, hr, T⟩ := hrel
    by_cases hil : i < MS.length
    · obtain rfl := e0.resolve_left (fun e => by rw [e] at hil; simp at hil)
      obtain ⟨M, hM⟩ : ∃ M, MS[i]? = some M := ⟨_, List.getElem?_eq_getElem hil⟩
      obtain ⟨r, z, hra⟩ := HX.out.1 i M hM
      have hMl := HX.out.2.1 M (List.mem_of_getElem? hM)
      have hMll := HX.out.2.2 M (List.mem_of_getElem? hM)
      obtain ⟨pa, pb, po, pc, rfl, p0, px⟩ := hra
      have y := T.cell id z
      have ht1 : decide ((i : Int) < (MS.length : Int)) = true := by simp; omega
      have hi1 : (i : Int) < (MS.length : Int) := by omega
      have hi0 : (0 : Int) ≤ (i : Int) := by omega
      have cg := ho.cellAt i (by omega)
      obtain ⟨ug, hug⟩ : ∃ u, xs[i]? = some u := ⟨_, List.getElem?_eq_getElem (by have := ho.1; omega)⟩
      rw [hug] at cg
      have fg := ho.frozenAt i
      have hgs := (ho.lt _ rfl).2
      have NX := Lib.hid (fun (W1 w2 : World) (k : Nat) (hW1 : W1 = (wr.setCell ⟨w.heap.size, i, none⟩ (.slice (some ⟨wr.heap.size, 0, none⟩) M.length M.length)).alloc (.cells (madeCells #[.slice none 0 0] M.length) 27)) (hs : SiRel W1 w.heap.size wr.heap.size M 0 (.int .i64 (k : Int)) w2) (hk : k = M.length) => so_next rfl hil hM rfl hgs ho hr T hW1 k hs hk)
      have hmr := HMR.out M.length
      have TT := Lib.hid T
      have G := Lib.hid hg
      have PX := Lib.hid px
      clear ho hr T hg z hM px hug
      go_wp2_with fail
      obtain ⟨W1, hW1⟩ : ∃ W1, W1 = (wr.setCell ⟨w.heap.size, i, none⟩ (.slice (some ⟨wr.heap.size, 0, none⟩) M.length M.length)).alloc (.cells (madeCells #[.slice none 0 0] M.length) 27) := ⟨_, rfl⟩
      rw [← hW1]
      have z1 : W1.heap.size = wr.heap.size + 1 := by rw [hW1]; simp
      have oh : W1.ownsRow wr.heap.size 27 1 (.slice (some ⟨wr.heap.size, 0, none⟩) M.length M.length) M.length (madeCells #[.slice none 0 0] M.length).toList := by
        rw [hW1]
        have h0 := World.ownsRow_lit (base := wr.heap.size) (e := 27) (size := 1) (wr.setCell ⟨w.heap.size, i, none⟩ (.slice (some ⟨wr.heap.size, 0, none⟩) M.length M.length)) (madeCells #[.slice none 0 0] M.length) M.length (by simp) (by unfold maxLen; omega) (by simp [madeCells])
        simpa using h0
      have cg1 : W1.cell? ⟨w.heap.size, i, none⟩ = some (.slice (some ⟨wr.heap.size, 0, none⟩) M.length M.length) := by
        rw [hW1]
        exact past (World.cell?_setCell_same _ _ _ cg)
      have R1 : SiRel W1 w.heap.size wr.heap.size M M.length (.int .i64 0) W1 := ⟨0, _, rfl, Nat.zero_le _, rfl, oh, fun j l hj => absurd hj (Nat.not_lt_zero j), Turn.refl _ _⟩
      have hgh : w.heap.size < wr.heap.size := hgs
      have NX := Lib.hid (fun (w2 : World) (k : Nat) => NX.out W1 w2 k hW1)
      have TW : Turn (fun _ => False) w W1 := by rw [hW1]; exact (TT.out.setCell (p := ⟨w.heap.size, i, none⟩) (.inr (Nat.le_refl _)) _).alloc _
      have RX := Lib.hid (show ∀ (W' : World) (t : Turn (fun b => b = wr.heap.size) W1 W') (k : Nat) (l : List Int), M[k]? = some l → ∃ r, W'.cell? ⟨pb, po + k, none⟩ = some r ∧ RowAt W' r l from fun W' t k l hl => by
        have t' := TW.comp t (fun b hb e => by omega)
        obtain ⟨r, q1, q2⟩ := PX.out k l hl
        exact ⟨r, t'.cell id q1, q2.turn t'⟩)
      clear hW1 cg fg TT TW PX y oh
      generalize w.heap.size = g at *
      generalize wr.heap.size = h at *
      go_wp2_with fail
      go_loopg [26] M.length (fun gh v wr => SiRel W1 g h M gh v wr)
      case atStart => exact R1
      case round =>
        clear R1
        obtain ⟨k, ys, rfl, hk, hgi, ho, hr, T⟩ := hrel
        by_cases hkl : k < M.length
        · obtain rfl := p0.resolve_left (fun e => by rw [e] at hkl; simp at hkl)
          obtain ⟨l, hl⟩ : ∃ l, M[k]? = some l := ⟨_, List.getElem?_eq_getElem hkl⟩
          obtain ⟨r, zz, hra⟩ := RX.out wr T k l hl
          have ll := hMll l (List.mem_of_getElem? hl)
          have C := Lib.hid (fun W (t : Turn (fun _ => False) wr W) => clone_row (hra.turn t) ll)
          obtain ⟨r1, _, _, r4, rfl, _⟩ := hra
          have ht2 : decide ((k : Int) < (M.length : Int)) = true := by simp; omega
          have hk1 : (k : Int) < (M.length : Int) := by omega
          have hk0 : (0 : Int) ≤ (k : Int) := by omega
          have c1 := T.cell (show ¬ g = h by omega) cg1
          have ch := ho.cellAt k (by omega)
          obtain ⟨uh, huh⟩ : ∃ u, ys[k]? = some u := ⟨_, List.getElem?_eq_getElem (by have := ho.1; omega)⟩
          rw [huh] at ch
          have fh := ho.frozenAt k
          have hhs : h < wr.heap.size := (ho.lt _ rfl).2
          have PUT := Lib.hid (fun (w5 : World) (v' : Value) (hv : w5.ownsRow wr.heap.size 3 1 v' l.length (intsV l)) (T5 : Turn (fun _ => False) wr w5) => si_put (g := g) (by omega) hhs hkl hl ho hr T hv T5)
          have GI := Lib.hid hgi
          have KEEP := Lib.hid (fun (w5 : World) (T5 : Turn (fun _ => False) wr w5) => And.intro (T5.cell id c1) (And.intro (T5.cell id ch) ((World.frozen?_of_block (w := wr) (w' := w5) (a := ⟨h, k, none⟩) (T5.block h hhs id)).trans fh)))
          have hne : h ≠ g := by omega
          clear ho hr T hgi hl huh RX NX
          go_wp2_with fail
          refine wp_region_held_drew (S := (fun w' => w'.cell? ⟨g, i, none⟩ = some (.slice (some ⟨h, 0, none⟩) M.length M.length))) (by kernel_rfl) ?hs0 (fun hS0 => ?_)
          case hs0 => ((try dsimp only); first | with_reducible exact c1 | with_reducible exact q1 | exact c1 | exact q1 | exact (cell_far _ _ _ _ _ _ hne).trans q1 | exact (cell_far _ _ _ _ _ _ hne.symm).trans q1)
          refine wpAnyH_take (i := 0) (oi := { dst := some 31, op := Op.move (Operand.tmp 3), type := 24, pos := "tuple.go:31", after := #[], guard := none }) (v := ?_) rfl (by kernel_rfl) (by kernel_rfl) (by kernel_rfl) (fun _ _ _ h => h) (Or.inl ⟨by rfl, ?hy1⟩) hS0 ?_
          case hy1 => (intro w hSw; (try dsimp only at hSw); go_simp; try with_reducible rfl)
          try simp only [Act.put, List.setIfInBounds_toArray, List.set_cons_zero, List.set_cons_succ]
          refine wpAnyH_take (i := 1) (oi := { dst := some 32, op := Op.move (Operand.tmp 4), type := 3, pos := "tuple.go:31", after := #[], guard := none }) (v := ?_) rfl (by kernel_rfl) (by kernel_rfl) (by kernel_rfl) (fun _ _ _ h => h) (Or.inl ⟨by rfl, ?hy2⟩) hS0 ?_
          case hy2 => (intro w hSw; (try dsimp only at hSw); go_simp; try with_reducible rfl)
          try simp only [Act.put, List.setIfInBounds_toArray, List.set_cons_zero, List.set_cons_succ]
          refine wpAnyH_take (i := 2) (oi := { dst := some 33, op := Op.indexAddr 24 (Operand.tmp 31) (Operand.tmp 32), type := 0, pos := "tuple.go:31", after := #[{ on := 0, ground := Ground.data }, { on := 1, ground := Ground.data }], guard := none }) (v := ?_) rfl (by kernel_rfl) (by kernel_rfl) (by kernel_rfl) (fun _ _ _ h => h) (Or.inl ⟨by rfl, ?hy3⟩) hS0 ?_
          case hy3 => (intro w hSw; (try dsimp only at hSw); go_simp; try with_reducible rfl)
          try simp only [Act.put, List.setIfInBounds_toArray, List.set_cons_zero, List.set_cons_succ]
          refine wpAnyH_take (i := 3) (oi := { dst := some 34, op := Op.load 22 (Operand.tmp 33), type := 22, pos := "tuple.go:31", after := #[{ on := 2, ground := Ground.data }], guard := none }) (v := ?_) rfl (by kernel_rfl) (by kernel_rfl) (by kernel_rfl) (fun _ _ _ h => h) (Or.inl ⟨by rfl, ?hy4⟩) hS0 ?_
          case hy4 => (intro w hSw; (try dsimp only at hSw); go_simp; try with_reducible rfl)
          try simp only [Act.put, List.setIfInBounds_toArray, List.set_cons_zero, List.set_cons_succ]
          refine wpAnyH_take (i := 4) (oi := { dst := some 35, op := Op.move (Operand.tmp 6), type := 3, pos := "tuple.go:31", after := #[], guard := none }) (v := ?_) rfl (by kernel_rfl) (by kernel_rfl) (by kernel_rfl) (fun _ _ _ h => h) (Or.inl ⟨by rfl, ?hy5⟩) hS0 ?_
          case hy5 => (intro w hSw; (try dsimp only at hSw); go_simp; try with_reducible rfl)
          try simp only [Act.put, List.setIfInBounds_toArray, List.set_cons_zero, List.set_cons_succ]
          refine wpAnyH_take (i := 5) (oi := { dst := some 36, op := Op.move (Operand.tmp 7), type := 27, pos := "tuple.go:31", after := #[], guard := none }) (v := ?_) rfl (by kernel_rfl) (by kernel_rfl) (by kernel_rfl) (fun _ _ _ h => h) (Or.inl ⟨by rfl, ?hy6⟩) hS0 ?_
          case hy6 => (intro w hSw; (try dsimp only at hSw); go_simp; try with_reducible rfl)
          try simp only [Act.put, List.setIfInBounds_toArray, List.set_cons_zero, List.set_cons_succ]
          refine wpAnyH_ready (rs := [6]) (by kernel_rfl) (by simp) ?_
          refine AllReadyH.cons (o := { dst := some 37, op := Op.call { callee := Callee.value (Operand.func 63), args := #[Operand.tmp 36], argTypes := #[27] }, type := 27, pos := "tuple.go:31", after := #[{ on := 5, ground := Ground.data }], guard := none }) rfl (fun K hK => ?_) ?_
          · go_simp; with_reducible refine (C.out _ (show Turn (fun _ => False) wr wr.drew from (Turn.refl _ wr).drewN 1)).mono ?_; rintro e w5 ⟨v', rfl, hv, T5⟩; have T5 := (show Turn (fun _ => False) wr wr.drew from (Turn.refl _ wr).drewN 1).trans T5; have hv : w5.ownsRow wr.heap.size 3 1 v' l.length (intsV l) := (show wr.drew.heap.size = wr.heap.size from rfl) ▸ hv; obtain ⟨q1, q2, q3⟩ := KEEP.out _ T5; obtain ⟨pa5, pc5, rfl, _⟩ := own_slice hv; have FIN := Lib.hid (PUT.out _ _ hv T5); clear hv T5; go_simp
            refine hK.out _ _ ?hs7 (fun hS7 => ?_)
            case hs7 => ((try dsimp only); first | with_reducible exact c1 | with_reducible exact q1 | exact c1 | exact q1 | exact (cell_far _ _ _ _ _ _ hne).trans q1 | exact (cell_far _ _ _ _ _ _ hne.symm).trans q1)
            clear hK K hS0
            refine wpAnyH_take (i := 7) (oi := { dst := some 38, op := Op.indexAddr 22 (Operand.tmp 34) (Operand.tmp 35), type := 0, pos := "tuple.go:31", after := #[{ on := 3, ground := Ground.data }, { on := 4, ground := Ground.data }, { on := 0, ground := Ground.phase }, { on := 1, ground := Ground.phase }, { on := 2, ground := Ground.phase }, { on := 3, ground := Ground.phase }, { on := 4, ground := Ground.phase }, { on := 5, ground := Ground.phase }, { on := 6, ground := Ground.phase }], guard := none }) (v := ?_) rfl (by kernel_rfl) (by kernel_rfl) (by kernel_rfl) (fun _ _ _ h => h) (Or.inl ⟨by rfl, ?hy8⟩) hS7 ?_
            case hy8 => (intro w hSw; (try dsimp only at hSw); go_simp; try with_reducible rfl)
            try simp only [Act.put, List.setIfInBounds_toArray, List.set_cons_zero, List.set_cons_succ]
            refine wpAnyH_ready (rs := [8]) (by kernel_rfl) (by simp) ?_
            refine AllReadyH.cons (o := { dst := none, op := Op.store 27 (Operand.tmp 38) (Operand.tmp 37), type := 0, pos := "tuple.go:31", after := #[{ on := 7, ground := Ground.data }, { on := 6, ground := Ground.data }, { on := 6, ground := Ground.chain }, { on := 0, ground := Ground.phase }, { on := 1, ground := Ground.phase }, { on := 2, ground := Ground.phase }, { on := 3, ground := Ground.phase }, { on := 4, ground := Ground.phase }, { on := 5, ground := Ground.phase }, { on := 6, ground := Ground.phase }], guard := none }) rfl (fun K hK => ?_) ?_
            · go_simp
              refine hK.out _ _ ?hs9 (fun hS9 => ?_)
              case hs9 => ((try dsimp only); first | with_reducible exact c1 | with_reducible exact q1 | exact c1 | exact q1 | exact (cell_far _ _ _ _ _ _ hne).trans q1 | exact (cell_far _ _ _ _ _ _ hne.symm).trans q1)
              clear hK K hS7
              refine wpAnyH_done (by kernel_rfl) ?_ _
              go_wp2_with fail
              go_roundg (M.length - (k + 1))
              case measure => have := GI.out; omega
              case rel => exact FIN.out
            exact AllReadyH.nil
          exact AllReadyH.nil
        · have ht2 : decide ((k : Int) < (M.length : Int)) = false := by simp; omega
          have F := Lib.hid (NX.out wr k ⟨k, ys, rfl, hk, by omega, ho, hr, T⟩ (by omega))
          clear ho hr T hgi RX NX
          go_wp2_with fail
          go_roundg (MS.length - (i + 1))
          case measure => have := G.out; omega
          case rel => exact F.out
    · have HS := so_done HX.out.2.1 HX.out.2.2 ho (fun k M hk hM => hr k M (by omega) hM)
      obtain ⟨E, hE, el, hs⟩ := HS
      have C := sort_is hs (by omega)
      rw [el] at C
      have CC := Lib.hid C
      have X := Lib.hid (And.intro hE (And.intro el T))
      have ht1 : decide ((i : Int) < (MS.length : Int)) = false := by simp; omega
      clear ho hr hs C T hg hE el
      go_wp2_with fail
      with_reducible refine CC.out.mono ?_
      rintro e w1 ⟨rfl, E', hp, hs, hpw, T'⟩
      have F := Lib.hid (show ∃ E g cap, (Ending.returned (.slice (some ⟨w.heap.size, 0, none⟩) MS.length MS.length) = .returned (.slice (some ⟨g, 0, none⟩) E.length cap)) ∧ (E.map Prod.snd).Perm MS ∧ SortSt w.heap.size g cap w1 E ∧ E.Pairwise leE ∧ Turn (fun _ => False) w w1 from
        ⟨E', w.heap.size, MS.length, by rw [hp.length_eq, X.out.2.1], by rw [← X.out.1]; exact hp.map _, hs, hpw, X.out.2.2.comp T' (fun b hb e => by omega)⟩)
      clear hs hpw hp T' CC X
      go_wp2
      go_ret
      exact F.out
end Go.Proofs.Ytibmimdlgbhdnaa
