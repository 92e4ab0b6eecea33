/-
  Rows of matches that Merge has copied.
-/
import Derived.Test.YtepmealhnnoahaaRb
namespace Go.Proofs.Ytepmealhnnoahaa
open Go.ChangeShapes Go.WideShapes Go.ChangeAt Go.RowKit
set_option linter.unusedVariables false

def MRel (w : World) (lb hb kb n : Nat) (L : List (List Ht)) (gh : Nat) (v : Value) (wr : World) : Prop :=
  ∃ (i : Nat) (f : Nat → Value), v = .int .i64 (i : Int) ∧ i ≤ n ∧ gh = n - i ∧ wr.cell? ⟨lb, 0, none⟩ = some (.func (.func 38) #[] #[]) ∧ wr.cell? ⟨kb, 0, none⟩ = some (.slice (some ⟨hb, 0, none⟩) n n) ∧ (∀ k, k < n → wr.cell? ⟨hb, k, none⟩ = some (f k)) ∧ (∀ k, wr.frozen? ⟨hb, k, none⟩ = false) ∧
    (∀ k l, k < i → L[k]? = some l → wr.ownsRow (kb + 1) 73 3 (f k) l.length (hcells l)) ∧ Turn (fun _ => False) w wr ∧ kb + 1 ≤ wr.heap.size ∧ Blk wr lb 101 ∧ Blk wr kb 107 ∧ Blk wr hb 66
theorem row_low3 {w : World} {b b' : Nat} {e : TypeId} {size : Nat} {v : Value} {n : Nat} {xs : List Value} (h : w.ownsRow b e size v n xs) (hb : b' ≤ b) : w.ownsRow b' e size v n xs := by
  refine ⟨h.1, ?_⟩
  rcases h.2 with h0 | ⟨g, cap, cur, rfl, hg, rest⟩
  · exact .inl h0
  · exact .inr ⟨g, cap, cur, rfl, Nat.le_trans hb hg, rest⟩
theorem mrel_put {w wr w5 : World} {lb hb kb n i : Nat} {L : List (List Ht)} {f : Nat → Value} {v' : Value} {l : List Ht} (hlh : lb < hb) (hhk : hb < kb) (hwl : w.heap.size ≤ lb) (hi : i < n) (hl : L[i]? = some l)
    (c0 : wr.cell? ⟨lb, 0, none⟩ = some (.func (.func 38) #[] #[])) (c1 : wr.cell? ⟨kb, 0, none⟩ = some (.slice (some ⟨hb, 0, none⟩) n n)) (cf : ∀ k, k < n → wr.cell? ⟨hb, k, none⟩ = some (f k)) (fr : ∀ k, wr.frozen? ⟨hb, k, none⟩ = false)
    (ro : ∀ k l, k < i → L[k]? = some l → wr.ownsRow (kb + 1) 73 3 (f k) l.length (hcells l)) (T : Turn (fun _ => False) w wr) (hz : kb + 1 ≤ wr.heap.size) (B : Blk wr lb 101 ∧ Blk wr kb 107 ∧ Blk wr hb 66) (ho : w5.ownsRow wr.heap.size 73 3 v' l.length (hcells l)) (T5 : Turn (fun _ => False) wr w5) :
    MRel w lb hb kb n L (n - (i + 1)) (.int .i64 ((i + 1 : Nat) : Int)) (w5.setCell ⟨hb, i, none⟩ v') := by
  have q2 : w5.cell? ⟨hb, i, none⟩ = some (f i) := T5.cell id (cf i hi)
  refine ⟨i + 1, upd f i v', rfl, by omega, rfl, by rw [cell_far _ _ _ _ _ _ (by omega)]; exact T5.cell id c0, by rw [cell_far _ _ _ _ _ _ (by omega)]; exact T5.cell id c1, fun k hk => ?_, fun k => ?_, fun k l' hk hl' => ?_, (T.trans T5).setCell (p := ⟨hb, i, none⟩) (.inr (by show w.heap.size ≤ hb; omega)) _, by have := T5.size; simp; omega, (B.1.turn T5 id).set _ _, (B.2.1.turn T5 id).set _ _, (B.2.2.turn T5 id).set _ _⟩
  · by_cases e : k = i
    · subst e
      rw [upd_at]
      exact World.cell?_setCell_same _ _ _ q2
    · rw [cell_off _ _ _ _ _ (Ne.symm e), upd_off _ _ e]
      exact T5.cell id (cf k hk)
  · have e := T5.block hb (by omega) id
    simpa using (World.frozen?_of_block (w := wr) (w' := w5) (a := ⟨hb, k, none⟩) e).trans (fr k)
  · by_cases e : k = i
    · subst e
      rw [hl] at hl'
      cases hl'
      rw [upd_at]
      exact own_keep (row_low3 ho hz) (fun j hj => Below.heap_setCell _ _ _ _ (by have := (ho.lt j hj).1; show j ≠ hb; omega))
    · rw [upd_off _ _ e]
      have h0 := own_turn (ro k l' (by omega) hl') T5 (fun _ _ => id)
      exact own_keep h0 (fun j hj => Below.heap_setCell _ _ _ _ (by have := (h0.lt j hj).1; show j ≠ hb; omega))
set_option maxRecDepth 100000 in
set_option maxHeartbeats 2000000 in
theorem merge_is {w : World} {v : Value} {L : List (List Ht)} (h : RowsAt w v L) (hL : L.length ≤ 1000000) (hR : ∀ x ∈ L, x.length ≤ 1000000) :
    Calls Try.prog 37 #[.func (.func 38) #[] #[], v] w fun e w' => e = .returned (.func (.func 45) #[] #[.pointer (some ⟨w.heap.size + 2, 0, none⟩), .pointer (some ⟨w.heap.size, 0, none⟩)]) ∧ MRel w w.heap.size (w.heap.size + 1) (w.heap.size + 2) L.length L 0 (.int .i64 (L.length : Int)) w' := by
  obtain ⟨av, b, off, cap, rfl, e0, hx⟩ := h
  have HX := Lib.hid (And.intro hx hR)
  obtain ⟨i, hi, hz, hs, hb⟩ := info_parts info66
  have hmk : ∀ w, (Instr.makeSlice 107 (.int .i64 (L.length : Int)) (.int .i64 (L.length : Int))).run Try.prog w = .ok (.slice (some ⟨w.heap.size, 0, none⟩) L.length L.length) (w.alloc (.cells (madeCells #[.slice none 0 0] L.length) 66)) := fun w => by
    have := run_make (P := Try.prog) w 107 66 i (.slice none 0 0) Try.underlying107 hi hz .i64 .i64 (L.length : Int) (L.length : Int) (by omega) (by omega) (by rw [hb]; omega) (by omega)
    rw [hs] at this
    simpa [Value.cells] using this
  clear hi hz hs hb hx hR
  have R0 : MRel w w.heap.size (w.heap.size + 1) (w.heap.size + 2) L.length L L.length (.int .i64 0) (((w.alloc (.cells #[.func (.func 38) #[] #[]] 101)).alloc (.cells (madeCells #[.slice none 0 0] L.length) 66)).alloc (.cells #[.slice (some ⟨w.heap.size + 1, 0, none⟩) L.length L.length] 107)) := by
    have c0 : (w.alloc (.cells #[.func (.func 38) #[] #[]] 101)).cell? ⟨w.heap.size, 0, none⟩ = some (.func (.func 38) #[] #[]) := World.cell?_alloc_new w #[.func (.func 38) #[] #[]] 101 0
    refine ⟨0, fun _ => .slice none 0 0, rfl, Nat.zero_le _, rfl, past (past c0), ?_, fun k hk => past ?_, fun k => ?_, fun k l hk => absurd hk (Nat.not_lt_zero k), (((Turn.refl _ w).alloc _).alloc _).alloc _, by simp, ?_, ?_, ?_⟩
    · have := World.cell?_alloc_new ((w.alloc (.cells #[.func (.func 38) #[] #[]] 101)).alloc (.cells (madeCells #[.slice none 0 0] L.length) 66)) #[.slice (some ⟨w.heap.size + 1, 0, none⟩) L.length L.length] 107 0
      simpa using this
    · have := World.cell?_alloc_new (w.alloc (.cells #[.func (.func 38) #[] #[]] 101)) (madeCells #[.slice none 0 0] L.length) 66 k
      rw [World.size_alloc] at this
      refine this.trans ?_
      simp [madeCells, hk, Nat.mod_one]
    · rw [frozen?_alloc_cells, frozen?_alloc_cells, frozen?_alloc_cells]
      exact fz _ (by omega)
    · exact ((Blk.new w [.func (.func 38) #[] #[]] 101).turn ((Turn.refl (fun _ => False) _).alloc _) id).turn ((Turn.refl (fun _ => False) _).alloc _) id
    · have := Blk.new ((w.alloc (.cells #[.func (.func 38) #[] #[]] 101)).alloc (.cells (madeCells #[.slice none 0 0] L.length) 66)) [.slice (some ⟨w.heap.size + 1, 0, none⟩) L.length L.length] 107
      simpa using this
    · have := Blk.new (w.alloc (.cells #[.func (.func 38) #[] #[]] 101)) (madeCells #[.slice none 0 0] L.length).toList 66
      rw [World.size_alloc, Array.toArray_toList] at this
      exact this.turn ((Turn.refl (fun _ => False) _).alloc _) id
  go_enter Try.func37, Try.ntmps37
  go_wp2_with fail
  generalize ((w.alloc (.cells #[.func (.func 38) #[] #[]] 101)).alloc (.cells (madeCells #[.slice none 0 0] L.length) 66)).alloc (.cells #[.slice (some ⟨w.heap.size + 1, 0, none⟩) L.length L.length] 107) = W0 at *
  rw [show w.heap.size + 1 + 1 = w.heap.size + 2 from rfl]
  have ORD : w.heap.size < w.heap.size + 1 ∧ w.heap.size + 1 < w.heap.size + 2 := ⟨by omega, by omega⟩
  have ORD := Lib.hid (And.intro ORD (Nat.le_refl w.heap.size))
  go_loopg [13] L.length (fun gh v wr => MRel w w.heap.size (w.heap.size + 1) (w.heap.size + 2) L.length L gh v wr)
  case atStart => exact R0
  case round =>
    clear R0 hmk
    obtain ⟨i, f, rfl, hi, hg, c0, c1, cf, fr, ro, T, hz, hB⟩ := hrel
    by_cases hil : i < L.length
    · obtain rfl := e0.resolve_left (fun e => by rw [e] at hil; simp at hil)
      obtain ⟨l, hl⟩ : ∃ l, L[i]? = some l := ⟨_, List.getElem?_eq_getElem hil⟩
      obtain ⟨r, z, hr⟩ := HX.out.1 i l hl
      have ht1 : decide ((i : Int) < (L.length : Int)) = true := by simp; omega
      have hi1 : (i : Int) < (L.length : Int) := by omega
      have hi0 : (0 : Int) ≤ (i : Int) := by omega
      have y := T.cell id z
      have hr2 := hr.turn T
      have C := Lib.hid (fun W (t : Turn (fun _ => False) wr W) => clone_row (hr2.turn t) (HX.out.2 l (List.mem_of_getElem? hl)))
      obtain ⟨p1, _, _, p4, rfl, _⟩ := hr
      have cfi := cf i hil
      have fri := fr i
      have PUT := Lib.hid (fun (w5 : World) (v' : Value) (ho : w5.ownsRow wr.heap.size 73 3 v' l.length (hcells l)) (T5 : Turn (fun _ => False) wr w5) => mrel_put (w := w) (n := L.length) ORD.out.1.1 ORD.out.1.2 ORD.out.2 hil hl c0 c1 cf fr ro T hz hB ho T5)
      have G := Lib.hid hg
      have KEEP := Lib.hid (fun (w5 : World) (T5 : Turn (fun _ => False) wr w5) => And.intro (T5.cell id c1) (And.intro (T5.cell id cfi) ((World.frozen?_of_block (w := wr) (w' := w5) (a := ⟨w.heap.size + 1, i, none⟩) (T5.block (w.heap.size + 1) (by omega) id)).trans fri)))
      clear z hr2 hl cf fr ro T hz hg c0 hB
      have hne : w.heap.size + 1 ≠ w.heap.size + 2 := by omega
      generalize w.heap.size + 1 = hb at *
      generalize w.heap.size + 2 = kb at *
      go_wp2_with fail
      refine wp_region_held_drew (S := (fun w' => w'.cell? ⟨kb, 0, none⟩ = some (.slice (some ⟨hb, 0, none⟩) L.length L.length))) (by kernel_rfl) ?hs0 (fun hS0 => ?_)
      case hs0 => ((try dsimp only); first | with_reducible exact c1 | with_reducible exact q1 | exact c1 | exact q1 | exact (cell_far _ _ _ _ _ _ hne).trans q1 | exact (cell_far _ _ _ _ _ _ hne.symm).trans q1)
      refine wpAnyH_take (i := 0) (oi := { dst := some 18, op := Op.load 107 (Operand.tmp 5), type := 107, pos := "tuple.go:75", after := #[], guard := none }) (v := ?_) rfl (by kernel_rfl) (by kernel_rfl) (by kernel_rfl) (fun _ _ _ h => h) (Or.inl ⟨by rfl, ?hy1⟩) hS0 ?_
      case hy1 => (intro w hSw; (try dsimp only at hSw); go_simp; try with_reducible rfl)
      try simp only [Act.put, List.setIfInBounds_toArray, List.set_cons_zero, List.set_cons_succ]
      refine wpAnyH_take (i := 1) (oi := { dst := some 19, op := Op.move (Operand.tmp 6), type := 3, pos := "tuple.go:75", after := #[], guard := none }) (v := ?_) rfl (by kernel_rfl) (by kernel_rfl) (by kernel_rfl) (fun _ _ _ h => h) (Or.inl ⟨by rfl, ?hy2⟩) hS0 ?_
      case hy2 => (intro w hSw; (try dsimp only at hSw); go_simp; try with_reducible rfl)
      try simp only [Act.put, List.setIfInBounds_toArray, List.set_cons_zero, List.set_cons_succ]
      refine wpAnyH_take (i := 2) (oi := { dst := some 20, op := Op.move (Operand.tmp 7), type := 66, pos := "tuple.go:75", after := #[], guard := none }) (v := ?_) rfl (by kernel_rfl) (by kernel_rfl) (by kernel_rfl) (fun _ _ _ h => h) (Or.inl ⟨by rfl, ?hy3⟩) hS0 ?_
      case hy3 => (intro w hSw; (try dsimp only at hSw); go_simp; try with_reducible rfl)
      try simp only [Act.put, List.setIfInBounds_toArray, List.set_cons_zero, List.set_cons_succ]
      refine wpAnyH_ready (rs := [3]) (by kernel_rfl) (by simp) ?_
      refine AllReadyH.cons (o := { dst := some 21, op := Op.call { callee := Callee.value (Operand.func 44), args := #[Operand.tmp 20], argTypes := #[66] }, type := 66, pos := "tuple.go:75", after := #[{ on := 2, ground := Ground.data }], guard := none }) rfl (fun K hK => ?_) ?_
      · go_simp; with_reducible refine (C.out _ (show Turn (fun _ => False) wr wr.drew from (Turn.refl _ wr).drewN 1)).mono ?_; rintro e w5 ⟨v', rfl, ho, T5⟩; have T5 := (show Turn (fun _ => False) wr wr.drew from (Turn.refl _ wr).drewN 1).trans T5; have ho : w5.ownsRow wr.heap.size 73 3 v' l.length (hcells l) := (show wr.drew.heap.size = wr.heap.size from rfl) ▸ ho; obtain ⟨q1, q2, q3⟩ := KEEP.out _ T5; obtain ⟨pa, pc, rfl, _⟩ := own_slice ho; have FIN := Lib.hid (PUT.out _ _ ho T5); clear ho T5; go_simp
        refine hK.out _ _ ?hs4 (fun hS4 => ?_)
        case hs4 => ((try dsimp only); first | with_reducible exact c1 | with_reducible exact q1 | exact c1 | exact q1 | exact (cell_far _ _ _ _ _ _ hne).trans q1 | exact (cell_far _ _ _ _ _ _ hne.symm).trans q1)
        clear hK K hS0
        refine wpAnyH_take (i := 4) (oi := { dst := some 22, op := Op.indexAddr 107 (Operand.tmp 18) (Operand.tmp 19), type := 0, pos := "tuple.go:75", after := #[{ on := 0, ground := Ground.data }, { on := 1, ground := Ground.data }, { on := 0, ground := Ground.phase }, { on := 1, ground := Ground.phase }, { on := 2, ground := Ground.phase }, { on := 3, ground := Ground.phase }], guard := none }) (v := ?_) rfl (by kernel_rfl) (by kernel_rfl) (by kernel_rfl) (fun _ _ _ h => h) (Or.inl ⟨by rfl, ?hy5⟩) hS4 ?_
        case hy5 => (intro w hSw; (try dsimp only at hSw); go_simp; try with_reducible rfl)
        try simp only [Act.put, List.setIfInBounds_toArray, List.set_cons_zero, List.set_cons_succ]
        refine wpAnyH_ready (rs := [5]) (by kernel_rfl) (by simp) ?_
        refine AllReadyH.cons (o := { dst := none, op := Op.store 66 (Operand.tmp 22) (Operand.tmp 21), type := 0, pos := "tuple.go:75", after := #[{ on := 4, ground := Ground.data }, { on := 3, ground := Ground.data }, { on := 3, ground := Ground.chain }, { on := 0, ground := Ground.phase }, { on := 1, ground := Ground.phase }, { on := 2, ground := Ground.phase }, { on := 3, ground := Ground.phase }], guard := none }) rfl (fun K hK => ?_) ?_
        · go_simp
          refine hK.out _ _ ?hs6 (fun hS6 => ?_)
          case hs6 => ((try dsimp only); first | with_reducible exact c1 | with_reducible exact q1 | exact c1 | exact q1 | exact (cell_far _ _ _ _ _ _ hne).trans q1 | exact (cell_far _ _ _ _ _ _ hne.symm).trans q1)
          clear hK K hS4
          refine wpAnyH_done (by kernel_rfl) ?_ _
          go_wp2_with fail
          go_roundg (L.length - (i + 1))
          case measure => have := G.out; omega
          case rel => exact FIN.out
        exact AllReadyH.nil
      exact AllReadyH.nil
    · have ht1 : decide ((i : Int) < (L.length : Int)) = false := by simp; omega
      have F := Lib.hid (show MRel w w.heap.size (w.heap.size + 1) (w.heap.size + 2) L.length L 0 (.int .i64 (L.length : Int)) wr from ⟨i, f, by rw [show i = L.length by omega], hi, by omega, c0, c1, cf, fr, ro, T, hz, hB⟩)
      clear c0 c1 cf fr ro T hz hg hB
      go_wp2
      go_ret
      exact ⟨rfl, F.out⟩
end Go.Proofs.Ytepmealhnnoahaa
