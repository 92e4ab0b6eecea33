/-
  A table copied: contracts for the walks of the statements of layer 15.
-/
import Derived.WalkSpells
import Derived.Test.YtbpcocobimdcnaaRb
namespace Go.Proofs.Ytbpcocobimdcnaa
open Go.ChangeShapes Go.WideShapes Go.ChangeAt Go.RowKit
set_option linter.unusedVariables false

set_option maxRecDepth 100000 in
theorem place_is {w : World} {p : Option Addr} {l : List EV} (h : RollAt w p l) (hs : Sorted l) (x : Int) :
    Calls Try.prog 19 #[.pointer p, .int .i64 x] w fun e w' => ∃ i : Nat, e = .returned (.tuple #[.int .i64 (i : Int), .bool (foundB l x i)]) ∧ IsPlace l x i ∧ Turn (fun _ => False) w w' := by
  have R := Lib.hid (row_is h)
  have SS := Lib.hid (fun (v : Value) (hr : ERow w v l) => search_is hr hs x)
  clear h hs
  go_enter Try.func19, Try.ntmps19
  go_wp2_with fail
  refine R.out.mono ?_
  rintro e w1 ⟨v, rfl, hr, rfl⟩
  have S2 := Lib.hid (SS.out v hr)
  clear hr SS R
  go_wp2_with fail
  refine S2.out.mono ?_
  rintro e w2 ⟨i, rfl, hp, T⟩
  have F := Lib.hid (And.intro hp T)
  clear hp T S2
  go_wp2
  go_ret2
  exact ⟨i, rfl, F.out⟩
/-- A table of no cell, or of one that is plain. -/
def PlainTab (B : Nat) (w : World) (cs : Value) (o : Option Int) : Prop := match o with
  | none => cs = .slice none 0 0
  | some t => ∃ (cb c : Nat), B ≤ cb ∧ cs = .slice (some ⟨cb, 0, none⟩) 1 c ∧ w.cell? ⟨cb, 0, none⟩ = some (.int .i64 t) ∧ w.cell? ⟨cb, 1, none⟩ = some (.bool false) ∧ w.cell? ⟨cb, 2, none⟩ = some (.slice none 0 0) ∧ w.cell? ⟨cb, 3, none⟩ = some (.slice none 0 0)
theorem PlainTab.turn {B : Nat} {w w' : World} {cs : Value} {o : Option Int} (h : PlainTab B w cs o) (t : Turn (fun _ => False) w w') : PlainTab B w' cs o := by
  cases o with
  | none => exact h
  | some x =>
    obtain ⟨cb, c, hB, e, h0, h1, h2, h3⟩ := h
    exact ⟨cb, c, hB, e, t.cell (fun f => f) h0, t.cell (fun f => f) h1, t.cell (fun f => f) h2, t.cell (fun f => f) h3⟩
set_option maxRecDepth 100000 in
theorem rules0 (w : World) (f : Value) : Calls Try.prog 41 #[.slice none 0 0, f] w fun e w' => e = .returned (.slice none 0 0) ∧ w = w' := by
  have HE := fun w => Lib.run_eql_slice_nil (P := Try.prog) w 62 91 none 0 0 0 0 Try.underlying62
  go_enter Try.func41, Try.ntmps41
  go_wp2
  go_ret
  exact ⟨rfl, rfl⟩
set_option maxRecDepth 100000 in
theorem rules_nil (w : World) : Calls Try.prog 34 #[.slice none 0 0] w fun e w' => e = .returned (.slice none 0 0) ∧ w = w' := by
  have C := Lib.hid rules0
  go_enter Try.func34, Try.ntmps34
  go_wp2_with fail
  refine (C.out _ _).mono ?_
  rintro e w1 ⟨rfl, rfl⟩
  go_wp2
  go_ret
  exact ⟨rfl, rfl⟩
set_option maxRecDepth 100000 in
theorem nots_nil (w : World) (f : Value) : Calls Try.prog 35 #[.slice none 0 0, f] w fun e w' => e = .returned (.slice none 0 0) ∧ w = w' := by
  have HE := fun w => Lib.run_eql_slice_nil (P := Try.prog) w 63 81 none 0 0 0 0 Try.underlying63
  go_enter Try.func35, Try.ntmps35
  go_wp2
  go_ret
  exact ⟨rfl, rfl⟩
set_option maxRecDepth 100000 in
theorem cell_is (w : World) (t : Int) : Calls Try.prog 33 #[.agg #[.int .i64 t, .bool false, .slice none 0 0, .slice none 0 0]] w fun e w' => e = .returned (.agg #[.int .i64 t, .bool false, .slice none 0 0, .slice none 0 0]) ∧ Below w.heap.size w w' := by
  have C := Lib.hid (And.intro rules_nil nots_nil)
  go_enter Try.func33, Try.ntmps33
  go_wp2_with fail
  refine (C.out.1 _).mono ?_
  rintro e w1 ⟨rfl, rfl⟩
  go_wp2_with fail
  refine (C.out.2 _ _).mono ?_
  rintro e w1 ⟨rfl, rfl⟩
  go_wp2
  refine bodyPost_ret (v := .agg #[.int .i64 t, .bool false, .slice none 0 0, .slice none 0 0]) (by simp [results, Try.results33, go_sem]) rfl ⟨rfl, ?_⟩
  exact ((Below.refl _ _).alloc (Nat.le_refl _) _).alloc (by simp) _
theorem info65 : (Try.prog.info? 65).map (fun i => (i.zero, i.size, i.bytes)) = some (some (.agg #[.int .i64 0, .bool false, .slice none 0 0, .slice none 0 0]), 4, 64) := by kernel_rfl
def EcRel (w : World) (t : Int) (gh : Nat) (v : Value) (wr : World) : Prop :=
  (v = .int .i64 0 ∧ gh = 1 ∧ wr = w.alloc (.cells #[.int .i64 0, .bool false, .slice none 0 0, .slice none 0 0] 65)) ∨
  (v = .int .i64 1 ∧ gh = 0 ∧ PlainTab w.heap.size wr (.slice (some ⟨w.heap.size, 0, none⟩) 1 1) (some t) ∧ Turn (fun _ => False) w wr)
set_option maxRecDepth 100000 in
set_option maxHeartbeats 2000000 in
theorem each_some {w : World} {cb c : Nat} {t : Int} (h : PlainTab 0 w (.slice (some ⟨cb, 0, none⟩) 1 c) (some t)) :
    Calls Try.prog 32 #[.slice (some ⟨cb, 0, none⟩) 1 c, .func (.func 33) #[] #[]] w fun e w' => ∃ cs, e = .returned cs ∧ PlainTab w.heap.size w' cs (some t) ∧ Turn (fun _ => False) w w' := by
  obtain ⟨cb', c', _, e, h0, h1, h2, h3⟩ := h
  injection e with e _ e'
  injection e with e
  injection e with e
  subst e
  subst e'
  obtain ⟨i, hi, hz, hs, hb⟩ := info_parts info65
  have hmk : ∀ w, (Instr.makeSlice 36 (.int .i64 1) (.int .i64 1)).run Try.prog w = .ok (.slice (some ⟨w.heap.size, 0, none⟩) 1 1) (w.alloc (.cells #[.int .i64 0, .bool false, .slice none 0 0, .slice none 0 0] 65)) := fun w => by
    have := run_make (P := Try.prog) w 36 65 i (.agg #[.int .i64 0, .bool false, .slice none 0 0, .slice none 0 0]) Try.underlying36 hi hz .i64 .i64 1 1 (by omega) (by omega) (by rw [hb]; omega) (by omega)
    rw [hs] at this
    have em : madeCells (Value.agg #[.int .i64 0, .bool false, .slice none 0 0, .slice none 0 0]).cells (Int.toNat 1 * 4) = #[.int .i64 0, .bool false, .slice none 0 0, .slice none 0 0] := by
      apply Array.ext_getElem?
      intro k
      match k with
      | 0 => simp [madeCells, Value.cells]
      | 1 => simp [madeCells, Value.cells]
      | 2 => simp [madeCells, Value.cells]
      | 3 => simp [madeCells, Value.cells]
      | k + 4 => simp [madeCells, Value.cells]
    rw [em] at this
    exact this
  have HE := fun w => Lib.run_eql_slice_nil (P := Try.prog) w 36 65 (some ⟨cb, 0, none⟩) 1 c 0 0 Try.underlying36
  have C := Lib.hid cell_is
  have R0 : EcRel w t 1 (.int .i64 0) (w.alloc (.cells #[.int .i64 0, .bool false, .slice none 0 0, .slice none 0 0] 65)) := .inl ⟨rfl, rfl, rfl⟩
  clear hi hz hs hb
  go_enter Try.func32, Try.ntmps32
  go_wp2_with fail
  go_loopg [15] 1 (fun gh v15 wr => EcRel w t gh v15 wr)
  case atStart => exact R0
  case round =>
    clear R0 hmk
    rcases hrel with ⟨rfl, hg, hw⟩ | ⟨rfl, hg, hp, T⟩
    · have T0 : Turn (fun _ => False) w wr := by rw [hw]; exact (Turn.refl _ _).alloc _
      have y0 := T0.cell (fun f => f) h0
      have y1 := T0.cell (fun f => f) h1
      have y2 := T0.cell (fun f => f) h2
      have y3 := T0.cell (fun f => f) h3
      have n0 : wr.cell? ⟨w.heap.size, 0, none⟩ = some (.int .i64 0) := by rw [hw]; exact World.cell?_alloc_new w _ 65 0
      have n1 : wr.cell? ⟨w.heap.size, 1, none⟩ = some (.bool false) := by rw [hw]; exact World.cell?_alloc_new w _ 65 1
      have n2 : wr.cell? ⟨w.heap.size, 2, none⟩ = some (.slice none 0 0) := by rw [hw]; exact World.cell?_alloc_new w _ 65 2
      have n3 : wr.cell? ⟨w.heap.size, 3, none⟩ = some (.slice none 0 0) := by rw [hw]; exact World.cell?_alloc_new w _ 65 3
      have fr : ∀ j, wr.frozen? ⟨w.heap.size, j, none⟩ = false := fun j => by rw [hw, frozen?_alloc_cells]; exact fz _ (Nat.le_refl _)
      have f0 := fr 0
      have f1 := fr 1
      have f2 := fr 2
      have f3 := fr 3
      have TT := Lib.hid T0
      have G := Lib.hid hg
      have NN := Lib.hid (And.intro n0 (And.intro n1 (And.intro n2 (And.intro n3 fr))))
      clear h0 h1 h2 h3 T0 hg hw fr
      go_wp2_with fail
      refine (C.out _ _).mono ?_
      rintro e w2 ⟨rfl, hb⟩
      have T2 : Turn (fun _ => False) wr w2 := ((Turn.refl _ wr).alloc _).trans (Turn.of_below hb)
      have z0 := T2.cell (fun f => f) NN.out.1
      have z1 := T2.cell (fun f => f) NN.out.2.1
      have z2 := T2.cell (fun f => f) NN.out.2.2.1
      have z3 := T2.cell (fun f => f) NN.out.2.2.2.1
      have gf : ∀ j, w2.frozen? ⟨w.heap.size, j, none⟩ = false := fun j => (World.frozen?_of_block (w := wr) (w' := w2) (a := ⟨w.heap.size, j, none⟩) (T2.block w.heap.size (block_lt_of_cell NN.out.1) (fun f => f))).trans (NN.out.2.2.2.2 j)
      have g0 := gf 0
      have g1 := gf 1
      have g2 := gf 2
      have g3 := gf 3
      have T22 := Lib.hid (TT.out.trans T2)
      clear hb T2 gf y0 y1 y2 y3 n0 n1 n2 n3 f0 f1 f2 f3
      have FIN := Lib.hid (show EcRel w t 0 (.int .i64 1) ((((w2.setCell ⟨w.heap.size, 0, none⟩ (.int .i64 t)).setCell ⟨w.heap.size, 1, none⟩ (.bool false)).setCell ⟨w.heap.size, 2, none⟩ (.slice none 0 0)).setCell ⟨w.heap.size, 3, none⟩ (.slice none 0 0)) from .inr ⟨rfl, rfl,
        ⟨w.heap.size, 1, Nat.le_refl _, rfl, by rw [cell_off _ _ _ _ _ (by decide), cell_off _ _ _ _ _ (by decide), cell_off _ _ _ _ _ (by decide)]; exact World.cell?_setCell_same _ _ _ z0,
          by rw [cell_off _ _ _ _ _ (by decide), cell_off _ _ _ _ _ (by decide)]; exact World.cell?_setCell_same _ _ _ (by rw [cell_off _ _ _ _ _ (by decide)]; exact z1),
          by rw [cell_off _ _ _ _ _ (by decide)]; exact World.cell?_setCell_same _ _ _ (by rw [cell_off _ _ _ _ _ (by decide), cell_off _ _ _ _ _ (by decide)]; exact z2),
          World.cell?_setCell_same _ _ _ (by rw [cell_off _ _ _ _ _ (by decide), cell_off _ _ _ _ _ (by decide), cell_off _ _ _ _ _ (by decide)]; exact z3)⟩,
        ((((T22.out.setCell (p := ⟨w.heap.size, 0, none⟩) (.inr (Nat.le_refl _)) _).setCell (p := ⟨w.heap.size, 1, none⟩) (.inr (Nat.le_refl _)) _).setCell (p := ⟨w.heap.size, 2, none⟩) (.inr (Nat.le_refl _)) _).setCell (p := ⟨w.heap.size, 3, none⟩) (.inr (Nat.le_refl _)) _)⟩)
      go_wp2_with fail
      go_roundg 0
      case measure => have := G.out; omega
      case rel => exact FIN.out
    · obtain ⟨cb', c', hB, e, x0, x1, x2, x3⟩ := hp
      have F := Lib.hid (show PlainTab w.heap.size wr (.slice (some ⟨w.heap.size, 0, none⟩) 1 1) (some t) ∧ Turn (fun _ => False) w wr from ⟨⟨cb', c', hB, e, x0, x1, x2, x3⟩, T⟩)
      clear hB e x0 x1 x2 x3 T hg h0 h1 h2 h3
      go_wp2
      go_ret
      exact ⟨_, rfl, F.out⟩
set_option maxRecDepth 100000 in
theorem each_none (w : World) (f : Value) : Calls Try.prog 32 #[.slice none 0 0, f] w fun e w' => e = .returned (.slice none 0 0) ∧ w = w' := by
  have HE := fun w => Lib.run_eql_slice_nil (P := Try.prog) w 36 65 none 0 0 0 0 Try.underlying36
  go_enter Try.func32, Try.ntmps32
  go_wp2
  go_ret
  exact ⟨rfl, rfl⟩
theorem each_any {w : World} {cs : Value} {o : Option Int} (h : PlainTab 0 w cs o) :
    Calls Try.prog 32 #[cs, .func (.func 33) #[] #[]] w fun e w' => ∃ cs', e = .returned cs' ∧ PlainTab w.heap.size w' cs' o ∧ Turn (fun _ => False) w w' := by
  cases o with
  | none =>
    have h' : cs = .slice none 0 0 := h
    rw [h']
    exact (each_none w _).mono fun e w' ⟨h1, h2⟩ => ⟨_, h1, rfl, by rw [← h2]; exact Turn.refl _ _⟩
  | some t =>
    obtain ⟨cb, c, _, rfl, h1⟩ := id h
    exact each_some h
theorem plain_slice {B : Nat} {w : World} {cs : Value} {o : Option Int} (h : PlainTab B w cs o) : ∃ a n c, cs = .slice a n c := by
  cases o with
  | none => exact ⟨_, _, _, h⟩
  | some t =>
    obtain ⟨cb, c, _, e, _⟩ := h
    exact ⟨_, _, _, e⟩
set_option maxRecDepth 100000 in
set_option maxHeartbeats 2000000 in
/-- A table copied: its cells lie in new memory. -/
theorem table_is {w : World} {cs : Value} {o : Option Int} {win : Int} (h : PlainTab 0 w cs o) :
    Calls Try.prog 21 #[.agg #[cs, .int .i64 win, .bool false]] w fun e w' => ∃ cs', e = .returned (.agg #[cs', .int .i64 win, .bool false]) ∧ PlainTab w.heap.size w' cs' o ∧ Turn (fun _ => False) w w' := by
  obtain ⟨a, n, c, rfl⟩ := plain_slice h
  have E := Lib.hid (fun (W : World) (t : Turn (fun _ => False) w W) => each_any (h.turn t))
  clear h
  go_enter Try.func21, Try.ntmps21
  go_wp2_with fail
  have T0 : Turn (fun _ => False) w ((w.alloc (.cells #[.slice a n c, .int .i64 win, .bool false] 38)).alloc (.cells #[.slice none 0 0, .int .i64 0, .bool false] 38)) := ((Turn.refl _ w).alloc _).alloc _
  obtain ⟨W1, hW1⟩ : ∃ W1, W1 = (w.alloc (.cells #[.slice a n c, .int .i64 win, .bool false] 38)).alloc (.cells #[.slice none 0 0, .int .i64 0, .bool false] 38) := ⟨_, rfl⟩
  have p0 : ∀ (j : Nat) (v : Value), #[Value.slice a n c, .int .i64 win, .bool false][j]? = some v → W1.cell? ⟨w.heap.size, j, none⟩ = some v := fun j v h => by rw [hW1]; exact past ((World.cell?_alloc_new w _ 38 j).trans h)
  have p1 : ∀ (j : Nat) (v : Value), #[Value.slice none 0 0, .int .i64 0, .bool false][j]? = some v → W1.cell? ⟨w.heap.size + 1, j, none⟩ = some v := fun j v h => by
    rw [hW1]
    have := World.cell?_alloc_new (w.alloc (.cells #[.slice a n c, .int .i64 win, .bool false] 38)) #[.slice none 0 0, .int .i64 0, .bool false] 38 j
    rw [World.size_alloc] at this
    exact this.trans h
  have q0 : ∀ j, W1.frozen? ⟨w.heap.size, j, none⟩ = false := fun j => by rw [hW1, frozen?_alloc_cells, frozen?_alloc_cells]; exact fz _ (Nat.le_refl _)
  have q1 : ∀ j, W1.frozen? ⟨w.heap.size + 1, j, none⟩ = false := fun j => by rw [hW1, frozen?_alloc_cells, frozen?_alloc_cells]; exact fz _ (by omega)
  have zW : W1.heap.size = w.heap.size + 2 := by rw [hW1]; simp
  have E1 := Lib.hid (E.out _ T0)
  rw [← hW1] at T0 E1 ⊢
  clear hW1 E
  refine E1.out.mono ?_
  rintro e w1 ⟨cs', rfl, hp, T⟩
  have x0 := T.cell (fun f => f) (p0 0 _ rfl)
  have x1 := T.cell (fun f => f) (p0 1 _ rfl)
  have x2 := T.cell (fun f => f) (p0 2 _ rfl)
  have y0 := T.cell (fun f => f) (p1 0 _ rfl)
  have y1 := T.cell (fun f => f) (p1 1 _ rfl)
  have y2 := T.cell (fun f => f) (p1 2 _ rfl)
  have fr : ∀ b j, b < W1.heap.size → W1.frozen? ⟨b, j, none⟩ = false → w1.frozen? ⟨b, j, none⟩ = false := fun b j hb h => (World.frozen?_of_block (w := W1) (w' := w1) (a := ⟨b, j, none⟩) (T.block b hb (fun f => f))).trans h
  have g0 := fr w.heap.size 0 (by omega) (q0 0)
  have k0 := fr (w.heap.size + 1) 0 (by omega) (q1 0)
  have k1 := fr (w.heap.size + 1) 1 (by omega) (q1 1)
  have k2 := fr (w.heap.size + 1) 2 (by omega) (q1 2)
  obtain ⟨a', n', c', rfl⟩ := plain_slice hp
  have FIN := Lib.hid (show ∀ (W : World), Turn (fun b => b = w.heap.size ∨ b = w.heap.size + 1) w1 W → PlainTab w.heap.size W (.slice a' n' c') o ∧ Turn (fun _ => False) w W from fun W t => by
    refine ⟨?_, (T0.trans T).comp t (fun b hb e => by omega)⟩
    cases o with
    | none => exact hp
    | some x =>
      obtain ⟨cb, c, hB, e, h0, h1, h2, h3⟩ := hp
      have nb : ¬ (cb = w.heap.size ∨ cb = w.heap.size + 1) := by omega
      exact ⟨cb, c, by omega, e, t.cell nb h0, t.cell nb h1, t.cell nb h2, t.cell nb h3⟩)
  clear E1 p0 p1 q0 q1 fr T hp T0
  go_wp2
  refine bodyPost_ret (v := .agg #[.slice a' n' c', .int .i64 win, .bool false]) (by simp [results, Try.results21, go_sem, cell_off, y0, y1, y2]) rfl ⟨_, rfl, FIN.out _ ?_⟩
  exact ((((Turn.refl _ w1).setCell (.inl (.inl rfl)) _).setCell (.inl (.inr rfl)) _).setCell (.inl (.inr rfl)) _).setCell (.inl (.inr rfl)) _
end Go.Proofs.Ytbpcocobimdcnaa
