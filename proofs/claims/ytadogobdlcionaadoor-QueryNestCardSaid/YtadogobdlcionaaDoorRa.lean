/-
  The parser's row of tokens: what stands next.
-/
import Derived.Test.YtadogobdlcionaaDoorPh
namespace Go.Proofs.YtadogobdlcionaaDoor
open Go.ChangeShapes Go.WideShapes Go.ChangeAt Go.RowKit
set_option linter.unusedVariables false
theorem toksC_at (s : ByteArray) : ∀ (L : List (Nat × Tok)) (i j : Nat) (x : Nat × Tok), L[i]? = some x → j < 4 → (toksC s L)[i * 4 + j]? = (tokC s x)[j]?
  | [], i, j, x, h, _ => by simp at h
  | y :: r, 0, j, x, h, hj => by
    simp at h
    subst h
    show (tokC s y ++ toksC s r)[0 * 4 + j]? = _
    rw [Nat.zero_mul, Nat.zero_add, List.getElem?_append_left (by show j < 4; exact hj)]
  | y :: r, i + 1, j, x, h, hj => by
    rw [List.getElem?_cons_succ] at h
    have IH := toksC_at s r i j x h hj
    show (tokC s y ++ toksC s r)[(i + 1) * 4 + j]? = _
    have hl : (tokC s y).length = 4 := rfl
    rw [List.getElem?_append_right (by rw [hl]; omega), hl, ← IH]
    congr 1
    omega
theorem tok_cells {w : World} {base n : Nat} {g : Nat} {cap : Nat} {s : ByteArray} {L : List (Nat × Tok)} (ho : w.ownsRow base 67 4 (.slice (some ⟨g, 0, none⟩) n cap) n (toksC s L)) (hL : L.length = n) {j : Nat} {x : Nat × Tok} (hx : L[j]? = some x) :
    w.cell? ⟨g, j * 4, none⟩ = some (.int .i64 (x.2.kind : Int)) ∧ w.cell? ⟨g, j * 4 + 1, none⟩ = some (.int .i64 (x.1 : Int)) ∧ w.cell? ⟨g, j * 4 + 2, none⟩ = some (.string (s.extract x.1 (x.1 + x.2.len))) ∧ w.cell? ⟨g, j * 4 + 3, none⟩ = some (.int .i64 (x.2.n : Int)) := by
  have hj : j < n := by rw [← hL]; exact (List.getElem?_eq_some_iff.1 hx).1
  refine ⟨?_, ?_, ?_, ?_⟩
  · have := ho.cellAt (j * 4 + 0) (by omega)
    rw [Nat.add_zero] at this
    exact this.trans ((toksC_at s L j 0 x hx (by omega)).trans rfl)
  · exact (ho.cellAt (j * 4 + 1) (by omega)).trans ((toksC_at s L j 1 x hx (by omega)).trans rfl)
  · exact (ho.cellAt (j * 4 + 2) (by omega)).trans ((toksC_at s L j 2 x hx (by omega)).trans rfl)
  · exact (ho.cellAt (j * 4 + 3) (by omega)).trans ((toksC_at s L j 3 x hx (by omega)).trans rfl)
/-- A parser in memory: its tokens, where it stands, the text's end, how deep it is. -/
structure ParAt (W : World) (p base : Nat) (s : ByteArray) (L : List (Nat × Tok)) (v : Value) (i e nest : Nat) : Prop where
  bl : Blk W p 43
  c0 : W.cell? ⟨p, 0, none⟩ = some v
  c1 : W.cell? ⟨p, 1, none⟩ = some (.int .i64 (i : Int))
  c2 : W.cell? ⟨p, 2, none⟩ = some (.int .i64 (e : Int))
  c3 : W.cell? ⟨p, 3, none⟩ = some (.int .i64 (nest : Int))
  row : W.ownsRow base 67 4 v L.length (toksC s L)
  le : L.length ≤ 200
theorem ParAt.turn {W W' : World} {p base : Nat} {s : ByteArray} {L : List (Nat × Tok)} {v : Value} {i e nest : Nat} (h : ParAt W p base s L v i e nest) (T : Turn (fun _ => False) W W') : ParAt W' p base s L v i e nest :=
  ⟨h.bl.turn T id, T.cell id h.c0, T.cell id h.c1, T.cell id h.c2, T.cell id h.c3, own_turn h.row T (fun _ _ f => f), h.le⟩
/-- It goes on to another place. -/
theorem ParAt.go {W : World} {p base : Nat} {s : ByteArray} {L : List (Nat × Tok)} {v : Value} {i e nest : Nat} (h : ParAt W p base s L v i e nest) (k : Nat) : ParAt (W.setCell ⟨p, 1, none⟩ (.int .i64 (k : Int))) p base s L v k e nest :=
  ⟨h.bl.set _ _, (cell_off _ _ _ _ _ (by decide)).trans h.c0, World.cell?_setCell_same _ _ _ h.c1, (cell_off _ _ _ _ _ (by decide)).trans h.c2, (cell_off _ _ _ _ _ (by decide)).trans h.c3,
    own_turn h.row (Turn.put W p 1 _) (fun k hk q => by
      obtain ⟨⟨cs, hb⟩, _⟩ := own_blk h.row hk
      obtain ⟨cs', hb'⟩ := h.bl
      rw [q, hb'] at hb
      cases hb), h.le⟩
/-- What a token that may be missing reads as. -/
def peekV (s : ByteArray) (L : List (Nat × Tok)) (i : Nat) : Value := match L[i]? with
  | some x => .agg (tokC s x).toArray
  | none => .agg ztok.toArray
theorem size67 : (Tryd.prog.info? 67).map (fun i => i.size) = some 4 := by kernel_rfl
/-- A token, or none, is written to the result. -/
theorem peek_end {w W : World} {b : Nat} {a : Act} (h : Turn (fun _ => False) w W ∧ W.rangeAt b 0 ztok ∧ Blk W b 67) (k i n : Int) (t : ByteArray) (ok : Bool) (hd : a.defers = []) (hp : a.tmps.getD 2 undef = .pointer (some ⟨b, 0, none⟩)) (hk : a.tmps.getD 3 undef = .bool ok) (hb : w.heap.size ≤ b) :
    bodyPost Tryd.prog Tryd.f24 (fun x w' => x = .returned (.tuple #[.agg (tokL k i n t).toArray, .bool ok]) ∧ Turn (fun _ => False) w w') Exit.ret a ((((W.setCell ⟨b, 0, none⟩ (.int .i64 k)).setCell ⟨b, 1, none⟩ (.int .i64 i)).setCell ⟨b, 2, none⟩ (.string t)).setCell ⟨b, 3, none⟩ (.int .i64 n)).drew :=
  have R2 := World.rangeAt_setCells_same W b 0 (tokL k i n t) (range_there h.2.1 rfl h.2.2)
  have TD : Turn (fun _ => False) (W.setCells b 0 (tokL k i n t)) (W.setCells b 0 (tokL k i n t)).drew := (Turn.refl _ _).drewN 1
  bodyPost_ret (v := .tuple #[.agg (tokL k i n t).toArray, .bool ok]) (res_cell_tmp (a := 2) (k := 3) rfl hp hk (run_loadVar_mid _ b 0 67 _ _ (range_turn R2 TD id) Tryd.underlying67 rfl size67)) hd ⟨rfl, (Turn.setCells (tokL k i n t) 0 h.1 (.inr hb)).trans TD⟩
theorem peek_end2 {w W : World} {b : Nat} {a : Act} (h : Turn (fun _ => False) w W ∧ W.rangeAt b 0 ztok ∧ Blk W b 67) (k i n : Int) (t : ByteArray) (ok : Bool) (hd : a.defers = []) (hp : a.tmps.getD 2 undef = .pointer (some ⟨b, 0, none⟩)) (hk : a.tmps.getD 3 undef = .bool ok) (hb : w.heap.size ≤ b) :
    bodyPost Tryd.prog Tryd.f24 (fun x w' => x = .returned (.tuple #[.agg (tokL k i n t).toArray, .bool ok]) ∧ Turn (fun _ => False) w w') Exit.ret a ((((W.setCell ⟨b, 0, none⟩ (.int .i64 k)).setCell ⟨b, 1, none⟩ (.int .i64 i)).setCell ⟨b, 2, none⟩ (.string t)).setCell ⟨b, 3, none⟩ (.int .i64 n)).drew.drew :=
  have R2 := World.rangeAt_setCells_same W b 0 (tokL k i n t) (range_there h.2.1 rfl h.2.2)
  have TD : Turn (fun _ => False) (W.setCells b 0 (tokL k i n t)) (W.setCells b 0 (tokL k i n t)).drew.drew := ((Turn.refl _ _).drewN 1).drewN 1
  bodyPost_ret (v := .tuple #[.agg (tokL k i n t).toArray, .bool ok]) (res_cell_tmp (a := 2) (k := 3) rfl hp hk (run_loadVar_mid _ b 0 67 _ _ (range_turn R2 TD id) Tryd.underlying67 rfl size67)) hd ⟨rfl, (Turn.setCells (tokL k i n t) 0 h.1 (.inr hb)).trans TD⟩
set_option maxRecDepth 100000 in
set_option maxHeartbeats 2000000 in
theorem peek_none (w : World) {p base : Nat} {s : ByteArray} {L : List (Nat × Tok)} {v : Value} {i e nest : Nat} (h : ParAt w p base s L v i e nest) (hi : L.length ≤ i) :
    Calls Tryd.prog 24 #[.pointer (some ⟨p, 0, none⟩)] w fun x w' => x = .returned (.tuple #[.agg ztok.toArray, .bool false]) ∧ Turn (fun _ => False) w w' := by
  obtain ⟨a, c, rfl, -⟩ := own_slice h.row
  obtain ⟨W, hW⟩ : ∃ W, W = w.alloc (.cells ztok.toArray 67) := ⟨_, rfl⟩
  have T := show Turn (fun _ => False) w W by rw [hW]; exact (Turn.refl _ _).alloc _
  have R := range_new w ztok 67
  have B := Blk.new w ztok 67
  rw [← hW] at R B
  have c0 := T.cell id h.c0
  have c1 := T.cell id h.c1
  have u1 : decide ((i : Int) < (L.length : Int)) = false := decide_eq_false (by omega)
  have u2 : decide (i < L.length) = false := decide_eq_false (by omega)
  have HH := Lib.hid (And.intro T (And.intro R B))
  have HW := Lib.hid (show W = w.alloc (.cells #[.int .i64 0, .int .i64 0, .string ⟨#[]⟩, .int .i64 0] 67) from hW)
  have TA : Turn (fun _ => False) W (W.alloc (.cells #[.int .i64 0, .int .i64 0, .string ⟨#[]⟩, .int .i64 0] 67)) := (Turn.refl _ _).alloc _
  have RA := range_turn R TA id
  have y0 : (W.alloc (.cells #[.int .i64 0, .int .i64 0, .string ⟨#[]⟩, .int .i64 0] 67)).cell? ⟨w.heap.size, 0, none⟩ = some (.int .i64 0) := RA 0 _ rfl
  have y1 : (W.alloc (.cells #[.int .i64 0, .int .i64 0, .string ⟨#[]⟩, .int .i64 0] 67)).cell? ⟨w.heap.size, 1, none⟩ = some (.int .i64 0) := RA 1 _ rfl
  have y2 : (W.alloc (.cells #[.int .i64 0, .int .i64 0, .string ⟨#[]⟩, .int .i64 0] 67)).cell? ⟨w.heap.size, 2, none⟩ = some (.string ⟨#[]⟩) := RA 2 _ rfl
  have y3 : (W.alloc (.cells #[.int .i64 0, .int .i64 0, .string ⟨#[]⟩, .int .i64 0] 67)).cell? ⟨w.heap.size, 3, none⟩ = some (.int .i64 0) := RA 3 _ rfl
  have ff := (B.turn TA id).fz
  have FIN := Lib.hid (And.intro (T.trans TA) (And.intro RA (B.turn TA id)))
  clear T R B hW h hi TA RA
  generalize L.length = n at *
  go_enter Tryd.func24, Tryd.ntmps24
  go_upto_region 1 with fail
  rw [← HW.out]
  clear HW
  go_region
  all_goals go_wp2_with fail
  all_goals exact peek_end FIN.out 0 0 0 ⟨#[]⟩ false rfl rfl rfl (Nat.le_refl _)
set_option maxRecDepth 100000 in
set_option maxHeartbeats 4000000 in
theorem peek_some (w : World) {p base : Nat} {s : ByteArray} {L : List (Nat × Tok)} {v : Value} {i e nest : Nat} (h : ParAt w p base s L v i e nest) {x : Nat × Tok} (hx : L[i]? = some x) :
    Calls Tryd.prog 24 #[.pointer (some ⟨p, 0, none⟩)] w fun y w' => y = .returned (.tuple #[.agg (tokC s x).toArray, .bool true]) ∧ Turn (fun _ => False) w w' := by
  have hi := (List.getElem?_eq_some_iff.1 hx).1
  obtain ⟨a, c, rfl, hg⟩ := own_slice h.row
  obtain ⟨g, rfl⟩ := hg (by omega)
  obtain ⟨W, hW⟩ : ∃ W, W = w.alloc (.cells ztok.toArray 67) := ⟨_, rfl⟩
  have T := show Turn (fun _ => False) w W by rw [hW]; exact (Turn.refl _ _).alloc _
  have R := range_new w ztok 67
  have B := Blk.new w ztok 67
  rw [← hW] at R B
  obtain ⟨q0, q1, q2, q3⟩ := tok_cells h.row rfl hx
  replace q0 := T.cell id q0
  replace q1 := T.cell id q1
  replace q2 := T.cell id q2
  replace q3 := T.cell id q3
  have c0 := T.cell id h.c0
  have c1 := T.cell id h.c1
  have u1 : decide ((i : Int) < (L.length : Int)) = true := decide_eq_true (by omega)
  have u2 : decide (i < L.length) = true := decide_eq_true hi
  have i0 : (0 : Int) ≤ (i : Int) := Int.natCast_nonneg i
  have i1 : (i : Int) < (L.length : Int) := Int.ofNat_lt.2 hi
  have y0 : W.cell? ⟨w.heap.size, 0, none⟩ = some (.int .i64 0) := R 0 _ rfl
  have y1 : W.cell? ⟨w.heap.size, 1, none⟩ = some (.int .i64 0) := R 1 _ rfl
  have y2 : W.cell? ⟨w.heap.size, 2, none⟩ = some (.string ⟨#[]⟩) := R 2 _ rfl
  have y3 : W.cell? ⟨w.heap.size, 3, none⟩ = some (.int .i64 0) := R 3 _ rfl
  have ff := B.fz
  have np : p ≠ w.heap.size := fun q => by have := h.bl.lt; omega
  have ng : g ≠ w.heap.size := fun q => by have := (own_blk h.row (k := g) rfl).1.lt; omega
  have FIN := Lib.hid (And.intro T (And.intro R B))
  have HW := Lib.hid (show W = w.alloc (.cells #[.int .i64 0, .int .i64 0, .string ⟨#[]⟩, .int .i64 0] 67) from hW)
  clear T R B hW h hi hx
  unfold tokC
  generalize s.extract x.1 (x.1 + x.2.len) = tx at *
  generalize L.length = n at *
  go_enter Tryd.func24, Tryd.ntmps24
  go_upto_region 1 with fail
  rw [← HW.out]
  clear HW
  go_region
  all_goals go_wp2_with fail
  all_goals (try go_region)
  all_goals (try go_wp2_with fail)
  all_goals exact peek_end2 FIN.out x.2.kind x.1 x.2.n tx true rfl rfl rfl (Nat.le_refl _)
end Go.Proofs.YtadogobdlcionaaDoor
