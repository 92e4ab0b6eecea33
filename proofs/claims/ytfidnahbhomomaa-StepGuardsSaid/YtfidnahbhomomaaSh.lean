/-
  Is an event taken at a cell, and is it one that must not come behind it?
-/
import Derived.Test.YtfidnahbhomomaaSg
import Derived.Test.YtfidnahbhomomaaRe
namespace Go.Proofs.Ytfidnahbhomomaa
open Go.ChangeShapes Go.WideShapes Go.ChangeAt Go.RowKit
set_option linter.unusedVariables false
set_option linter.unusedSimpArgs false
/-- Rows of events that a run has: none is empty. -/
def ESOk (L : List (List Ev)) : Prop := (1 ≤ L.length ∧ L.length ≤ 100) ∧ ∀ (k : Nat) (l : List Ev), L[k]? = some l → 1 ≤ l.length ∧ l.length ≤ 10000
theorem with_is {w : World} {ev : Value} {L : List (List Ev)} {at_ : Nat} {e : Ev} (h : ESetsAt w ev L) (ok : ESOk L) (ha : at_ ≤ 100) :
    Calls Try.prog 55 #[ev, .int .i64 (at_ : Int), .agg e.cells.toArray] w fun en w' => ∃ v, en = .returned v ∧ ESetsAt w' v (withE L at_ e) ∧ Turn (fun _ => False) w w' := by
  by_cases hl : at_ < L.length
  · obtain ⟨l, hl⟩ : ∃ l, L[at_]? = some l := ⟨_, List.getElem?_eq_getElem hl⟩
    exact with_some h ok.1 ha hl (ok.2 at_ l hl)
  · exact with_none h ok.1 ha (Nat.not_lt.1 hl)
theorem withE_ok {L : List (List Ev)} {at_ : Nat} {e : Ev} (ok : ESOk L) (ha : at_ ≤ 100) : XOk (withE L at_ e) := by
  refine ⟨by rw [withE_len]; have := ok.1.2; omega, fun l hl => ?_⟩
  obtain ⟨k, hk⟩ := List.mem_iff_getElem?.1 hl
  have hlen : ∀ m ∈ L, m.length ≤ 10000 := fun m hm => by
    obtain ⟨q, hq⟩ := List.mem_iff_getElem?.1 hm
    exact (ok.2 q m hq).2
  unfold withE at hk
  by_cases e1 : at_ = k
  · subst e1
    rw [List.getElem?_set_self (by rw [List.length_append, List.length_replicate]; omega)] at hk
    cases hk
    rw [List.length_append, List.getD_eq_getElem?_getD]
    cases hq : L[at_]? with
    | none => simp
    | some m => have := hlen m (List.mem_of_getElem? hq); simp; omega
  · rw [List.getElem?_set_ne e1] at hk
    rcases List.mem_append.1 (List.mem_of_getElem? hk) with h | h
    · have := hlen l h; omega
    · rw [(List.mem_replicate.1 h).2]; simp
set_option maxRecDepth 100000 in
set_option maxHeartbeats 4000000 in
theorem taken_is {w : World} {cv ev : Value} {T : Tab} {e : Ev} {L : List (List Ev)} {at_ : Nat} {c : Cel} {P : Int → Prop} (h : CellsAt w cv T.cells) (hc : T.cells[at_]? = some c) (hro : RulesOk P c.rules) (ha : at_ ≤ 100) (hs : ESetsAt w ev L) (ok : ESOk L) :
    Calls Try.prog 31 #[.agg #[cv, .int .i64 T.win, .bool T.key], .agg e.cells.toArray, .int .i64 (at_ : Int), ev] w fun en w' => en = .returned (.bool (e.typ == c.typ && allR (withE L at_ e) c.rules)) ∧ Turn (fun _ => False) w w' := by
  obtain ⟨b, off, cap, rfl⟩ := h.sl
  obtain ⟨rv, nv, hl, hrr, hgn⟩ := h.at hc
  obtain ⟨cra, crc, rfl⟩ := hrr.sl
  obtain ⟨gna, gnc, rfl⟩ := hgn.sl
  obtain ⟨W0, hW0⟩ : ∃ W0, W0 = (w.alloc (.cells #[.slice (some ⟨b, off, none⟩) T.cells.length cap, .int .i64 T.win, .bool T.key] 26)).alloc (.cells e.cells.toArray 62) := ⟨_, rfl⟩
  have T0 : Turn (fun _ => False) w W0 := by rw [hW0]; exact ((Turn.refl _ w).alloc _).alloc _
  have R1 : W0.rangeAt w.heap.size 0 [.slice (some ⟨b, off, none⟩) T.cells.length cap, .int .i64 T.win, .bool T.key] := by
    rw [hW0]
    exact range_turn (range_new w [.slice (some ⟨b, off, none⟩) T.cells.length cap, .int .i64 T.win, .bool T.key] 26) ((Turn.refl (fun _ => False) _).alloc _) id
  have R2 : W0.rangeAt (w.heap.size + 1) 0 e.cells := by
    rw [hW0]
    have := range_new (w.alloc (.cells #[.slice (some ⟨b, off, none⟩) T.cells.length cap, .int .i64 T.win, .bool T.key] 26)) e.cells 62
    rw [World.size_alloc] at this
    exact this
  have hl0 := range_turn hl T0 id
  obtain ⟨W, hW⟩ : ∃ W, W = W0.alloc (.cells #[.int .i64 c.typ, .bool c.plus, .slice cra c.rules.length crc, .slice gna c.nots.length gnc] 59) := ⟨_, rfl⟩
  have TW : Turn (fun _ => False) W0 W := by rw [hW]; exact (Turn.refl _ W0).alloc _
  have R3 : W.rangeAt W0.heap.size 0 [.int .i64 c.typ, .bool c.plus, .slice cra c.rules.length crc, .slice gna c.nots.length gnc] := by rw [hW]; exact range_new W0 [.int .i64 c.typ, .bool c.plus, .slice cra c.rules.length crc, .slice gna c.nots.length gnc] 59
  have x0 := R1 0 _ rfl
  have l0 := hl0 0 _ rfl
  have l1 := hl0 1 _ rfl
  have l2 := hl0 2 _ rfl
  have l3 := hl0 3 _ rfl
  rw [Nat.add_zero] at l0
  have a0 : (0 : Int) ≤ (at_ : Int) := Int.natCast_nonneg at_
  have a1 : (at_ : Int) < (T.cells.length : Int) := Int.ofNat_lt.2 (List.getElem?_eq_some_iff.1 hc).1
  have RE := range_turn R2 TW id
  have TT := Lib.hid (T0.trans TW)
  have WI := Lib.hid (show ∀ U, Turn (fun _ => False) W U → Calls Try.prog 55 #[ev, .int .i64 (at_ : Int), .agg e.cells.toArray] U fun en w' => ∃ v, en = .returned v ∧ ESetsAt w' v (withE L at_ e) ∧ Turn (fun _ => False) U w' from fun U TU => with_is (hs.turn (TT.out.trans TU)) ok ha)
  have AL := Lib.hid (show ∀ U v, Turn (fun _ => False) W U → ESetsAt U v (withE L at_ e) → Calls Try.prog 54 #[.slice cra c.rules.length crc, v] U fun en w' => en = .returned (.bool (allR (withE L at_ e) c.rules)) ∧ Turn (fun _ => False) U w' from fun U v TU hv => all_is hv (withE_ok ok ha) (hrr.turn (TT.out.trans TU)) hro)
  have r0 := R3 0 _ rfl
  have r2 := R3 2 _ rfl
  rw [Nat.zero_add] at r2
  obtain ⟨et, ek, eaa, ebb, ec, ed⟩ := e
  obtain ⟨ct, cp, cr, cn⟩ := c
  unfold Ev.cells at *
  dsimp only at *
  have e0 := RE 0 _ rfl
  have FF := Lib.hid (show ∀ U, Turn (fun _ => False) W U → U.rangeAt (w.heap.size + 1) 0 [.int .i64 et, .int .i64 ek, .int .i64 eaa, .int .i64 ebb, .int .i64 ec, .int .i64 ed] ∧ U.cell? ⟨w.heap.size + 1, 0, none⟩ = some (.int .i64 et) ∧ U.cell? ⟨W0.heap.size, 0, none⟩ = some (.int .i64 ct) ∧ U.cell? ⟨W0.heap.size, 2, none⟩ = some (.slice cra cr.length crc) ∧ Turn (fun _ => False) W U from fun U TU => ⟨range_turn RE TU id, TU.cell id e0, TU.cell id r0, TU.cell id r2, TU⟩)
  have HW0 := Lib.hid hW0
  have HW := Lib.hid hW
  clear h hl hc hs ok hrr hgn hro T0 R1 R2 hl0 TW R3 RE hW0 hW
  go_enter Try.func31, Try.ntmps31
  go_upto_region 1 with fail
  rw [← HW0.out]
  clear HW0
  go_upto_region 2 with fail
  rw [← HW.out]
  clear HW x0 l0 l1 l2 l3 a0 a1
  generalize w.heap.size + 1 = eb at *
  generalize W0.heap.size = cb at *
  by_cases hq : et = ct
  · subst hq
    have tq : (et == et) = true := beq_self_eq_true et
    have HTQ := Lib.hid tq
    have TD : Turn (fun _ => False) W W.drew := (Turn.refl _ W).drewN 1
    have sD := FF.out W.drew TD
    clear e0 r0 r2
    refine lany_start 14 (fun zb w' => zb = false → (fun w' => w'.rangeAt eb 0 [.int .i64 et, .int .i64 ek, .int .i64 eaa, .int .i64 ebb, .int .i64 ec, .int .i64 ed] ∧ w'.cell? ⟨eb, 0, none⟩ = some (.int .i64 et) ∧ w'.cell? ⟨cb, 0, none⟩ = some (.int .i64 et) ∧ w'.cell? ⟨cb, 2, none⟩ = some (.slice cra cr.length crc) ∧ Turn (fun _ => False) W w') w') (by kernel_rfl) ?hs0 (fun hS0 => ?_)
    case hs0 => exact fun _ => sD
    refine LAny.take (i := 0) (oi := { dst := some 15, op := Op.fieldAddr 62 (Operand.tmp 5) 0, type := 0, pos := "step.go:48", after := #[], guard := none }) (v := ?_) rfl (by kernel_rfl) (by kernel_rfl) (by kernel_rfl) (by kernel_rfl) (fun _ _ _ h => h) (Or.inl ⟨by rfl, ?hy1⟩) hS0 ?_
    case hy1 => (intro w hSw; have hSw := hSw rfl; (try dsimp only at hSw); go_simp; try with_reducible rfl)
    try simp only [Act.put, List.setIfInBounds_toArray, List.set_cons_zero, List.set_cons_succ]
    refine LAny.take (i := 1) (oi := { dst := some 16, op := Op.load 3 (Operand.tmp 15), type := 3, pos := "step.go:48", after := #[{ on := 0, ground := Ground.data }], guard := none }) (v := ?_) rfl (by kernel_rfl) (by kernel_rfl) (by kernel_rfl) (by kernel_rfl) (fun _ _ _ h => h) (Or.inl ⟨by rfl, ?hy2⟩) hS0 ?_
    case hy2 => (intro w hSw; have hSw := hSw rfl; (try dsimp only at hSw); go_simp; try with_reducible rfl)
    try simp only [Act.put, List.setIfInBounds_toArray, List.set_cons_zero, List.set_cons_succ]
    refine LAny.take (i := 2) (oi := { dst := some 17, op := Op.fieldAddr 59 (Operand.tmp 9) 0, type := 0, pos := "step.go:48", after := #[], guard := none }) (v := ?_) rfl (by kernel_rfl) (by kernel_rfl) (by kernel_rfl) (by kernel_rfl) (fun _ _ _ h => h) (Or.inl ⟨by rfl, ?hy3⟩) hS0 ?_
    case hy3 => (intro w hSw; have hSw := hSw rfl; (try dsimp only at hSw); go_simp; try with_reducible rfl)
    try simp only [Act.put, List.setIfInBounds_toArray, List.set_cons_zero, List.set_cons_succ]
    refine LAny.take (i := 3) (oi := { dst := some 18, op := Op.load 3 (Operand.tmp 17), type := 3, pos := "step.go:48", after := #[{ on := 2, ground := Ground.data }], guard := none }) (v := ?_) rfl (by kernel_rfl) (by kernel_rfl) (by kernel_rfl) (by kernel_rfl) (fun _ _ _ h => h) (Or.inl ⟨by rfl, ?hy4⟩) hS0 ?_
    case hy4 => (intro w hSw; have hSw := hSw rfl; (try dsimp only at hSw); go_simp; try with_reducible rfl)
    try simp only [Act.put, List.setIfInBounds_toArray, List.set_cons_zero, List.set_cons_succ]
    refine LAny.take (i := 4) (oi := { dst := some 19, op := Op.binOp BinOp.eql 3 (Operand.tmp 16) (Operand.tmp 18) 3, type := 4, pos := "step.go:48", after := #[{ on := 1, ground := Ground.data }, { on := 3, ground := Ground.data }], guard := none }) (v := ?_) rfl (by kernel_rfl) (by kernel_rfl) (by kernel_rfl) (by kernel_rfl) (fun _ _ _ h => h) (Or.inl ⟨by rfl, ?hy5⟩) hS0 ?_
    case hy5 => (intro w hSw; have hSw := hSw rfl; (try dsimp only at hSw); go_simp; try with_reducible rfl)
    try simp only [Act.put, List.setIfInBounds_toArray, List.set_cons_zero, List.set_cons_succ]
    refine LAny.take (i := 5) (oi := { dst := some 20, op := Op.move (Operand.tmp 19), type := 4, pos := "step.go:48", after := #[{ on := 4, ground := Ground.data }], guard := none }) (v := ?_) rfl (by kernel_rfl) (by kernel_rfl) (by kernel_rfl) (by kernel_rfl) (fun _ _ _ h => h) (Or.inl ⟨by rfl, ?hy6⟩) hS0 ?_
    case hy6 => (intro w hSw; have hSw := hSw rfl; (try dsimp only at hSw); go_simp; try with_reducible rfl)
    try simp only [Act.put, List.setIfInBounds_toArray, List.set_cons_zero, List.set_cons_succ]
    refine LAny.take (i := 6) (oi := { dst := some 21, op := Op.fieldAddr 59 (Operand.tmp 9) 2, type := 0, pos := "step.go:48", after := #[{ on := 5, ground := Ground.guard }], guard := some (5, true) }) (v := ?_) rfl (by kernel_rfl) (by kernel_rfl) (by kernel_rfl) (by kernel_rfl) (fun _ _ _ h => h) (Or.inl ⟨by rfl, ?hy7⟩) hS0 ?_
    case hy7 => (intro w hSw; have hSw := hSw rfl; (try dsimp only at hSw); go_simp; try with_reducible rfl)
    try simp only [Act.put, List.setIfInBounds_toArray, List.set_cons_zero, List.set_cons_succ]
    refine LAny.take (i := 7) (oi := { dst := some 22, op := Op.load 56 (Operand.tmp 21), type := 56, pos := "step.go:48", after := #[{ on := 6, ground := Ground.data }, { on := 5, ground := Ground.guard }], guard := some (5, true) }) (v := ?_) rfl (by kernel_rfl) (by kernel_rfl) (by kernel_rfl) (by kernel_rfl) (fun _ _ _ h => h) (Or.inl ⟨by rfl, ?hy8⟩) hS0 ?_
    case hy8 => (intro w hSw; have hSw := hSw rfl; (try dsimp only at hSw); go_simp; try with_reducible rfl)
    try simp only [Act.put, List.setIfInBounds_toArray, List.set_cons_zero, List.set_cons_succ]
    refine LAny.take (i := 8) (oi := { dst := some 23, op := Op.move (Operand.tmp 3), type := 72, pos := "step.go:48", after := #[{ on := 5, ground := Ground.guard }], guard := some (5, true) }) (v := ?_) rfl (by kernel_rfl) (by kernel_rfl) (by kernel_rfl) (by kernel_rfl) (fun _ _ _ h => h) (Or.inl ⟨by rfl, ?hy9⟩) hS0 ?_
    case hy9 => (intro w hSw; have hSw := hSw rfl; (try dsimp only at hSw); go_simp; try with_reducible rfl)
    try simp only [Act.put, List.setIfInBounds_toArray, List.set_cons_zero, List.set_cons_succ]
    refine LAny.take (i := 9) (oi := { dst := some 24, op := Op.move (Operand.tmp 2), type := 3, pos := "step.go:48", after := #[{ on := 5, ground := Ground.guard }], guard := some (5, true) }) (v := ?_) rfl (by kernel_rfl) (by kernel_rfl) (by kernel_rfl) (by kernel_rfl) (fun _ _ _ h => h) (Or.inl ⟨by rfl, ?hy10⟩) hS0 ?_
    case hy10 => (intro w hSw; have hSw := hSw rfl; (try dsimp only at hSw); go_simp; try with_reducible rfl)
    try simp only [Act.put, List.setIfInBounds_toArray, List.set_cons_zero, List.set_cons_succ]
    refine LAny.take (i := 10) (oi := { dst := some 25, op := Op.load 62 (Operand.tmp 5), type := 62, pos := "step.go:48", after := #[{ on := 5, ground := Ground.guard }], guard := some (5, true) }) (v := .agg #[.int .i64 et, .int .i64 ek, .int .i64 eaa, .int .i64 ebb, .int .i64 ec, .int .i64 ed]) rfl (by kernel_rfl) (by kernel_rfl) (by kernel_rfl) (by kernel_rfl) (fun _ _ _ h => h) (yieldsIf_load_mid rfl 62 _ rfl eb 0 rfl [.int .i64 et, .int .i64 ek, .int .i64 eaa, .int .i64 ebb, .int .i64 ec, .int .i64 ed] _ (fun _ hSw => (hSw rfl).1) Try.underlying62 rfl size62) hS0 ?_
    try simp only [Act.put, List.setIfInBounds_toArray, List.set_cons_zero, List.set_cons_succ]
    refine LAny.one (i := 11) (o := { dst := some 26, op := Op.call { callee := Callee.value (Operand.func 55), args := #[Operand.tmp 23, Operand.tmp 24, Operand.tmp 25], argTypes := #[72, 3, 62] }, type := 72, pos := "step.go:48", after := #[{ on := 8, ground := Ground.data }, { on := 9, ground := Ground.data }, { on := 10, ground := Ground.data }, { on := 5, ground := Ground.chain }, { on := 5, ground := Ground.guard }], guard := some (5, true) }) (b := false) (by kernel_rfl) rfl (by kernel_rfl) (fun K hK => ?_)
    go_simp
    with_reducible refine (WI.out _ sD.2.2.2.2).mono ?_
    rintro en Wa ⟨ev2, rfl, hv2, Ta⟩
    have sA := FF.out _ (sD.2.2.2.2.trans Ta)
    have AL2 := Lib.hid (AL.out _ _ sA.2.2.2.2 hv2)
    clear hv2
    go_simp
    refine hK.out _ _ ?hs12 (fun hS12 => ?_)
    case hs12 => exact fun _ => sA
    clear hK K hS0
    refine LAny.one (i := 12) (o := { dst := some 27, op := Op.call { callee := Callee.value (Operand.func 54), args := #[Operand.tmp 22, Operand.tmp 26], argTypes := #[56, 72] }, type := 4, pos := "step.go:48", after := #[{ on := 7, ground := Ground.data }, { on := 11, ground := Ground.data }, { on := 11, ground := Ground.chain }, { on := 5, ground := Ground.guard }], guard := some (5, true) }) (b := false) (by kernel_rfl) rfl (by kernel_rfl) (fun K hK => ?_)
    go_simp
    with_reducible refine AL2.out.mono ?_
    rintro en Wb ⟨rfl, Tb⟩
    have sB := FF.out _ (sA.2.2.2.2.trans Tb)
    go_simp
    refine hK.out _ _ ?hs13 (fun hS13 => ?_)
    case hs13 => exact fun _ => sB
    clear hK K hS12
    refine LAny.take (i := 13) (oi := { dst := some 28, op := Op.pick (Operand.tmp 20) (Operand.tmp 27) (Operand.const (Value.bool false)), type := 4, pos := "step.go:48", after := #[{ on := 5, ground := Ground.data }, { on := 12, ground := Ground.data }], guard := none }) (v := ?_) rfl (by kernel_rfl) (by kernel_rfl) (by kernel_rfl) (by kernel_rfl) (fun _ _ _ h => h) (Or.inl ⟨by rfl, ?hy14⟩) hS13 ?_
    case hy14 => (intro w hSw; have hSw := hSw rfl; (try dsimp only at hSw); go_simp; try with_reducible rfl)
    try simp only [Act.put, List.setIfInBounds_toArray, List.set_cons_zero, List.set_cons_succ]
    refine LAny.one (i := 14) (o := { dst := some 8, op := Op.assign (Operand.tmp 28), type := 4, pos := "step.go:48", after := #[{ on := 13, ground := Ground.data }, { on := 12, ground := Ground.chain }, { on := 0, ground := Ground.phase }, { on := 1, ground := Ground.phase }, { on := 2, ground := Ground.phase }, { on := 3, ground := Ground.phase }, { on := 4, ground := Ground.phase }, { on := 5, ground := Ground.phase }, { on := 6, ground := Ground.phase }, { on := 7, ground := Ground.phase }, { on := 8, ground := Ground.phase }, { on := 9, ground := Ground.phase }, { on := 10, ground := Ground.phase }, { on := 11, ground := Ground.phase }, { on := 12, ground := Ground.phase }, { on := 13, ground := Ground.phase }], guard := none }) (b := true) (by kernel_rfl) rfl (by kernel_rfl) (fun K hK => ?_)
    go_simp
    refine hK.out _ _ ?hs15 (fun hS15 => ?_)
    case hs15 => exact fun h => by cases h
    clear hK K hS13
    refine LAny.done (by kernel_rfl) ?_ _
    have FIN := Lib.hid (And.intro sB.2.2.2.2 True.intro)
    go_wp2_with fail
    go_ret
    exact ⟨by first | rfl | (rw [HTQ.out]; rfl), TT.out.trans FIN.out.1⟩
  · have tq : (et == ct) = false := beq_eq_false_iff_ne.2 hq
    have FIN := Lib.hid (show Turn (fun _ => False) w W.drew from TT.out.drewN 1)
    clear hq WI FF TT AL
    go_region
    go_wp2_with fail
    go_ret
    exact ⟨by rw [tq]; rfl, FIN.out⟩
def grdB (X : List (List Ev)) (x : Int) (g : Grd) : Bool := x == g.typ && allR X g.rules
def RfRel (W : World) (l : List Grd) (X : List (List Ev)) (x : Int) (gh : Nat) (v18 : Value) (wr : World) : Prop :=
  ∃ k : Nat, v18 = .int .i64 (k : Int) ∧ k ≤ l.length ∧ gh = l.length - k ∧ (∀ j g, j < k → l[j]? = some g → grdB X x g = false) ∧ Turn (fun _ => False) W wr
theorem any_yes {l : List Grd} {X : List (List Ev)} {x : Int} {g : Grd} {k : Nat} (h : l[k]? = some g) (e : grdB X x g = true) : l.any (grdB X x) = true := by
  rw [List.any_eq_true]
  exact ⟨g, List.mem_of_getElem? h, e⟩
theorem any_no {l : List Grd} {X : List (List Ev)} {x : Int} (h : ∀ (j : Nat) (g : Grd), j < l.length → l[j]? = some g → grdB X x g = false) : l.any (grdB X x) = false := by
  rw [List.any_eq_false]
  intro g hg
  obtain ⟨j, hj⟩ := List.mem_iff_getElem?.1 hg
  have := h j g (List.getElem?_eq_some_iff.1 hj).1 hj
  simp [this]
set_option maxRecDepth 100000 in
set_option maxHeartbeats 4000000 in
theorem refused_is {w : World} {cv ev : Value} {T : Tab} {e : Ev} {L : List (List Ev)} {at_ : Nat} {c : Cel} {P : Int → Prop} (h : CellsAt w cv T.cells) (hc : T.cells[at_]? = some c) (hro : ∀ g ∈ c.nots, RulesOk P g.rules) (hn : T.cells.length ≤ 100 ∧ c.nots.length ≤ 100) (hs : ESetsAt w ev L) (ok : ESOk L) :
    Calls Try.prog 36 #[.agg #[cv, .int .i64 T.win, .bool T.key], .agg e.cells.toArray, .int .i64 (at_ : Int), ev] w fun en w' => en = .returned (.bool (c.nots.any (grdB (withE L T.cells.length e) e.typ))) ∧ Turn (fun _ => False) w w' := by
  obtain ⟨b, off, cap, rfl⟩ := h.sl
  obtain ⟨rv, nv, hl, hrr, hg⟩ := h.at hc
  obtain ⟨cra, crc, rfl⟩ := hrr.sl
  obtain ⟨W0, hW0⟩ : ∃ W0, W0 = (w.alloc (.cells #[.slice (some ⟨b, off, none⟩) T.cells.length cap, .int .i64 T.win, .bool T.key] 26)).alloc (.cells e.cells.toArray 62) := ⟨_, rfl⟩
  have T0 : Turn (fun _ => False) w W0 := by rw [hW0]; exact ((Turn.refl _ w).alloc _).alloc _
  have R1 : W0.rangeAt w.heap.size 0 [.slice (some ⟨b, off, none⟩) T.cells.length cap, .int .i64 T.win, .bool T.key] := by
    rw [hW0]
    exact range_turn (range_new w [.slice (some ⟨b, off, none⟩) T.cells.length cap, .int .i64 T.win, .bool T.key] 26) ((Turn.refl (fun _ => False) _).alloc _) id
  have R2 : W0.rangeAt (w.heap.size + 1) 0 e.cells := by
    rw [hW0]
    have := range_new (w.alloc (.cells #[.slice (some ⟨b, off, none⟩) T.cells.length cap, .int .i64 T.win, .bool T.key] 26)) e.cells 62
    rw [World.size_alloc] at this
    exact this
  have hl0 := range_turn hl T0 id
  have hg0 := hg.turn T0
  obtain ⟨na, nb, no, nc, rfl, hna, hnx⟩ := hg0
  have x0 := R1 0 _ rfl
  have l3 := hl0 3 _ rfl
  have a0 : (0 : Int) ≤ (at_ : Int) := Int.natCast_nonneg at_
  have a1 : (at_ : Int) < (T.cells.length : Int) := Int.ofNat_lt.2 (List.getElem?_eq_some_iff.1 hc).1
  have WI0 := Lib.hid (show ∀ U, Turn (fun _ => False) W0 U → Calls Try.prog 55 #[ev, .int .i64 (T.cells.length : Int), .agg e.cells.toArray] U fun en w' => ∃ v, en = .returned v ∧ ESetsAt w' v (withE L T.cells.length e) ∧ Turn (fun _ => False) U w' from fun U TU => with_is (hs.turn (T0.trans TU)) ok hn.1)
  have XO := Lib.hid (withE_ok (e := e) ok hn.1)
  obtain ⟨et, ek, eaa, ebb, ec, ed⟩ := e
  obtain ⟨ct, cp, cr, cn⟩ := c
  unfold Ev.cells at *
  dsimp only at *
  have KK := Lib.hid (And.intro R1 (And.intro R2 (And.intro hna (And.intro hnx (And.intro hn.2 (And.intro T0 hro))))))
  generalize hXX : withE L T.cells.length ⟨et, ek, eaa, ebb, ec, ed⟩ = X at *
  clear hXX
  have O0 : RfRel W0 cn X et cn.length (.int .i64 0) W0 := ⟨0, rfl, Nat.zero_le _, rfl, fun j g hj => absurd hj (Nat.not_lt_zero j), Turn.refl _ _⟩
  have HW0 := Lib.hid hW0
  clear h hl hg hc hs ok T0 R1 R2 hl0 hna hnx hn hW0 hrr hro
  go_enter Try.func36, Try.ntmps36
  go_upto_region 1 with fail
  rw [← HW0.out]
  clear HW0
  generalize w.heap.size + 1 = eb at *
  generalize hb0 : w.heap.size = tb at *
  go_wp2_with fail
  clear x0 l3 a0 a1
  go_loopg [10, 18] cn.length (fun gh v10 v18 wr => RfRel W0 cn X et gh v18 wr)
  case atStart => exact O0
  case round =>
    clear O0
    obtain ⟨k, rfl, hk, hgk, hno, TR⟩ := hrel
    obtain ⟨R1, R2, hna, hnx, hn, T0, hro⟩ := KK.out
    by_cases hkl : k < cn.length
    · obtain ⟨gt, hgt⟩ : ∃ g, cn[k]? = some g := ⟨_, List.getElem?_eq_getElem hkl⟩
      obtain rfl := hna.resolve_left (fun e => by rw [e] at hkl; exact absurd hkl (Nat.not_lt_zero k))
      obtain ⟨grv, hx0, hgr⟩ := hnx k gt hgt
      obtain ⟨gra, grc, rfl⟩ := hgr.sl
      have hx := range_turn hx0 TR id
      have g0 := hx 0 _ rfl
      have g1 := hx 1 _ rfl
      rw [Nat.add_zero] at g0
      have u1 : decide ((k : Int) < (cn.length : Int)) = true := decide_eq_true (Int.ofNat_lt.2 hkl)
      have u2 : decide (k < cn.length) = true := decide_eq_true hkl
      have k0 : (0 : Int) ≤ (k : Int) := Int.natCast_nonneg k
      have k1 : (k : Int) < (cn.length : Int) := Int.ofNat_lt.2 hkl
      have ek2 := wrapR hkl hn
      obtain ⟨W, hW⟩ : ∃ W, W = wr.alloc (.cells #[.int .i64 gt.typ, .slice gra gt.rules.length grc] 70) := ⟨_, rfl⟩
      have TW : Turn (fun _ => False) wr W := by rw [hW]; exact (Turn.refl _ wr).alloc _
      have TRW := TR.trans TW
      have RG : W.rangeAt wr.heap.size 0 [.int .i64 gt.typ, .slice gra gt.rules.length grc] := by rw [hW]; exact range_new wr [.int .i64 gt.typ, .slice gra gt.rules.length grc] 70
      have q0 := RG 0 _ rfl
      have q1 := RG 1 _ rfl
      rw [Nat.zero_add] at q1
      have RE := range_turn R2 TRW id
      have e0 := RE 0 _ rfl
      have y0 := range_turn R1 TRW id 0 _ rfl
      have TT := Lib.hid (T0.trans TRW)
      have FF := Lib.hid (show ∀ U, Turn (fun _ => False) W U → U.rangeAt eb 0 [.int .i64 et, .int .i64 ek, .int .i64 eaa, .int .i64 ebb, .int .i64 ec, .int .i64 ed] ∧ U.cell? ⟨eb, 0, none⟩ = some (.int .i64 et) ∧ U.cell? ⟨wr.heap.size, 0, none⟩ = some (.int .i64 gt.typ) ∧ U.cell? ⟨wr.heap.size, 1, none⟩ = some (.slice gra gt.rules.length grc) ∧ U.cell? ⟨tb, 0, none⟩ = some (.slice (some ⟨b, off, none⟩) T.cells.length cap) ∧ Turn (fun _ => False) W U from fun U TU => ⟨range_turn RE TU id, TU.cell id e0, TU.cell id q0, TU.cell id q1, TU.cell id y0, TU⟩)
      have WI := Lib.hid (fun U TU => WI0.out U (TRW.trans TU))
      have AL := Lib.hid (show ∀ U v, Turn (fun _ => False) W U → ESetsAt U v X → Calls Try.prog 54 #[.slice gra gt.rules.length grc, v] U fun en w' => en = .returned (.bool (allR X gt.rules)) ∧ Turn (fun _ => False) U w' from fun U v TU hv => all_is hv XO.out (hgr.turn (TRW.trans TU)) (hro gt (List.mem_of_getElem? hgt)))
      have G := Lib.hid (And.intro hgk hkl)
      have HW := Lib.hid hW
      have YES := Lib.hid (show grdB X et gt = true → cn.any (grdB X et) = true from any_yes hgt)
      have NEXT := Lib.hid (show grdB X et gt = false → ∀ U, Turn (fun _ => False) W U → RfRel W0 cn X et (cn.length - (k + 1)) (.int .i64 ((k : Int) + 1)) U from fun hno2 U TU => ⟨k + 1, congrArg (Value.int .i64) (Int.natCast_succ k).symm, hkl, rfl, fun j g hj hg => by
          by_cases z : j = k
          · subst z; rw [hgt] at hg; cases hg; exact hno2
          · exact hno j g (by omega) hg, TRW.trans TU⟩)
      have GB := Lib.hid (show grdB X et gt = (et == gt.typ && allR X gt.rules) from rfl)
      generalize grdB X et gt = gb0 at *
      by_cases hq : et = gt.typ
      · have tq : (et == gt.typ) = true := by rw [hq]; exact beq_self_eq_true _
        have HTQ := Lib.hid tq
        rw [tq] at GB
        generalize allR X gt.rules = ab0 at *
        generalize gt.rules.length = grl at *
        generalize gt.typ = gty at *
        subst hq
        have TD : Turn (fun _ => False) W W.drew := (Turn.refl _ W).drewN 1
        have sD := FF.out W.drew TD
        clear hk hgk hno TR R1 R2 hna hnx hn T0 hkl hgt hx hW TW TRW RG RE y0 TD WI0 KK hx0 hgr hro
        go_upto_region 4 with fail
        rw [← HW.out]
        clear HW g0 g1 e0 q0 q1
        generalize wr.heap.size = gb at *
        refine wp_region_held_drew (S := fun w' => w'.rangeAt eb 0 [.int .i64 et, .int .i64 ek, .int .i64 eaa, .int .i64 ebb, .int .i64 ec, .int .i64 ed] ∧ w'.cell? ⟨eb, 0, none⟩ = some (.int .i64 et) ∧ w'.cell? ⟨gb, 0, none⟩ = some (.int .i64 et) ∧ w'.cell? ⟨gb, 1, none⟩ = some (.slice gra grl grc) ∧ w'.cell? ⟨tb, 0, none⟩ = some (.slice (some ⟨b, off, none⟩) T.cells.length cap) ∧ Turn (fun _ => False) W w') (by kernel_rfl) ?hs0 (fun hS0 => ?_)
        case hs0 => exact sD
        refine wpAnyH_take (i := 0) (oi := { dst := some 22, op := Op.fieldAddr 62 (Operand.tmp 5) 0, type := 0, pos := "step.go:54", after := #[], guard := none }) (v := ?_) rfl (by kernel_rfl) (by kernel_rfl) (by kernel_rfl) (fun _ _ _ h => h) (Or.inl ⟨by rfl, ?hy1⟩) hS0 ?_
        case hy1 => (intro w hSw; (try dsimp only at hSw); go_simp; try with_reducible rfl)
        try simp only [Act.put, List.setIfInBounds_toArray, List.set_cons_zero, List.set_cons_succ]
        refine wpAnyH_take (i := 1) (oi := { dst := some 23, op := Op.load 3 (Operand.tmp 22), type := 3, pos := "step.go:54", after := #[{ on := 0, ground := Ground.data }], guard := none }) (v := ?_) rfl (by kernel_rfl) (by kernel_rfl) (by kernel_rfl) (fun _ _ _ h => h) (Or.inl ⟨by rfl, ?hy2⟩) hS0 ?_
        case hy2 => (intro w hSw; (try dsimp only at hSw); go_simp; try with_reducible rfl)
        try simp only [Act.put, List.setIfInBounds_toArray, List.set_cons_zero, List.set_cons_succ]
        refine wpAnyH_take (i := 2) (oi := { dst := some 24, op := Op.fieldAddr 70 (Operand.tmp 10) 0, type := 0, pos := "step.go:54", after := #[], guard := none }) (v := ?_) rfl (by kernel_rfl) (by kernel_rfl) (by kernel_rfl) (fun _ _ _ h => h) (Or.inl ⟨by rfl, ?hy3⟩) hS0 ?_
        case hy3 => (intro w hSw; (try dsimp only at hSw); go_simp; try with_reducible rfl)
        try simp only [Act.put, List.setIfInBounds_toArray, List.set_cons_zero, List.set_cons_succ]
        refine wpAnyH_take (i := 3) (oi := { dst := some 25, op := Op.load 3 (Operand.tmp 24), type := 3, pos := "step.go:54", after := #[{ on := 2, ground := Ground.data }], guard := none }) (v := ?_) rfl (by kernel_rfl) (by kernel_rfl) (by kernel_rfl) (fun _ _ _ h => h) (Or.inl ⟨by rfl, ?hy4⟩) hS0 ?_
        case hy4 => (intro w hSw; (try dsimp only at hSw); go_simp; try with_reducible rfl)
        try simp only [Act.put, List.setIfInBounds_toArray, List.set_cons_zero, List.set_cons_succ]
        refine wpAnyH_take (i := 4) (oi := { dst := some 26, op := Op.binOp BinOp.eql 3 (Operand.tmp 23) (Operand.tmp 25) 3, type := 4, pos := "step.go:54", after := #[{ on := 1, ground := Ground.data }, { on := 3, ground := Ground.data }], guard := none }) (v := ?_) rfl (by kernel_rfl) (by kernel_rfl) (by kernel_rfl) (fun _ _ _ h => h) (Or.inl ⟨by rfl, ?hy5⟩) hS0 ?_
        case hy5 => (intro w hSw; (try dsimp only at hSw); go_simp; try with_reducible rfl)
        try simp only [Act.put, List.setIfInBounds_toArray, List.set_cons_zero, List.set_cons_succ]
        refine wpAnyH_take (i := 5) (oi := { dst := some 27, op := Op.move (Operand.tmp 26), type := 4, pos := "step.go:54", after := #[{ on := 4, ground := Ground.data }], guard := none }) (v := ?_) rfl (by kernel_rfl) (by kernel_rfl) (by kernel_rfl) (fun _ _ _ h => h) (Or.inl ⟨by rfl, ?hy6⟩) hS0 ?_
        case hy6 => (intro w hSw; (try dsimp only at hSw); go_simp; try with_reducible rfl)
        try simp only [Act.put, List.setIfInBounds_toArray, List.set_cons_zero, List.set_cons_succ]
        refine wpAnyH_take (i := 6) (oi := { dst := some 28, op := Op.fieldAddr 70 (Operand.tmp 10) 1, type := 0, pos := "step.go:54", after := #[{ on := 5, ground := Ground.guard }], guard := some (5, true) }) (v := ?_) rfl (by kernel_rfl) (by kernel_rfl) (by kernel_rfl) (fun _ _ _ h => h) (Or.inl ⟨by rfl, ?hy7⟩) hS0 ?_
        case hy7 => (intro w hSw; (try dsimp only at hSw); go_simp; try with_reducible rfl)
        try simp only [Act.put, List.setIfInBounds_toArray, List.set_cons_zero, List.set_cons_succ]
        refine wpAnyH_take (i := 7) (oi := { dst := some 29, op := Op.load 56 (Operand.tmp 28), type := 56, pos := "step.go:54", after := #[{ on := 6, ground := Ground.data }, { on := 5, ground := Ground.guard }], guard := some (5, true) }) (v := ?_) rfl (by kernel_rfl) (by kernel_rfl) (by kernel_rfl) (fun _ _ _ h => h) (Or.inl ⟨by rfl, ?hy8⟩) hS0 ?_
        case hy8 => (intro w hSw; (try dsimp only at hSw); go_simp; try with_reducible rfl)
        try simp only [Act.put, List.setIfInBounds_toArray, List.set_cons_zero, List.set_cons_succ]
        refine wpAnyH_take (i := 8) (oi := { dst := some 30, op := Op.move (Operand.tmp 3), type := 72, pos := "step.go:54", after := #[{ on := 5, ground := Ground.guard }], guard := some (5, true) }) (v := ?_) rfl (by kernel_rfl) (by kernel_rfl) (by kernel_rfl) (fun _ _ _ h => h) (Or.inl ⟨by rfl, ?hy9⟩) hS0 ?_
        case hy9 => (intro w hSw; (try dsimp only at hSw); go_simp; try with_reducible rfl)
        try simp only [Act.put, List.setIfInBounds_toArray, List.set_cons_zero, List.set_cons_succ]
        refine wpAnyH_take (i := 9) (oi := { dst := some 31, op := Op.fieldAddr 26 (Operand.tmp 4) 0, type := 0, pos := "step.go:54", after := #[{ on := 5, ground := Ground.guard }], guard := some (5, true) }) (v := ?_) rfl (by kernel_rfl) (by kernel_rfl) (by kernel_rfl) (fun _ _ _ h => h) (Or.inl ⟨by rfl, ?hy10⟩) hS0 ?_
        case hy10 => (intro w hSw; (try dsimp only at hSw); go_simp; try with_reducible rfl)
        try simp only [Act.put, List.setIfInBounds_toArray, List.set_cons_zero, List.set_cons_succ]
        refine wpAnyH_take (i := 10) (oi := { dst := some 32, op := Op.load 24 (Operand.tmp 31), type := 24, pos := "step.go:54", after := #[{ on := 9, ground := Ground.data }, { on := 5, ground := Ground.guard }], guard := some (5, true) }) (v := ?_) rfl (by kernel_rfl) (by kernel_rfl) (by kernel_rfl) (fun _ _ _ h => h) (Or.inl ⟨by rfl, ?hy11⟩) hS0 ?_
        case hy11 => (intro w hSw; (try dsimp only at hSw); go_simp; try with_reducible rfl)
        try simp only [Act.put, List.setIfInBounds_toArray, List.set_cons_zero, List.set_cons_succ]
        refine wpAnyH_take (i := 11) (oi := { dst := some 33, op := Op.call { callee := Callee.builtin Builtin.len, args := #[Operand.tmp 32], argTypes := #[24] }, type := 3, pos := "step.go:54", after := #[{ on := 10, ground := Ground.data }, { on := 5, ground := Ground.guard }], guard := some (5, true) }) (v := ?_) rfl (by kernel_rfl) (by kernel_rfl) (by kernel_rfl) (fun _ _ _ h => h) (Or.inl ⟨by rfl, ?hy12⟩) hS0 ?_
        case hy12 => (intro w hSw; (try dsimp only at hSw); go_simp; try with_reducible rfl)
        try simp only [Act.put, List.setIfInBounds_toArray, List.set_cons_zero, List.set_cons_succ]
        refine wpAnyH_take (i := 12) (oi := { dst := some 34, op := Op.load 62 (Operand.tmp 5), type := 62, pos := "step.go:54", after := #[{ on := 5, ground := Ground.guard }], guard := some (5, true) }) (v := .agg #[.int .i64 et, .int .i64 ek, .int .i64 eaa, .int .i64 ebb, .int .i64 ec, .int .i64 ed]) rfl (by kernel_rfl) (by kernel_rfl) (by kernel_rfl) (fun _ _ _ h => h) (yieldsIf_load_mid rfl 62 _ rfl eb 0 rfl [.int .i64 et, .int .i64 ek, .int .i64 eaa, .int .i64 ebb, .int .i64 ec, .int .i64 ed] _ (fun _ hSw => hSw.1) Try.underlying62 rfl size62) hS0 ?_
        try simp only [Act.put, List.setIfInBounds_toArray, List.set_cons_zero, List.set_cons_succ]
        refine wpAnyH_ready (rs := [13]) (by kernel_rfl) (by simp) ?_
        refine AllReadyH.cons (o := { dst := some 35, op := Op.call { callee := Callee.value (Operand.func 55), args := #[Operand.tmp 30, Operand.tmp 33, Operand.tmp 34], argTypes := #[72, 3, 62] }, type := 72, pos := "step.go:54", after := #[{ on := 8, ground := Ground.data }, { on := 11, ground := Ground.data }, { on := 12, ground := Ground.data }, { on := 5, ground := Ground.chain }, { on := 5, ground := Ground.guard }], guard := some (5, true) }) rfl (fun K hK => ?_) AllReadyH.nil
        go_simp
        with_reducible refine (WI.out _ sD.2.2.2.2.2).mono ?_
        rintro en Wa ⟨ev2, rfl, hv2, Ta⟩
        have sA := FF.out _ (sD.2.2.2.2.2.trans Ta)
        have AL2 := Lib.hid (AL.out _ _ sA.2.2.2.2.2 hv2)
        clear hv2
        go_simp
        refine hK.out _ _ ?hs14 (fun hS14 => ?_)
        case hs14 => exact sA
        clear hK K hS0
        refine wpAnyH_ready (rs := [14]) (by kernel_rfl) (by simp) ?_
        refine AllReadyH.cons (o := { dst := some 36, op := Op.call { callee := Callee.value (Operand.func 54), args := #[Operand.tmp 29, Operand.tmp 35], argTypes := #[56, 72] }, type := 4, pos := "step.go:54", after := #[{ on := 7, ground := Ground.data }, { on := 13, ground := Ground.data }, { on := 13, ground := Ground.chain }, { on := 5, ground := Ground.guard }], guard := some (5, true) }) rfl (fun K hK => ?_) AllReadyH.nil
        go_simp
        with_reducible refine AL2.out.mono ?_
        rintro en Wb ⟨rfl, Tb⟩
        have sB := FF.out _ (sA.2.2.2.2.2.trans Tb)
        go_simp
        refine hK.out _ _ ?hs15 (fun hS15 => ?_)
        case hs15 => exact sB
        clear hK K hS14
        refine wpAnyH_take (i := 15) (oi := { dst := some 37, op := Op.pick (Operand.tmp 27) (Operand.tmp 36) (Operand.const (Value.bool false)), type := 4, pos := "step.go:54", after := #[{ on := 5, ground := Ground.data }, { on := 14, ground := Ground.data }], guard := none }) (v := ?_) rfl (by kernel_rfl) (by kernel_rfl) (by kernel_rfl) (fun _ _ _ h => h) (Or.inl ⟨by rfl, ?hy16⟩) hS15 ?_
        case hy16 => (intro w hSw; (try dsimp only at hSw); go_simp; try with_reducible rfl)
        try simp only [Act.put, List.setIfInBounds_toArray, List.set_cons_zero, List.set_cons_succ]
        refine wpAnyH_done (by kernel_rfl) ?_ _
        have TB := Lib.hid sB.2.2.2.2.2
        clear sA sB sD
        have eG : gb0 = ab0 := GB.out
        subst eG
        cases gb0 with
        | true =>
          have FIN := Lib.hid (YES.out rfl)
          go_wp2_with fail
          go_ret
          exact ⟨by rw [FIN.out]; rfl, TT.out.trans TB.out⟩
        | false =>
          have STEP := Lib.hid (NEXT.out rfl _ TB.out)
          go_wp2_with fail
          go_roundg (cn.length - (k + 1))
          case measure => have := G.out.1; have := G.out.2; omega
          case rel => first | exact STEP.out | (rw [ek2]; exact STEP.out)
      · have tq : (et == gt.typ) = false := beq_eq_false_iff_ne.2 hq
        rw [tq] at GB
        have STEP := Lib.hid (NEXT.out GB.out W.drew ((Turn.refl _ W).drewN 1))
        clear hk hgk hno TR R1 R2 hna hnx hn T0 hkl hgt hx hW TW TRW RG RE WI0 KK hq FF WI TT hx0 hgr hro AL NEXT YES GB
        go_upto_region 4 with fail
        rw [← HW.out]
        clear HW g0 g1
        generalize wr.heap.size = gb at *
        go_region
        go_wp2_with fail
        go_roundg (cn.length - (k + 1))
        case measure => have := G.out.1; have := G.out.2; omega
        case rel => first | exact STEP.out | (rw [ek2]; exact STEP.out)
    · obtain rfl : k = cn.length := Nat.le_antisymm hk (Nat.not_lt.1 hkl)
      have u1 : decide ((cn.length : Int) < (cn.length : Int)) = false := decide_eq_false (Int.lt_irrefl _)
      have u2 : decide (cn.length < cn.length) = false := decide_eq_false (Nat.lt_irrefl _)
      have HT := Lib.hid (any_no hno)
      have FIN := Lib.hid (T0.trans TR)
      clear hk hgk hno TR R1 R2 hna hnx hn T0 hkl WI0 KK hro
      go_wp2
      go_ret
      exact ⟨by rw [HT.out]; rfl, FIN.out⟩
end Go.Proofs.Ytfidnahbhomomaa
