/-
  A worker's other steps, for commands that ask nothing of its shard.
-/
import Derived.Test.YtgfobgabdafclaaGreatWd
namespace Go.Proofs.YtgfobgabdafclaaGreat
open Go.ChangeShapes Go.WideShapes Go.ChangeAt Go.RowKit
set_option linter.unusedVariables false
theorem HnAt.full_is {w : World} {hb ep i : Nat} {sp : Addr} (h : HnAt w hb sp ep i) : Calls Tryz.prog 234 #[.pointer (some ⟨hb, 0, none⟩)] w fun e w' => e = .returned (.bool false) ∧ w = w' := by
  have h3 := h.h3
  clear h
  go_enter Tryz.func234, Tryz.ntmps234
  go_wp2
  go_ret
  exact ⟨rfl, rfl⟩
theorem HnAt.take_is {w : World} {hb ep i : Nat} {sp : Addr} (h : HnAt w hb sp ep i) : Calls Tryz.prog 191 #[.pointer (some ⟨hb, 0, none⟩), .slice none 0 0] w fun e w' => e = .returned (.tuple #[]) ∧ HnAt w' hb sp ep i ∧ Turn (fun k => k = hb) w w' := by
  have h3 := h.h3
  have fz := h.b.fz
  have FIN := Lib.hid (And.intro (show HnAt (w.setCell ⟨hb, 3, none⟩ (.slice none 0 0)) hb sp ep i from ⟨h.b.set _ _, (cell_off _ _ _ _ _ (by decide)).trans h.h0, (cell_off _ _ _ _ _ (by decide)).trans h.h1, (cell_off _ _ _ _ _ (by decide)).trans h.h2, World.cell?_setCell_same _ _ _ h.h3, (cell_off _ _ _ _ _ (by decide)).trans h.h4⟩) (Turn.put w hb 3 (.slice none 0 0)))
  clear h
  go_enter Tryz.func191, Tryz.ntmps191
  go_wp2
  exact bodyPost_end (by simp [results, Tryz.results191]) rfl ⟨rfl, FIN.out⟩
set_option maxRecDepth 100000 in
set_option maxHeartbeats 2000000 in
theorem HnAt.ripen_is {w : World} {hb ep el i n : Nat} {sp : Addr} {now : Int} {P : Nat → Int} (h : HnAt w hb sp ep i) (E : EpA w ep el n now P) (hi : i < n) :
    Calls Tryz.prog 280 #[.pointer (some ⟨hb, 0, none⟩)] w fun e w' => e = .returned (.tuple #[]) ∧ EpA w' ep el n now P ∧ HnAt w' hb sp ep i ∧ Turn (fun k => (k = ep ∨ k = el) ∨ k = hb) w w' := by
  have TD : Turn (fun _ => False) w w.drew := (Turn.refl _ w).drewN 1
  have ZD := h.turn TD (fun f => f)
  have RP := Lib.hid ((E.same TD).ripe_is hi)
  have nh : ¬ (hb = ep ∨ hb = el) := fun e => e.elim (ZD.b.ne (E.same TD).b1 (by decide)) (ZD.b.ne (E.same TD).b2 (by decide))
  have FF := Lib.hid (show ∀ U, Turn (fun _ => False) w.drew U → U.cell? ⟨hb, 1, none⟩ = some (.pointer (some ⟨ep, 0, none⟩)) ∧ U.cell? ⟨hb, 2, none⟩ = some (.int .i64 (i : Int)) from fun U TU => ⟨TU.cell (fun f => f) ZD.h1, TU.cell (fun f => f) ZD.h2⟩)
  have FX := Lib.hid (show ∀ U, Turn (fun k => k = ep ∨ k = el) w.drew U → U.cell? ⟨hb, 1, none⟩ = some (.pointer (some ⟨ep, 0, none⟩)) ∧ U.cell? ⟨hb, 2, none⟩ = some (.int .i64 (i : Int)) from fun U TU => ⟨TU.cell nh ZD.h1, TU.cell nh ZD.h2⟩)
  have HZ := Lib.hid (show ∀ U, Turn (fun k => k = ep ∨ k = el) w.drew U → HnAt U hb sp ep i from fun U TU => ZD.turn TU nh)
  clear h E
  go_enter Tryz.func280, Tryz.ntmps280
  refine wp_region_held_drew (S := fun w' => w'.cell? ⟨hb, 1, none⟩ = some (.pointer (some ⟨ep, 0, none⟩)) ∧ w'.cell? ⟨hb, 2, none⟩ = some (.int .i64 (i : Int))) (by kernel_rfl) ?hs0 (fun hS0 => ?_)
  case hs0 => exact FF.out _ (Turn.refl _ _)
  refine wpAnyH_take (i := 0) (oi := { dst := some 2, op := Op.move (Operand.tmp 0), type := 138, pos := "hands.go:47", after := #[], guard := none }) (v := ?_) rfl (by kernel_rfl) (by kernel_rfl) (by kernel_rfl) (fun _ _ _ h => h) (Or.inl ⟨by rfl, ?hy1⟩) hS0 ?_
  case hy1 => (intro w hSw; (try dsimp only at hSw); go_simp; try with_reducible rfl)
  try simp only [Act.put, List.setIfInBounds_toArray, List.set_cons_zero, List.set_cons_succ]
  refine wpAnyH_take (i := 1) (oi := { dst := some 3, op := Op.move (Operand.tmp 0), type := 138, pos := "hands.go:47", after := #[], guard := none }) (v := ?_) rfl (by kernel_rfl) (by kernel_rfl) (by kernel_rfl) (fun _ _ _ h => h) (Or.inl ⟨by rfl, ?hy2⟩) hS0 ?_
  case hy2 => (intro w hSw; (try dsimp only at hSw); go_simp; try with_reducible rfl)
  try simp only [Act.put, List.setIfInBounds_toArray, List.set_cons_zero, List.set_cons_succ]
  refine wpAnyH_take (i := 2) (oi := { dst := some 4, op := Op.nilCheck (Operand.tmp 3), type := 0, pos := "hands.go:47", after := #[{ on := 1, ground := Ground.data }], guard := none }) (v := ?_) rfl (by kernel_rfl) (by kernel_rfl) (by kernel_rfl) (fun _ _ _ h => h) (Or.inl ⟨by rfl, ?hy3⟩) hS0 ?_
  case hy3 => (intro w hSw; (try dsimp only at hSw); go_simp; try with_reducible rfl)
  try simp only [Act.put, List.setIfInBounds_toArray, List.set_cons_zero, List.set_cons_succ]
  refine wpAnyH_take (i := 3) (oi := { dst := some 5, op := Op.fieldAddr 223 (Operand.tmp 4) 1, type := 0, pos := "hands.go:47", after := #[{ on := 2, ground := Ground.data }], guard := none }) (v := ?_) rfl (by kernel_rfl) (by kernel_rfl) (by kernel_rfl) (fun _ _ _ h => h) (Or.inl ⟨by rfl, ?hy4⟩) hS0 ?_
  case hy4 => (intro w hSw; (try dsimp only at hSw); go_simp; try with_reducible rfl)
  try simp only [Act.put, List.setIfInBounds_toArray, List.set_cons_zero, List.set_cons_succ]
  refine wpAnyH_take (i := 4) (oi := { dst := some 6, op := Op.load 126 (Operand.tmp 5), type := 126, pos := "hands.go:47", after := #[{ on := 3, ground := Ground.data }], guard := none }) (v := ?_) rfl (by kernel_rfl) (by kernel_rfl) (by kernel_rfl) (fun _ _ _ h => h) (Or.inl ⟨by rfl, ?hy5⟩) hS0 ?_
  case hy5 => (intro w hSw; (try dsimp only at hSw); go_simp; try with_reducible rfl)
  try simp only [Act.put, List.setIfInBounds_toArray, List.set_cons_zero, List.set_cons_succ]
  refine wpAnyH_take (i := 5) (oi := { dst := some 7, op := Op.move (Operand.tmp 0), type := 138, pos := "hands.go:47", after := #[], guard := none }) (v := ?_) rfl (by kernel_rfl) (by kernel_rfl) (by kernel_rfl) (fun _ _ _ h => h) (Or.inl ⟨by rfl, ?hy6⟩) hS0 ?_
  case hy6 => (intro w hSw; (try dsimp only at hSw); go_simp; try with_reducible rfl)
  try simp only [Act.put, List.setIfInBounds_toArray, List.set_cons_zero, List.set_cons_succ]
  refine wpAnyH_take (i := 6) (oi := { dst := some 8, op := Op.nilCheck (Operand.tmp 7), type := 0, pos := "hands.go:47", after := #[{ on := 5, ground := Ground.data }], guard := none }) (v := ?_) rfl (by kernel_rfl) (by kernel_rfl) (by kernel_rfl) (fun _ _ _ h => h) (Or.inl ⟨by rfl, ?hy7⟩) hS0 ?_
  case hy7 => (intro w hSw; (try dsimp only at hSw); go_simp; try with_reducible rfl)
  try simp only [Act.put, List.setIfInBounds_toArray, List.set_cons_zero, List.set_cons_succ]
  refine wpAnyH_take (i := 7) (oi := { dst := some 9, op := Op.fieldAddr 223 (Operand.tmp 8) 2, type := 0, pos := "hands.go:47", after := #[{ on := 6, ground := Ground.data }], guard := none }) (v := ?_) rfl (by kernel_rfl) (by kernel_rfl) (by kernel_rfl) (fun _ _ _ h => h) (Or.inl ⟨by rfl, ?hy8⟩) hS0 ?_
  case hy8 => (intro w hSw; (try dsimp only at hSw); go_simp; try with_reducible rfl)
  try simp only [Act.put, List.setIfInBounds_toArray, List.set_cons_zero, List.set_cons_succ]
  refine wpAnyH_take (i := 8) (oi := { dst := some 10, op := Op.load 3 (Operand.tmp 9), type := 3, pos := "hands.go:47", after := #[{ on := 7, ground := Ground.data }], guard := none }) (v := ?_) rfl (by kernel_rfl) (by kernel_rfl) (by kernel_rfl) (fun _ _ _ h => h) (Or.inl ⟨by rfl, ?hy9⟩) hS0 ?_
  case hy9 => (intro w hSw; (try dsimp only at hSw); go_simp; try with_reducible rfl)
  try simp only [Act.put, List.setIfInBounds_toArray, List.set_cons_zero, List.set_cons_succ]
  refine wpAnyH_ready (rs := [9]) (by kernel_rfl) (by simp) ?_
  refine AllReadyH.cons (o := { dst := some 11, op := Op.call { callee := Callee.value (Operand.func 287), args := #[Operand.tmp 6, Operand.tmp 10], argTypes := #[126, 3] }, type := 34, pos := "hands.go:47", after := #[{ on := 4, ground := Ground.data }, { on := 8, ground := Ground.data }], guard := none }) rfl (fun K hK => ?_) AllReadyH.nil
  go_simp
  with_reducible refine RP.out.mono ?_
  rintro en Wp ⟨rfl, EE, TE, KE⟩
  go_simp
  refine hK.out _ _ ?hs10 (fun hS10 => ?_)
  case hs10 => exact FX.out _ TE
  clear hK K hS0
  have HP : HnAt Wp hb sp ep i := HZ.out _ TE
  have z3 := HP.h3
  have fz := HP.b.fz
  have TP : Turn (fun k => k = hb) Wp (Wp.setCell ⟨hb, 3, none⟩ (.slice none 0 0)) := Turn.put _ _ _ _
  have HQ : HnAt (Wp.setCell ⟨hb, 3, none⟩ (.slice none 0 0)) hb sp ep i := ⟨HP.b.set _ _, (cell_off _ _ _ _ _ (by decide)).trans HP.h0, (cell_off _ _ _ _ _ (by decide)).trans HP.h1, (cell_off _ _ _ _ _ (by decide)).trans HP.h2, World.cell?_setCell_same _ _ _ HP.h3, (cell_off _ _ _ _ _ (by decide)).trans HP.h4⟩
  have EQ : EpA (Wp.setCell ⟨hb, 3, none⟩ (.slice none 0 0)) ep el n now P := EE.turn TP (EE.b1.ne HP.b (by decide)) (EE.b2.ne HP.b (by decide))
  have FIN := Lib.hid (And.intro EQ (And.intro HQ (((TD.more (S' := fun k => (k = ep ∨ k = el) ∨ k = hb) (fun _ _ f => f.elim)).trans (TE.more (fun _ _ e => .inl e))).trans (TP.more (fun _ _ e => .inr e)))))
  clear HP EE
  refine wpAnyH_take (i := 10) (oi := { dst := some 12, op := Op.nilCheck (Operand.tmp 2), type := 0, pos := "hands.go:47", after := #[{ on := 0, ground := Ground.data }, { on := 0, ground := Ground.phase }, { on := 1, ground := Ground.phase }, { on := 2, ground := Ground.phase }, { on := 3, ground := Ground.phase }, { on := 4, ground := Ground.phase }, { on := 5, ground := Ground.phase }, { on := 6, ground := Ground.phase }, { on := 7, ground := Ground.phase }, { on := 8, ground := Ground.phase }, { on := 9, ground := Ground.phase }], guard := none }) (v := ?_) rfl (by kernel_rfl) (by kernel_rfl) (by kernel_rfl) (fun _ _ _ h => h) (Or.inl ⟨by rfl, ?hy11⟩) hS10 ?_
  case hy11 => (intro w hSw; (try dsimp only at hSw); go_simp; try with_reducible rfl)
  try simp only [Act.put, List.setIfInBounds_toArray, List.set_cons_zero, List.set_cons_succ]
  refine wpAnyH_take (i := 11) (oi := { dst := some 13, op := Op.fieldAddr 223 (Operand.tmp 12) 3, type := 0, pos := "hands.go:47", after := #[{ on := 10, ground := Ground.data }, { on := 0, ground := Ground.phase }, { on := 1, ground := Ground.phase }, { on := 2, ground := Ground.phase }, { on := 3, ground := Ground.phase }, { on := 4, ground := Ground.phase }, { on := 5, ground := Ground.phase }, { on := 6, ground := Ground.phase }, { on := 7, ground := Ground.phase }, { on := 8, ground := Ground.phase }, { on := 9, ground := Ground.phase }], guard := none }) (v := ?_) rfl (by kernel_rfl) (by kernel_rfl) (by kernel_rfl) (fun _ _ _ h => h) (Or.inl ⟨by rfl, ?hy12⟩) hS10 ?_
  case hy12 => (intro w hSw; (try dsimp only at hSw); go_simp; try with_reducible rfl)
  try simp only [Act.put, List.setIfInBounds_toArray, List.set_cons_zero, List.set_cons_succ]
  refine wpAnyH_ready (rs := [12]) (by kernel_rfl) (by simp) ?_
  refine AllReadyH.cons (o := { dst := none, op := Op.store 34 (Operand.tmp 13) (Operand.tmp 11), type := 0, pos := "hands.go:47", after := #[{ on := 11, ground := Ground.data }, { on := 9, ground := Ground.data }, { on := 9, ground := Ground.chain }, { on := 0, ground := Ground.phase }, { on := 1, ground := Ground.phase }, { on := 2, ground := Ground.phase }, { on := 3, ground := Ground.phase }, { on := 4, ground := Ground.phase }, { on := 5, ground := Ground.phase }, { on := 6, ground := Ground.phase }, { on := 7, ground := Ground.phase }, { on := 8, ground := Ground.phase }, { on := 9, ground := Ground.phase }], guard := none }) rfl (fun K hK => ?_) AllReadyH.nil
  go_simp
  refine hK.out _ _ ?hs13 (fun hS13 => ?_)
  case hs13 => exact ⟨(cell_off _ _ _ _ _ (by decide)).trans (FX.out _ TE).1, (cell_off _ _ _ _ _ (by decide)).trans (FX.out _ TE).2⟩
  clear hK K hS10
  refine wpAnyH_done (by kernel_rfl) ?_ _
  go_wp2_with fail
  exact bodyPost_end (by simp [results, Tryz.results280]) rfl ⟨rfl, FIN.out⟩
section
variable {w w' : World} {B : LB} {c : Cf} {s : LSt} {el xb sb hb i f : Nat} {now st last : Int} {P : Nat → Int} {calm left : Bool} {p q : Int × Int}
theorem LogAt.off (h : LogAt w B c s) {k : Nat} {t : TypeId} (hb : Blk w k t) (h1 : t ≠ 133) (h2 : t ≠ 216) (h3 : t ≠ 227) (h4 : t ≠ 137) (h5 : t ≠ 219) (h6 : t ≠ 331) (h7 : t ≠ 3) (T : Turn (fun j => j = k) w w') : LogAt w' B c s :=
  h.turn T (fun b hf e => h.foot_ne hb h1 h2 h3 h4 h5 h6 (by rw [← e]; exact hf)) (fun b h3 e => hb.ne h3 h7 e.symm)
theorem LogAt.off2 (h : LogAt w B c s) {k l : Nat} {t u : TypeId} (hb : Blk w k t) (h1 : t ≠ 133) (h2 : t ≠ 216) (h3 : t ≠ 227) (h4 : t ≠ 137) (h5 : t ≠ 219) (h6 : t ≠ 331) (h7 : t ≠ 3)
    (hc : Blk w l u) (g1 : u ≠ 133) (g2 : u ≠ 216) (g3 : u ≠ 227) (g4 : u ≠ 137) (g5 : u ≠ 219) (g6 : u ≠ 331) (g7 : u ≠ 3) (T : Turn (fun j => j = k ∨ j = l) w w') : LogAt w' B c s :=
  h.turn T (fun b hf e => e.elim (fun e => h.foot_ne hb h1 h2 h3 h4 h5 h6 (by rw [← e]; exact hf)) (fun e => h.foot_ne hc g1 g2 g3 g4 g5 g6 (by rw [← e]; exact hf)))
    (fun b h3 e => e.elim (fun e => hb.ne h3 h7 e.symm) (fun e => hc.ne h3 g7 e.symm))
/-- A worker, its shard and hands, and the log that it works at. -/
structure WS (w : World) (B : LB) (c : Cf) (s : LSt) (el : Nat) (now : Int) (P : Nat → Int) (xb sb hb i f : Nat) (calm left : Bool) (st : Int) (p : Int × Int) (last : Int) : Prop where
  L : LogAt w B c s
  E : EpA w B.ep el (c.sh + 1) now P
  S : ShAt w sb last
  H : HnAt w hb B.sp B.ep i
  X : WkAt w xb B.l sb hb i f calm left st p
/-- All blocks of both. -/
def WOwn (B : LB) (c : Cf) (el xb sb hb : Nat) (k : Nat) : Prop := B.foot c.sh k ∨ k = B.ep ∨ k = el ∨ k = xb ∨ k = sb ∨ k = hb
theorem WS.same (h : WS w B c s el now P xb sb hb i f calm left st p last) (T : Turn (fun _ => False) w w') : WS w' B c s el now P xb sb hb i f calm left st p last :=
  ⟨h.L.keep T, h.E.same T, h.S.turn T (fun f => f), h.H.turn T (fun f => f), h.X.turn T (fun f => f)⟩
theorem WS.onX (h : WS w B c s el now P xb sb hb i f calm left st p last) {f' : Nat} {calm' left' : Bool} {st' : Int} {p' : Int × Int} (X : WkAt w' xb B.l sb hb i f' calm' left' st' p') (T : Turn (fun k => k = xb) w w') : WS w' B c s el now P xb sb hb i f' calm' left' st' p' last :=
  ⟨h.L.off h.X.b (by decide) (by decide) (by decide) (by decide) (by decide) (by decide) (by decide) T, h.E.turn T (h.E.b1.ne h.X.b (by decide)) (h.E.b2.ne h.X.b (by decide)), h.S.turn T (h.S.b.ne h.X.b (by decide)), h.H.turn T (h.H.b.ne h.X.b (by decide)), X⟩
theorem WS.onS (h : WS w B c s el now P xb sb hb i f calm left st p last) {last' : Int} (X : ShAt w' sb last') (T : Turn (fun k => k = sb) w w') : WS w' B c s el now P xb sb hb i f calm left st p last' :=
  ⟨h.L.off h.S.b (by decide) (by decide) (by decide) (by decide) (by decide) (by decide) (by decide) T, h.E.turn T (h.E.b1.ne h.S.b (by decide)) (h.E.b2.ne h.S.b (by decide)), X, h.H.turn T (h.H.b.ne h.S.b (by decide)), h.X.turn T (h.X.b.ne h.S.b (by decide))⟩
theorem WS.onH (h : WS w B c s el now P xb sb hb i f calm left st p last) (X : HnAt w' hb B.sp B.ep i) (T : Turn (fun k => k = hb) w w') : WS w' B c s el now P xb sb hb i f calm left st p last :=
  ⟨h.L.off h.H.b (by decide) (by decide) (by decide) (by decide) (by decide) (by decide) (by decide) T, h.E.turn T (h.E.b1.ne h.H.b (by decide)) (h.E.b2.ne h.H.b (by decide)), h.S.turn T (h.S.b.ne h.H.b (by decide)), X, h.X.turn T (h.X.b.ne h.H.b (by decide))⟩
theorem WS.onE (h : WS w B c s el now P xb sb hb i f calm left st p last) {now' : Int} {P' : Nat → Int} (X : EpA w' B.ep el (c.sh + 1) now' P') (T : Turn (fun k => k = B.ep ∨ k = el) w w') : WS w' B c s el now' P' xb sb hb i f calm left st p last :=
  ⟨h.L.off2 h.E.b1 (by decide) (by decide) (by decide) (by decide) (by decide) (by decide) (by decide) h.E.b2 (by decide) (by decide) (by decide) (by decide) (by decide) (by decide) (by decide) T, X,
   h.S.turn T (fun e => e.elim (h.S.b.ne h.E.b1 (by decide)) (h.S.b.ne h.E.b2 (by decide))), h.H.turn T (fun e => e.elim (h.H.b.ne h.E.b1 (by decide)) (h.H.b.ne h.E.b2 (by decide))), h.X.turn T (fun e => e.elim (h.X.b.ne h.E.b1 (by decide)) (h.X.b.ne h.E.b2 (by decide)))⟩
theorem WS.onL (h : WS w B c s el now P xb sb hb i f calm left st p last) {s' : LSt} (X : LogAt w' B c s') (T : Turn (B.foot c.sh) w w') : WS w' B c s' el now P xb sb hb i f calm left st p last := by
  have N := fun {b : Nat} {t : TypeId} (hb : Blk w b t) (h1 : t ≠ 133) (h2 : t ≠ 216) (h3 : t ≠ 227) (h4 : t ≠ 137) (h5 : t ≠ 219) (h6 : t ≠ 331) => h.L.foot_ne hb h1 h2 h3 h4 h5 h6
  exact ⟨X, h.E.turn T (N h.E.b1 (by decide) (by decide) (by decide) (by decide) (by decide) (by decide)) (N h.E.b2 (by decide) (by decide) (by decide) (by decide) (by decide) (by decide)),
    h.S.turn T (N h.S.b (by decide) (by decide) (by decide) (by decide) (by decide) (by decide)), h.H.turn T (N h.H.b (by decide) (by decide) (by decide) (by decide) (by decide) (by decide)), h.X.turn T (N h.X.b (by decide) (by decide) (by decide) (by decide) (by decide) (by decide))⟩
theorem own_x {k : Nat} (e : k = xb) : WOwn B c el xb sb hb k := .inr (.inr (.inr (.inl e)))
theorem own_s {k : Nat} (e : k = sb) : WOwn B c el xb sb hb k := .inr (.inr (.inr (.inr (.inl e))))
theorem own_h {k : Nat} (e : k = hb) : WOwn B c el xb sb hb k := .inr (.inr (.inr (.inr (.inr e))))
theorem own_e {k : Nat} (e : k = B.ep ∨ k = el) : WOwn B c el xb sb hb k := e.elim (fun e => .inr (.inl e)) (fun e => .inr (.inr (.inl e)))
theorem own_f {k : Nat} (e : B.foot c.sh k) : WOwn B c el xb sb hb k := .inl e
/-- .. its next step is another one. -/
theorem WS.next (h : WS w B c s el now P xb sb hb i f calm left st p last) (f' : Nat) : WS (w.setCell ⟨xb, 4, none⟩ (.func (.func f') #[.pointer (some ⟨xb, 0, none⟩)] #[])) B c s el now P xb sb hb i f' calm left st p last ∧
    Turn (WOwn B c el xb sb hb) w (w.setCell ⟨xb, 4, none⟩ (.func (.func f') #[.pointer (some ⟨xb, 0, none⟩)] #[])) :=
  ⟨h.onX (h.X.setF f') (Turn.put _ _ _ _), (Turn.put _ _ _ _).more (fun _ _ e => own_x e)⟩
def WPost (w : World) (B : LB) (c : Cf) (s : LSt) (el : Nat) (now : Int) (P : Nat → Int) (xb sb hb i f : Nat) (calm left : Bool) (st : Int) (p : Int × Int) (last : Int) (e : Ending) (w' : World) : Prop :=
  e = .returned (.bool true) ∧ WS w' B c s el now P xb sb hb i f calm left st p last ∧ Turn (WOwn B c el xb sb hb) w w'
set_option maxRecDepth 100000 in
set_option maxHeartbeats 2000000 in
theorem WS.pin_is (Z : WS w B c s el now P xb sb hb i 155 calm left st p last) (hi : i < c.sh + 1) (hp : P i = -1) :
    Calls Tryz.prog 155 #[.pointer (some ⟨xb, 0, none⟩)] w (WPost w B c s el now (upd P i now) xb sb hb i 186 calm left st p last) := by
  have EP := Lib.hid (fun W (T : Turn (fun _ => False) w.drew W) => (Z.L.keep (((Turn.refl (fun _ => False) w).drewN 1).trans T)).epochs_is)
  have TD : Turn (fun _ => False) w w.drew := (Turn.refl _ w).drewN 1
  have ZD := Z.same TD
  have PN := Lib.hid (ZD.E.pin_yes hi hp)
  have FF := Lib.hid (show ∀ U, Turn (fun _ => False) w.drew U → U.cell? ⟨xb, 0, none⟩ = some (.pointer (some ⟨B.l, 0, none⟩)) ∧ U.cell? ⟨xb, 1, none⟩ = some (.int .i64 (i : Int)) from fun U TU => ⟨TU.cell (fun f => f) ZD.X.x0, TU.cell (fun f => f) ZD.X.x1⟩)
  have FX := Lib.hid (show ∀ U, Turn (fun k => k = B.ep ∨ k = el) w.drew U → U.cell? ⟨xb, 0, none⟩ = some (.pointer (some ⟨B.l, 0, none⟩)) ∧ U.cell? ⟨xb, 1, none⟩ = some (.int .i64 (i : Int)) from fun U TU => by
    have n : ¬ (xb = B.ep ∨ xb = el) := fun e => e.elim (ZD.X.b.ne ZD.E.b1 (by decide)) (ZD.X.b.ne ZD.E.b2 (by decide))
    exact ⟨TU.cell n ZD.X.x0, TU.cell n ZD.X.x1⟩)
  clear Z
  go_enter Tryz.func155, Tryz.ntmps155
  go_upto_region 1 with fail
  refine wp_region_held_drew (S := fun w' => w'.cell? ⟨xb, 0, none⟩ = some (.pointer (some ⟨B.l, 0, none⟩)) ∧ w'.cell? ⟨xb, 1, none⟩ = some (.int .i64 (i : Int))) (by kernel_rfl) ?hs0 (fun hS0 => ?_)
  case hs0 => exact FF.out _ (Turn.refl _ _)
  refine wpAnyH_take (i := 0) (oi := { dst := some 3, op := Op.move (Operand.tmp 0), type := 72, pos := "worker.go:59", after := #[], guard := none }) (v := ?_) rfl (by kernel_rfl) (by kernel_rfl) (by kernel_rfl) (fun _ _ _ h => h) (Or.inl ⟨by rfl, ?hy1⟩) hS0 ?_
  case hy1 => (intro w hSw; (try dsimp only at hSw); go_simp; try with_reducible rfl)
  try simp only [Act.put, List.setIfInBounds_toArray, List.set_cons_zero, List.set_cons_succ]
  refine wpAnyH_take (i := 1) (oi := { dst := some 4, op := Op.nilCheck (Operand.tmp 3), type := 0, pos := "worker.go:59", after := #[{ on := 0, ground := Ground.data }], guard := none }) (v := ?_) rfl (by kernel_rfl) (by kernel_rfl) (by kernel_rfl) (fun _ _ _ h => h) (Or.inl ⟨by rfl, ?hy2⟩) hS0 ?_
  case hy2 => (intro w hSw; (try dsimp only at hSw); go_simp; try with_reducible rfl)
  try simp only [Act.put, List.setIfInBounds_toArray, List.set_cons_zero, List.set_cons_succ]
  refine wpAnyH_take (i := 2) (oi := { dst := some 5, op := Op.fieldAddr 141 (Operand.tmp 4) 0, type := 0, pos := "worker.go:59", after := #[{ on := 1, ground := Ground.data }], guard := none }) (v := ?_) rfl (by kernel_rfl) (by kernel_rfl) (by kernel_rfl) (fun _ _ _ h => h) (Or.inl ⟨by rfl, ?hy3⟩) hS0 ?_
  case hy3 => (intro w hSw; (try dsimp only at hSw); go_simp; try with_reducible rfl)
  try simp only [Act.put, List.setIfInBounds_toArray, List.set_cons_zero, List.set_cons_succ]
  refine wpAnyH_take (i := 3) (oi := { dst := some 6, op := Op.load 65 (Operand.tmp 5), type := 65, pos := "worker.go:59", after := #[{ on := 2, ground := Ground.data }], guard := none }) (v := ?_) rfl (by kernel_rfl) (by kernel_rfl) (by kernel_rfl) (fun _ _ _ h => h) (Or.inl ⟨by rfl, ?hy4⟩) hS0 ?_
  case hy4 => (intro w hSw; (try dsimp only at hSw); go_simp; try with_reducible rfl)
  try simp only [Act.put, List.setIfInBounds_toArray, List.set_cons_zero, List.set_cons_succ]
  refine wpAnyH_take (i := 5) (oi := { dst := some 8, op := Op.move (Operand.tmp 0), type := 72, pos := "worker.go:59", after := #[], guard := none }) (v := ?_) rfl (by kernel_rfl) (by kernel_rfl) (by kernel_rfl) (fun _ _ _ h => h) (Or.inl ⟨by rfl, ?hy5⟩) hS0 ?_
  case hy5 => (intro w hSw; (try dsimp only at hSw); go_simp; try with_reducible rfl)
  try simp only [Act.put, List.setIfInBounds_toArray, List.set_cons_zero, List.set_cons_succ]
  refine wpAnyH_take (i := 6) (oi := { dst := some 9, op := Op.nilCheck (Operand.tmp 8), type := 0, pos := "worker.go:59", after := #[{ on := 5, ground := Ground.data }], guard := none }) (v := ?_) rfl (by kernel_rfl) (by kernel_rfl) (by kernel_rfl) (fun _ _ _ h => h) (Or.inl ⟨by rfl, ?hy6⟩) hS0 ?_
  case hy6 => (intro w hSw; (try dsimp only at hSw); go_simp; try with_reducible rfl)
  try simp only [Act.put, List.setIfInBounds_toArray, List.set_cons_zero, List.set_cons_succ]
  refine wpAnyH_take (i := 7) (oi := { dst := some 10, op := Op.fieldAddr 141 (Operand.tmp 9) 1, type := 0, pos := "worker.go:59", after := #[{ on := 6, ground := Ground.data }], guard := none }) (v := ?_) rfl (by kernel_rfl) (by kernel_rfl) (by kernel_rfl) (fun _ _ _ h => h) (Or.inl ⟨by rfl, ?hy7⟩) hS0 ?_
  case hy7 => (intro w hSw; (try dsimp only at hSw); go_simp; try with_reducible rfl)
  try simp only [Act.put, List.setIfInBounds_toArray, List.set_cons_zero, List.set_cons_succ]
  refine wpAnyH_take (i := 8) (oi := { dst := some 11, op := Op.load 3 (Operand.tmp 10), type := 3, pos := "worker.go:59", after := #[{ on := 7, ground := Ground.data }], guard := none }) (v := ?_) rfl (by kernel_rfl) (by kernel_rfl) (by kernel_rfl) (fun _ _ _ h => h) (Or.inl ⟨by rfl, ?hy8⟩) hS0 ?_
  case hy8 => (intro w hSw; (try dsimp only at hSw); go_simp; try with_reducible rfl)
  try simp only [Act.put, List.setIfInBounds_toArray, List.set_cons_zero, List.set_cons_succ]
  refine wpAnyH_ready (rs := [4]) (by kernel_rfl) (by simp) ?_
  refine AllReadyH.cons (o := { dst := some 7, op := Op.call { callee := Callee.value (Operand.func 116), args := #[Operand.tmp 6], argTypes := #[65] }, type := 126, pos := "worker.go:59", after := #[{ on := 3, ground := Ground.data }], guard := none }) rfl (fun K hK => ?_) AllReadyH.nil
  go_simp
  with_reducible refine (EP.out _ (Turn.refl _ _)).mono ?_
  rintro en Wk ⟨rfl, rfl⟩
  go_simp
  refine hK.out _ _ ?hs9 (fun hS9 => ?_)
  case hs9 => exact FF.out _ (Turn.refl _ _)
  clear hK K hS0
  refine wpAnyH_ready (rs := [9]) (by kernel_rfl) (by simp) ?_
  refine AllReadyH.cons (o := { dst := some 12, op := Op.call { callee := Callee.value (Operand.func 185), args := #[Operand.tmp 7, Operand.tmp 11], argTypes := #[126, 3] }, type := 4, pos := "worker.go:59", after := #[{ on := 4, ground := Ground.data }, { on := 8, ground := Ground.data }, { on := 4, ground := Ground.chain }], guard := none }) rfl (fun K hK => ?_) AllReadyH.nil
  go_simp
  with_reducible refine PN.out.mono ?_
  rintro en Wp ⟨rfl, EE, TE, _⟩
  go_simp
  have ZZ := ZD.onE EE TE
  have TZ := (TD.more (S' := WOwn B c el xb sb hb) (fun _ _ f => f.elim)).trans (TE.more (fun _ _ e => own_e e))
  refine hK.out _ _ ?hs10 (fun hS10 => ?_)
  case hs10 => exact FX.out _ TE
  clear hK K hS9
  refine wpAnyH_done (by kernel_rfl) ?_ _
  skip
  generalize Wp = WZ at *
  have y4 := ZZ.X.x4
  have fz := ZZ.X.b.fz
  have sf := store_func (f := 186) (x := xb) y4 (fz 4)
  have FIN := Lib.hid (show WPost w B c s el now (upd P i now) xb sb hb i 186 calm left st p last (.returned (.bool true)) _ from ⟨rfl, (ZZ.next 186).1, TZ.trans (ZZ.next 186).2⟩)
  clear ZZ TZ
  go_wp2_with fail
  go_ret
  exact FIN.out
set_option maxRecDepth 100000 in
set_option maxHeartbeats 2000000 in
theorem WS.unpin_is (Z : WS w B c s el now P xb sb hb i 251 calm left st p last) (hi : i < c.sh + 1) (hp : P i ≠ -1) :
    Calls Tryz.prog 251 #[.pointer (some ⟨xb, 0, none⟩)] w (WPost w B c s el now (upd P i (-1)) xb sb hb i 272 calm left st p last) := by
  have EP := Lib.hid (fun W (T : Turn (fun _ => False) w.drew W) => (Z.L.keep (((Turn.refl (fun _ => False) w).drewN 1).trans T)).epochs_is)
  have TD : Turn (fun _ => False) w w.drew := (Turn.refl _ w).drewN 1
  have ZD := Z.same TD
  have PN := Lib.hid (ZD.E.unpin_yes hi hp)
  have FF := Lib.hid (show ∀ U, Turn (fun _ => False) w.drew U → U.cell? ⟨xb, 0, none⟩ = some (.pointer (some ⟨B.l, 0, none⟩)) ∧ U.cell? ⟨xb, 1, none⟩ = some (.int .i64 (i : Int)) from fun U TU => ⟨TU.cell (fun f => f) ZD.X.x0, TU.cell (fun f => f) ZD.X.x1⟩)
  have FX := Lib.hid (show ∀ U, Turn (fun k => k = B.ep ∨ k = el) w.drew U → U.cell? ⟨xb, 0, none⟩ = some (.pointer (some ⟨B.l, 0, none⟩)) ∧ U.cell? ⟨xb, 1, none⟩ = some (.int .i64 (i : Int)) from fun U TU => by
    have n : ¬ (xb = B.ep ∨ xb = el) := fun e => e.elim (ZD.X.b.ne ZD.E.b1 (by decide)) (ZD.X.b.ne ZD.E.b2 (by decide))
    exact ⟨TU.cell n ZD.X.x0, TU.cell n ZD.X.x1⟩)
  clear Z
  go_enter Tryz.func251, Tryz.ntmps251
  go_upto_region 1 with fail
  refine wp_region_held_drew (S := fun w' => w'.cell? ⟨xb, 0, none⟩ = some (.pointer (some ⟨B.l, 0, none⟩)) ∧ w'.cell? ⟨xb, 1, none⟩ = some (.int .i64 (i : Int))) (by kernel_rfl) ?hs0 (fun hS0 => ?_)
  case hs0 => exact FF.out _ (Turn.refl _ _)
  refine wpAnyH_take (i := 0) (oi := { dst := some 3, op := Op.move (Operand.tmp 0), type := 72, pos := "worker.go:98", after := #[], guard := none }) (v := ?_) rfl (by kernel_rfl) (by kernel_rfl) (by kernel_rfl) (fun _ _ _ h => h) (Or.inl ⟨by rfl, ?hy1⟩) hS0 ?_
  case hy1 => (intro w hSw; (try dsimp only at hSw); go_simp; try with_reducible rfl)
  try simp only [Act.put, List.setIfInBounds_toArray, List.set_cons_zero, List.set_cons_succ]
  refine wpAnyH_take (i := 1) (oi := { dst := some 4, op := Op.nilCheck (Operand.tmp 3), type := 0, pos := "worker.go:98", after := #[{ on := 0, ground := Ground.data }], guard := none }) (v := ?_) rfl (by kernel_rfl) (by kernel_rfl) (by kernel_rfl) (fun _ _ _ h => h) (Or.inl ⟨by rfl, ?hy2⟩) hS0 ?_
  case hy2 => (intro w hSw; (try dsimp only at hSw); go_simp; try with_reducible rfl)
  try simp only [Act.put, List.setIfInBounds_toArray, List.set_cons_zero, List.set_cons_succ]
  refine wpAnyH_take (i := 2) (oi := { dst := some 5, op := Op.fieldAddr 141 (Operand.tmp 4) 0, type := 0, pos := "worker.go:98", after := #[{ on := 1, ground := Ground.data }], guard := none }) (v := ?_) rfl (by kernel_rfl) (by kernel_rfl) (by kernel_rfl) (fun _ _ _ h => h) (Or.inl ⟨by rfl, ?hy3⟩) hS0 ?_
  case hy3 => (intro w hSw; (try dsimp only at hSw); go_simp; try with_reducible rfl)
  try simp only [Act.put, List.setIfInBounds_toArray, List.set_cons_zero, List.set_cons_succ]
  refine wpAnyH_take (i := 3) (oi := { dst := some 6, op := Op.load 65 (Operand.tmp 5), type := 65, pos := "worker.go:98", after := #[{ on := 2, ground := Ground.data }], guard := none }) (v := ?_) rfl (by kernel_rfl) (by kernel_rfl) (by kernel_rfl) (fun _ _ _ h => h) (Or.inl ⟨by rfl, ?hy4⟩) hS0 ?_
  case hy4 => (intro w hSw; (try dsimp only at hSw); go_simp; try with_reducible rfl)
  try simp only [Act.put, List.setIfInBounds_toArray, List.set_cons_zero, List.set_cons_succ]
  refine wpAnyH_take (i := 5) (oi := { dst := some 8, op := Op.move (Operand.tmp 0), type := 72, pos := "worker.go:98", after := #[], guard := none }) (v := ?_) rfl (by kernel_rfl) (by kernel_rfl) (by kernel_rfl) (fun _ _ _ h => h) (Or.inl ⟨by rfl, ?hy5⟩) hS0 ?_
  case hy5 => (intro w hSw; (try dsimp only at hSw); go_simp; try with_reducible rfl)
  try simp only [Act.put, List.setIfInBounds_toArray, List.set_cons_zero, List.set_cons_succ]
  refine wpAnyH_take (i := 6) (oi := { dst := some 9, op := Op.nilCheck (Operand.tmp 8), type := 0, pos := "worker.go:98", after := #[{ on := 5, ground := Ground.data }], guard := none }) (v := ?_) rfl (by kernel_rfl) (by kernel_rfl) (by kernel_rfl) (fun _ _ _ h => h) (Or.inl ⟨by rfl, ?hy6⟩) hS0 ?_
  case hy6 => (intro w hSw; (try dsimp only at hSw); go_simp; try with_reducible rfl)
  try simp only [Act.put, List.setIfInBounds_toArray, List.set_cons_zero, List.set_cons_succ]
  refine wpAnyH_take (i := 7) (oi := { dst := some 10, op := Op.fieldAddr 141 (Operand.tmp 9) 1, type := 0, pos := "worker.go:98", after := #[{ on := 6, ground := Ground.data }], guard := none }) (v := ?_) rfl (by kernel_rfl) (by kernel_rfl) (by kernel_rfl) (fun _ _ _ h => h) (Or.inl ⟨by rfl, ?hy7⟩) hS0 ?_
  case hy7 => (intro w hSw; (try dsimp only at hSw); go_simp; try with_reducible rfl)
  try simp only [Act.put, List.setIfInBounds_toArray, List.set_cons_zero, List.set_cons_succ]
  refine wpAnyH_take (i := 8) (oi := { dst := some 11, op := Op.load 3 (Operand.tmp 10), type := 3, pos := "worker.go:98", after := #[{ on := 7, ground := Ground.data }], guard := none }) (v := ?_) rfl (by kernel_rfl) (by kernel_rfl) (by kernel_rfl) (fun _ _ _ h => h) (Or.inl ⟨by rfl, ?hy8⟩) hS0 ?_
  case hy8 => (intro w hSw; (try dsimp only at hSw); go_simp; try with_reducible rfl)
  try simp only [Act.put, List.setIfInBounds_toArray, List.set_cons_zero, List.set_cons_succ]
  refine wpAnyH_ready (rs := [4]) (by kernel_rfl) (by simp) ?_
  refine AllReadyH.cons (o := { dst := some 7, op := Op.call { callee := Callee.value (Operand.func 116), args := #[Operand.tmp 6], argTypes := #[65] }, type := 126, pos := "worker.go:98", after := #[{ on := 3, ground := Ground.data }], guard := none }) rfl (fun K hK => ?_) AllReadyH.nil
  go_simp
  with_reducible refine (EP.out _ (Turn.refl _ _)).mono ?_
  rintro en Wk ⟨rfl, rfl⟩
  go_simp
  refine hK.out _ _ ?hs9 (fun hS9 => ?_)
  case hs9 => exact FF.out _ (Turn.refl _ _)
  clear hK K hS0
  refine wpAnyH_ready (rs := [9]) (by kernel_rfl) (by simp) ?_
  refine AllReadyH.cons (o := { dst := some 12, op := Op.call { callee := Callee.value (Operand.func 271), args := #[Operand.tmp 7, Operand.tmp 11], argTypes := #[126, 3] }, type := 4, pos := "worker.go:98", after := #[{ on := 4, ground := Ground.data }, { on := 8, ground := Ground.data }, { on := 4, ground := Ground.chain }], guard := none }) rfl (fun K hK => ?_) AllReadyH.nil
  go_simp
  with_reducible refine PN.out.mono ?_
  rintro en Wp ⟨rfl, EE, TE, _⟩
  go_simp
  have ZZ := ZD.onE EE TE
  have TZ := (TD.more (S' := WOwn B c el xb sb hb) (fun _ _ f => f.elim)).trans (TE.more (fun _ _ e => own_e e))
  refine hK.out _ _ ?hs10 (fun hS10 => ?_)
  case hs10 => exact FX.out _ TE
  clear hK K hS9
  refine wpAnyH_done (by kernel_rfl) ?_ _
  skip
  generalize Wp = WZ at *
  have y4 := ZZ.X.x4
  have fz := ZZ.X.b.fz
  have sf := store_func (f := 272) (x := xb) y4 (fz 4)
  have FIN := Lib.hid (show WPost w B c s el now (upd P i (-1)) xb sb hb i 272 calm left st p last (.returned (.bool true)) _ from ⟨rfl, (ZZ.next 272).1, TZ.trans (ZZ.next 272).2⟩)
  clear ZZ TZ
  go_wp2_with fail
  go_ret
  exact FIN.out
end
section
variable {w w' : World} {B : LB} {c : Cf} {s : LSt} {el xb sb hb i f : Nat} {now st last : Int} {P : Nat → Int} {calm left : Bool} {p q : Int × Int}
set_option maxRecDepth 100000 in
set_option maxHeartbeats 2000000 in
theorem WS.advance_is (Z : WS w B c s el now P xb sb hb i 284 calm left st p last) (hm : now < 1000000) (hall : ∀ j, j < c.sh + 1 → P j = -1 ∨ P j = now) :
    Calls Tryz.prog 284 #[.pointer (some ⟨xb, 0, none⟩)] w (WPost w B c s el (now + 1) P xb sb hb i 290 calm left st p last) := by
  have EP := Lib.hid Z.L.epochs_is
  have AD := Lib.hid (Z.E.advance_yes (by omega) hm hall)
  have x0 := Z.X.x0
  have HZ := Lib.hid Z
  clear Z hall hm
  go_enter Tryz.func284, Tryz.ntmps284
  go_wp2_with fail
  with_reducible refine EP.out.mono ?_
  rintro e w1 ⟨rfl, rfl⟩
  go_wp2_with fail
  with_reducible refine AD.out.mono ?_
  rintro e Wp ⟨rfl, EE, TE, _⟩
  have ZZ := HZ.out.onE EE TE
  have TZ := TE.more (S' := WOwn B c el xb sb hb) (fun _ _ e => own_e e)
  clear x0 EP AD
  generalize Wp = WZ at *
  have y4 := ZZ.X.x4
  have fz := ZZ.X.b.fz
  have sf := store_func (f := 290) (x := xb) y4 (fz 4)
  have FIN := Lib.hid (show WPost w B c s el (now + 1) P xb sb hb i 290 calm left st p last (.returned (.bool true)) _ from ⟨rfl, (ZZ.next 290).1, TZ.trans (ZZ.next 290).2⟩)
  clear ZZ TZ
  go_wp2_with fail
  go_ret
  exact FIN.out
end
end Go.Proofs.YtgfobgabdafclaaGreat
