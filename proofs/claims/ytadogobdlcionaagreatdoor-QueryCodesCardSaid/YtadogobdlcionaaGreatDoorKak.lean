/-
  The parser reads a query.
-/
import Derived.Test.YtadogobdlcionaaGreatDoorKai
set_option linter.unusedSimpArgs false
namespace Go.Proofs.YtadogobdlcionaaGreatDoor
open Go.ChangeShapes Go.WideShapes Go.ChangeAt Go.RowKit Go.Shelf
set_option linter.unusedVariables false
def afterE (s : ByteArray) (L : List (Nat × Tok)) (e : Nat) (E : List EL) (i : Nat) : PA QU := (condsB s L e i).bind (tailB s L e E)
theorem query_eq (s : ByteArray) (L : List (Nat × Tok)) (e : Nat) : queryB s L e = if hasB s L seqT 0 then (elemsB s L e 1).bind (afterE s L e) else .stop (placeE L e 0) 11 := rfl
/-- What holds between two elements. -/
def ElRel (w : World) (p base : Nat) (s : ByteArray) (L : List (Nat × Tok)) (v : Value) (e : Nat) (R : PA QU) (gh : Nat) (W : World) : Prop :=
  ∃ E i ev, gh ≤ L.length + 1 ∧ R = (elemsF s L e gh i E).bind (afterE s L e) ∧ QS w p base s L v e W E [] ev (.slice none 0 0) 0 false i ∧ L.length - i < gh
/-- What holds between two conditions. -/
def CnRel (w : World) (p base : Nat) (s : ByteArray) (L : List (Nat × Tok)) (v : Value) (e : Nat) (E : List EL) (ev : Value) (R : PA QU) (gh : Nat) (W : World) : Prop :=
  ∃ C i cv, gh ≤ L.length + 1 ∧ R = (condsF s L e gh i C).bind (tailB s L e E) ∧ QS w p base s L v e W E C ev cv 0 false i ∧ L.length - i < gh
set_option maxRecDepth 100000 in
set_option maxHeartbeats 4000000 in
theorem query_is (w : World) {p base : Nat} {s : ByteArray} {L : List (Nat × Tok)} {v : Value} {e : Nat} (h : ParAt w p base s L v 0 e 0) :
    Calls Tryz.prog 33 #[.pointer (some ⟨p, 0, none⟩)] w (PaPost p base s L v e 0 w (quV w.heap.size) (queryB s L e)) := by
  have HS := Lib.hid (fun (W : World) (i : Nat) (t : ByteArray) (h : ParAt W p base s L v i e 0) => has_is W h t)
  have WT := Lib.hid (fun (W : World) (i : Nat) (t : ByteArray) (h : ParAt W p base s L v i e 0) => want_is W h t)
  have CT := Lib.hid (fun (W : World) (i : Nat) (h : ParAt W p base s L v i e 0) => element_is W h)
  have CC := Lib.hid (fun (W : World) (i : Nat) (h : ParAt W p base s L v i e 0) (hi : i ≤ L.length) => cond_is W h hi (Nat.zero_le 16))
  have TK := Lib.hid (fun (W : World) (i : Nat) (h : ParAt W p base s L v i e 0) => take_is W h (int_tells s))
  have RF := Lib.hid (fun (W : World) (i : Nat) (h : ParAt W p base s L v i e 0) => refuse_is W h)
  obtain ⟨W, hW⟩ : ∃ W, W = (w.alloc (.cells #[.slice none 0 0, .slice none 0 0, .int .i64 0, .bool false] 30)).alloc (.cells #[.slice none 0 0, .slice none 0 0, .int .i64 0, .bool false] 30) := ⟨_, rfl⟩
  have T0 : Turn (fun _ => False) w W := by rw [hW]; exact ((Turn.refl _ _).alloc _).alloc _
  have RR : W.rangeAt w.heap.size 0 (quL (.slice none 0 0) (.slice none 0 0) 0 false) := by rw [hW]; exact range_turn (range_new w (quL (.slice none 0 0) (.slice none 0 0) 0 false) 30) ((Turn.refl (fun _ => False) _).alloc _) id
  have BR : Blk W w.heap.size 30 := by rw [hW]; exact (Blk.new w (quL (.slice none 0 0) (.slice none 0 0) 0 false) 30).turn ((Turn.refl (fun _ => False) _).alloc _) id
  have RE : W.rangeAt (w.heap.size + 1) 0 (quL (.slice none 0 0) (.slice none 0 0) 0 false) := by rw [hW]; have := range_new (w.alloc (.cells #[.slice none 0 0, .slice none 0 0, .int .i64 0, .bool false] 30)) (quL (.slice none 0 0) (.slice none 0 0) 0 false) 30; rw [World.size_alloc] at this; exact this
  have BE : Blk W (w.heap.size + 1) 30 := by rw [hW]; have := Blk.new (w.alloc (.cells #[.slice none 0 0, .slice none 0 0, .int .i64 0, .bool false] 30)) (quL (.slice none 0 0) (.slice none 0 0) 0 false) 30; rw [World.size_alloc] at this; exact this
  have Q0 := Lib.hid (show QS w p base s L v e W [] [] (.slice none 0 0) (.slice none 0 0) 0 false 0 from ⟨h.turn T0, RR, BR, RE, BE, World.ownsRow_nil .., ⟨[], World.ownsRow_nil .., by simp⟩, T0.more (fun _ _ f => f.elim), h.bl.lt, fun k hk => (own_blk h.row hk).1.lt, Nat.le_refl _, Nat.le_refl _, Nat.zero_le _⟩)
  obtain ⟨R, hR⟩ : ∃ R, R = queryB s L e := ⟨_, rfl⟩
  rw [← hR]
  rw [query_eq] at hR
  have HR := Lib.hid hR
  have HW := Lib.hid hW
  clear hW RR BR RE BE h T0 hR
  go_enter Tryz.func33, Tryz.ntmps33
  go_upto_region 2 with fail
  rw [← HW.out]
  go_wp2_with fail
  with_reducible refine (WT.out W 0 seqT Q0.out.par).mono ?_
  rintro y w1 (⟨hb, rfl, T1, P1⟩ | ⟨hb, rfl, T1⟩)
  case inr =>
    have G := Lib.hid (And.intro (Q0.out.tu.trans T1) hb)
    clear T1 hb
    unfold stopE
    go_wp2_with fail
    refine ⟨rfl, ?_⟩
    rw [HR.out, if_neg (by rw [G.out.2]; decide)]
    exact ⟨rfl, G.out.1⟩
  have hR := HR.out
  rw [if_pos hb] at hR
  have HR2 := Lib.hid hR
  have Q1 := Lib.hid (Q0.out.go T1 P1 (by omega) (has_lt hb))
  have Q1DT : Turn (fun _ => False) w1 w1.drew := (Turn.refl _ _).drewN 1
  have PD := Q1.out.par.turn Q1DT
  have sD := (Q1.out.quiet Q1DT).c.1
  clear hR HR HW Q0 T1 P1 hb
  go_upto_region 3 with fail
  refine lany_start 7 (fun zb w' => zb = false → (fun w' => w'.cell? ⟨w.heap.size + 1, 0, none⟩ = some (.slice none 0 0)) w') (by kernel_rfl) ?hs0 (fun hS0 => ?_)
  case hs0 => exact fun _ => sD
  skip
  refine LAny.take (i := 0) (oi := { dst := some 8, op := Op.fieldAddr 30 (Operand.tmp 3) 0, type := 0, pos := "parse.go:54", after := #[], guard := none }) (v := ?_) rfl (by kernel_rfl) (by kernel_rfl) (by kernel_rfl) (by kernel_rfl) (fun _ _ _ h => h) (Or.inl ⟨by rfl, ?hy1⟩) hS0 ?_
  case hy1 => (intro w hSw; have hSw := hSw rfl; (try dsimp only at hSw); go_simp; try with_reducible rfl)
  try simp only [Act.put, List.setIfInBounds_toArray, List.set_cons_zero, List.set_cons_succ]
  refine LAny.take (i := 1) (oi := { dst := some 9, op := Op.load 27 (Operand.tmp 8), type := 27, pos := "parse.go:54", after := #[{ on := 0, ground := Ground.data }], guard := none }) (v := ?_) rfl (by kernel_rfl) (by kernel_rfl) (by kernel_rfl) (by kernel_rfl) (fun _ _ _ h => h) (Or.inl ⟨by rfl, ?hy2⟩) hS0 ?_
  case hy2 => (intro w hSw; have hSw := hSw rfl; (try dsimp only at hSw); go_simp; try with_reducible rfl)
  try simp only [Act.put, List.setIfInBounds_toArray, List.set_cons_zero, List.set_cons_succ]
  refine LAny.take (i := 2) (oi := { dst := some 10, op := Op.move (Operand.tmp 0), type := 85, pos := "parse.go:54", after := #[], guard := none }) (v := ?_) rfl (by kernel_rfl) (by kernel_rfl) (by kernel_rfl) (by kernel_rfl) (fun _ _ _ h => h) (Or.inl ⟨by rfl, ?hy3⟩) hS0 ?_
  case hy3 => (intro w hSw; have hSw := hSw rfl; (try dsimp only at hSw); go_simp; try with_reducible rfl)
  try simp only [Act.put, List.setIfInBounds_toArray, List.set_cons_zero, List.set_cons_succ]
  refine LAny.one (i := 3) (o := { dst := some 11, op := Op.call { callee := Callee.value (Operand.func 52), args := #[Operand.tmp 10], argTypes := #[85] }, type := 43, pos := "parse.go:54", after := #[{ on := 2, ground := Ground.data }], guard := none }) (b := false) (by kernel_rfl) rfl (by kernel_rfl) (fun K hK => ?_)
  go_simp
  with_reducible refine (CT.out _ _ PD).mono ?_
  intro y w1 hy
  obtain ⟨r1, hr1⟩ : ∃ r, r = elemB s L e (1) := ⟨_, rfl⟩
  rw [← hr1] at hy
  have HR1 := Lib.hid hr1
  clear hr1
  cases r1 with
  | out => exact hy.elim
  | stop a r =>
    obtain ⟨rfl, T1⟩ := hy
    have G := Lib.hid ((Q1.out.tu.trans ((Q1DT).more (fun _ _ f => f.elim))).trans T1)
    clear T1
    unfold stopE
    go_simp
    try go_wp2_with fail
    refine ⟨rfl, ?_⟩
    rw [HR2.out, elemsB, ← HR1.out]
    exact ⟨rfl, G.out⟩
  | ok x j =>
  obtain ⟨xv, rfl, hxv, T1, P1⟩ := hy
  unfold elV at hxv
  subst hxv
  have hij := elem_le HR1.out.symm
  have Z1 := (Q1.out.quiet (Q1DT)).go T1 P1 (by omega) (by omega)
  have hll := Z1.en
  have hcl := Z1.cn
  have hL := Z1.par.le
  have hsz : w.heap.size ≤ w1.heap.size := Z1.tu.size
  have hi1 := Q1.out.en
  have hi2 := Q1.out.cn
  obtain ⟨v2, w2, hrun, ho2, T2⟩ := el_add Z1.eo (by omega) hsz x
  have F := put_elems Z1 T2 ho2 (by rw [List.length_append]; simp only [List.length_cons, List.length_nil]; omega)
  obtain ⟨a2, k2, rfl, -⟩ := own_slice ho2
  have c1 := Z1.c.1
  have FF := Lib.hid (And.intro F.2.2 (And.intro hij (And.intro HR1.out trivial)))
  have fc := F.1
  have ff := F.2.1
  have RUN := Lib.hid hrun
  clear hrun ho2 T2 F hij T1 P1 Z1 hll hcl hL hsz hi1 hi2
  try unfold elL
  go_simp
  refine hK.out _ _ ?hs4 (fun hS4 => ?_)
  case hs4 => exact fun _ => c1
  clear hK K hS0
  refine LAny.one (i := 4) (o := { dst := some 12, op := Op.buildSlice 27 1 #[(0, Operand.tmp 11)], type := 27, pos := "parse.go:54", after := #[{ on := 3, ground := Ground.data }], guard := none }) (b := false) (by kernel_rfl) rfl (by kernel_rfl) (fun K hK => ?_)
  go_simp
  refine hK.out _ _ ?hs5 (fun hS5 => ?_)
  case hs5 => exact fun _ => ((Turn.refl (fun _ => False) _).alloc _).cell id c1
  clear hK K hS4
  refine LAny.one (i := 5) (o := { dst := some 13, op := Op.call { callee := Callee.builtin Builtin.append, args := #[Operand.tmp 9, Operand.tmp 12], argTypes := #[27, 27] }, type := 27, pos := "parse.go:54", after := #[{ on := 1, ground := Ground.data }, { on := 4, ground := Ground.data }, { on := 3, ground := Ground.chain }], guard := none }) (b := false) (by kernel_rfl) rfl (by kernel_rfl) (fun K hK => ?_)
  refine rs_append_run (by rfl) _ _ _ (by rfl) (by rfl) (by rfl) RUN.out ?_
  refine hK.out _ _ ?hs6 (fun hS6 => ?_)
  case hs6 => exact fun _ => fc
  clear hK K hS5
  refine LAny.take (i := 6) (oi := { dst := some 14, op := Op.fieldAddr 30 (Operand.tmp 3) 0, type := 0, pos := "parse.go:54", after := #[{ on := 0, ground := Ground.phase }, { on := 1, ground := Ground.phase }, { on := 2, ground := Ground.phase }, { on := 3, ground := Ground.phase }, { on := 4, ground := Ground.phase }, { on := 5, ground := Ground.phase }], guard := none }) (v := ?_) rfl (by kernel_rfl) (by kernel_rfl) (by kernel_rfl) (by kernel_rfl) (fun _ _ _ h => h) (Or.inl ⟨by rfl, ?hy7⟩) hS6 ?_
  case hy7 => (intro w hSw; have hSw := hSw rfl; (try dsimp only at hSw); go_simp; try with_reducible rfl)
  try simp only [Act.put, List.setIfInBounds_toArray, List.set_cons_zero, List.set_cons_succ]
  refine LAny.one (i := 7) (o := { dst := none, op := Op.store 27 (Operand.tmp 14) (Operand.tmp 13), type := 0, pos := "parse.go:54", after := #[{ on := 6, ground := Ground.data }, { on := 5, ground := Ground.data }, { on := 5, ground := Ground.chain }, { on := 0, ground := Ground.phase }, { on := 1, ground := Ground.phase }, { on := 2, ground := Ground.phase }, { on := 3, ground := Ground.phase }, { on := 4, ground := Ground.phase }, { on := 5, ground := Ground.phase }], guard := none }) (b := true) (by kernel_rfl) rfl (by kernel_rfl) (fun K hK => ?_)
  go_simp
  refine hK.out _ _ ?hs8 (fun hS8 => ?_)
  case hs8 => exact fun h => by cases h
  clear hK K hS6
  refine LAny.done (by kernel_rfl) ?_ _
  skip
  have ST := Lib.hid (show ElRel w p base s L v e R (L.length + 1) (w2.setCell ⟨w.heap.size + 1, 0, none⟩ (.slice a2 1 k2)) from ⟨[x], j, _, Nat.le_refl _, by rw [HR2.out, elemsB, ← FF.out.2.2.1]; rfl, FF.out.1, by omega⟩)
  clear FF c1 fc ff PD sD Q1DT hS8 RUN HR1
  go_wp2_with fail
  go_loopg [] (L.length + 1) (fun gh wr => ElRel w p base s L v e R gh wr)
  case atStart => exact ST.out
  case round =>
    clear ST
    obtain ⟨E, i, ev, hgh, hRR, hq, hlt⟩ := hrel
    obtain ⟨g, rfl⟩ : ∃ g, gk = g + 1 := ⟨gk - 1, by omega⟩
    have Q2 := Lib.hid hq
    have HR3 := Lib.hid hRR
    have HG := Lib.hid (And.intro hgh hlt)
    clear hq hRR hgh hlt
    go_wp2_with fail
    with_reducible refine (HS.out wr i commaT Q2.out.par).mono ?_
    rintro y w3 ⟨rfl, T3, P3⟩
    cases hb : hasB s L commaT i with
    | true =>
      rw [if_pos hb] at P3
      have HR4 := Lib.hid (show R = ((elemB s L e (i + 1)).bind fun x j => elemsF s L e g j (E ++ [x])).bind (afterE s L e) by rw [HR3.out, elemsF, if_pos hb])
      have Q3 := Lib.hid (Q2.out.go T3 P3 (by omega) (has_lt hb))
      obtain ⟨ea, ec, rfl, -⟩ := own_slice Q3.out.eo
      have Q3DT : Turn (fun _ => False) w3 w3.drew := (Turn.refl _ _).drewN 1
      have PD := Q3.out.par.turn Q3DT
      have sD := (Q3.out.quiet Q3DT).c.1
      clear HR3 Q2 T3 P3 hb HR2 Q1
      go_upto_region 5 with fail
      refine lany_start 7 (fun zb w' => zb = false → (fun w' => w'.cell? ⟨w.heap.size + 1, 0, none⟩ = some (.slice ea E.length ec)) w') (by kernel_rfl) ?hs0 (fun hS0 => ?_)
      case hs0 => exact fun _ => sD
      skip
      refine LAny.take (i := 0) (oi := { dst := some 17, op := Op.fieldAddr 30 (Operand.tmp 3) 0, type := 0, pos := "parse.go:56", after := #[], guard := none }) (v := ?_) rfl (by kernel_rfl) (by kernel_rfl) (by kernel_rfl) (by kernel_rfl) (fun _ _ _ h => h) (Or.inl ⟨by rfl, ?hy1⟩) hS0 ?_
      case hy1 => (intro w hSw; have hSw := hSw rfl; (try dsimp only at hSw); go_simp; try with_reducible rfl)
      try simp only [Act.put, List.setIfInBounds_toArray, List.set_cons_zero, List.set_cons_succ]
      refine LAny.take (i := 1) (oi := { dst := some 18, op := Op.load 27 (Operand.tmp 17), type := 27, pos := "parse.go:56", after := #[{ on := 0, ground := Ground.data }], guard := none }) (v := ?_) rfl (by kernel_rfl) (by kernel_rfl) (by kernel_rfl) (by kernel_rfl) (fun _ _ _ h => h) (Or.inl ⟨by rfl, ?hy2⟩) hS0 ?_
      case hy2 => (intro w hSw; have hSw := hSw rfl; (try dsimp only at hSw); go_simp; try with_reducible rfl)
      try simp only [Act.put, List.setIfInBounds_toArray, List.set_cons_zero, List.set_cons_succ]
      refine LAny.take (i := 2) (oi := { dst := some 19, op := Op.move (Operand.tmp 0), type := 85, pos := "parse.go:56", after := #[], guard := none }) (v := ?_) rfl (by kernel_rfl) (by kernel_rfl) (by kernel_rfl) (by kernel_rfl) (fun _ _ _ h => h) (Or.inl ⟨by rfl, ?hy3⟩) hS0 ?_
      case hy3 => (intro w hSw; have hSw := hSw rfl; (try dsimp only at hSw); go_simp; try with_reducible rfl)
      try simp only [Act.put, List.setIfInBounds_toArray, List.set_cons_zero, List.set_cons_succ]
      refine LAny.one (i := 3) (o := { dst := some 20, op := Op.call { callee := Callee.value (Operand.func 52), args := #[Operand.tmp 19], argTypes := #[85] }, type := 43, pos := "parse.go:56", after := #[{ on := 2, ground := Ground.data }], guard := none }) (b := false) (by kernel_rfl) rfl (by kernel_rfl) (fun K hK => ?_)
      go_simp
      with_reducible refine (CT.out _ _ PD).mono ?_
      intro y w1 hy
      obtain ⟨r1, hr1⟩ : ∃ r, r = elemB s L e (i + 1) := ⟨_, rfl⟩
      rw [← hr1] at hy
      have HR1 := Lib.hid hr1
      clear hr1
      cases r1 with
      | out => exact hy.elim
      | stop a r =>
        obtain ⟨rfl, T1⟩ := hy
        have G := Lib.hid ((Q3.out.tu.trans ((Q3DT).more (fun _ _ f => f.elim))).trans T1)
        clear T1
        unfold stopE
        go_simp
        try go_wp2_with fail
        refine ⟨rfl, ?_⟩
        rw [HR4.out, ← HR1.out]
        exact ⟨rfl, G.out⟩
      | ok x j =>
      obtain ⟨xv, rfl, hxv, T1, P1⟩ := hy
      unfold elV at hxv
      subst hxv
      have hij := elem_le HR1.out.symm
      have Z1 := (Q3.out.quiet (Q3DT)).go T1 P1 (by omega) (by omega)
      have hll := Z1.en
      have hcl := Z1.cn
      have hL := Z1.par.le
      have hsz : w.heap.size ≤ w1.heap.size := Z1.tu.size
      have hi1 := Q3.out.en
      have hi2 := Q3.out.cn
      obtain ⟨v2, w2, hrun, ho2, T2⟩ := el_add Z1.eo (by omega) hsz x
      have F := put_elems Z1 T2 ho2 (by rw [List.length_append]; simp only [List.length_cons, List.length_nil]; omega)
      obtain ⟨a2, k2, rfl, -⟩ := own_slice ho2
      have c1 := Z1.c.1
      have FF := Lib.hid (And.intro F.2.2 (And.intro hij (And.intro HR1.out trivial)))
      have fc := F.1
      have ff := F.2.1
      have RUN := Lib.hid hrun
      clear hrun ho2 T2 F hij T1 P1 Z1 hll hcl hL hsz hi1 hi2
      try unfold elL
      go_simp
      refine hK.out _ _ ?hs4 (fun hS4 => ?_)
      case hs4 => exact fun _ => c1
      clear hK K hS0
      refine LAny.one (i := 4) (o := { dst := some 21, op := Op.buildSlice 27 1 #[(0, Operand.tmp 20)], type := 27, pos := "parse.go:56", after := #[{ on := 3, ground := Ground.data }], guard := none }) (b := false) (by kernel_rfl) rfl (by kernel_rfl) (fun K hK => ?_)
      go_simp
      refine hK.out _ _ ?hs5 (fun hS5 => ?_)
      case hs5 => exact fun _ => ((Turn.refl (fun _ => False) _).alloc _).cell id c1
      clear hK K hS4
      refine LAny.one (i := 5) (o := { dst := some 22, op := Op.call { callee := Callee.builtin Builtin.append, args := #[Operand.tmp 18, Operand.tmp 21], argTypes := #[27, 27] }, type := 27, pos := "parse.go:56", after := #[{ on := 1, ground := Ground.data }, { on := 4, ground := Ground.data }, { on := 3, ground := Ground.chain }], guard := none }) (b := false) (by kernel_rfl) rfl (by kernel_rfl) (fun K hK => ?_)
      refine rs_append_run (by rfl) _ _ _ (by rfl) (by rfl) (by rfl) RUN.out ?_
      refine hK.out _ _ ?hs6 (fun hS6 => ?_)
      case hs6 => exact fun _ => fc
      clear hK K hS5
      refine LAny.take (i := 6) (oi := { dst := some 23, op := Op.fieldAddr 30 (Operand.tmp 3) 0, type := 0, pos := "parse.go:56", after := #[{ on := 0, ground := Ground.phase }, { on := 1, ground := Ground.phase }, { on := 2, ground := Ground.phase }, { on := 3, ground := Ground.phase }, { on := 4, ground := Ground.phase }, { on := 5, ground := Ground.phase }], guard := none }) (v := ?_) rfl (by kernel_rfl) (by kernel_rfl) (by kernel_rfl) (by kernel_rfl) (fun _ _ _ h => h) (Or.inl ⟨by rfl, ?hy7⟩) hS6 ?_
      case hy7 => (intro w hSw; have hSw := hSw rfl; (try dsimp only at hSw); go_simp; try with_reducible rfl)
      try simp only [Act.put, List.setIfInBounds_toArray, List.set_cons_zero, List.set_cons_succ]
      refine LAny.one (i := 7) (o := { dst := none, op := Op.store 27 (Operand.tmp 23) (Operand.tmp 22), type := 0, pos := "parse.go:56", after := #[{ on := 6, ground := Ground.data }, { on := 5, ground := Ground.data }, { on := 5, ground := Ground.chain }, { on := 0, ground := Ground.phase }, { on := 1, ground := Ground.phase }, { on := 2, ground := Ground.phase }, { on := 3, ground := Ground.phase }, { on := 4, ground := Ground.phase }, { on := 5, ground := Ground.phase }], guard := none }) (b := true) (by kernel_rfl) rfl (by kernel_rfl) (fun K hK => ?_)
      go_simp
      refine hK.out _ _ ?hs8 (fun hS8 => ?_)
      case hs8 => exact fun h => by cases h
      clear hK K hS6
      refine LAny.done (by kernel_rfl) ?_ _
      skip
      have ST := Lib.hid (show ElRel w p base s L v e R g (w2.setCell ⟨w.heap.size + 1, 0, none⟩ (.slice a2 (E ++ [x]).length k2)) from ⟨E ++ [x], j, _, by have := HG.out.1; omega, by rw [HR4.out, ← FF.out.2.2.1]; rfl, FF.out.1, by have := FF.out.2.1; have := HG.out.2; omega⟩)
      clear FF c1 fc ff PD sD Q3DT RUN HR1
      go_wp2_with fail
      go_roundg g
      case measure => omega
      case rel => (have q := ST.out; rw [List.length_append] at q; exact q)
    | false =>
      rw [if_neg (by rw [hb]; decide)] at P3
      have HR4 := Lib.hid (show R = (condsB s L e i).bind (tailB s L e E) by rw [HR3.out, elemsF, if_neg (by rw [hb]; decide)]; rfl)
      have Q3 := Lib.hid (Q2.out.go T3 P3 (Nat.le_refl _) Q2.out.il)
      clear HR3 Q2 T3 P3 hb HR2 Q1
      go_wp2_with fail
      with_reducible refine (HS.out w3 i whereT Q3.out.par).mono ?_
      rintro y w4 ⟨rfl, T4, P4⟩
      cases hb : hasB s L whereT i with
      | false =>
        rw [if_neg (by rw [hb]; decide)] at P4
        have HR5 := Lib.hid (show R = tailB s L e E [] i by rw [HR4.out, condsB, if_neg (by rw [hb]; decide)]; rfl)
        have Q4 := Lib.hid (Q3.out.go T4 P4 (Nat.le_refl _) Q3.out.il)
        clear HR4 Q3 T4 P4 hb
        have TT := Lib.hid (WT.out _ i withinT Q4.out.par)
        go_wp2_with fail
        with_reducible refine TT.out.mono ?_
        rintro y wa (⟨hb, rfl, Ta, Pa⟩ | ⟨hb, rfl, Ta⟩)
        case inr =>
          have G := Lib.hid (Q4.out.tu.trans Ta)
          have HB := Lib.hid hb
          clear Ta hb
          unfold stopE
          go_wp2_with fail
          refine ⟨rfl, ?_⟩
          rw [HR5.out, tailB, if_neg (by rw [HB.out]; decide)]
          exact ⟨rfl, G.out⟩
        have HB := Lib.hid hb
        have Qa := Lib.hid (Q4.out.go Ta Pa (by omega) (has_lt hb))
        clear Ta Pa hb TT
        go_wp2_with fail
        with_reducible refine (TK.out wa _ Qa.out.par).mono ?_
        rintro y wb (⟨xi, hx, rfl, Tb, Pb⟩ | ⟨hx, rfl, Tb⟩)
        case inr =>
          have G := Lib.hid (Qa.out.tu.trans Tb)
          have HX := Lib.hid hx
          clear Tb hx
          unfold stopE
          go_wp2_with fail
          refine ⟨rfl, ?_⟩
          rw [HR5.out, tailB, if_pos HB.out, HX.out]
          exact ⟨rfl, G.out⟩
        have HX := Lib.hid hx
        have Qb0 := Qa.out.go Tb Pb (by omega) (take_lt hx)
        have c2 := Qb0.c.2.2.1
        have f2 := Qb0.bq.fz
        have Qb1 := Qb0.put (k := 2) (x := .int .i64 (xi.2.n : Int)) (wd' := xi.2.n) (by' := false) (by decide) rfl
        have g3 := tok_n xi.2.kind xi.1 xi.2.n (s.extract xi.1 (xi.1 + xi.2.len)) wb
        unfold tokC tokL
        obtain ⟨wc, hwc⟩ : ∃ X, X = wb.setCell ⟨w.heap.size + 1, 2, none⟩ (.int .i64 (xi.2.n : Int)) := ⟨_, rfl⟩
        rw [← hwc] at Qb1
        have Qb := Lib.hid Qb1
        have HC := Lib.hid hwc
        clear Qb0 Qb1 Tb Pb hwc hx
        go_upto_region 12 with fail
        rw [← HC.out]
        clear c2 f2 g3 HC
        go_wp2_with fail
        with_reducible refine (HS.out wc _ byT Qb.out.par).mono ?_
        rintro y wd ⟨rfl, Td, Pd⟩
        cases hb2 : hasB s L byT (i + 1 + 1) with
        | false =>
          rw [if_neg (by rw [hb2]; decide)] at Pd
          have Qd := Lib.hid (Qb.out.go Td Pd (Nat.le_refl _) Qb.out.il)
          have HRd := Lib.hid (show R = restB L e ⟨E, [], xi.2.n, false⟩ (i + 1 + 1) by rw [HR5.out, tailB, if_pos HB.out, HX.out]; dsimp only; rw [if_neg (by rw [show i + 2 = i + 1 + 1 from rfl, hb2]; decide)])
          clear Td Pd hb2
          by_cases hl : i + 1 + 1 < L.length
          · obtain ⟨xx, hxx⟩ : ∃ xx, L[i + 1 + 1]? = some xx := ⟨_, List.getElem?_eq_getElem hl⟩
            have PK := Lib.hid (peek_some _ Qd.out.par hxx)
            have PE := Lib.hid hl
            clear hl hxx
            unfold tokC tokL at PK
            generalize s.extract xx.1 (xx.1 + xx.2.len) = ttx at *
            go_wp2_with fail
            with_reducible refine PK.out.mono ?_
            rintro y wp ⟨rfl, TP⟩
            have TP2 := TP.trans (show Turn (fun _ => False) wp (wp.alloc (.cells #[.int .i64 (xx.2.kind : Int), .int .i64 (xx.1 : Int), .string ttx, .int .i64 (xx.2.n : Int)] 65)) from (Turn.refl _ _).alloc _)
            have R1 := Lib.hid (RF.out _ _ ((Qd.out.quiet TP2).par))
            have TH := Lib.hid ((Qd.out.quiet TP2).tu)
            clear TP TP2
            go_wp2_with fail
            with_reducible refine R1.out.mono ?_
            rintro y wq ⟨rfl, TQ⟩
            have G := Lib.hid (TH.out.trans (TQ.more (fun _ _ f => f.elim)))
            clear TQ
            unfold stopE
            go_wp2_with fail
            refine ⟨rfl, ?_⟩
            rw [HRd.out, restB, if_pos PE.out]
            exact ⟨rfl, G.out⟩
          · have PK := Lib.hid (peek_none _ Qd.out.par (Nat.le_of_not_lt hl))
            have PE := Lib.hid hl
            clear hl
            unfold ztok at PK
            go_wp2_with fail
            with_reducible refine PK.out.mono ?_
            rintro y wp ⟨rfl, TP⟩
            obtain ⟨wq, hwq⟩ : ∃ X, X = wp.alloc (.cells #[.int .i64 0, .int .i64 0, .string ⟨#[]⟩, .int .i64 0] 65) := ⟨_, rfl⟩
            have TP2 : Turn (fun _ => False) _ wq := TP.trans (by rw [hwq]; exact (Turn.refl _ _).alloc _)
            have QE := Qd.out.quiet TP2
            obtain ⟨d0, d1, d2, d3⟩ := QE.c
            have y0 := QE.rr 0 _ rfl
            have y1 := QE.rr 1 _ rfl
            have y2 := QE.rr 2 _ rfl
            have y3 := QE.rr 3 _ rfl
            have f8 := QE.br.fz
            have F8 := Lib.hid QE
            have HWQ := Lib.hid hwq
            clear TP TP2 QE hwq
            go_upto_region 16 with fail
            rw [← HWQ.out]
            clear HWQ
            obtain ⟨ea, ec, rfl, -⟩ := own_slice F8.out.eo
            go_wp2_with fail
            refine QS.end_ (q := ⟨E, [], xi.2.n, false⟩) F8.out rfl rfl (fun x W' hv T P => ?_)
            rw [HRd.out, restB, if_neg PE.out]
            exact ⟨_, rfl, hv, T, P⟩
        | true =>
          rw [if_pos hb2] at Pd
          have Qd := Lib.hid (Qb.out.go Td Pd (by omega) (has_lt hb2))
          have HB2 := Lib.hid hb2
          clear Td Pd hb2
          go_wp2_with fail
          with_reducible refine (WT.out wd _ keyT Qd.out.par).mono ?_
          rintro y we (⟨hb3, rfl, Te, Pe⟩ | ⟨hb3, rfl, Te⟩)
          case inr =>
            have G := Lib.hid (Qd.out.tu.trans Te)
            have HX3 := Lib.hid hb3
            clear Te hb3
            unfold stopE
            go_wp2_with fail
            refine ⟨rfl, ?_⟩
            rw [HR5.out, tailB, if_pos HB.out, HX.out]; dsimp only; rw [if_pos HB2.out, if_neg (by rw [show i + 3 = i + 1 + 1 + 1 from rfl, HX3.out]; decide)]
            exact ⟨rfl, G.out⟩
          have Qe0 := Qd.out.go Te Pe (by omega) (has_lt hb3)
          have c3 := Qe0.c.2.2.2
          have f3 := Qe0.bq.fz
          have Qe1 := Qe0.put (k := 3) (x := .bool true) (wd' := xi.2.n) (by' := true) (by decide) rfl
          have HB3 := Lib.hid hb3
          obtain ⟨wf, hwf⟩ : ∃ X, X = we.setCell ⟨w.heap.size + 1, 3, none⟩ (.bool true) := ⟨_, rfl⟩
          rw [← hwf] at Qe1
          have Qe := Lib.hid Qe1
          have HF := Lib.hid hwf
          have HRd := Lib.hid (show R = restB L e ⟨E, [], xi.2.n, true⟩ (i + 1 + 1 + 1 + 1) by rw [HR5.out, tailB, if_pos HB.out, HX.out]; dsimp only; rw [if_pos HB2.out, if_pos HB3.out])
          clear Qe0 Qe1 Te Pe hwf hb3
          go_upto_region 15 with fail
          rw [← HF.out]
          clear c3 f3 HF
          by_cases hl : i + 1 + 1 + 1 + 1 < L.length
          · obtain ⟨xx, hxx⟩ : ∃ xx, L[i + 1 + 1 + 1 + 1]? = some xx := ⟨_, List.getElem?_eq_getElem hl⟩
            have PK := Lib.hid (peek_some _ Qe.out.par hxx)
            have PE := Lib.hid hl
            clear hl hxx
            unfold tokC tokL at PK
            generalize s.extract xx.1 (xx.1 + xx.2.len) = ttx at *
            go_wp2_with fail
            with_reducible refine PK.out.mono ?_
            rintro y wp ⟨rfl, TP⟩
            have TP2 := TP.trans (show Turn (fun _ => False) wp (wp.alloc (.cells #[.int .i64 (xx.2.kind : Int), .int .i64 (xx.1 : Int), .string ttx, .int .i64 (xx.2.n : Int)] 65)) from (Turn.refl _ _).alloc _)
            have R1 := Lib.hid (RF.out _ _ ((Qe.out.quiet TP2).par))
            have TH := Lib.hid ((Qe.out.quiet TP2).tu)
            clear TP TP2
            go_wp2_with fail
            with_reducible refine R1.out.mono ?_
            rintro y wq ⟨rfl, TQ⟩
            have G := Lib.hid (TH.out.trans (TQ.more (fun _ _ f => f.elim)))
            clear TQ
            unfold stopE
            go_wp2_with fail
            refine ⟨rfl, ?_⟩
            rw [HRd.out, restB, if_pos PE.out]
            exact ⟨rfl, G.out⟩
          · have PK := Lib.hid (peek_none _ Qe.out.par (Nat.le_of_not_lt hl))
            have PE := Lib.hid hl
            clear hl
            unfold ztok at PK
            go_wp2_with fail
            with_reducible refine PK.out.mono ?_
            rintro y wp ⟨rfl, TP⟩
            obtain ⟨wq, hwq⟩ : ∃ X, X = wp.alloc (.cells #[.int .i64 0, .int .i64 0, .string ⟨#[]⟩, .int .i64 0] 65) := ⟨_, rfl⟩
            have TP2 : Turn (fun _ => False) _ wq := TP.trans (by rw [hwq]; exact (Turn.refl _ _).alloc _)
            have QE := Qe.out.quiet TP2
            obtain ⟨d0, d1, d2, d3⟩ := QE.c
            have y0 := QE.rr 0 _ rfl
            have y1 := QE.rr 1 _ rfl
            have y2 := QE.rr 2 _ rfl
            have y3 := QE.rr 3 _ rfl
            have f8 := QE.br.fz
            have F8 := Lib.hid QE
            have HWQ := Lib.hid hwq
            clear TP TP2 QE hwq
            go_upto_region 16 with fail
            rw [← HWQ.out]
            clear HWQ
            obtain ⟨ea, ec, rfl, -⟩ := own_slice F8.out.eo
            go_wp2_with fail
            refine QS.end_ (q := ⟨E, [], xi.2.n, true⟩) F8.out rfl rfl (fun x W' hv T P => ?_)
            rw [HRd.out, restB, if_neg PE.out]
            exact ⟨_, rfl, hv, T, P⟩
      | true =>
        rw [if_pos hb] at P4
        have HR5 := Lib.hid (show R = ((condB s L e 0 (i + 1)).bind fun c j => condsF s L e (L.length + 1) j [c]).bind (tailB s L e E) by rw [HR4.out, condsB, if_pos hb])
        have Q4 := Lib.hid (Q3.out.go T4 P4 (by omega) (has_lt hb))
        have IL : i + 1 ≤ L.length := has_lt hb
        have Q4DT : Turn (fun _ => False) w4 w4.drew := (Turn.refl _ _).drewN 1
        have PD := Q4.out.par.turn Q4DT
        have sD := (Q4.out.quiet Q4DT).c.2.1
        have SZ : w.heap.size ≤ w4.drew.heap.size := Q4.out.tu.size
        clear HR4 Q3 T4 P4 hb
        go_upto_region 7 with fail
        refine lany_start 7 (fun zb w' => zb = false → (fun w' => w'.cell? ⟨w.heap.size + 1, 1, none⟩ = some (.slice none 0 0)) w') (by kernel_rfl) ?hs0 (fun hS0 => ?_)
        case hs0 => exact fun _ => sD
        skip
        refine LAny.take (i := 0) (oi := { dst := some 26, op := Op.fieldAddr 30 (Operand.tmp 3) 1, type := 0, pos := "parse.go:59", after := #[], guard := none }) (v := ?_) rfl (by kernel_rfl) (by kernel_rfl) (by kernel_rfl) (by kernel_rfl) (fun _ _ _ h => h) (Or.inl ⟨by rfl, ?hy1⟩) hS0 ?_
        case hy1 => (intro w hSw; have hSw := hSw rfl; (try dsimp only at hSw); go_simp; try with_reducible rfl)
        try simp only [Act.put, List.setIfInBounds_toArray, List.set_cons_zero, List.set_cons_succ]
        refine LAny.take (i := 1) (oi := { dst := some 27, op := Op.load 28 (Operand.tmp 26), type := 28, pos := "parse.go:59", after := #[{ on := 0, ground := Ground.data }], guard := none }) (v := ?_) rfl (by kernel_rfl) (by kernel_rfl) (by kernel_rfl) (by kernel_rfl) (fun _ _ _ h => h) (Or.inl ⟨by rfl, ?hy2⟩) hS0 ?_
        case hy2 => (intro w hSw; have hSw := hSw rfl; (try dsimp only at hSw); go_simp; try with_reducible rfl)
        try simp only [Act.put, List.setIfInBounds_toArray, List.set_cons_zero, List.set_cons_succ]
        refine LAny.take (i := 2) (oi := { dst := some 28, op := Op.move (Operand.tmp 0), type := 85, pos := "parse.go:59", after := #[], guard := none }) (v := ?_) rfl (by kernel_rfl) (by kernel_rfl) (by kernel_rfl) (by kernel_rfl) (fun _ _ _ h => h) (Or.inl ⟨by rfl, ?hy3⟩) hS0 ?_
        case hy3 => (intro w hSw; have hSw := hSw rfl; (try dsimp only at hSw); go_simp; try with_reducible rfl)
        try simp only [Act.put, List.setIfInBounds_toArray, List.set_cons_zero, List.set_cons_succ]
        refine LAny.one (i := 3) (o := { dst := some 29, op := Op.call { callee := Callee.value (Operand.func 54), args := #[Operand.tmp 28], argTypes := #[85] }, type := 47, pos := "parse.go:59", after := #[{ on := 2, ground := Ground.data }], guard := none }) (b := false) (by kernel_rfl) rfl (by kernel_rfl) (fun K hK => ?_)
        go_simp
        with_reducible refine (CC.out _ _ PD (IL)).mono ?_
        intro y w1 hy
        obtain ⟨r1, hr1⟩ : ∃ r, r = condB s L e 0 (i + 1) := ⟨_, rfl⟩
        rw [← hr1] at hy
        have HR1 := Lib.hid hr1
        clear hr1
        cases r1 with
        | out => exact hy.elim
        | stop a r =>
          obtain ⟨rfl, T1⟩ := hy
          have G := Lib.hid ((Q4.out.tu.trans ((Q4DT).more (fun _ _ f => f.elim))).trans T1)
          clear T1
          unfold stopE
          go_simp
          try go_wp2_with fail
          refine ⟨rfl, ?_⟩
          rw [HR5.out, ← HR1.out]
          exact ⟨rfl, G.out⟩
        | ok x j =>
        obtain ⟨xv, rfl, ⟨lv, rv, rfl, VL, VR⟩, T1, P1⟩ := hy
        obtain ⟨la, lc, rfl, -⟩ := own_slice VL
        obtain ⟨ra, rc, rfl, -⟩ := own_slice VR
        have hij := cond_le HR1.out.symm IL
        have Z1 := (Q4.out.quiet (Q4DT)).go T1 P1 (by omega) (by omega)
        have hll := Z1.en
        have hcl := Z1.cn
        have hL := Z1.par.le
        have hsz : w.heap.size ≤ w1.heap.size := Z1.tu.size
        have hi1 := Q4.out.en
        have hi2 := Q4.out.cn
        obtain ⟨v2, w2, hrun, ho2, T2⟩ := cn_add Z1.co (c := x) (by omega) hsz (VL.low SZ) (VR.low SZ)
        have F := put_conds Z1 T2 ho2 (by rw [List.length_append]; simp only [List.length_cons, List.length_nil]; omega)
        obtain ⟨a2, k2, rfl⟩ : ∃ a k, v2 = .slice a ([] ++ [x]).length k := by
          obtain ⟨xs, ho, -⟩ := ho2
          obtain ⟨a, k, h, -⟩ := own_slice ho
          exact ⟨a, k, h⟩
        have c1 := Z1.c.2.1
        have FF := Lib.hid (And.intro F.2.2 (And.intro hij (And.intro HR1.out trivial)))
        have fc := F.1
        have ff := F.2.1
        have RUN := Lib.hid hrun
        clear hrun ho2 T2 F hij T1 P1 Z1 hll hcl hL hsz hi1 hi2 VL VR
        try unfold elL
        go_simp
        refine hK.out _ _ ?hs4 (fun hS4 => ?_)
        case hs4 => exact fun _ => c1
        clear hK K hS0
        refine LAny.one (i := 4) (o := { dst := some 30, op := Op.buildSlice 28 1 #[(0, Operand.tmp 29)], type := 28, pos := "parse.go:59", after := #[{ on := 3, ground := Ground.data }], guard := none }) (b := false) (by kernel_rfl) rfl (by kernel_rfl) (fun K hK => ?_)
        go_simp
        refine hK.out _ _ ?hs5 (fun hS5 => ?_)
        case hs5 => exact fun _ => ((Turn.refl (fun _ => False) _).alloc _).cell id c1
        clear hK K hS4
        refine LAny.one (i := 5) (o := { dst := some 31, op := Op.call { callee := Callee.builtin Builtin.append, args := #[Operand.tmp 27, Operand.tmp 30], argTypes := #[28, 28] }, type := 28, pos := "parse.go:59", after := #[{ on := 1, ground := Ground.data }, { on := 4, ground := Ground.data }, { on := 3, ground := Ground.chain }], guard := none }) (b := false) (by kernel_rfl) rfl (by kernel_rfl) (fun K hK => ?_)
        refine rs_append_run (by rfl) _ _ _ (by rfl) (by rfl) (by rfl) RUN.out ?_
        refine hK.out _ _ ?hs6 (fun hS6 => ?_)
        case hs6 => exact fun _ => fc
        clear hK K hS5
        refine LAny.take (i := 6) (oi := { dst := some 32, op := Op.fieldAddr 30 (Operand.tmp 3) 1, type := 0, pos := "parse.go:59", after := #[{ on := 0, ground := Ground.phase }, { on := 1, ground := Ground.phase }, { on := 2, ground := Ground.phase }, { on := 3, ground := Ground.phase }, { on := 4, ground := Ground.phase }, { on := 5, ground := Ground.phase }], guard := none }) (v := ?_) rfl (by kernel_rfl) (by kernel_rfl) (by kernel_rfl) (by kernel_rfl) (fun _ _ _ h => h) (Or.inl ⟨by rfl, ?hy7⟩) hS6 ?_
        case hy7 => (intro w hSw; have hSw := hSw rfl; (try dsimp only at hSw); go_simp; try with_reducible rfl)
        try simp only [Act.put, List.setIfInBounds_toArray, List.set_cons_zero, List.set_cons_succ]
        refine LAny.one (i := 7) (o := { dst := none, op := Op.store 28 (Operand.tmp 32) (Operand.tmp 31), type := 0, pos := "parse.go:59", after := #[{ on := 6, ground := Ground.data }, { on := 5, ground := Ground.data }, { on := 5, ground := Ground.chain }, { on := 0, ground := Ground.phase }, { on := 1, ground := Ground.phase }, { on := 2, ground := Ground.phase }, { on := 3, ground := Ground.phase }, { on := 4, ground := Ground.phase }, { on := 5, ground := Ground.phase }], guard := none }) (b := true) (by kernel_rfl) rfl (by kernel_rfl) (fun K hK => ?_)
        go_simp
        refine hK.out _ _ ?hs8 (fun hS8 => ?_)
        case hs8 => exact fun h => by cases h
        clear hK K hS6
        refine LAny.done (by kernel_rfl) ?_ _
        skip
        have ST := Lib.hid (show CnRel w p base s L v e E ev R (L.length + 1) (w2.setCell ⟨w.heap.size + 1, 1, none⟩ (.slice a2 1 k2)) from ⟨[x], j, _, Nat.le_refl _, by rw [HR5.out, ← FF.out.2.2.1]; rfl, FF.out.1, by omega⟩)
        clear FF c1 fc ff PD sD Q4DT RUN HR1 IL SZ
        go_wp2_with fail
        go_loopg [] (L.length + 1) (fun gh wr => CnRel w p base s L v e E ev R gh wr)
        case atStart => exact ST.out
        case round =>
          clear ST HR5 Q4
          obtain ⟨C, i, cv, hgh, hRR, hq, hlt⟩ := hrel
          obtain ⟨m, rfl⟩ : ∃ m, gk = m + 1 := ⟨gk - 1, by omega⟩
          have Q5 := Lib.hid hq
          have HR6 := Lib.hid hRR
          have HG2 := Lib.hid (And.intro hgh hlt)
          clear hq hRR hgh hlt
          go_wp2_with fail
          with_reducible refine (HS.out wr i andT Q5.out.par).mono ?_
          rintro y w5 ⟨rfl, T5, P5⟩
          cases hb : hasB s L andT i with
          | true =>
            rw [if_pos hb] at P5
            have HR7 := Lib.hid (show R = ((condB s L e 0 (i + 1)).bind fun x j => condsF s L e m j (C ++ [x])).bind (tailB s L e E) by rw [HR6.out, condsF, if_pos hb])
            have Q6 := Lib.hid (Q5.out.go T5 P5 (by omega) (has_lt hb))
            obtain ⟨ca, cc, rfl⟩ : ∃ a c, cv = .slice a C.length c := by
              obtain ⟨xs, ho, -⟩ := Q6.out.co
              obtain ⟨a, c, h, -⟩ := own_slice ho
              exact ⟨a, c, h⟩
            have IL : i + 1 ≤ L.length := has_lt hb
            have Q6DT : Turn (fun _ => False) w5 w5.drew := (Turn.refl _ _).drewN 1
            have PD := Q6.out.par.turn Q6DT
            have sD := (Q6.out.quiet Q6DT).c.2.1
            have SZ : w.heap.size ≤ w5.drew.heap.size := Q6.out.tu.size
            clear HR6 Q5 T5 P5 hb
            go_upto_region 9 with fail
            refine lany_start 7 (fun zb w' => zb = false → (fun w' => w'.cell? ⟨w.heap.size + 1, 1, none⟩ = some (.slice ca C.length cc)) w') (by kernel_rfl) ?hs0 (fun hS0 => ?_)
            case hs0 => exact fun _ => sD
            skip
            refine LAny.take (i := 0) (oi := { dst := some 35, op := Op.fieldAddr 30 (Operand.tmp 3) 1, type := 0, pos := "parse.go:61", after := #[], guard := none }) (v := ?_) rfl (by kernel_rfl) (by kernel_rfl) (by kernel_rfl) (by kernel_rfl) (fun _ _ _ h => h) (Or.inl ⟨by rfl, ?hy1⟩) hS0 ?_
            case hy1 => (intro w hSw; have hSw := hSw rfl; (try dsimp only at hSw); go_simp; try with_reducible rfl)
            try simp only [Act.put, List.setIfInBounds_toArray, List.set_cons_zero, List.set_cons_succ]
            refine LAny.take (i := 1) (oi := { dst := some 36, op := Op.load 28 (Operand.tmp 35), type := 28, pos := "parse.go:61", after := #[{ on := 0, ground := Ground.data }], guard := none }) (v := ?_) rfl (by kernel_rfl) (by kernel_rfl) (by kernel_rfl) (by kernel_rfl) (fun _ _ _ h => h) (Or.inl ⟨by rfl, ?hy2⟩) hS0 ?_
            case hy2 => (intro w hSw; have hSw := hSw rfl; (try dsimp only at hSw); go_simp; try with_reducible rfl)
            try simp only [Act.put, List.setIfInBounds_toArray, List.set_cons_zero, List.set_cons_succ]
            refine LAny.take (i := 2) (oi := { dst := some 37, op := Op.move (Operand.tmp 0), type := 85, pos := "parse.go:61", after := #[], guard := none }) (v := ?_) rfl (by kernel_rfl) (by kernel_rfl) (by kernel_rfl) (by kernel_rfl) (fun _ _ _ h => h) (Or.inl ⟨by rfl, ?hy3⟩) hS0 ?_
            case hy3 => (intro w hSw; have hSw := hSw rfl; (try dsimp only at hSw); go_simp; try with_reducible rfl)
            try simp only [Act.put, List.setIfInBounds_toArray, List.set_cons_zero, List.set_cons_succ]
            refine LAny.one (i := 3) (o := { dst := some 38, op := Op.call { callee := Callee.value (Operand.func 54), args := #[Operand.tmp 37], argTypes := #[85] }, type := 47, pos := "parse.go:61", after := #[{ on := 2, ground := Ground.data }], guard := none }) (b := false) (by kernel_rfl) rfl (by kernel_rfl) (fun K hK => ?_)
            go_simp
            with_reducible refine (CC.out _ _ PD (IL)).mono ?_
            intro y w1 hy
            obtain ⟨r1, hr1⟩ : ∃ r, r = condB s L e 0 (i + 1) := ⟨_, rfl⟩
            rw [← hr1] at hy
            have HR1 := Lib.hid hr1
            clear hr1
            cases r1 with
            | out => exact hy.elim
            | stop a r =>
              obtain ⟨rfl, T1⟩ := hy
              have G := Lib.hid ((Q6.out.tu.trans ((Q6DT).more (fun _ _ f => f.elim))).trans T1)
              clear T1
              unfold stopE
              go_simp
              try go_wp2_with fail
              refine ⟨rfl, ?_⟩
              rw [HR7.out, ← HR1.out]
              exact ⟨rfl, G.out⟩
            | ok x j =>
            obtain ⟨xv, rfl, ⟨lv, rv, rfl, VL, VR⟩, T1, P1⟩ := hy
            obtain ⟨la, lc, rfl, -⟩ := own_slice VL
            obtain ⟨ra, rc, rfl, -⟩ := own_slice VR
            have hij := cond_le HR1.out.symm IL
            have Z1 := (Q6.out.quiet (Q6DT)).go T1 P1 (by omega) (by omega)
            have hll := Z1.en
            have hcl := Z1.cn
            have hL := Z1.par.le
            have hsz : w.heap.size ≤ w1.heap.size := Z1.tu.size
            have hi1 := Q6.out.en
            have hi2 := Q6.out.cn
            obtain ⟨v2, w2, hrun, ho2, T2⟩ := cn_add Z1.co (c := x) (by omega) hsz (VL.low SZ) (VR.low SZ)
            have F := put_conds Z1 T2 ho2 (by rw [List.length_append]; simp only [List.length_cons, List.length_nil]; omega)
            obtain ⟨a2, k2, rfl⟩ : ∃ a k, v2 = .slice a (C ++ [x]).length k := by
              obtain ⟨xs, ho, -⟩ := ho2
              obtain ⟨a, k, h, -⟩ := own_slice ho
              exact ⟨a, k, h⟩
            have c1 := Z1.c.2.1
            have FF := Lib.hid (And.intro F.2.2 (And.intro hij (And.intro HR1.out trivial)))
            have fc := F.1
            have ff := F.2.1
            have RUN := Lib.hid hrun
            clear hrun ho2 T2 F hij T1 P1 Z1 hll hcl hL hsz hi1 hi2 VL VR
            try unfold elL
            go_simp
            refine hK.out _ _ ?hs4 (fun hS4 => ?_)
            case hs4 => exact fun _ => c1
            clear hK K hS0
            refine LAny.one (i := 4) (o := { dst := some 39, op := Op.buildSlice 28 1 #[(0, Operand.tmp 38)], type := 28, pos := "parse.go:61", after := #[{ on := 3, ground := Ground.data }], guard := none }) (b := false) (by kernel_rfl) rfl (by kernel_rfl) (fun K hK => ?_)
            go_simp
            refine hK.out _ _ ?hs5 (fun hS5 => ?_)
            case hs5 => exact fun _ => ((Turn.refl (fun _ => False) _).alloc _).cell id c1
            clear hK K hS4
            refine LAny.one (i := 5) (o := { dst := some 40, op := Op.call { callee := Callee.builtin Builtin.append, args := #[Operand.tmp 36, Operand.tmp 39], argTypes := #[28, 28] }, type := 28, pos := "parse.go:61", after := #[{ on := 1, ground := Ground.data }, { on := 4, ground := Ground.data }, { on := 3, ground := Ground.chain }], guard := none }) (b := false) (by kernel_rfl) rfl (by kernel_rfl) (fun K hK => ?_)
            refine rs_append_run (by rfl) _ _ _ (by rfl) (by rfl) (by rfl) RUN.out ?_
            refine hK.out _ _ ?hs6 (fun hS6 => ?_)
            case hs6 => exact fun _ => fc
            clear hK K hS5
            refine LAny.take (i := 6) (oi := { dst := some 41, op := Op.fieldAddr 30 (Operand.tmp 3) 1, type := 0, pos := "parse.go:61", after := #[{ on := 0, ground := Ground.phase }, { on := 1, ground := Ground.phase }, { on := 2, ground := Ground.phase }, { on := 3, ground := Ground.phase }, { on := 4, ground := Ground.phase }, { on := 5, ground := Ground.phase }], guard := none }) (v := ?_) rfl (by kernel_rfl) (by kernel_rfl) (by kernel_rfl) (by kernel_rfl) (fun _ _ _ h => h) (Or.inl ⟨by rfl, ?hy7⟩) hS6 ?_
            case hy7 => (intro w hSw; have hSw := hSw rfl; (try dsimp only at hSw); go_simp; try with_reducible rfl)
            try simp only [Act.put, List.setIfInBounds_toArray, List.set_cons_zero, List.set_cons_succ]
            refine LAny.one (i := 7) (o := { dst := none, op := Op.store 28 (Operand.tmp 41) (Operand.tmp 40), type := 0, pos := "parse.go:61", after := #[{ on := 6, ground := Ground.data }, { on := 5, ground := Ground.data }, { on := 5, ground := Ground.chain }, { on := 0, ground := Ground.phase }, { on := 1, ground := Ground.phase }, { on := 2, ground := Ground.phase }, { on := 3, ground := Ground.phase }, { on := 4, ground := Ground.phase }, { on := 5, ground := Ground.phase }], guard := none }) (b := true) (by kernel_rfl) rfl (by kernel_rfl) (fun K hK => ?_)
            go_simp
            refine hK.out _ _ ?hs8 (fun hS8 => ?_)
            case hs8 => exact fun h => by cases h
            clear hK K hS6
            refine LAny.done (by kernel_rfl) ?_ _
            skip
            have ST := Lib.hid (show CnRel w p base s L v e E ev R m (w2.setCell ⟨w.heap.size + 1, 1, none⟩ (.slice a2 (C ++ [x]).length k2)) from ⟨C ++ [x], j, _, by have := HG2.out.1; omega, by rw [HR7.out, ← FF.out.2.2.1]; rfl, FF.out.1, by have := FF.out.2.1; have := HG2.out.2; omega⟩)
            clear FF c1 fc ff PD sD Q6DT RUN HR1 IL SZ
            go_wp2_with fail
            go_roundg m
            case measure => omega
            case rel => (have q := ST.out; rw [List.length_append] at q; exact q)
          | false =>
            rw [if_neg (by rw [hb]; decide)] at P5
            have HR7 := Lib.hid (show R = tailB s L e E C i by rw [HR6.out, condsF, if_neg (by rw [hb]; decide)]; rfl)
            have Q6 := Lib.hid (Q5.out.go T5 P5 (Nat.le_refl _) Q5.out.il)
            clear HR6 Q5 T5 P5 hb
            have TT := Lib.hid (WT.out _ i withinT Q6.out.par)
            go_wp2_with fail
            with_reducible refine TT.out.mono ?_
            rintro y wa (⟨hb, rfl, Ta, Pa⟩ | ⟨hb, rfl, Ta⟩)
            case inr =>
              have G := Lib.hid (Q6.out.tu.trans Ta)
              have HB := Lib.hid hb
              clear Ta hb
              unfold stopE
              go_wp2_with fail
              refine ⟨rfl, ?_⟩
              rw [HR7.out, tailB, if_neg (by rw [HB.out]; decide)]
              exact ⟨rfl, G.out⟩
            have HB := Lib.hid hb
            have Qa := Lib.hid (Q6.out.go Ta Pa (by omega) (has_lt hb))
            clear Ta Pa hb TT
            go_wp2_with fail
            with_reducible refine (TK.out wa _ Qa.out.par).mono ?_
            rintro y wb (⟨xi, hx, rfl, Tb, Pb⟩ | ⟨hx, rfl, Tb⟩)
            case inr =>
              have G := Lib.hid (Qa.out.tu.trans Tb)
              have HX := Lib.hid hx
              clear Tb hx
              unfold stopE
              go_wp2_with fail
              refine ⟨rfl, ?_⟩
              rw [HR7.out, tailB, if_pos HB.out, HX.out]
              exact ⟨rfl, G.out⟩
            have HX := Lib.hid hx
            have Qb0 := Qa.out.go Tb Pb (by omega) (take_lt hx)
            have c2 := Qb0.c.2.2.1
            have f2 := Qb0.bq.fz
            have Qb1 := Qb0.put (k := 2) (x := .int .i64 (xi.2.n : Int)) (wd' := xi.2.n) (by' := false) (by decide) rfl
            have g3 := tok_n xi.2.kind xi.1 xi.2.n (s.extract xi.1 (xi.1 + xi.2.len)) wb
            unfold tokC tokL
            obtain ⟨wc, hwc⟩ : ∃ X, X = wb.setCell ⟨w.heap.size + 1, 2, none⟩ (.int .i64 (xi.2.n : Int)) := ⟨_, rfl⟩
            rw [← hwc] at Qb1
            have Qb := Lib.hid Qb1
            have HC := Lib.hid hwc
            clear Qb0 Qb1 Tb Pb hwc hx
            go_upto_region 12 with fail
            rw [← HC.out]
            clear c2 f2 g3 HC
            go_wp2_with fail
            with_reducible refine (HS.out wc _ byT Qb.out.par).mono ?_
            rintro y wd ⟨rfl, Td, Pd⟩
            cases hb2 : hasB s L byT (i + 1 + 1) with
            | false =>
              rw [if_neg (by rw [hb2]; decide)] at Pd
              have Qd := Lib.hid (Qb.out.go Td Pd (Nat.le_refl _) Qb.out.il)
              have HRd := Lib.hid (show R = restB L e ⟨E, C, xi.2.n, false⟩ (i + 1 + 1) by rw [HR7.out, tailB, if_pos HB.out, HX.out]; dsimp only; rw [if_neg (by rw [show i + 2 = i + 1 + 1 from rfl, hb2]; decide)])
              clear Td Pd hb2
              by_cases hl : i + 1 + 1 < L.length
              · obtain ⟨xx, hxx⟩ : ∃ xx, L[i + 1 + 1]? = some xx := ⟨_, List.getElem?_eq_getElem hl⟩
                have PK := Lib.hid (peek_some _ Qd.out.par hxx)
                have PE := Lib.hid hl
                clear hl hxx
                unfold tokC tokL at PK
                generalize s.extract xx.1 (xx.1 + xx.2.len) = ttx at *
                go_wp2_with fail
                with_reducible refine PK.out.mono ?_
                rintro y wp ⟨rfl, TP⟩
                have TP2 := TP.trans (show Turn (fun _ => False) wp (wp.alloc (.cells #[.int .i64 (xx.2.kind : Int), .int .i64 (xx.1 : Int), .string ttx, .int .i64 (xx.2.n : Int)] 65)) from (Turn.refl _ _).alloc _)
                have R1 := Lib.hid (RF.out _ _ ((Qd.out.quiet TP2).par))
                have TH := Lib.hid ((Qd.out.quiet TP2).tu)
                clear TP TP2
                go_wp2_with fail
                with_reducible refine R1.out.mono ?_
                rintro y wq ⟨rfl, TQ⟩
                have G := Lib.hid (TH.out.trans (TQ.more (fun _ _ f => f.elim)))
                clear TQ
                unfold stopE
                go_wp2_with fail
                refine ⟨rfl, ?_⟩
                rw [HRd.out, restB, if_pos PE.out]
                exact ⟨rfl, G.out⟩
              · have PK := Lib.hid (peek_none _ Qd.out.par (Nat.le_of_not_lt hl))
                have PE := Lib.hid hl
                clear hl
                unfold ztok at PK
                go_wp2_with fail
                with_reducible refine PK.out.mono ?_
                rintro y wp ⟨rfl, TP⟩
                obtain ⟨wq, hwq⟩ : ∃ X, X = wp.alloc (.cells #[.int .i64 0, .int .i64 0, .string ⟨#[]⟩, .int .i64 0] 65) := ⟨_, rfl⟩
                have TP2 : Turn (fun _ => False) _ wq := TP.trans (by rw [hwq]; exact (Turn.refl _ _).alloc _)
                have QE := Qd.out.quiet TP2
                obtain ⟨d0, d1, d2, d3⟩ := QE.c
                have y0 := QE.rr 0 _ rfl
                have y1 := QE.rr 1 _ rfl
                have y2 := QE.rr 2 _ rfl
                have y3 := QE.rr 3 _ rfl
                have f8 := QE.br.fz
                have F8 := Lib.hid QE
                have HWQ := Lib.hid hwq
                clear TP TP2 QE hwq
                go_upto_region 16 with fail
                rw [← HWQ.out]
                clear HWQ
                obtain ⟨ea, ec, rfl, -⟩ := own_slice F8.out.eo
                obtain ⟨ca, cc, rfl⟩ : ∃ a c, cv = .slice a C.length c := by
                  obtain ⟨xs, ho, -⟩ := F8.out.co
                  obtain ⟨a, c, h, -⟩ := own_slice ho
                  exact ⟨a, c, h⟩
                go_wp2_with fail
                refine QS.end_ (q := ⟨E, C, xi.2.n, false⟩) F8.out rfl rfl (fun x W' hv T P => ?_)
                rw [HRd.out, restB, if_neg PE.out]
                exact ⟨_, rfl, hv, T, P⟩
            | true =>
              rw [if_pos hb2] at Pd
              have Qd := Lib.hid (Qb.out.go Td Pd (by omega) (has_lt hb2))
              have HB2 := Lib.hid hb2
              clear Td Pd hb2
              go_wp2_with fail
              with_reducible refine (WT.out wd _ keyT Qd.out.par).mono ?_
              rintro y we (⟨hb3, rfl, Te, Pe⟩ | ⟨hb3, rfl, Te⟩)
              case inr =>
                have G := Lib.hid (Qd.out.tu.trans Te)
                have HX3 := Lib.hid hb3
                clear Te hb3
                unfold stopE
                go_wp2_with fail
                refine ⟨rfl, ?_⟩
                rw [HR7.out, tailB, if_pos HB.out, HX.out]; dsimp only; rw [if_pos HB2.out, if_neg (by rw [show i + 3 = i + 1 + 1 + 1 from rfl, HX3.out]; decide)]
                exact ⟨rfl, G.out⟩
              have Qe0 := Qd.out.go Te Pe (by omega) (has_lt hb3)
              have c3 := Qe0.c.2.2.2
              have f3 := Qe0.bq.fz
              have Qe1 := Qe0.put (k := 3) (x := .bool true) (wd' := xi.2.n) (by' := true) (by decide) rfl
              have HB3 := Lib.hid hb3
              obtain ⟨wf, hwf⟩ : ∃ X, X = we.setCell ⟨w.heap.size + 1, 3, none⟩ (.bool true) := ⟨_, rfl⟩
              rw [← hwf] at Qe1
              have Qe := Lib.hid Qe1
              have HF := Lib.hid hwf
              have HRd := Lib.hid (show R = restB L e ⟨E, C, xi.2.n, true⟩ (i + 1 + 1 + 1 + 1) by rw [HR7.out, tailB, if_pos HB.out, HX.out]; dsimp only; rw [if_pos HB2.out, if_pos HB3.out])
              clear Qe0 Qe1 Te Pe hwf hb3
              go_upto_region 15 with fail
              rw [← HF.out]
              clear c3 f3 HF
              by_cases hl : i + 1 + 1 + 1 + 1 < L.length
              · obtain ⟨xx, hxx⟩ : ∃ xx, L[i + 1 + 1 + 1 + 1]? = some xx := ⟨_, List.getElem?_eq_getElem hl⟩
                have PK := Lib.hid (peek_some _ Qe.out.par hxx)
                have PE := Lib.hid hl
                clear hl hxx
                unfold tokC tokL at PK
                generalize s.extract xx.1 (xx.1 + xx.2.len) = ttx at *
                go_wp2_with fail
                with_reducible refine PK.out.mono ?_
                rintro y wp ⟨rfl, TP⟩
                have TP2 := TP.trans (show Turn (fun _ => False) wp (wp.alloc (.cells #[.int .i64 (xx.2.kind : Int), .int .i64 (xx.1 : Int), .string ttx, .int .i64 (xx.2.n : Int)] 65)) from (Turn.refl _ _).alloc _)
                have R1 := Lib.hid (RF.out _ _ ((Qe.out.quiet TP2).par))
                have TH := Lib.hid ((Qe.out.quiet TP2).tu)
                clear TP TP2
                go_wp2_with fail
                with_reducible refine R1.out.mono ?_
                rintro y wq ⟨rfl, TQ⟩
                have G := Lib.hid (TH.out.trans (TQ.more (fun _ _ f => f.elim)))
                clear TQ
                unfold stopE
                go_wp2_with fail
                refine ⟨rfl, ?_⟩
                rw [HRd.out, restB, if_pos PE.out]
                exact ⟨rfl, G.out⟩
              · have PK := Lib.hid (peek_none _ Qe.out.par (Nat.le_of_not_lt hl))
                have PE := Lib.hid hl
                clear hl
                unfold ztok at PK
                go_wp2_with fail
                with_reducible refine PK.out.mono ?_
                rintro y wp ⟨rfl, TP⟩
                obtain ⟨wq, hwq⟩ : ∃ X, X = wp.alloc (.cells #[.int .i64 0, .int .i64 0, .string ⟨#[]⟩, .int .i64 0] 65) := ⟨_, rfl⟩
                have TP2 : Turn (fun _ => False) _ wq := TP.trans (by rw [hwq]; exact (Turn.refl _ _).alloc _)
                have QE := Qe.out.quiet TP2
                obtain ⟨d0, d1, d2, d3⟩ := QE.c
                have y0 := QE.rr 0 _ rfl
                have y1 := QE.rr 1 _ rfl
                have y2 := QE.rr 2 _ rfl
                have y3 := QE.rr 3 _ rfl
                have f8 := QE.br.fz
                have F8 := Lib.hid QE
                have HWQ := Lib.hid hwq
                clear TP TP2 QE hwq
                go_upto_region 16 with fail
                rw [← HWQ.out]
                clear HWQ
                obtain ⟨ea, ec, rfl, -⟩ := own_slice F8.out.eo
                obtain ⟨ca, cc, rfl⟩ : ∃ a c, cv = .slice a C.length c := by
                  obtain ⟨xs, ho, -⟩ := F8.out.co
                  obtain ⟨a, c, h, -⟩ := own_slice ho
                  exact ⟨a, c, h⟩
                go_wp2_with fail
                refine QS.end_ (q := ⟨E, C, xi.2.n, true⟩) F8.out rfl rfl (fun x W' hv T P => ?_)
                rw [HRd.out, restB, if_neg PE.out]
                exact ⟨_, rfl, hv, T, P⟩
end Go.Proofs.YtadogobdlcionaaGreatDoor
