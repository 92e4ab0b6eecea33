/-
  What stands side by side, with signs between.
  A product and a sum.
  A part that stands alone.
  A part that stands alone: how many there are.
  A part that stands alone: a name's field.
  A part that stands alone: a sign before a part.
  A part that stands alone: a sum in a bracket.
-/
import Derived.Test.YtadogobdlcionaaGreatDoorKag
set_option linter.unusedSimpArgs false
namespace Go.Proofs.YtadogobdlcionaaGreatDoor
open Go.ChangeShapes Go.WideShapes Go.ChangeAt Go.RowKit Go.Shelf
set_option linter.unusedVariables false
theorem idx_range (T : List ByteArray) (t : ByteArray) : -1 ≤ idxI T t ∧ idxI T t < T.length := by
  unfold idxI
  cases h : T.findIdx? (fun x => decide (x = t)) with
  | none => exact ⟨Int.le_refl _, by simp; omega⟩
  | some k =>
    obtain ⟨hk, -⟩ := List.findIdx?_eq_some_iff_getElem.1 h
    exact ⟨Int.le_trans (by decide) (Int.natCast_nonneg k), by simpa using hk⟩
theorem peek_is (w : World) {p base : Nat} {s : ByteArray} {L : List (Nat × Tok)} {v : Value} {i e nest : Nat} (h : ParAt w p base s L v i e nest) :
    Calls Tryz.prog 57 #[.pointer (some ⟨p, 0, none⟩)] w fun y w' => ∃ (k a n : Int) (ok : Bool), y = .returned (.tuple #[.agg #[.int .i64 k, .int .i64 a, .string (textAt s L i), .int .i64 n], .bool ok]) ∧ Turn (fun _ => False) w w' := by
  cases hx : L[i]? with
  | none =>
    refine (peek_none w h (by rw [List.getElem?_eq_none_iff] at hx; exact hx)).mono ?_
    rintro y w' ⟨rfl, T⟩
    exact ⟨0, 0, 0, false, by unfold textAt; rw [hx]; rfl, T⟩
  | some x =>
    refine (peek_some w h hx).mono ?_
    rintro y w' ⟨rfl, T⟩
    exact ⟨x.2.kind, x.1, x.2.n, true, by unfold textAt; rw [hx]; rfl, T⟩
/-- What holds between two rounds. -/
def SdRel (w : World) (p base : Nat) (s : ByteArray) (L : List (Nat × Tok)) (v : Value) (e nest : Nat) (b : Bool) (F : Nat) (R : PA (List CD)) (gh : Nat) (lv : Value) (wr : World) : Prop :=
  ∃ l i, gh < F ∧ readF s L e gh (.lp b l) nest i = R ∧ cdsV w.heap.size l wr lv ∧ ParAt wr p base s L v i e nest ∧ Turn (fun k => k = p) w wr ∧ l.length ≤ i ∧ i ≤ L.length
set_option maxRecDepth 100000 in
set_option maxHeartbeats 4000000 in
theorem side_is (w : World) {p base : Nat} {s : ByteArray} {L : List (Nat × Tok)} {v : Value} {i e nest : Nat} (h : ParAt w p base s L v i e nest) (hi : i ≤ L.length) (b : Bool) (F fn : Nat)
    (ent : ∀ args w, (callFunc fn args).run Tryz.prog w = .ok (.enter fn args) w)
    (HP : ∀ g, g < F → ∀ j W, ParAt W p base s L v j e nest → j ≤ L.length → readF s L e g (if b = true then Tg.pr else Tg.un) nest j ≠ .out → Calls Tryz.prog fn #[.pointer (some ⟨p, 0, none⟩)] W (PaPost p base s L v e nest W (cdsV W.heap.size) (readF s L e g (if b = true then Tg.pr else Tg.un) nest j)))
    (ho : readF s L e F (if b = true then Tg.su else Tg.pr) nest i ≠ .out) :
    Calls Tryz.prog 98 #[.pointer (some ⟨p, 0, none⟩), .func (.func fn) #[.pointer (some ⟨p, 0, none⟩)] #[], .int .i64 (if b = true then 1 else 3), .int .i64 (if b = true then 2 else 5)] w (PaPost p base s L v e nest w (cdsV w.heap.size) (readF s L e F (if b = true then Tg.su else Tg.pr) nest i)) := by
  obtain ⟨f, rfl⟩ : ∃ f, F = f + 1 := by
    cases F with
    | zero => exact absurd (by cases b <;> rfl) ho
    | succ f => exact ⟨f, rfl⟩
  have hR : readF s L e (f + 1) (if b = true then Tg.su else Tg.pr) nest i = match readF s L e f (if b = true then Tg.pr else Tg.un) nest i with
    | .ok l j => readF s L e f (.lp b l) nest j
    | r => r := by cases b <;> rfl
  obtain ⟨R, hRR⟩ : ∃ R, R = readF s L e (f + 1) (if b = true then Tg.su else Tg.pr) nest i := ⟨_, rfl⟩
  rw [← hRR] at hR ho ⊢
  clear hRR
  have hq1 : readF s L e f (if b = true then Tg.pr else Tg.un) nest i ≠ .out := by
    intro q
    rw [q] at hR
    exact ho hR
  have C1 := Lib.hid (HP f (Nat.lt_succ_self f) i w h hi hq1)
  obtain ⟨fst, hf⟩ : ∃ x : Int, x = (if b = true then 1 else 3) := ⟨_, rfl⟩
  obtain ⟨lst, hl⟩ : ∃ x : Int, x = (if b = true then 2 else 5) := ⟨_, rfl⟩
  rw [← hf, ← hl]
  have HF := Lib.hid (And.intro hf hl)
  have HPH := Lib.hid HP
  have HO := Lib.hid (And.intro hR (And.intro ho hi))
  have HL := Lib.hid h.bl.lt
  clear hf hl HP hR ho hq1 h hi
  go_enter Tryz.func98, Tryz.ntmps98
  go_wp2_with fail
  with_reducible refine C1.out.mono ?_
  intro y w1 hy
  obtain ⟨r0, hr0⟩ : ∃ r, r = readF s L e f (if b = true then Tg.pr else Tg.un) nest i := ⟨_, rfl⟩
  rw [← hr0] at hy
  have H0 := Lib.hid hr0
  clear hr0
  cases r0 with
  | out => exact hy.elim
  | stop a r =>
    obtain ⟨rfl, T1⟩ := hy
    have G := Lib.hid T1
    clear T1
    unfold stopE
    go_wp2_with fail
    refine ⟨rfl, ?_⟩
    have hR := HO.out.1
    rw [← H0.out] at hR
    rw [hR]
    exact ⟨rfl, G.out⟩
  | ok l0 j0 =>
    obtain ⟨xv, rfl, V1, T1, P1⟩ := hy
    have ST := Lib.hid (show SdRel w p base s L v e nest b (f + 1) R f xv w1 from ⟨l0, j0, Nat.lt_succ_self f, by have hR := HO.out.1; rw [← H0.out] at hR; exact hR.symm, V1, P1, T1, by
      have := read_len s L e f _ nest i l0 j0 H0.out.symm
      have hz : Tg.len (if b = true then Tg.pr else Tg.un) = 0 := by cases b <;> rfl
      omega, read_le s L e f _ nest i l0 j0 H0.out.symm HO.out.2.2⟩)
    clear V1 T1 P1
    go_wp2_with fail
    go_loopg [9] f (fun gh lv wr => SdRel w p base s L v e nest b (f + 1) R gh lv wr)
    case atStart => exact ST.out
    case round =>
      obtain ⟨l, k, hgf, hrd, V, P, T, hl1, hl2⟩ := hrel
      have PK := Lib.hid (peek_is _ P)
      have IX := Lib.hid (fun (W : World) (g cap : Nat) (h : W.rangeAt g 0 (reckonsT.map Value.string)) => index_is (cap := cap) h rfl (by decide) (textAt s L k))
      have RK := Lib.hid (fun W => reckons_is W)
      have ST := Lib.hid (And.intro hgf (And.intro hrd (And.intro V (And.intro P (And.intro T (And.intro hl1 hl2))))))
      have hz := idx_range reckonsT (textAt s L k)
      obtain ⟨z, hzz⟩ : ∃ z, z = idxI reckonsT (textAt s L k) := ⟨_, rfl⟩
      have HZ := Lib.hid (show opAt s L k = 1 + z by rw [hzz]; rfl)
      rw [← hzz] at hz
      simp only [← hzz] at IX
      have hw : wrap64 (1 + z) = 1 + z := by have : (reckonsT.length : Int) = 5 := rfl; unfold wrap64; omega
      obtain ⟨tx, htx⟩ : ∃ t, t = textAt s L k := ⟨_, rfl⟩
      rw [← htx] at PK IX
      have HR := Lib.hid hz
      clear hgf hrd V P T hl1 hl2 hzz htx hz
      go_wp2_with fail
      with_reducible refine PK.out.mono ?_
      rintro y w2 ⟨tk, ta, tn, ok, rfl, T2⟩
      obtain ⟨W3, hW3⟩ : ∃ W, W = w2.alloc (.cells #[.int .i64 tk, .int .i64 ta, .string tx, .int .i64 tn] 65) := ⟨_, rfl⟩
      have G3 := Lib.hid (show Turn (fun _ => False) _ W3 from T2.trans (by rw [hW3]; exact (Turn.refl _ _).alloc _))
      have d2 : W3.cell? ⟨w2.heap.size, 2, none⟩ = some (.string tx) := by rw [hW3]; exact cell_new rfl rfl
      have sD : W3.drew.cell? ⟨w2.heap.size, 2, none⟩ = some (.string tx) := d2
      have HW3 := Lib.hid hW3
      clear T2 hW3 d2
      go_upto_region 3 with fail
      rw [← HW3.out]
      refine wp_region_held_drew (S := fun w' => w'.cell? ⟨w2.heap.size, 2, none⟩ = some (.string tx)) (by kernel_rfl) ?hs0 (fun hS0 => ?_)
      case hs0 => exact sD
      refine wpAnyH_take (i := 1) (oi := { dst := some 23, op := Op.fieldAddr 65 (Operand.tmp 10) 2, type := 0, pos := "parse.go:100", after := #[], guard := none }) (v := ?_) rfl (by kernel_rfl) (by kernel_rfl) (by kernel_rfl) (fun _ _ _ h => h) (Or.inl ⟨by rfl, ?hy1⟩) hS0 ?_
      case hy1 => (intro w hSw; (try dsimp only at hSw); go_simp; try with_reducible rfl)
      try simp only [Act.put, List.setIfInBounds_toArray, List.set_cons_zero, List.set_cons_succ]
      refine wpAnyH_take (i := 2) (oi := { dst := some 24, op := Op.load 9 (Operand.tmp 23), type := 9, pos := "parse.go:100", after := #[{ on := 1, ground := Ground.data }], guard := none }) (v := ?_) rfl (by kernel_rfl) (by kernel_rfl) (by kernel_rfl) (fun _ _ _ h => h) (Or.inl ⟨by rfl, ?hy2⟩) hS0 ?_
      case hy2 => (intro w hSw; (try dsimp only at hSw); go_simp; try with_reducible rfl)
      try simp only [Act.put, List.setIfInBounds_toArray, List.set_cons_zero, List.set_cons_succ]
      refine wpAnyH_ready (rs := [0]) (by kernel_rfl) (by simp) ?_
      refine AllReadyH.cons (o := { dst := some 22, op := Op.call { callee := Callee.value (Operand.func 84), args := #[], argTypes := #[] }, type := 41, pos := "parse.go:100", after := #[], guard := none }) rfl (fun K hK => ?_) AllReadyH.nil
      go_simp
      with_reducible refine (RK.out _).mono ?_
      rintro y w4 ⟨g, cap, rfl, R4, T4⟩
      have SC := T4.cell id sD
      have C1 := Lib.hid (IX.out w4 g cap R4)
      have G := Lib.hid ((G3.out.trans ((Turn.refl _ _).drewN 1)).trans T4)
      clear T4 R4
      go_simp
      refine hK.out _ _ ?hs3 (fun hS3 => ?_)
      case hs3 => exact SC
      clear hK K hS0
      refine wpAnyH_ready (rs := [3]) (by kernel_rfl) (by simp) ?_
      refine AllReadyH.cons (o := { dst := some 25, op := Op.call { callee := Callee.value (Operand.func 79), args := #[Operand.tmp 22, Operand.tmp 24], argTypes := #[41, 9] }, type := 3, pos := "parse.go:100", after := #[{ on := 0, ground := Ground.data }, { on := 2, ground := Ground.data }, { on := 0, ground := Ground.chain }], guard := none }) rfl (fun K hK => ?_) AllReadyH.nil
      go_simp
      with_reducible refine C1.out.mono ?_
      rintro y w5 ⟨rfl, T5⟩
      have SC2 := T5.cell id SC
      have KT := Lib.hid (G.out.trans T5)
      clear T5
      go_simp
      refine hK.out _ _ ?hs4 (fun hS4 => ?_)
      case hs4 => exact SC2
      clear hK K hS3
      refine wpAnyH_take (i := 4) (oi := { dst := some 26, op := Op.binOp BinOp.add 3 (Operand.const (Value.int IntKind.i64 1)) (Operand.tmp 25) 3, type := 3, pos := "parse.go:100", after := #[{ on := 3, ground := Ground.data }], guard := none }) (v := ?_) rfl (by kernel_rfl) (by kernel_rfl) (by kernel_rfl) (fun _ _ _ h => h) (Or.inl ⟨by rfl, ?hy5⟩) hS4 ?_
      case hy5 => (intro w hSw; (try dsimp only at hSw); go_simp; try with_reducible rfl)
      try simp only [Act.put, List.setIfInBounds_toArray, List.set_cons_zero, List.set_cons_succ]
      refine wpAnyH_take (i := 5) (oi := { dst := some 12, op := Op.assign (Operand.tmp 26), type := 3, pos := "parse.go:100", after := #[{ on := 4, ground := Ground.data }, { on := 3, ground := Ground.chain }, { on := 0, ground := Ground.phase }, { on := 1, ground := Ground.phase }, { on := 2, ground := Ground.phase }, { on := 3, ground := Ground.phase }, { on := 4, ground := Ground.phase }], guard := none }) (v := ?_) rfl (by kernel_rfl) (by kernel_rfl) (by kernel_rfl) (fun _ _ _ h => h) (Or.inl ⟨by rfl, ?hy6⟩) hS4 ?_
      case hy6 => (intro w hSw; (try dsimp only at hSw); go_simp; try with_reducible rfl)
      try simp only [Act.put, List.setIfInBounds_toArray, List.set_cons_zero, List.set_cons_succ]
      refine wpAnyH_done (by kernel_rfl) ?_ _
      clear sD SC SC2 C1 IX RK PK HW3 G G3
      have hw2 : IntKind.i64.wrap (1 + z) = 1 + z := IntWalk.i64_in _ (by have := HR.out; have : (reckonsT.length : Int) = 5 := rfl; omega)
      rw [hw2]
      obtain ⟨op, hop⟩ : ∃ o, o = opAt s L k := ⟨_, rfl⟩
      rw [show 1 + z = op from (HZ.out.symm.trans hop.symm)]
      clear hw hw2
      have P5 := ST.out.2.2.2.1.turn KT.out
      have V5 := ST.out.2.2.1.turn KT.out (fun _ _ f => f)
      have T5 := ST.out.2.2.2.2.1.trans (KT.out.more (fun _ _ f => f.elim))
      by_cases hin : fst ≤ op ∧ op ≤ lst
      · have u1 : decide (op < fst) = false := decide_eq_false (by omega)
        have u2 : decide (op > lst) = false := decide_eq_false (by omega)
        have u3 : decide (lst < op) = false := decide_eq_false (by omega)
        have c1 := P5.c1
        have f1 := P5.bl.fz
        obtain ⟨q, hq⟩ : ∃ q, gk = q + 1 := by
          have hrd := ST.out.2.1
          have hne := HO.out.2.1
          cases gk with
          | zero => exact absurd hrd.symm hne
          | succ g => exact ⟨g, rfl⟩
        have hrd := ST.out.2.1
        rw [hq, readF, if_pos (by rw [← HF.out.1, ← HF.out.2, ← hop]; exact hin), ← hop] at hrd
        have hk : k < L.length := op_lt (by rw [← hop]; have := HF.out.1; have := hin.1; cases b <;> simp at * <;> omega)
        have hk2 : k < 9000000000 := by have := P5.le; omega
        have hw : wrap64 ((k : Int) + 1) = ((k + 1 : Nat) : Int) := by unfold wrap64; omega
        have P6 := P5.go (k + 1)
        have T6 := T5.trans (Turn.put w5 p 1 (.int .i64 ((k + 1 : Nat) : Int)))
        have V6 := V5.turn (Turn.put w5 p 1 (.int .i64 ((k + 1 : Nat) : Int))) (fun x hx e => by have := HL.out; omega)
        obtain ⟨zz, hzz⟩ : ∃ z : Int, z = ((k + 1 : Nat) : Int) := ⟨_, rfl⟩
        rw [← hzz] at hw P6 T6 V6
        obtain ⟨w6, hw6⟩ : ∃ X, X = w5.setCell ⟨p, 1, none⟩ (.int .i64 zz) := ⟨_, rfl⟩
        rw [← hw6] at P6 T6 V6
        obtain ⟨r1, hr1⟩ : ∃ r, r = readF s L e q (if b = true then Tg.pr else Tg.un) nest (k + 1) := ⟨_, rfl⟩
        rw [← hr1] at hrd
        have hne1 : r1 ≠ .out := by
          intro e1
          rw [e1] at hrd
          exact HO.out.2.1 hrd.symm
        have C6 := HPH.out q (by have := ST.out.1; omega) (k + 1) w6 P6 hk (by rw [← hr1]; exact hne1)
        rw [← hr1] at C6
        have C6 := Lib.hid C6
        have F6 := Lib.hid (And.intro V6 (And.intro T6 (And.intro hrd (And.intro hr1 (And.intro hq hk)))))
        have HW6 := Lib.hid hw6
        clear V6 T6 hrd hr1 hq hk hk2 P5 V5 T5 hop hin hne1 hw6 P6 hzz
        go_upto_region 7 with fail
        rw [← HW6.out]
        clear c1 f1
        go_wp2_with fail
        with_reducible refine C6.out.mono ?_
        intro y w7 hy
        cases r1 with
        | out => exact hy.elim
        | stop a r =>
          obtain ⟨rfl, T7⟩ := hy
          have G7 := Lib.hid (F6.out.2.1.trans T7)
          clear T7
          unfold stopE
          go_wp2_with fail
          refine ⟨rfl, ?_⟩
          rw [← F6.out.2.2.1]
          exact ⟨rfl, G7.out⟩
        | ok r j =>
          obtain ⟨rv, rfl, V7, T7, P7⟩ := hy
          have lr := read_len s L e q _ _ _ _ _ F6.out.2.2.2.1.symm
          have le := read_le s L e q _ _ _ _ _ F6.out.2.2.2.1.symm F6.out.2.2.2.2.2
          have hzl : Tg.len (if b = true then Tg.pr else Tg.un) = 0 := by cases b <;> rfl
          rw [hzl] at lr
          have hl2 := ST.out.2.2.2.2.2.1
          have hLL := P7.le
          have VL7 := F6.out.1.turn T7 (fun x hx e => by have := HL.out; omega)
          obtain ⟨v8, w8, R8, V8, T8⟩ := append_cds VL7 V7 (Nat.le_trans F6.out.2.1.size T7.size) (by omega)
          have T9 : Turn (fun _ => False) w8 (w8.alloc (.cells (CD.cells { zcd with op := op }).toArray 45)) := (Turn.refl _ _).alloc _
          have hs8 : w.heap.size ≤ w8.heap.size := Nat.le_trans (Nat.le_trans F6.out.2.1.size T7.size) T8.size
          obtain ⟨v9, w9, R9, V9, T10⟩ := append_cds (V8.turn T9 (fun _ _ f => f)) (one_cds w8 { zcd with op := op } (Nat.le_refl _)) (Nat.le_trans hs8 T9.size) (by simp; omega)
          have B : ∀ x, u9.ownBlock = some x → w.heap.size ≤ x := fun x hx => own_above ST.out.2.2.1 hx
          have B8 : ∀ x, v8.ownBlock = some x → w.heap.size ≤ x := fun x hx => own_above V8 hx
          have TT := ((((F6.out.2.1.trans T7).comp T8 (fun x hx e => by have := B x e; omega)).trans (T9.more (fun _ _ f => f.elim))).comp T10 (fun x hx e => by have := B8 x e; omega))
          have P8 := P7.turnS T8 (fun e => by have := B p e; have := HL.out; omega) (fun x hx e => by
            rcases own_apart P7.row VL7 (by decide) with q | q
            · rw [hx] at q; cases q
            · exact q (hx.trans e.symm))
          have P9 := P8.turn T9
          have P10 := P9.turnS T10 (fun e => by have := B8 p e; have := HL.out; omega) (fun x hx e => by
            rcases own_apart P9.row (V8.turn T9 (fun _ _ f => f)) (by decide) with q | q
            · rw [hx] at q; cases q
            · exact q (hx.trans e.symm))
          obtain ⟨cd, hcd⟩ : ∃ c : CD, c = ⟨op, zcd.n, zcd.var, zcd.field⟩ := ⟨_, rfl⟩
          have hrd2 : R = readF s L e q (.lp b (l ++ r ++ [cd])) nest j := by rw [hcd]; exact F6.out.2.2.1.symm
          have V9' : cdsV w.heap.size (l ++ r ++ [cd]) w9 v9 := by rw [hcd]; exact V9
          have REL := Lib.hid (show SdRel w p base s L v e nest b (f + 1) R q v9 w9 from ⟨l ++ r ++ [cd], j, by have := ST.out.1; have := F6.out.2.2.2.2.1; omega, hrd2.symm, V9', P10, TT, by simp; omega, le⟩)
          have RUN1 := Lib.hid R8
          have RUN2 := Lib.hid R9
          have MQ := Lib.hid F6.out.2.2.2.2.1
          clear hcd hrd2 V9' R8 R9 V8 T8 T9 V9 T10 TT P8 P9 P10 B B8 lr le hzl hl2 hLL VL7 V7 T7 P7 hs8 F6 C6 KT
          go_wp2_with (first
            | (refine rl_append_run (by rfl) _ _ _ (by rfl) (by rfl) (by rfl) RUN1.out ?_)
            | (refine rl_append_run (by rfl) _ _ _ (by rfl) (by rfl) (by rfl) RUN2.out ?_))
          go_roundg q
          case measure => have := MQ.out; omega
          case rel => exact REL.out
      · have ho1 : R = .ok l k := by
          have hrd := ST.out.2.1
          have hne := HO.out.2.1
          cases gk with
          | zero => exact absurd hrd.symm hne
          | succ g =>
            rw [readF, if_neg (by rw [← HF.out.1, ← HF.out.2, ← hop]; exact hin)] at hrd
            exact hrd.symm
        have FIN := Lib.hid (And.intro ho1 (And.intro V5 (And.intro T5 P5)))
        clear ho1 V5 T5 P5 hop
        by_cases hlow : op < fst
        · have u1 : decide (op < fst) = true := decide_eq_true hlow
          clear hin hlow
          go_wp2_with fail
          go_ret
          rw [FIN.out.1]
          exact ⟨_, rfl, FIN.out.2⟩
        · have u1 : decide (op < fst) = false := decide_eq_false hlow
          have u2 : decide (op > lst) = true := decide_eq_true (by omega)
          have u3 : decide (lst < op) = true := decide_eq_true (by omega)
          clear hin hlow
          go_wp2_with fail
          go_ret
          rw [FIN.out.1]
          exact ⟨_, rfl, FIN.out.2⟩
end Go.Proofs.YtadogobdlcionaaGreatDoor
namespace Go.Proofs.YtadogobdlcionaaGreatDoor
open Go.ChangeShapes Go.WideShapes Go.ChangeAt Go.RowKit Go.Shelf
set_option linter.unusedVariables false
set_option maxRecDepth 100000 in
set_option maxHeartbeats 2000000 in
theorem product_is (w : World) {p base : Nat} {s : ByteArray} {L : List (Nat × Tok)} {v : Value} {i e nest : Nat} (h : ParAt w p base s L v i e nest) (hi : i ≤ L.length) (F : Nat)
    (HP : ∀ g, g < F → ∀ j W, ParAt W p base s L v j e nest → j ≤ L.length → readF s L e g .un nest j ≠ .out → Calls Tryz.prog 109 #[.pointer (some ⟨p, 0, none⟩)] W (PaPost p base s L v e nest W (cdsV W.heap.size) (readF s L e g .un nest j)))
    (ho : readF s L e F .pr nest i ≠ .out) :
    Calls Tryz.prog 99 #[.pointer (some ⟨p, 0, none⟩)] w (PaPost p base s L v e nest w (cdsV w.heap.size) (readF s L e F .pr nest i)) := by
  have C := Lib.hid (side_is w h hi false F 109 (enters 109 Tryz.func109 (by kernel_rfl) rfl) HP ho)
  clear HP ho hi h
  simp only [Bool.false_eq_true, if_false] at C
  go_enter Tryz.func99, Tryz.ntmps99
  go_wp2_with fail
  with_reducible refine C.out.mono ?_
  intro y w1 hy
  generalize readF s L e F .pr nest i = R at *
  cases R with
  | out => exact hy.elim
  | stop a r =>
    obtain ⟨rfl, T1⟩ := hy
    have G := Lib.hid T1
    clear T1
    unfold stopE
    go_wp2_with fail
    exact ⟨rfl, rfl, G.out⟩
  | ok l j =>
    obtain ⟨xv, rfl, V1, T1, P1⟩ := hy
    have G := Lib.hid (And.intro V1 (And.intro T1 P1))
    clear V1 T1 P1
    go_wp2_with fail
    go_ret
    exact ⟨_, rfl, G.out⟩
set_option maxRecDepth 100000 in
set_option maxHeartbeats 2000000 in
theorem sum_is (w : World) {p base : Nat} {s : ByteArray} {L : List (Nat × Tok)} {v : Value} {i e nest : Nat} (h : ParAt w p base s L v i e nest) (hi : i ≤ L.length) (F : Nat)
    (HP : ∀ g, g < F → ∀ j W, ParAt W p base s L v j e nest → j ≤ L.length → readF s L e g .pr nest j ≠ .out → Calls Tryz.prog 99 #[.pointer (some ⟨p, 0, none⟩)] W (PaPost p base s L v e nest W (cdsV W.heap.size) (readF s L e g .pr nest j)))
    (ho : readF s L e F .su nest i ≠ .out) :
    Calls Tryz.prog 78 #[.pointer (some ⟨p, 0, none⟩)] w (PaPost p base s L v e nest w (cdsV w.heap.size) (readF s L e F .su nest i)) := by
  have C := Lib.hid (side_is w h hi true F 99 (enters 99 Tryz.func99 (by kernel_rfl) rfl) HP ho)
  clear HP ho hi h
  simp only [if_true] at C
  go_enter Tryz.func78, Tryz.ntmps78
  go_wp2_with fail
  with_reducible refine C.out.mono ?_
  intro y w1 hy
  generalize readF s L e F .su nest i = R at *
  cases R with
  | out => exact hy.elim
  | stop a r =>
    obtain ⟨rfl, T1⟩ := hy
    have G := Lib.hid T1
    clear T1
    unfold stopE
    go_wp2_with fail
    exact ⟨rfl, rfl, G.out⟩
  | ok l j =>
    obtain ⟨xv, rfl, V1, T1, P1⟩ := hy
    have G := Lib.hid (And.intro V1 (And.intro T1 P1))
    clear V1 T1 P1
    go_wp2_with fail
    go_ret
    exact ⟨_, rfl, G.out⟩
end Go.Proofs.YtadogobdlcionaaGreatDoor
namespace Go.Proofs.YtadogobdlcionaaGreatDoor
open Go.ChangeShapes Go.WideShapes Go.ChangeAt Go.RowKit Go.Shelf
set_option linter.unusedVariables false
set_option maxRecDepth 100000 in
set_option maxHeartbeats 4000000 in
theorem unary_none (w : World) {p base : Nat} {s : ByteArray} {L : List (Nat × Tok)} {v : Value} {i e nest : Nat} (h : ParAt w p base s L v i e nest) (hx : takeB (unaryB s) L i = none) :
    Calls Tryz.prog 109 #[.pointer (some ⟨p, 0, none⟩)] w fun y w' => y = stopE (placeE L e i) 11 ∧ Turn (fun k => k = p) w w' := by
  have TK := Lib.hid (take_is w h (unary_tells s))
  rw [hx] at TK
  clear h hx
  go_enter Tryz.func109, Tryz.ntmps109
  go_wp2_with fail
  with_reducible refine TK.out.mono ?_
  rintro y w1 (⟨x, hx, _⟩ | ⟨-, rfl, T1⟩)
  · cases hx
  have G := Lib.hid T1
  clear T1
  unfold stopE
  go_wp2_with fail
  exact ⟨rfl, rfl, G.out⟩
set_option maxRecDepth 100000 in
set_option maxHeartbeats 4000000 in
/-- A number. -/
theorem unary_num (w : World) {p base : Nat} {s : ByteArray} {L : List (Nat × Tok)} {v : Value} {i e nest : Nat} (h : ParAt w p base s L v i e nest) {x : Nat × Tok} (hx : takeB (unaryB s) L i = some x)
    (h1 : ((textOf s x).toList == [45]) = false) (h2 : ((textOf s x).toList == [40]) = false) (h3 : ((textOf s x).toList == [35]) = false) (h4 : x.2.kind = 3) :
    Calls Tryz.prog 109 #[.pointer (some ⟨p, 0, none⟩)] w (PaPost p base s L v e nest w (cdsV w.heap.size) (.ok [{ zcd with op := 6, n := x.2.n }] (i + 1))) := by
  have TK := Lib.hid (take_is w h (unary_tells s))
  rw [hx] at TK
  have HL := Lib.hid h.bl.lt
  have u4 : ((x.2.kind : Int) == 3) = true := by rw [h4]; rfl
  clear h hx h4
  go_enter Tryz.func109, Tryz.ntmps109
  go_wp2_with fail
  with_reducible refine TK.out.mono ?_
  rintro y w1 (⟨x', hx, rfl, T1, P1⟩ | ⟨hx, _⟩)
  case inr => cases hx
  cases hx
  unfold tokC tokL
  rw [show s.extract x.1 (x.1 + x.2.len) = textOf s x from rfl]
  generalize textOf s x = tx at *
  obtain ⟨W, hW⟩ : ∃ W, W = w1.alloc (.cells #[.int .i64 (x.2.kind : Int), .int .i64 (x.1 : Int), .string tx, .int .i64 (x.2.n : Int)] 65) := ⟨_, rfl⟩
  have T2 : Turn (fun _ => False) w1 W := by rw [hW]; exact (Turn.refl _ _).alloc _
  have c0 : W.cell? ⟨w1.heap.size, 0, none⟩ = some (.int .i64 (x.2.kind : Int)) := by rw [hW]; exact cell_new rfl rfl
  have c2 : W.cell? ⟨w1.heap.size, 2, none⟩ = some (.string tx) := by rw [hW]; exact cell_new rfl rfl
  have c3 : W.cell? ⟨w1.heap.size, 3, none⟩ = some (.int .i64 (x.2.n : Int)) := by rw [hW]; exact cell_new rfl rfl
  have T3 : Turn (fun _ => False) W (W.alloc (.cells (CD.cells { zcd with op := 6, n := x.2.n }).toArray 45)) := (Turn.refl _ _).alloc _
  have TT := (T1.trans (T2.more (fun _ _ f => f.elim))).trans (T3.more (fun _ _ f => f.elim))
  have FIN := Lib.hid (And.intro (one_cds W { zcd with op := 6, n := x.2.n } (Nat.le_trans T1.size T2.size)) (And.intro TT ((P1.turn T2).turn T3)))
  have HW := Lib.hid hW
  clear T1 P1 T2 T3 TT hW
  go_upto_region 5 with fail
  rw [← HW.out]
  go_wp2_with fail
  go_ret
  exact ⟨_, rfl, FIN.out⟩
end Go.Proofs.YtadogobdlcionaaGreatDoor
namespace Go.Proofs.YtadogobdlcionaaGreatDoor
open Go.ChangeShapes Go.WideShapes Go.ChangeAt Go.RowKit Go.Shelf
set_option linter.unusedVariables false
set_option maxRecDepth 100000 in
set_option maxHeartbeats 4000000 in
theorem unary_count (w : World) {p base : Nat} {s : ByteArray} {L : List (Nat × Tok)} {v : Value} {i e nest : Nat} (h : ParAt w p base s L v i e nest) {x : Nat × Tok} (hx : takeB (unaryB s) L i = some x)
    (h1 : ((textOf s x).toList == [45]) = false) (h2 : ((textOf s x).toList == [40]) = false) (h3 : ((textOf s x).toList == [35]) = true) :
    Calls Tryz.prog 109 #[.pointer (some ⟨p, 0, none⟩)] w (PaPost p base s L v e nest w (cdsV w.heap.size) (match takeB (nameB s) L (i + 1) with
        | some y => .ok [{ zcd with op := 8, var := textOf s y }] (i + 2)
        | none => .stop (placeE L e (i + 1)) 11)) := by
  have TK := Lib.hid (take_is w h (unary_tells s))
  have NM := Lib.hid (fun (W : World) (i : Nat) (h : ParAt W p base s L v i e nest) => take_is W h (name_tells s))
  rw [hx] at TK
  have HL := Lib.hid h.bl.lt
  clear h hx
  obtain ⟨R, hR⟩ : ∃ R : PA (List CD), R = (match takeB (nameB s) L (i + 1) with
        | some y => .ok [{ zcd with op := 8, var := textOf s y }] (i + 2)
        | none => .stop (placeE L e (i + 1)) 11) := ⟨_, rfl⟩
  rw [← hR]
  have HR := Lib.hid hR
  clear hR
  go_enter Tryz.func109, Tryz.ntmps109
  go_wp2_with fail
  with_reducible refine TK.out.mono ?_
  rintro y w1 (⟨x', hx, rfl, T1, P1⟩ | ⟨hx, _⟩)
  case inr => cases hx
  cases hx
  unfold tokC tokL
  rw [show s.extract x.1 (x.1 + x.2.len) = textOf s x from rfl]
  generalize textOf s x = tx at *
  obtain ⟨W, hW⟩ : ∃ W, W = w1.alloc (.cells #[.int .i64 (x.2.kind : Int), .int .i64 (x.1 : Int), .string tx, .int .i64 (x.2.n : Int)] 65) := ⟨_, rfl⟩
  have T2 : Turn (fun _ => False) w1 W := by rw [hW]; exact (Turn.refl _ _).alloc _
  have c2 : W.cell? ⟨w1.heap.size, 2, none⟩ = some (.string tx) := by rw [hW]; exact cell_new rfl rfl
  have F := Lib.hid (And.intro (T1.trans (T2.more (fun _ _ f => f.elim))) (P1.turn T2))
  have HW := Lib.hid hW
  clear T1 P1 T2 hW
  go_upto_region 5 with fail
  rw [← HW.out]
  go_wp2_with fail
  with_reducible refine (NM.out W _ F.out.2).mono ?_
  rintro y w3 (⟨z, hz, rfl, T3, P3⟩ | ⟨hz, rfl, T3⟩)
  · have g3 := tok_text z.2.kind z.1 z.2.n (textOf s z) w3
    rw [show tokC s z = tokL z.2.kind z.1 z.2.n (textOf s z) from rfl]
    unfold tokL
    have T4 : Turn (fun _ => False) w3 (w3.alloc (.cells (CD.cells { zcd with op := 8, var := textOf s z }).toArray 45)) := (Turn.refl _ _).alloc _
    have TT := (F.out.1.trans T3).trans (T4.more (fun _ _ f => f.elim))
    have FIN := Lib.hid (And.intro (one_cds w3 { zcd with op := 8, var := textOf s z } (Nat.le_trans F.out.1.size T3.size)) (And.intro TT (P3.turn T4)))
    have HZ := Lib.hid hz
    clear T3 P3 T4 TT hz
    go_wp2_with fail
    go_ret
    rw [HR.out, HZ.out]
    exact ⟨_, rfl, FIN.out⟩
  · have G := Lib.hid (F.out.1.trans T3)
    have HZ := Lib.hid hz
    clear T3 hz
    unfold stopE
    go_wp2_with fail
    refine ⟨rfl, ?_⟩
    rw [HR.out, HZ.out]
    exact ⟨rfl, G.out⟩
end Go.Proofs.YtadogobdlcionaaGreatDoor
namespace Go.Proofs.YtadogobdlcionaaGreatDoor
open Go.ChangeShapes Go.WideShapes Go.ChangeAt Go.RowKit Go.Shelf
set_option linter.unusedVariables false
set_option maxRecDepth 100000 in
set_option maxHeartbeats 4000000 in
theorem unary_field (w : World) {p base : Nat} {s : ByteArray} {L : List (Nat × Tok)} {v : Value} {i e nest : Nat} (h : ParAt w p base s L v i e nest) {x : Nat × Tok} (hx : takeB (unaryB s) L i = some x)
    (h1 : ((textOf s x).toList == [45]) = false) (h2 : ((textOf s x).toList == [40]) = false) (h3 : ((textOf s x).toList == [35]) = false) (h4 : x.2.kind ≠ 3) :
    Calls Tryz.prog 109 #[.pointer (some ⟨p, 0, none⟩)] w (PaPost p base s L v e nest w (cdsV w.heap.size) (if hasB s L dot (i + 1) then match takeB (inB lettersT s) L (i + 2) with
        | some y => .ok [{ zcd with op := 7, var := textOf s x, field := idxI lettersT (textOf s y) }] (i + 3)
        | none => .stop (placeE L e (i + 2)) 11
      else .stop (placeE L e (i + 1)) 11)) := by
  have TK := Lib.hid (take_is w h (unary_tells s))
  have WT := Lib.hid (fun (W : World) (i : Nat) (h : ParAt W p base s L v i e nest) => want_is W h dot)
  have FD := Lib.hid (fun (W : World) (i : Nat) (h : ParAt W p base s L v i e nest) => take_is W h (field_tells s))
  have LT := Lib.hid (fun W => letters_is W)
  have IX := Lib.hid (fun (W : World) (g cap : Nat) (t : ByteArray) (h : W.rangeAt g 0 (lettersT.map Value.string)) => index_is (cap := cap) h rfl (by decide) t)
  rw [hx] at TK
  have u4 : ((x.2.kind : Int) == 3) = false := beq_eq_false_iff_ne.2 (by omega)
  clear h hx h4
  obtain ⟨R, hR⟩ : ∃ R : PA (List CD), R = (if hasB s L dot (i + 1) then match takeB (inB lettersT s) L (i + 2) with
        | some y => .ok [{ zcd with op := 7, var := textOf s x, field := idxI lettersT (textOf s y) }] (i + 3)
        | none => .stop (placeE L e (i + 2)) 11
      else .stop (placeE L e (i + 1)) 11) := ⟨_, rfl⟩
  rw [← hR]
  obtain ⟨tx, htx⟩ : ∃ t, t = textOf s x := ⟨_, rfl⟩
  rw [← htx] at hR h1 h2 h3
  have HX := Lib.hid htx
  have HR := Lib.hid hR
  clear hR htx
  go_enter Tryz.func109, Tryz.ntmps109
  go_wp2_with fail
  with_reducible refine TK.out.mono ?_
  rintro y w1 (⟨x', hx, rfl, T1, P1⟩ | ⟨hx, _⟩)
  case inr => cases hx
  cases hx
  unfold tokC tokL
  rw [show s.extract x.1 (x.1 + x.2.len) = tx from HX.out.symm]
  obtain ⟨W, hW⟩ : ∃ W, W = w1.alloc (.cells #[.int .i64 (x.2.kind : Int), .int .i64 (x.1 : Int), .string tx, .int .i64 (x.2.n : Int)] 65) := ⟨_, rfl⟩
  have T2 : Turn (fun _ => False) w1 W := by rw [hW]; exact (Turn.refl _ _).alloc _
  have c0 : W.cell? ⟨w1.heap.size, 0, none⟩ = some (.int .i64 (x.2.kind : Int)) := by rw [hW]; exact cell_new rfl rfl
  have c2 : W.cell? ⟨w1.heap.size, 2, none⟩ = some (.string tx) := by rw [hW]; exact cell_new rfl rfl
  have hp1 : w1.heap.size ≠ p := by have := P1.bl.lt; omega
  have F := Lib.hid (And.intro (T1.trans (T2.more (fun _ _ f => f.elim))) (And.intro (P1.turn T2) hp1))
  have HW := Lib.hid hW
  clear T1 P1 T2 hW hp1
  go_upto_region 5 with fail
  rw [← HW.out]
  go_wp2_with fail
  with_reducible refine (WT.out W _ F.out.2.1).mono ?_
  rintro y w3 (⟨hd, rfl, T3, P3⟩ | ⟨hd, rfl, T3⟩)
  case inr =>
    have G := Lib.hid (F.out.1.trans T3)
    have HZ := Lib.hid hd
    clear T3 hd
    unfold stopE
    go_wp2_with fail
    refine ⟨rfl, ?_⟩
    rw [HR.out, if_neg (by rw [HZ.out]; decide)]
    exact ⟨rfl, G.out⟩
  have d2 := T3.cell F.out.2.2 c2
  have G := Lib.hid (And.intro (F.out.1.trans T3) (And.intro P3 hd))
  clear T3 P3 hd c2 c0
  go_wp2_with fail
  with_reducible refine (LT.out w3).mono ?_
  rintro y w4 ⟨g, cap, rfl, R4, T4⟩
  have e2 := T4.cell id d2
  have G4 := Lib.hid (And.intro (G.out.1.trans (T4.more (fun _ _ f => f.elim))) (And.intro (G.out.2.1.turn T4) R4))
  have hg : g ≠ p := by
    intro q
    have a := G4.out.2.2 0 (.string ⟨#[120]⟩) rfl
    have b := G4.out.2.1.c0
    obtain ⟨_, _, hv, -⟩ := own_slice G4.out.2.1.row
    rw [q] at a
    rw [hv] at b
    cases a.symm.trans b
  clear T4 R4 d2
  go_wp2_with fail
  with_reducible refine (FD.out w4 _ G4.out.2.1).mono ?_
  rintro y w5 (⟨z, hz, rfl, T5, P5⟩ | ⟨hz, rfl, T5⟩)
  case inr =>
    have G5 := Lib.hid (G4.out.1.trans T5)
    have HZ := Lib.hid hz
    clear T5 hz
    unfold stopE
    go_wp2_with fail
    refine ⟨rfl, ?_⟩
    rw [HR.out, if_pos G.out.2.2, HZ.out]
    exact ⟨rfl, G5.out⟩
  have g5 := tok_text z.2.kind z.1 z.2.n (textOf s z) w5
  rw [show tokC s z = tokL z.2.kind z.1 z.2.n (textOf s z) from rfl]
  unfold tokL
  have f2 := T5.cell F.out.2.2 e2
  have R5 := range_turn G4.out.2.2 T5 hg
  have G5 := Lib.hid (And.intro (G4.out.1.trans T5) P5)
  have IX5 := Lib.hid (IX.out w5 g cap (textOf s z) R5)
  have HZ := Lib.hid hz
  clear T5 P5 R5 hz e2
  go_wp2_with fail
  with_reducible refine IX5.out.mono ?_
  rintro y w6 ⟨rfl, T6⟩
  have f3 := T6.cell id f2
  have T7 : Turn (fun _ => False) w6 (w6.alloc (.cells (CD.cells { zcd with op := 7, var := tx, field := idxI lettersT (textOf s z) }).toArray 45)) := (Turn.refl _ _).alloc _
  have TT := (G5.out.1.trans (T6.more (fun _ _ f => f.elim))).trans (T7.more (fun _ _ f => f.elim))
  have FIN := Lib.hid (And.intro (one_cds w6 { zcd with op := 7, var := tx, field := idxI lettersT (textOf s z) } (Nat.le_trans G5.out.1.size T6.size)) (And.intro TT ((G5.out.2.turn T6).turn T7)))
  clear T6 T7 TT f2 g5
  go_wp2_with fail
  go_ret
  rw [HR.out, if_pos G.out.2.2, HZ.out]
  exact ⟨_, rfl, FIN.out⟩
end Go.Proofs.YtadogobdlcionaaGreatDoor
namespace Go.Proofs.YtadogobdlcionaaGreatDoor
open Go.ChangeShapes Go.WideShapes Go.ChangeAt Go.RowKit Go.Shelf
set_option linter.unusedVariables false
set_option maxRecDepth 100000 in
set_option maxHeartbeats 4000000 in
theorem unary_neg (w : World) {p base : Nat} {s : ByteArray} {L : List (Nat × Tok)} {v : Value} {i e nest : Nat} (h : ParAt w p base s L v i e nest) {x : Nat × Tok} (hx : takeB (unaryB s) L i = some x) (hn : nest < 16)
    (h1 : ((textOf s x).toList == [45]) = true) {r R : PA (List CD)} (hok : ∀ l j, r = .ok l j → R = .ok (l ++ [{ zcd with op := 9 }]) j) (hst : ∀ a b, r = .stop a b → R = .stop a b) (hlen : ∀ l j, r = .ok l j → l.length ≤ 1000)
    (hp : ∀ W, ParAt W p base s L v (i + 1) e (nest + 1) → Calls Tryz.prog 109 #[.pointer (some ⟨p, 0, none⟩)] W (PaPost p base s L v e (nest + 1) W (cdsV W.heap.size) r)) :
    Calls Tryz.prog 109 #[.pointer (some ⟨p, 0, none⟩)] w (PaPost p base s L v e nest w (cdsV w.heap.size) R) := by
  have TK := Lib.hid (take_is w h (unary_tells s))
  have NE := Lib.hid (fun (W : World) (h : ParAt W p base s L v (i + 1) e nest) => nested_yes W h hn x (r := r) ⟨enters 109 Tryz.func109 (by kernel_rfl) rfl, fun W _ h => hp W h⟩)
  rw [hx] at TK
  have HH := Lib.hid (And.intro h.bl.lt hlen)
  clear h hx hp hlen hn
  obtain ⟨tx, htx⟩ : ∃ t, t = textOf s x := ⟨_, rfl⟩
  rw [← htx] at h1
  unfold tokC tokL at NE
  simp only [show s.extract x.1 (x.1 + x.2.len) = tx from htx.symm] at NE
  have HR := Lib.hid (And.intro hok hst)
  clear hok hst
  have HX := Lib.hid htx
  clear htx
  go_enter Tryz.func109, Tryz.ntmps109
  go_wp2_with fail
  with_reducible refine TK.out.mono ?_
  rintro y w1 (⟨x', hx, rfl, T1, P1⟩ | ⟨hx, _⟩)
  case inr => cases hx
  cases hx
  unfold tokC tokL
  rw [show s.extract x.1 (x.1 + x.2.len) = tx from HX.out.symm]
  obtain ⟨W, hW⟩ : ∃ W, W = w1.alloc (.cells #[.int .i64 (x.2.kind : Int), .int .i64 (x.1 : Int), .string tx, .int .i64 (x.2.n : Int)] 65) := ⟨_, rfl⟩
  have T2 : Turn (fun _ => False) w1 W := by rw [hW]; exact (Turn.refl _ _).alloc _
  have c0 : W.cell? ⟨w1.heap.size, 0, none⟩ = some (.int .i64 (x.2.kind : Int)) := by rw [hW]; exact cell_new rfl rfl
  have c1 : W.cell? ⟨w1.heap.size, 1, none⟩ = some (.int .i64 (x.1 : Int)) := by rw [hW]; exact cell_new rfl rfl
  have c2 : W.cell? ⟨w1.heap.size, 2, none⟩ = some (.string tx) := by rw [hW]; exact cell_new rfl rfl
  have c3 : W.cell? ⟨w1.heap.size, 3, none⟩ = some (.int .i64 (x.2.n : Int)) := by rw [hW]; exact cell_new rfl rfl
  have F := Lib.hid (And.intro (T1.trans (T2.more (fun _ _ f => f.elim))) (P1.turn T2))
  have HW := Lib.hid hW
  clear T1 P1 T2 hW
  go_upto_region 5 with fail
  rw [← HW.out]
  go_wp2_with fail
  with_reducible refine (NE.out W F.out.2).mono ?_
  intro y w3 hy
  cases r with
  | out => exact hy.elim
  | stop a b =>
    obtain ⟨rfl, T3⟩ := hy
    have G := Lib.hid (F.out.1.trans T3)
    clear T3
    unfold stopE
    go_wp2_with fail
    refine ⟨rfl, ?_⟩
    rw [HR.out.2 _ _ rfl]
    exact ⟨rfl, G.out⟩
  | ok l j =>
    obtain ⟨rv, rfl, V3, T3, P3⟩ := hy
    have T4 : Turn (fun _ => False) w3 (w3.alloc (.cells (CD.cells { zcd with op := 9 }).toArray 45)) := (Turn.refl _ _).alloc _
    have hs3 : w.heap.size ≤ w3.heap.size := Nat.le_trans F.out.1.size T3.size
    have V3 := V3.low F.out.1.size
    obtain ⟨v5, w5, R5, V5, T5⟩ := append_cds (V3.turn T4 (fun _ _ f => f)) (one_cds w3 { zcd with op := 9 } (Nat.le_refl _)) (Nat.le_trans hs3 T4.size) (by have := HH.out.2 l j rfl; simp; omega)
    have B : ∀ x, rv.ownBlock = some x → w.heap.size ≤ x := fun x hx => own_above V3 hx
    have P4 := P3.turn T4
    have P5 := P4.turnS T5 (fun e => by have := B p e; have := HH.out.1; omega) (fun x hx e => by
      rcases own_apart P4.row (V3.turn T4 (fun _ _ f => f)) (by decide) with q | q
      · rw [hx] at q; cases q
      · exact q (hx.trans e.symm))
    have TT := ((F.out.1.trans T3).trans (T4.more (fun _ _ f => f.elim))).comp T5 (fun x hx e => by have := B x e; omega)
    have FIN := Lib.hid (And.intro V5 (And.intro TT P5))
    have RUN := Lib.hid R5
    clear V3 T3 P3 T4 V5 T5 B P4 P5 TT R5 hs3
    go_wp2_with (refine rl_append_run (by rfl) _ _ _ (by rfl) (by rfl) (by rfl) RUN.out ?_)
    go_ret
    rw [HR.out.1 _ _ rfl]
    exact ⟨_, rfl, FIN.out⟩
end Go.Proofs.YtadogobdlcionaaGreatDoor
namespace Go.Proofs.YtadogobdlcionaaGreatDoor
open Go.ChangeShapes Go.WideShapes Go.ChangeAt Go.RowKit Go.Shelf
set_option linter.unusedVariables false
set_option maxRecDepth 100000 in
set_option maxHeartbeats 4000000 in
theorem unary_paren (w : World) {p base : Nat} {s : ByteArray} {L : List (Nat × Tok)} {v : Value} {i e nest : Nat} (h : ParAt w p base s L v i e nest) {x : Nat × Tok} (hx : takeB (unaryB s) L i = some x) (hn : nest < 16)
    (h1 : ((textOf s x).toList == [45]) = false) (h2 : ((textOf s x).toList == [40]) = true) {r R : PA (List CD)} (hok : ∀ l j, r = .ok l j → R = if hasB s L shut j then .ok l (j + 1) else .stop (placeE L e j) 11) (hst : ∀ a b, r = .stop a b → R = .stop a b)
    (hp : ∀ W, ParAt W p base s L v (i + 1) e (nest + 1) → Calls Tryz.prog 78 #[.pointer (some ⟨p, 0, none⟩)] W (PaPost p base s L v e (nest + 1) W (cdsV W.heap.size) r)) :
    Calls Tryz.prog 109 #[.pointer (some ⟨p, 0, none⟩)] w (PaPost p base s L v e nest w (cdsV w.heap.size) R) := by
  have TK := Lib.hid (take_is w h (unary_tells s))
  have WT := Lib.hid (fun (W : World) (i : Nat) (h : ParAt W p base s L v i e nest) => want_is W h shut)
  have NE := Lib.hid (fun (W : World) (h : ParAt W p base s L v (i + 1) e nest) => nested_yes W h hn x (r := r) ⟨enters 78 Tryz.func78 (by kernel_rfl) rfl, fun W _ h => hp W h⟩)
  rw [hx] at TK
  have HH := Lib.hid (h.bl.lt)
  clear h hx hp hn
  obtain ⟨tx, htx⟩ : ∃ t, t = textOf s x := ⟨_, rfl⟩
  rw [← htx] at h1 h2
  unfold tokC tokL at NE
  simp only [show s.extract x.1 (x.1 + x.2.len) = tx from htx.symm] at NE
  have HR := Lib.hid (And.intro hok hst)
  clear hok hst
  have HX := Lib.hid htx
  clear htx
  go_enter Tryz.func109, Tryz.ntmps109
  go_wp2_with fail
  with_reducible refine TK.out.mono ?_
  rintro y w1 (⟨x', hx, rfl, T1, P1⟩ | ⟨hx, _⟩)
  case inr => cases hx
  cases hx
  unfold tokC tokL
  rw [show s.extract x.1 (x.1 + x.2.len) = tx from HX.out.symm]
  obtain ⟨W, hW⟩ : ∃ W, W = w1.alloc (.cells #[.int .i64 (x.2.kind : Int), .int .i64 (x.1 : Int), .string tx, .int .i64 (x.2.n : Int)] 65) := ⟨_, rfl⟩
  have T2 : Turn (fun _ => False) w1 W := by rw [hW]; exact (Turn.refl _ _).alloc _
  have c0 : W.cell? ⟨w1.heap.size, 0, none⟩ = some (.int .i64 (x.2.kind : Int)) := by rw [hW]; exact cell_new rfl rfl
  have c1 : W.cell? ⟨w1.heap.size, 1, none⟩ = some (.int .i64 (x.1 : Int)) := by rw [hW]; exact cell_new rfl rfl
  have c2 : W.cell? ⟨w1.heap.size, 2, none⟩ = some (.string tx) := by rw [hW]; exact cell_new rfl rfl
  have c3 : W.cell? ⟨w1.heap.size, 3, none⟩ = some (.int .i64 (x.2.n : Int)) := by rw [hW]; exact cell_new rfl rfl
  have F := Lib.hid (And.intro (T1.trans (T2.more (fun _ _ f => f.elim))) (P1.turn T2))
  have HW := Lib.hid hW
  clear T1 P1 T2 hW
  go_upto_region 5 with fail
  rw [← HW.out]
  go_wp2_with fail
  with_reducible refine (NE.out W F.out.2).mono ?_
  intro y w3 hy
  cases r with
  | out => exact hy.elim
  | stop a b =>
    obtain ⟨rfl, T3⟩ := hy
    have G := Lib.hid (F.out.1.trans T3)
    clear T3
    unfold stopE
    go_wp2_with fail
    refine ⟨rfl, ?_⟩
    rw [HR.out.2 _ _ rfl]
    exact ⟨rfl, G.out⟩
  | ok l j =>
    obtain ⟨rv, rfl, V3, T3, P3⟩ := hy
    have V3 := V3.low F.out.1.size
    have G := Lib.hid (And.intro V3 (And.intro (F.out.1.trans T3) P3))
    clear V3 T3 P3
    go_wp2_with fail
    with_reducible refine (WT.out w3 _ G.out.2.2).mono ?_
    rintro y w4 (⟨hd, rfl, T4, P4⟩ | ⟨hd, rfl, T4⟩)
    · have V4 := G.out.1.turn T4 (fun x hx e => by have := HH.out; omega)
      have FIN := Lib.hid (And.intro V4 (And.intro (G.out.2.1.trans T4) P4))
      have HD := Lib.hid hd
      clear V4 T4 P4 hd
      go_wp2_with fail
      go_ret
      rw [HR.out.1 _ _ rfl, if_pos HD.out]
      exact ⟨_, rfl, FIN.out⟩
    · have FIN := Lib.hid (G.out.2.1.trans T4)
      have HD := Lib.hid hd
      clear T4 hd
      unfold stopE
      go_wp2_with fail
      refine ⟨rfl, ?_⟩
      rw [HR.out.1 _ _ rfl, if_neg (by rw [HD.out]; decide)]
      exact ⟨rfl, FIN.out⟩
end Go.Proofs.YtadogobdlcionaaGreatDoor
