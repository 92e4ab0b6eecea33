/-
  A part that stands alone: too deep.
  A part that stands alone, a product, a sum: all of them.
  How much fuel is enough.
  A condition.
  Rows of elements, one put behind another.
  Rows of conditions, one put behind another.
  A query, read: rows of elements and of conditions, as plain functions.
  A query under way, in memory.
-/
import Derived.Test.YtadogobdlcionaaGreatDoorKah
set_option linter.unusedSimpArgs false
namespace Go.Proofs.YtadogobdlcionaaGreatDoor
open Go.ChangeShapes Go.WideShapes Go.ChangeAt Go.RowKit Go.Shelf
set_option linter.unusedVariables false
set_option maxRecDepth 100000 in
set_option maxHeartbeats 4000000 in
theorem deep_neg (w : World) {p base : Nat} {s : ByteArray} {L : List (Nat × Tok)} {v : Value} {i e : Nat} (h : ParAt w p base s L v i e 16) {x : Nat × Tok} (hx : takeB (unaryB s) L i = some x)
    (h1 : ((textOf s x).toList == [45]) = true) :
    Calls Tryz.prog 109 #[.pointer (some ⟨p, 0, none⟩)] w fun y w' => y = stopE x.1 12 ∧ Turn (fun k => k = p) w w' := by
  have TK := Lib.hid (take_is w h (unary_tells s))
  have NE := Lib.hid (fun (W : World) (h : ParAt W p base s L v (i + 1) e 16) (pt : Value) => nested_no W h x pt)
  rw [hx] at TK
  clear h hx
  obtain ⟨tx, htx⟩ : ∃ t, t = textOf s x := ⟨_, rfl⟩
  rw [← htx] at h1
  unfold tokC tokL at NE
  simp only [show s.extract x.1 (x.1 + x.2.len) = tx from htx.symm] at NE
  have HX := Lib.hid htx
  clear htx
  go_enter Tryz.func109, Tryz.ntmps109
  go_wp2_with fail
  with_reducible refine TK.out.mono ?_
  rintro y w1 (⟨x', hx, rfl, T1, P1⟩ | ⟨hx, _⟩)
  case inr => cases hx
  cases hx
  unfold tokC tokL
  rw [show s.extract x.1 (x.1 + x.2.len) = tx from HX.out.symm]
  obtain ⟨W, hW⟩ : ∃ W, W = w1.alloc (.cells #[.int .i64 (x.2.kind : Int), .int .i64 (x.1 : Int), .string tx, .int .i64 (x.2.n : Int)] 65) := ⟨_, rfl⟩
  have T2 : Turn (fun _ => False) w1 W := by rw [hW]; exact (Turn.refl _ _).alloc _
  have c0 : W.cell? ⟨w1.heap.size, 0, none⟩ = some (.int .i64 (x.2.kind : Int)) := by rw [hW]; exact cell_new rfl rfl
  have c1 : W.cell? ⟨w1.heap.size, 1, none⟩ = some (.int .i64 (x.1 : Int)) := by rw [hW]; exact cell_new rfl rfl
  have c2 : W.cell? ⟨w1.heap.size, 2, none⟩ = some (.string tx) := by rw [hW]; exact cell_new rfl rfl
  have c3 : W.cell? ⟨w1.heap.size, 3, none⟩ = some (.int .i64 (x.2.n : Int)) := by rw [hW]; exact cell_new rfl rfl
  have F := Lib.hid (And.intro (T1.trans (T2.more (fun _ _ f => f.elim))) (P1.turn T2))
  have HW := Lib.hid hW
  clear T1 P1 T2 hW
  go_upto_region 5 with fail
  rw [← HW.out]
  go_wp2_with fail
  with_reducible refine (NE.out W F.out.2 _).mono ?_
  rintro y w3 ⟨rfl, T3⟩
  have G := Lib.hid (F.out.1.trans T3)
  clear T3
  unfold stopE
  go_wp2_with fail
  exact ⟨rfl, rfl, G.out⟩
set_option maxRecDepth 100000 in
set_option maxHeartbeats 4000000 in
theorem deep_paren (w : World) {p base : Nat} {s : ByteArray} {L : List (Nat × Tok)} {v : Value} {i e : Nat} (h : ParAt w p base s L v i e 16) {x : Nat × Tok} (hx : takeB (unaryB s) L i = some x)
    (h1 : ((textOf s x).toList == [45]) = false) (h2 : ((textOf s x).toList == [40]) = true) :
    Calls Tryz.prog 109 #[.pointer (some ⟨p, 0, none⟩)] w fun y w' => y = stopE x.1 12 ∧ Turn (fun k => k = p) w w' := by
  have TK := Lib.hid (take_is w h (unary_tells s))
  have NE := Lib.hid (fun (W : World) (h : ParAt W p base s L v (i + 1) e 16) (pt : Value) => nested_no W h x pt)
  rw [hx] at TK
  clear h hx
  obtain ⟨tx, htx⟩ : ∃ t, t = textOf s x := ⟨_, rfl⟩
  rw [← htx] at h1 h2
  unfold tokC tokL at NE
  simp only [show s.extract x.1 (x.1 + x.2.len) = tx from htx.symm] at NE
  have HX := Lib.hid htx
  clear htx
  go_enter Tryz.func109, Tryz.ntmps109
  go_wp2_with fail
  with_reducible refine TK.out.mono ?_
  rintro y w1 (⟨x', hx, rfl, T1, P1⟩ | ⟨hx, _⟩)
  case inr => cases hx
  cases hx
  unfold tokC tokL
  rw [show s.extract x.1 (x.1 + x.2.len) = tx from HX.out.symm]
  obtain ⟨W, hW⟩ : ∃ W, W = w1.alloc (.cells #[.int .i64 (x.2.kind : Int), .int .i64 (x.1 : Int), .string tx, .int .i64 (x.2.n : Int)] 65) := ⟨_, rfl⟩
  have T2 : Turn (fun _ => False) w1 W := by rw [hW]; exact (Turn.refl _ _).alloc _
  have c0 : W.cell? ⟨w1.heap.size, 0, none⟩ = some (.int .i64 (x.2.kind : Int)) := by rw [hW]; exact cell_new rfl rfl
  have c1 : W.cell? ⟨w1.heap.size, 1, none⟩ = some (.int .i64 (x.1 : Int)) := by rw [hW]; exact cell_new rfl rfl
  have c2 : W.cell? ⟨w1.heap.size, 2, none⟩ = some (.string tx) := by rw [hW]; exact cell_new rfl rfl
  have c3 : W.cell? ⟨w1.heap.size, 3, none⟩ = some (.int .i64 (x.2.n : Int)) := by rw [hW]; exact cell_new rfl rfl
  have F := Lib.hid (And.intro (T1.trans (T2.more (fun _ _ f => f.elim))) (P1.turn T2))
  have HW := Lib.hid hW
  clear T1 P1 T2 hW
  go_upto_region 5 with fail
  rw [← HW.out]
  go_wp2_with fail
  with_reducible refine (NE.out W F.out.2 _).mono ?_
  rintro y w3 ⟨rfl, T3⟩
  have G := Lib.hid (F.out.1.trans T3)
  clear T3
  unfold stopE
  go_wp2_with fail
  exact ⟨rfl, rfl, G.out⟩
end Go.Proofs.YtadogobdlcionaaGreatDoor
namespace Go.Proofs.YtadogobdlcionaaGreatDoor
open Go.ChangeShapes Go.WideShapes Go.ChangeAt Go.RowKit Go.Shelf
set_option linter.unusedVariables false
/-- What the three answer, at a fuel. -/
def Reads (p base : Nat) (s : ByteArray) (L : List (Nat × Tok)) (v : Value) (e F : Nat) : Prop := ∀ nest i W, ParAt W p base s L v i e nest → i ≤ L.length → nest ≤ 16 →
  (readF s L e F .un nest i ≠ .out → Calls Tryz.prog 109 #[.pointer (some ⟨p, 0, none⟩)] W (PaPost p base s L v e nest W (cdsV W.heap.size) (readF s L e F .un nest i))) ∧
  (readF s L e F .pr nest i ≠ .out → Calls Tryz.prog 99 #[.pointer (some ⟨p, 0, none⟩)] W (PaPost p base s L v e nest W (cdsV W.heap.size) (readF s L e F .pr nest i))) ∧
  (readF s L e F .su nest i ≠ .out → Calls Tryz.prog 78 #[.pointer (some ⟨p, 0, none⟩)] W (PaPost p base s L v e nest W (cdsV W.heap.size) (readF s L e F .su nest i)))
theorem reads_un {p base : Nat} {s : ByteArray} {L : List (Nat × Tok)} {v : Value} {e f nest i : Nat} {W : World} (IH : Reads p base s L v e f) (h : ParAt W p base s L v i e nest) (hn : nest ≤ 16) (ho : readF s L e (f + 1) .un nest i ≠ .out) :
    Calls Tryz.prog 109 #[.pointer (some ⟨p, 0, none⟩)] W (PaPost p base s L v e nest W (cdsV W.heap.size) (readF s L e (f + 1) .un nest i)) := by
  cases hx : takeB (unaryB s) L i with
  | none =>
    rw [show readF s L e (f + 1) .un nest i = .stop (placeE L e i) 11 by rw [readF, hx]]
    exact unary_none W h hx
  | some x =>
    have hl := take_lt hx
    obtain ⟨R, hE⟩ : ∃ R, readF s L e (f + 1) .un nest i = R := ⟨_, rfl⟩
    have hU := hE
    rw [readF, hx] at hU
    dsimp only at hU
    rw [hE] at ho ⊢
    cases h1 : ((textOf s x).toList == [45]) with
    | true =>
      rw [h1, if_pos rfl] at hU
      by_cases hd : nest = 16
      · subst hd
        rw [if_pos rfl] at hU
        rw [← hU]
        exact deep_neg W h hx h1
      · rw [if_neg hd] at hU
        refine unary_neg W h hx (by omega) h1 (r := readF s L e f .un (nest + 1) (i + 1)) (fun l j q => by rw [← hU, q]) (fun a b q => by rw [← hU, q]) (fun l j q => by
          have := read_len s L e f _ _ _ _ _ q
          have := read_le s L e f _ _ _ _ _ q hl
          have := h.le
          simp only [Tg.len] at *
          omega) (fun W' h' => (IH _ _ W' h' hl (by omega)).1 (fun q => ho (by rw [← hU, q])))
    | false =>
      rw [h1, if_neg (by decide)] at hU
      cases h2 : ((textOf s x).toList == [40]) with
      | true =>
        rw [h2, if_pos rfl] at hU
        by_cases hd : nest = 16
        · subst hd
          rw [if_pos rfl] at hU
          rw [← hU]
          exact deep_paren W h hx h1 h2
        · rw [if_neg hd] at hU
          exact unary_paren W h hx (by omega) h1 h2 (r := readF s L e f .su (nest + 1) (i + 1)) (fun l j q => by rw [← hU, q]) (fun a b q => by rw [← hU, q]) (fun W' h' => (IH _ _ W' h' hl (by omega)).2.2 (fun q => ho (by rw [← hU, q])))
      | false =>
        rw [h2, if_neg (by decide)] at hU
        cases h3 : ((textOf s x).toList == [35]) with
        | true =>
          rw [h3, if_pos rfl] at hU
          rw [← hU]
          exact unary_count W h hx h1 h2 h3
        | false =>
          rw [h3, if_neg (by decide)] at hU
          by_cases h4 : x.2.kind = 3
          · rw [if_pos h4] at hU
            rw [← hU]
            exact unary_num W h hx h1 h2 h3 h4
          · rw [if_neg h4] at hU
            rw [← hU]
            exact unary_field W h hx h1 h2 h3 h4
theorem reads_is (p base : Nat) (s : ByteArray) (L : List (Nat × Tok)) (v : Value) (e : Nat) : ∀ F, Reads p base s L v e F := by
  intro F
  induction F using Nat.strongRecOn with
  | _ F IH =>
    intro nest i W h hi hn
    refine ⟨fun ho => ?_, fun ho => product_is W h hi F (fun g hg j W' h' hj hq => (IH g hg nest j W' h' hj hn).1 hq) ho, fun ho => sum_is W h hi F (fun g hg j W' h' hj hq => (IH g hg nest j W' h' hj hn).2.1 hq) ho⟩
    cases F with
    | zero => exact absurd rfl ho
    | succ f => exact reads_un (IH f (Nat.lt_succ_self f)) h hn ho
end Go.Proofs.YtadogobdlcionaaGreatDoor
namespace Go.Proofs.YtadogobdlcionaaGreatDoor
open Go.ChangeShapes Go.WideShapes Go.ChangeAt Go.RowKit Go.Shelf
set_option linter.unusedVariables false
def Tg.need : Tg → Nat
  | .un => 1
  | .lp _ _ => 1
  | .pr => 2
  | .su => 3
theorem enough (s : ByteArray) (L : List (Nat × Tok)) (e : Nat) : ∀ (F : Nat) (t : Tg) (nest i : Nat), 3 * (L.length - i) + t.need ≤ F → readF s L e F t nest i ≠ .out
  | 0, t, nest, i, h => by cases t <;> simp [Tg.need] at h
  | f + 1, .su, nest, i, h => by
    simp only [Tg.need] at h
    rw [readF]
    cases hq : readF s L e f .pr nest i with
    | out => exact absurd hq (enough s L e f _ _ _ (by simp only [Tg.need]; omega))
    | stop a b => simp
    | ok l j =>
      have := read_len s L e f _ _ _ _ _ hq
      exact enough s L e f _ _ _ (by simp only [Tg.need]; omega)
  | f + 1, .pr, nest, i, h => by
    simp only [Tg.need] at h
    rw [readF]
    cases hq : readF s L e f .un nest i with
    | out => exact absurd hq (enough s L e f _ _ _ (by simp only [Tg.need]; omega))
    | stop a b => simp
    | ok l j =>
      have := read_len s L e f _ _ _ _ _ hq
      exact enough s L e f _ _ _ (by simp only [Tg.need]; omega)
  | f + 1, .lp b l0, nest, i, h => by
    simp only [Tg.need] at h
    rw [readF]
    by_cases hc : (if b = true then (1 : Int) else 3) ≤ opAt s L i ∧ opAt s L i ≤ (if b = true then 2 else 5)
    · have ho : 1 ≤ opAt s L i := by cases b <;> simp at hc <;> omega
      have hl := op_lt ho
      rw [if_pos hc]
      have hz : (if b = true then Tg.pr else Tg.un).need ≤ 2 := by cases b <;> decide
      cases hq : readF s L e f (if b = true then Tg.pr else Tg.un) nest (i + 1) with
      | out => exact absurd hq (enough s L e f _ _ _ (by omega))
      | stop x y => simp
      | ok l1 j1 =>
        have := read_len s L e f _ _ _ _ _ hq
        exact enough s L e f _ _ _ (by simp only [Tg.need]; omega)
    · rw [if_neg hc]
      simp
  | f + 1, .un, nest, i, h => by
    simp only [Tg.need] at h
    rw [readF]
    cases hx : takeB (unaryB s) L i with
    | none => simp
    | some x =>
      have hl := take_lt hx
      have e1 := enough s L e f .un (nest + 1) (i + 1) (by simp only [Tg.need]; omega)
      have e2 := enough s L e f .su (nest + 1) (i + 1) (by simp only [Tg.need]; omega)
      dsimp only
      split
      · split
        · simp
        · split
          · simp
          · rename_i q
            exact e1
      · split
        · split
          · simp
          · split
            · split <;> simp
            · exact e2
        · split
          · split <;> simp
          · split
            · simp
            · split
              · split <;> simp
              · simp
end Go.Proofs.YtadogobdlcionaaGreatDoor
namespace Go.Proofs.YtadogobdlcionaaGreatDoor
open Go.ChangeShapes Go.WideShapes Go.ChangeAt Go.RowKit Go.Shelf
set_option linter.unusedVariables false
/-- A condition. -/
structure CN where
  op : Int
  left : List CD
  right : List CD
/-- A condition in memory. -/
def cnV (b : Nat) (c : CN) (w : World) (x : Value) : Prop := ∃ lv rv, x = .agg #[.int .i64 c.op, lv, rv] ∧ cdsV b c.left w lv ∧ cdsV b c.right w rv
/-- A sum with fuel enough. -/
def sumB (s : ByteArray) (L : List (Nat × Tok)) (e nest i : Nat) : PA (List CD) := readF s L e (3 * L.length + 3) .su nest i
theorem sum_any (W : World) {p base : Nat} {s : ByteArray} {L : List (Nat × Tok)} {v : Value} {i e nest : Nat} (h : ParAt W p base s L v i e nest) (hi : i ≤ L.length) (hn : nest ≤ 16) :
    Calls Tryz.prog 78 #[.pointer (some ⟨p, 0, none⟩)] W (PaPost p base s L v e nest W (cdsV W.heap.size) (sumB s L e nest i)) :=
  (reads_is p base s L v e _ nest i W h hi hn).2.2 (enough s L e _ _ _ _ (by simp only [Tg.need]; omega))
theorem sum_le {s : ByteArray} {L : List (Nat × Tok)} {e nest i j : Nat} {l : List CD} (h : sumB s L e nest i = .ok l j) (hi : i ≤ L.length) : j ≤ L.length := read_le s L e _ _ _ _ _ _ h hi
/-- How a condition is read. -/
def condB (s : ByteArray) (L : List (Nat × Tok)) (e nest i : Nat) : PA CN :=
  match sumB s L e nest i with
  | .stop a r => .stop a r
  | .out => .out
  | .ok l j => match takeB (inB holdsT s) L j with
    | none => .stop (placeE L e j) 11
    | some x => match sumB s L e nest (j + 1) with
      | .stop a r => .stop a r
      | .out => .out
      | .ok r k => .ok ⟨1 + idxI holdsT (textOf s x), l, r⟩ k
theorem size59 : (Tryz.prog.info? 47).map (fun i => i.size) = some 3 := by kernel_rfl
theorem cond_end {w W : World} {lv rv : Value} {op : Int} {a : Act} {Q : Ending → World → Prop} (R : W.rangeAt w.heap.size 0 [.int .i64 0, .slice none 0 0, .slice none 0 0]) (B : Blk W w.heap.size 47) (hd : a.defers = []) (hp : a.tmps.getD 2 undef = .pointer (some ⟨w.heap.size, 0, none⟩))
    (hq : Q (.returned (.agg #[.int .i64 op, lv, rv])) (W.setCells w.heap.size 0 [.int .i64 op, lv, rv])) :
    bodyPost Tryz.prog Tryz.f54 Q Exit.ret a (((W.setCell ⟨w.heap.size, 0, none⟩ (.int .i64 op)).setCell ⟨w.heap.size, 1, none⟩ lv).setCell ⟨w.heap.size, 2, none⟩ rv) :=
  have R2 := World.rangeAt_setCells_same W w.heap.size 0 [.int .i64 op, lv, rv] (range_there R rfl B)
  bodyPost_ret (v := .agg #[.int .i64 op, lv, rv]) (res_cell (a := 2) rfl hp (run_loadVar_mid _ w.heap.size 0 47 _ _ R2 Tryz.underlying47 rfl size59)) hd hq
set_option maxRecDepth 100000 in
set_option maxHeartbeats 4000000 in
theorem cond_is (w : World) {p base : Nat} {s : ByteArray} {L : List (Nat × Tok)} {v : Value} {i e nest : Nat} (h : ParAt w p base s L v i e nest) (hi : i ≤ L.length) (hn : nest ≤ 16) :
    Calls Tryz.prog 54 #[.pointer (some ⟨p, 0, none⟩)] w (PaPost p base s L v e nest w (cnV w.heap.size) (condB s L e nest i)) := by
  have SM := Lib.hid (fun (W : World) (i : Nat) (h : ParAt W p base s L v i e nest) (hi : i ≤ L.length) => sum_any W h hi hn)
  have HD := Lib.hid (fun (W : World) (i : Nat) (h : ParAt W p base s L v i e nest) => take_is W h (hold_tells s))
  have HO := Lib.hid (fun W => holds_is W)
  obtain ⟨W, hW⟩ : ∃ W, W = w.alloc (.cells #[.int .i64 0, .slice none 0 0, .slice none 0 0] 47) := ⟨_, rfl⟩
  have T0 : Turn (fun _ => False) w W := by rw [hW]; exact (Turn.refl _ _).alloc _
  have R0 : W.rangeAt w.heap.size 0 [.int .i64 0, .slice none 0 0, .slice none 0 0] := by rw [hW]; exact range_new w [.int .i64 0, .slice none 0 0, .slice none 0 0] 47
  have B0 : Blk W w.heap.size 47 := by rw [hW]; exact Blk.new w [.int .i64 0, .slice none 0 0, .slice none 0 0] 47
  have S1 := Lib.hid (SM.out W i (h.turn T0) hi)
  have F := Lib.hid (And.intro T0 (And.intro R0 (And.intro B0 (And.intro h.bl.lt (h.turn T0)))))
  have HW := Lib.hid hW
  obtain ⟨R, hR⟩ : ∃ R, R = condB s L e nest i := ⟨_, rfl⟩
  rw [← hR]
  have HR := Lib.hid hR
  have HI := Lib.hid hi
  have IX := Lib.hid (fun (W : World) (g cap : Nat) (t : ByteArray) (h : W.rangeAt g 0 (holdsT.map Value.string)) => index_is (cap := cap) h rfl (by decide) t)
  clear hW T0 R0 B0 h hR hi hn
  go_enter Tryz.func54, Tryz.ntmps54
  go_upto_region 1 with fail
  rw [← HW.out]
  go_wp2_with fail
  with_reducible refine S1.out.mono ?_
  intro y w1 hy
  obtain ⟨r1, hr1⟩ : ∃ r, r = sumB s L e nest i := ⟨_, rfl⟩
  rw [← hr1] at hy
  have H1 := Lib.hid hr1
  clear hr1
  cases r1 with
  | out => exact hy.elim
  | stop a r =>
    obtain ⟨rfl, T1⟩ := hy
    have G := Lib.hid ((F.out.1.more (fun _ _ f => f.elim)).trans T1)
    clear T1
    unfold stopE
    go_wp2_with fail
    refine ⟨rfl, ?_⟩
    have hR := HR.out
    unfold condB at hR
    rw [← H1.out] at hR
    rw [hR]
    exact ⟨rfl, G.out⟩
  | ok l j =>
  obtain ⟨lv, rfl, V1, T1, P1⟩ := hy
  have hj := sum_le H1.out.symm HI.out
  have np : w.heap.size ≠ p := by have := F.out.2.2.2.1; omega
  have G1 := Lib.hid (And.intro (V1.low F.out.1.size) (And.intro ((F.out.1.more (S' := fun k => k = p) (fun _ _ f => f.elim)).trans T1) (And.intro P1 (And.intro (range_turn F.out.2.1 T1 np) (F.out.2.2.1.turn T1 np)))))
  have HJ := Lib.hid (And.intro hj np)
  clear V1 T1 P1 hj np
  go_wp2_with fail
  with_reducible refine (HO.out w1).mono ?_
  rintro y w2 ⟨g, cap, rfl, R2, T2⟩
  have G2 := Lib.hid (And.intro (G1.out.2.1.trans (T2.more (fun _ _ f => f.elim))) (And.intro (G1.out.2.2.1.turn T2) (And.intro R2 T2)))
  have hg : g ≠ p := by
    intro q
    have a := G2.out.2.2.1 0 (.string ⟨#[61]⟩) rfl
    have b := G2.out.2.1.c0
    obtain ⟨_, _, hv, -⟩ := own_slice G2.out.2.1.row
    rw [q] at a
    rw [hv] at b
    cases a.symm.trans b
  have HG := Lib.hid hg
  clear R2 T2 hg
  go_wp2_with fail
  with_reducible refine (HD.out w2 _ G2.out.2.1).mono ?_
  rintro y w3 (⟨z, hz, rfl, T3, P3⟩ | ⟨hz, rfl, T3⟩)
  case inr =>
    have G3 := Lib.hid (G2.out.1.trans T3)
    have HZ := Lib.hid hz
    clear T3 hz
    unfold stopE
    go_wp2_with fail
    refine ⟨rfl, ?_⟩
    have hR := HR.out
    unfold condB at hR
    rw [← H1.out] at hR
    dsimp only at hR
    rw [HZ.out] at hR
    rw [hR]
    exact ⟨rfl, G3.out⟩
  have g3 := tok_text z.2.kind z.1 z.2.n (textOf s z) w3
  rw [show tokC s z = tokL z.2.kind z.1 z.2.n (textOf s z) from rfl]
  unfold tokL
  have IX3 := Lib.hid (IX.out w3 g cap (textOf s z) (range_turn G2.out.2.2.1 T3 HG.out))
  have G3 := Lib.hid (And.intro (G2.out.1.trans T3) (And.intro P3 (T3)))
  have HZ := Lib.hid hz
  clear T3 P3 hz
  go_wp2_with fail
  with_reducible refine IX3.out.mono ?_
  rintro y w4 ⟨rfl, T4⟩
  have hzr := idx_range holdsT (textOf s z)
  obtain ⟨zi, hzi⟩ : ∃ x, x = idxI holdsT (textOf s z) := ⟨_, rfl⟩
  rw [← hzi] at hzr ⊢
  have hw : wrap64 (1 + zi) = 1 + zi := by have : (holdsT.length : Int) = 6 := rfl; unfold wrap64; omega
  have G4 := Lib.hid (And.intro (G3.out.1.trans (T4.more (fun _ _ f => f.elim))) (G3.out.2.1.turn T4))
  have S5 := Lib.hid (SM.out w4 (j + 1) G4.out.2 (by have := take_lt HZ.out; omega))
  have HZI := Lib.hid hzi
  have TA := Lib.hid ((G2.out.2.2.2.more (S' := fun k => k = p) (fun _ _ f => f.elim)).trans (G3.out.2.2.trans (T4.more (fun _ _ f => f.elim))))
  clear T4 hzi hzr g3
  go_wp2_with fail
  with_reducible refine S5.out.mono ?_
  intro y w5 hy
  obtain ⟨r2, hr2⟩ : ∃ r, r = sumB s L e nest (j + 1) := ⟨_, rfl⟩
  rw [← hr2] at hy
  have H2 := Lib.hid hr2
  clear hr2
  have hR := HR.out
  unfold condB at hR
  rw [← H1.out] at hR
  dsimp only at hR
  rw [HZ.out] at hR
  dsimp only at hR
  rw [← H2.out, ← HZI.out] at hR
  have HRR := Lib.hid hR
  clear hR
  cases r2 with
  | out => exact hy.elim
  | stop a r =>
    obtain ⟨rfl, T5⟩ := hy
    have G := Lib.hid (G4.out.1.trans T5)
    clear T5
    unfold stopE
    go_wp2_with fail
    refine ⟨rfl, ?_⟩
    rw [HRR.out]
    exact ⟨rfl, G.out⟩
  | ok r k =>
  obtain ⟨rv, rfl, V5, T5, P5⟩ := hy
  have TB := TA.out.trans T5
  have R5 := range_turn G1.out.2.2.2.1 TB HJ.out.2
  have B5 := G1.out.2.2.2.2.turn TB HJ.out.2
  have VL := G1.out.1.turn TB (fun x hx q => by have := F.out.2.2.2.1; omega)
  have VR := V5.low G4.out.1.size
  obtain ⟨la, lc, rfl, -⟩ := own_slice VL
  obtain ⟨ra, rc, rfl, -⟩ := own_slice VR
  have y0 : w5.cell? ⟨w.heap.size, 0, none⟩ = some (.int .i64 0) := R5 0 _ rfl
  have y1 : w5.cell? ⟨w.heap.size, 1, none⟩ = some (.slice none 0 0) := R5 1 _ rfl
  have y2 : w5.cell? ⟨w.heap.size, 2, none⟩ = some (.slice none 0 0) := R5 2 _ rfl
  have ff := B5.fz
  have TE : Turn (fun k => k = w.heap.size) w5 (w5.setCells w.heap.size 0 [.int .i64 (1 + zi), .slice la l.length lc, .slice ra r.length rc]) := Turn.setCells _ 0 (Turn.refl _ _) (.inl rfl)
  have nb : ∀ {n : Nat} {xs : List Value} {x : Value} {bs sz ty : Nat}, w5.ownsRow bs ty sz x n xs → ty ≠ 47 → ∀ k, x.ownBlock = some k → ¬ k = w.heap.size := by
    intro n xs x bs sz ty ho ht k hk q
    obtain ⟨⟨cs, hb⟩, _⟩ := own_blk ho hk
    obtain ⟨cs', hb'⟩ := B5
    rw [q, hb'] at hb
    injection hb with hb
    injection hb with _ hb
    exact ht hb.symm
  have VL6 : cdsV w.heap.size l (w5.setCells w.heap.size 0 [.int .i64 (1 + zi), .slice la l.length lc, .slice ra r.length rc]) (.slice la l.length lc) := own_turn VL TE (nb VL (by decide))
  have VR6 : cdsV w.heap.size r (w5.setCells w.heap.size 0 [.int .i64 (1 + zi), .slice la l.length lc, .slice ra r.length rc]) (.slice ra r.length rc) := own_turn VR TE (nb VR (by decide))
  have P6 := P5.turnS TE (by have := HJ.out.2; omega) (nb P5.row (by decide))
  have T6 := (G4.out.1.trans T5).comp TE (fun x hx q => by omega)
  have FIN := Lib.hid (And.intro R5 (And.intro B5 (And.intro VL6 (And.intro VR6 (And.intro T6 P6)))))
  clear R5 B5 VL6 VR6 T6 P6 TE nb VL VR TB V5 T5 P5
  go_wp2_with fail
  refine cond_end FIN.out.1 FIN.out.2.1 rfl rfl ?_
  rw [HRR.out]
  exact ⟨_, rfl, ⟨_, _, rfl, FIN.out.2.2.1, FIN.out.2.2.2.1⟩, FIN.out.2.2.2.2.1, FIN.out.2.2.2.2.2⟩
end Go.Proofs.YtadogobdlcionaaGreatDoor
namespace Go.Proofs.YtadogobdlcionaaGreatDoor
open Go.ChangeShapes Go.WideShapes Go.ChangeAt Go.RowKit Go.Shelf
set_option linter.unusedVariables false
def EL.cells (c : EL) : List Value := elL c.type c.var c.plus c.not
def elsC (l : List EL) : List Value := (l.map EL.cells).flatten
theorem elsC_snoc (l : List EL) (c : EL) : elsC (l ++ [c]) = elsC l ++ c.cells := by simp [elsC]
theorem info50 : (Tryz.prog.info? 43).map (fun i => (i.zero, i.size, i.bytes)) = some (some (.agg #[.int .i64 0, .string ⟨#[]⟩, .bool false, .bool false]), 4, 32) := by kernel_rfl
theorem el_add {w : World} {base : Nat} {v : Value} {l : List EL} (ho : w.ownsRow base 43 4 v l.length (elsC l)) (hn : l.length ≤ 1000) (hb : base ≤ w.heap.size) (c : EL) :
    ∃ v' w2, (Builtin.append_ #[27, 27] 27 #[v, .slice (some ⟨w.heap.size, 0, none⟩) 1 1]).run Tryz.prog (w.alloc (.cells c.cells.toArray 43)) = .ok v' w2 ∧ w2.ownsRow base 43 4 v' (l ++ [c]).length (elsC (l ++ [c])) ∧ Turn (fun k => v.ownBlock = some k) w w2 := by
  have T1 : Turn (fun _ => False) w (w.alloc (.cells c.cells.toArray 43)) := (Turn.refl _ w).alloc _
  have ho1 := own_turn ho T1 (fun _ _ q => q)
  obtain ⟨i3, j1, j2, j3, j4⟩ := info_parts info50
  obtain ⟨v', w2, hrun, ho2, hg, _, hbl⟩ := run_append_own_at (w.alloc (.cells c.cells.toArray 43)) base 27 27 43 i3 _ 4 32 Tryz.underlying27 j1 j2 j3 j4 rfl (by decide) _ _ _ ho1 ⟨w.heap.size, 0, none⟩ 1 1 c.cells rfl
    (cells_new w c.cells 43 _ rfl) (fun u hu => by
      simp only [EL.cells, elL, List.mem_cons, List.not_mem_nil, or_false] at hu
      rcases hu with rfl | rfl | rfl | rfl <;> rfl) (by unfold maxLen; omega) (by omega) (by rw [World.size_alloc]; omega)
  exact ⟨v', w2, hrun, by rw [List.length_append, elsC_snoc]; exact ho2, (T1.more (fun _ _ q => q.elim)).trans ((Turn.refl _ _).grown hg (fun k hk => .inl hk))⟩
end Go.Proofs.YtadogobdlcionaaGreatDoor
namespace Go.Proofs.YtadogobdlcionaaGreatDoor
open Go.ChangeShapes Go.WideShapes Go.ChangeAt Go.RowKit Go.Shelf
set_option linter.unusedVariables false
/-- A row of conditions, each with its two rows of codes. -/
def CnsO (base : Nat) (W : World) (v : Value) (C : List CN) : Prop := ∃ xs, W.ownsRow base 47 3 v C.length xs ∧ ∀ k c, C[k]? = some c → ∃ lv rv, xs[k * 3]? = some (.int .i64 c.op) ∧ xs[k * 3 + 1]? = some lv ∧ xs[k * 3 + 2]? = some rv ∧ cdsV base c.left W lv ∧ cdsV base c.right W rv
/-- It bears what turns no block of codes, nor its own. -/
theorem CnsO.turn {base : Nat} {W W' : World} {v : Value} {C : List CN} {S : Nat → Prop} (h : CnsO base W v C) (T : Turn S W W') (hs : ∀ k, base ≤ k → ¬ S k) : CnsO base W' v C := by
  obtain ⟨xs, ho, hx⟩ := h
  refine ⟨xs, own_turn ho T (fun k hk q => hs k (own_above ho hk) q), fun k c hc => ?_⟩
  obtain ⟨lv, rv, a, b, d, e, f⟩ := hx k c hc
  exact ⟨lv, rv, a, b, d, e.turn T hs, f.turn T hs⟩
theorem info59 : (Tryz.prog.info? 47).map (fun i => (i.zero, i.size, i.bytes)) = some (some (.agg #[.int .i64 0, .slice none 0 0, .slice none 0 0]), 3, 56) := by kernel_rfl
theorem cds_one {b : Nat} {l : List CD} {w : World} {x : Value} (h : cdsV b l w x) : x.oneCell' = true := by
  obtain ⟨a, c, rfl, -⟩ := own_slice h
  rfl
theorem cds_apart {b b' n : Nat} {l : List CD} {w w' : World} {x v : Value} {xs : List Value} (h : cdsV b l w x) (ho : w.ownsRow b' 47 3 v n xs) (T : Turn (fun k => v.ownBlock = some k) w w') : cdsV b l w' x :=
  own_turn h T (fun k hk q => by
    rcases own_apart h ho (by decide) with r | r
    · rw [hk] at r; cases r
    · exact r (hk.trans q.symm))
theorem cn_add {w : World} {base : Nat} {v lv rv : Value} {C : List CN} {c : CN} (h : CnsO base w v C) (hn : C.length ≤ 1000) (hb : base ≤ w.heap.size) (hl : cdsV base c.left w lv) (hr : cdsV base c.right w rv) :
    ∃ v' w2, (Builtin.append_ #[28, 28] 28 #[v, .slice (some ⟨w.heap.size, 0, none⟩) 1 1]).run Tryz.prog (w.alloc (.cells #[.int .i64 c.op, lv, rv] 47)) = .ok v' w2 ∧ CnsO base w2 v' (C ++ [c]) ∧ Turn (fun k => v.ownBlock = some k) w w2 := by
  have T1 : Turn (fun _ => False) w (w.alloc (.cells #[.int .i64 c.op, lv, rv] 47)) := (Turn.refl _ w).alloc _
  obtain ⟨xs, ho, hx⟩ := h
  have ho1 := own_turn ho T1 (fun _ _ q => q)
  obtain ⟨i3, j1, j2, j3, j4⟩ := info_parts info59
  obtain ⟨v', w2, hrun, ho2, hg, _, hbl⟩ := run_append_own_at (w.alloc (.cells #[.int .i64 c.op, lv, rv] 47)) base 28 28 47 i3 _ 3 56 Tryz.underlying28 j1 j2 j3 j4 rfl (by decide) _ _ _ ho1 ⟨w.heap.size, 0, none⟩ 1 1 [.int .i64 c.op, lv, rv] rfl
    (cells_new w [.int .i64 c.op, lv, rv] 47 _ rfl) (fun u hu => by
      simp only [List.mem_cons, List.not_mem_nil, or_false] at hu
      rcases hu with h | h | h
      · rw [h]; rfl
      · rw [h]; exact cds_one hl
      · rw [h]; exact cds_one hr) (by unfold maxLen; omega) (by omega) (by rw [World.size_alloc]; omega)
  have T : Turn (fun k => v.ownBlock = some k) w w2 := (T1.more (fun _ _ q => q.elim)).trans ((Turn.refl _ _).grown hg (fun k hk => .inl hk))
  refine ⟨v', w2, hrun, ⟨xs ++ [.int .i64 c.op, lv, rv], by rw [List.length_append]; exact ho2, fun k d hd => ?_⟩, T⟩
  have hxl := ho.1
  by_cases hk : k < C.length
  · rw [List.getElem?_append_left hk] at hd
    obtain ⟨lv2, rv2, x1, x2, x3, x4, x5⟩ := hx k d hd
    exact ⟨lv2, rv2, by rw [List.getElem?_append_left (by omega)]; exact x1, by rw [List.getElem?_append_left (by omega)]; exact x2, by rw [List.getElem?_append_left (by omega)]; exact x3, cds_apart x4 ho T, cds_apart x5 ho T⟩
  · have hk2 := (List.getElem?_eq_some_iff.1 hd).1
    rw [List.length_append] at hk2
    have hk3 : k = C.length := by simp at hk2; omega
    subst hk3
    rw [List.getElem?_append_right (Nat.le_refl _), Nat.sub_self] at hd
    cases hd
    refine ⟨lv, rv, ?_, ?_, ?_, cds_apart hl ho T, cds_apart hr ho T⟩
    · rw [List.getElem?_append_right (by omega), hxl, Nat.sub_self]; rfl
    · rw [List.getElem?_append_right (by omega), hxl, show C.length * 3 + 1 - C.length * 3 = 1 by omega]; rfl
    · rw [List.getElem?_append_right (by omega), hxl, show C.length * 3 + 2 - C.length * 3 = 2 by omega]; rfl
end Go.Proofs.YtadogobdlcionaaGreatDoor
namespace Go.Proofs.YtadogobdlcionaaGreatDoor
open Go.ChangeShapes Go.WideShapes Go.ChangeAt Go.RowKit Go.Shelf
set_option linter.unusedVariables false
abbrev seqT : ByteArray := ⟨#[115, 101, 113]⟩
abbrev whereT : ByteArray := ⟨#[119, 104, 101, 114, 101]⟩
abbrev andT : ByteArray := ⟨#[97, 110, 100]⟩
abbrev withinT : ByteArray := ⟨#[119, 105, 116, 104, 105, 110]⟩
abbrev byT : ByteArray := ⟨#[98, 121]⟩
abbrev keyT : ByteArray := ⟨#[107, 101, 121]⟩
abbrev commaT : ByteArray := ⟨#[44]⟩
/-- One part behind another one. -/
def PA.bind {α β : Type} (r : PA α) (f : α → Nat → PA β) : PA β := match r with
  | .ok a i => f a i
  | .stop a r => .stop a r
  | .out => .out
/-- Elements with commas between. -/
def elemsF (s : ByteArray) (L : List (Nat × Tok)) (e : Nat) : Nat → Nat → List EL → PA (List EL)
  | 0, _, _ => .out
  | f + 1, i, l => if hasB s L commaT i then (elemB s L e (i + 1)).bind fun x j => elemsF s L e f j (l ++ [x]) else .ok l i
/-- Conditions behind one another. -/
def condsF (s : ByteArray) (L : List (Nat × Tok)) (e : Nat) : Nat → Nat → List CN → PA (List CN)
  | 0, _, _ => .out
  | f + 1, i, l => if hasB s L andT i then (condB s L e 0 (i + 1)).bind fun x j => condsF s L e f j (l ++ [x]) else .ok l i
/-- A query. -/
structure QU where
  elems : List EL
  conds : List CN
  window : Nat
  byKey : Bool
def condsB (s : ByteArray) (L : List (Nat × Tok)) (e i : Nat) : PA (List CN) :=
  if hasB s L whereT i then (condB s L e 0 (i + 1)).bind fun c j => condsF s L e (L.length + 1) j [c] else .ok [] i
def elemsB (s : ByteArray) (L : List (Nat × Tok)) (e i : Nat) : PA (List EL) := (elemB s L e i).bind fun x j => elemsF s L e (L.length + 1) j [x]
/-- Nothing may stand behind a query. -/
def restB (L : List (Nat × Tok)) (e : Nat) (q : QU) (i : Nat) : PA QU := if i < L.length then .stop (placeE L e i) 11 else .ok q i
def tailB (s : ByteArray) (L : List (Nat × Tok)) (e : Nat) (E : List EL) (C : List CN) (i : Nat) : PA QU :=
  if hasB s L withinT i then
    match takeB (fun x => decide (x.2.kind = 3)) L (i + 1) with
    | none => .stop (placeE L e (i + 1)) 11
    | some x => if hasB s L byT (i + 2) then
        if hasB s L keyT (i + 3) then restB L e ⟨E, C, x.2.n, true⟩ (i + 4) else .stop (placeE L e (i + 3)) 11
      else restB L e ⟨E, C, x.2.n, false⟩ (i + 2)
  else .stop (placeE L e i) 11
def queryB (s : ByteArray) (L : List (Nat × Tok)) (e : Nat) : PA QU :=
  if hasB s L seqT 0 then (elemsB s L e 1).bind fun E i => (condsB s L e i).bind fun C j => tailB s L e E C j
  else .stop (placeE L e 0) 11
theorem elem_le {s : ByteArray} {L : List (Nat × Tok)} {e i j : Nat} {x : EL} (h : elemB s L e i = .ok x j) : i < j ∧ j ≤ L.length := by
  unfold elemB at h
  cases h1 : takeB (fun x => decide (x.2.kind = 2)) L (skipB' s L bang i) with
  | none => rw [h1] at h; cases h
  | some a =>
    rw [h1] at h
    dsimp only at h
    cases h2 : takeB (nameB s) L (skipB' s L plus (skipB' s L bang i + 1)) with
    | none => rw [h2] at h; cases h
    | some b =>
      rw [h2] at h
      have := take_lt h2
      injection h with _ h
      have k1 : i ≤ skipB' s L bang i := by unfold skipB'; split <;> omega
      have k2 : skipB' s L bang i + 1 ≤ skipB' s L plus (skipB' s L bang i + 1) := by unfold skipB'; split <;> split <;> omega
      omega
theorem elem_out {s : ByteArray} {L : List (Nat × Tok)} {e i : Nat} : elemB s L e i ≠ .out := by
  unfold elemB
  split
  · simp
  · split <;> simp
theorem cond_le {s : ByteArray} {L : List (Nat × Tok)} {e n i j : Nat} {x : CN} (h : condB s L e n i = .ok x j) (hi : i ≤ L.length) : i < j ∧ j ≤ L.length := by
  unfold condB at h
  cases h1 : sumB s L e n i with
  | out => rw [h1] at h; cases h
  | stop a r => rw [h1] at h; cases h
  | ok l k =>
    rw [h1] at h
    dsimp only at h
    have l1 : i ≤ k := by have := read_len s L e _ _ _ _ _ _ h1; omega
    cases h2 : takeB (inB holdsT s) L k with
    | none => rw [h2] at h; cases h
    | some y =>
      rw [h2] at h
      dsimp only at h
      have hl := take_lt h2
      cases h3 : sumB s L e n (k + 1) with
      | out => rw [h3] at h; cases h
      | stop a r => rw [h3] at h; cases h
      | ok r m =>
        rw [h3] at h
        injection h with _ h
        have l3 : k + 1 ≤ m := by have := read_len s L e _ _ _ _ _ _ h3; omega
        have := sum_le h3 (by omega)
        omega
theorem sum_out {s : ByteArray} {L : List (Nat × Tok)} {e n i : Nat} : sumB s L e n i ≠ .out := enough s L e _ _ _ _ (by simp only [Tg.need]; omega)
theorem cond_out {s : ByteArray} {L : List (Nat × Tok)} {e n i : Nat} : condB s L e n i ≠ .out := by
  unfold condB
  split
  · simp
  · rename_i q; exact absurd q sum_out
  · split
    · simp
    · split
      · simp
      · rename_i q; exact absurd q sum_out
      · simp
theorem elems_out {s : ByteArray} {L : List (Nat × Tok)} {e : Nat} : ∀ (f i : Nat) (l : List EL), L.length - i < f → elemsF s L e f i l ≠ .out
  | 0, i, l, h => absurd h (by omega)
  | f + 1, i, l, h => by
    rw [elemsF]
    by_cases hc : hasB s L commaT i = true
    · rw [if_pos hc]
      have := has_lt hc
      cases hx : elemB s L e (i + 1) with
      | out => exact absurd hx elem_out
      | stop a r => simp [PA.bind]
      | ok x j =>
        have := elem_le hx
        exact elems_out f j _ (by omega)
    · rw [if_neg hc]
      simp
theorem conds_out {s : ByteArray} {L : List (Nat × Tok)} {e : Nat} : ∀ (f i : Nat) (l : List CN), L.length - i < f → condsF s L e f i l ≠ .out
  | 0, i, l, h => absurd h (by omega)
  | f + 1, i, l, h => by
    rw [condsF]
    by_cases hc : hasB s L andT i = true
    · rw [if_pos hc]
      have := has_lt hc
      cases hx : condB s L e 0 (i + 1) with
      | out => exact absurd hx cond_out
      | stop a r => simp [PA.bind]
      | ok x j =>
        have := cond_le hx (by omega)
        exact conds_out f j _ (by omega)
    · rw [if_neg hc]
      simp
end Go.Proofs.YtadogobdlcionaaGreatDoor
namespace Go.Proofs.YtadogobdlcionaaGreatDoor
open Go.ChangeShapes Go.WideShapes Go.ChangeAt Go.RowKit Go.Shelf
set_option linter.unusedVariables false
theorem CnsO.other {base : Nat} {W W' : World} {v : Value} {C : List CN} {S : Nat → Prop} {t : TypeId} (h : CnsO base W v C) (T : Turn S W W') (hs : ∀ k, S k → Blk W k t) (h1 : t ≠ 47) (h2 : t ≠ 45) : CnsO base W' v C := by
  obtain ⟨xs, ho, hx⟩ := h
  refine ⟨xs, own_turn ho T (fun k hk q => (own_blk ho hk).1.ne (hs k q) h1.symm rfl), fun k c hc => ?_⟩
  obtain ⟨lv, rv, a, b, d, e, f⟩ := hx k c hc
  exact ⟨lv, rv, a, b, d, own_turn e T (fun k hk q => (own_blk e hk).1.ne (hs k q) h2.symm rfl), own_turn f T (fun k hk q => (own_blk f hk).1.ne (hs k q) h2.symm rfl)⟩
/-- A query's cells. -/
def quL (ev cv : Value) (wd : Int) (by_ : Bool) : List Value := [ev, cv, .int .i64 wd, .bool by_]
theorem size27 : (Tryz.prog.info? 30).map (fun i => i.size) = some 4 := by kernel_rfl
structure QS (w : World) (p base : Nat) (s : ByteArray) (L : List (Nat × Tok)) (v : Value) (e : Nat) (W : World) (E : List EL) (C : List CN) (ev cv : Value) (wd : Int) (by_ : Bool) (i : Nat) : Prop where
  par : ParAt W p base s L v i e 0
  rr : W.rangeAt w.heap.size 0 (quL (.slice none 0 0) (.slice none 0 0) 0 false)
  br : Blk W w.heap.size 30
  rq : W.rangeAt (w.heap.size + 1) 0 (quL ev cv wd by_)
  bq : Blk W (w.heap.size + 1) 30
  eo : W.ownsRow w.heap.size 43 4 ev E.length (elsC E)
  co : CnsO w.heap.size W cv C
  tu : Turn (fun k => k = p) w W
  lt : p < w.heap.size
  low : ∀ k, v.ownBlock = some k → k < w.heap.size
  en : E.length ≤ i
  cn : C.length ≤ i
  il : i ≤ L.length
section
variable {w W W' : World} {p base : Nat} {s : ByteArray} {L : List (Nat × Tok)} {v : Value} {e : Nat} {E : List EL} {C : List CN} {ev cv : Value} {wd : Int} {by_ : Bool} {i j : Nat}
theorem QS.eb (h : QS w p base s L v e W E C ev cv wd by_ i) {k : Nat} (hk : ev.ownBlock = some k) : Blk W k 43 ∧ w.heap.size ≤ k := own_blk h.eo hk
theorem QS.cb (h : QS w p base s L v e W E C ev cv wd by_ i) {k : Nat} (hk : cv.ownBlock = some k) : Blk W k 47 ∧ w.heap.size ≤ k := by
  obtain ⟨xs, ho, -⟩ := h.co
  exact own_blk ho hk
theorem QS.go (h : QS w p base s L v e W E C ev cv wd by_ i) (T : Turn (fun k => k = p) W W') (P : ParAt W' p base s L v j e 0) (hij : i ≤ j) (hj : j ≤ L.length) : QS w p base s L v e W' E C ev cv wd by_ j :=
  have hlt := h.lt
  ⟨P, range_turn h.rr T (by omega), h.br.turn T (by omega), range_turn h.rq T (by omega), h.bq.turn T (by omega), own_turn h.eo T (fun k hk q => by have := (h.eb hk).2; omega),
    h.co.turn T (fun k hk q => by omega), h.tu.trans T, h.lt, h.low, Nat.le_trans h.en hij, Nat.le_trans h.cn hij, hj⟩
theorem QS.quiet (h : QS w p base s L v e W E C ev cv wd by_ i) (T : Turn (fun _ => False) W W') : QS w p base s L v e W' E C ev cv wd by_ i :=
  h.go (T.more (fun _ _ f => f.elim)) (h.par.turn T) (Nat.le_refl _) h.il
theorem QS.c (h : QS w p base s L v e W E C ev cv wd by_ i) : W.cell? ⟨w.heap.size + 1, 0, none⟩ = some ev ∧ W.cell? ⟨w.heap.size + 1, 1, none⟩ = some cv ∧ W.cell? ⟨w.heap.size + 1, 2, none⟩ = some (.int .i64 wd) ∧ W.cell? ⟨w.heap.size + 1, 3, none⟩ = some (.bool by_) :=
  ⟨h.rq 0 _ rfl, h.rq 1 _ rfl, h.rq 2 _ rfl, h.rq 3 _ rfl⟩
/-- Its box is written. -/
theorem QS.put (h : QS w p base s L v e W E C ev cv wd by_ i) {k : Nat} {x : Value} {wd' : Int} {by' : Bool} (hk : k < 4) (hx : (quL ev cv wd by_).set k x = quL ev cv wd' by') : QS w p base s L v e (W.setCell ⟨w.heap.size + 1, k, none⟩ x) E C ev cv wd' by' i :=
  have hlt := h.lt
  have TP := Turn.put W (w.heap.size + 1) k x
  have hb : ∀ k, k = w.heap.size + 1 → Blk W k 30 := fun k hk => by rw [hk]; exact h.bq
  ⟨h.par.turnS TP (by omega) (fun k hk q => by have := h.low k hk; omega), range_far h.rr (by omega) x, h.br.turn TP (by omega), by rw [← hx]; exact range_set h.rq hk x, h.bq.set _ _,
    own_turn h.eo TP (fun k hk q => (h.eb hk).1.ne (hb k q) (by decide) rfl), h.co.other TP hb (by decide) (by decide), h.tu.comp TP (fun k hk q => by omega), h.lt, h.low, h.en, h.cn, h.il⟩
theorem put_elems {W2 : World} (h : QS w p base s L v e W E C ev cv wd by_ i) (T : Turn (fun k => ev.ownBlock = some k) W W2) {E' : List EL} {ev' : Value} (ho : W2.ownsRow w.heap.size 43 4 ev' E'.length (elsC E')) (hl : E'.length ≤ i) :
    W2.cell? ⟨w.heap.size + 1, 0, none⟩ = some ev ∧ W2.frozen? ⟨w.heap.size + 1, 0, none⟩ = false ∧ QS w p base s L v e (W2.setCell ⟨w.heap.size + 1, 0, none⟩ ev') E' C ev' cv wd by_ i := by
  have hlt := h.lt
  have n1 : ¬ ev.ownBlock = some (w.heap.size + 1) := fun q => (h.eb q).1.ne h.bq (by decide) rfl
  have n0 : ¬ ev.ownBlock = some w.heap.size := fun q => (h.eb q).1.ne h.br (by decide) rfl
  have np : ¬ ev.ownBlock = some p := fun q => by have := (h.eb q).2; omega
  have B2 := h.bq.turn T n1
  have TP := Turn.put W2 (w.heap.size + 1) 0 ev'
  have hb : ∀ k, k = w.heap.size + 1 → Blk W2 k 30 := fun k hk => by rw [hk]; exact B2
  refine ⟨T.cell n1 h.c.1, B2.fz _, (h.par.turnS T np (fun k hk q => by have := h.low k hk; have := (h.eb q).2; omega)).turnS TP (by omega) (fun k hk q => by have := h.low k hk; omega), range_far (range_turn h.rr T n0) (by omega) _, (h.br.turn T n0).turn TP (by omega), ?_, B2.set _ _,
    own_turn ho TP (fun k hk q => (own_blk ho hk).1.ne (hb k q) (by decide) rfl), (h.co.other T (fun k q => (h.eb q).1) (by decide) (by decide)).other TP hb (by decide) (by decide), (h.tu.comp T (fun k hk q => by have := (h.eb q).2; omega)).comp TP (fun k hk q => by omega), h.lt, h.low, hl, h.cn, h.il⟩
  exact range_set (range_turn h.rq T n1) (by show 0 < 4; omega) ev'
theorem put_conds {W2 : World} (h : QS w p base s L v e W E C ev cv wd by_ i) (T : Turn (fun k => cv.ownBlock = some k) W W2) {C' : List CN} {cv' : Value} (ho : CnsO w.heap.size W2 cv' C') (hl : C'.length ≤ i) :
    W2.cell? ⟨w.heap.size + 1, 1, none⟩ = some cv ∧ W2.frozen? ⟨w.heap.size + 1, 1, none⟩ = false ∧ QS w p base s L v e (W2.setCell ⟨w.heap.size + 1, 1, none⟩ cv') E C' ev cv' wd by_ i := by
  have hlt := h.lt
  have n1 : ¬ cv.ownBlock = some (w.heap.size + 1) := fun q => (h.cb q).1.ne h.bq (by decide) rfl
  have n0 : ¬ cv.ownBlock = some w.heap.size := fun q => (h.cb q).1.ne h.br (by decide) rfl
  have np : ¬ cv.ownBlock = some p := fun q => by have := (h.cb q).2; omega
  have B2 := h.bq.turn T n1
  have TP := Turn.put W2 (w.heap.size + 1) 1 cv'
  have hb : ∀ k, k = w.heap.size + 1 → Blk W2 k 30 := fun k hk => by rw [hk]; exact B2
  have ho2 := own_turn h.eo T (fun k hk q => (h.eb hk).1.ne (h.cb q).1 (by decide) rfl)
  refine ⟨T.cell n1 h.c.2.1, B2.fz _, (h.par.turnS T np (fun k hk q => by have := h.low k hk; have := (h.cb q).2; omega)).turnS TP (by omega) (fun k hk q => by have := h.low k hk; omega), range_far (range_turn h.rr T n0) (by omega) _, (h.br.turn T n0).turn TP (by omega), ?_, B2.set _ _,
    own_turn ho2 TP (fun k hk q => (own_blk ho2 hk).1.ne (hb k q) (by decide) rfl), ho.other TP hb (by decide) (by decide), (h.tu.comp T (fun k hk q => by have := (h.cb q).2; omega)).comp TP (fun k hk q => by omega), h.lt, h.low, h.en, hl, h.il⟩
  exact range_set (range_turn h.rq T n1) (by show 1 < 4; omega) cv'
/-- A query as it lies. -/
def quV (b : Nat) (q : QU) (w : World) (x : Value) : Prop := ∃ ev cv, x = .agg (quL ev cv q.window q.byKey).toArray ∧ w.ownsRow b 43 4 ev q.elems.length (elsC q.elems) ∧ CnsO b w cv q.conds
theorem QS.end_ {q : QU} {Q : Ending → World → Prop} (h : QS w p base s L v e W q.elems q.conds ev cv q.window q.byKey i) {a : Act} (hd : a.defers = []) (hp : a.tmps.getD 2 undef = .pointer (some ⟨w.heap.size, 0, none⟩))
    (hq : ∀ x W', quV w.heap.size q W' x → Turn (fun k => k = p) w W' → ParAt W' p base s L v i e 0 → Q (.returned x) W') :
    bodyPost Tryz.prog Tryz.f33 Q Exit.ret a ((((W.setCell ⟨w.heap.size, 0, none⟩ ev).setCell ⟨w.heap.size, 1, none⟩ cv).setCell ⟨w.heap.size, 2, none⟩ (.int .i64 q.window)).setCell ⟨w.heap.size, 3, none⟩ (.bool q.byKey)) :=
  have R2 := World.rangeAt_setCells_same W w.heap.size 0 (quL ev cv q.window q.byKey) (range_there h.rr rfl h.br)
  have hlt := h.lt
  have TE : Turn (fun k => k = w.heap.size) W (W.setCells w.heap.size 0 (quL ev cv q.window q.byKey)) := Turn.setCells _ 0 (Turn.refl _ _) (.inl rfl)
  have hb : ∀ k, k = w.heap.size → Blk W k 30 := fun k hk => by rw [hk]; exact h.br
  bodyPost_ret (v := .agg (quL ev cv q.window q.byKey).toArray) (res_cell (a := 2) rfl hp (run_loadVar_mid _ w.heap.size 0 30 _ _ R2 Tryz.underlying30 rfl size27)) hd
    (hq _ _ ⟨ev, cv, rfl, own_turn h.eo TE (fun k hk q => (h.eb hk).1.ne (hb k q) (by decide) rfl), h.co.other TE hb (by decide) (by decide)⟩ (h.tu.comp TE (fun k hk q => by omega)) (h.par.turnS TE (by omega) (fun k hk q => by have := h.low k hk; omega)))
end
end Go.Proofs.YtadogobdlcionaaGreatDoor
