/-
  Parse: the query that a text is.
-/
import Derived.Test.YtadogobdlcionaaDoorSa
import Derived.Test.YtadogobdlcionaaDoorRz
import Derived.Test.YtadogobdlcionaaDoorPi
namespace Go.Proofs.YtadogobdlcionaaDoor
open Go.ChangeShapes Go.WideShapes Go.ChangeAt Go.RowKit Go.Shelf
set_option linter.unusedVariables false
def zq : QU := ⟨[], [], 0, false⟩
/-- What Parse tells of a text: a query, a place, an error. -/
def parseB (s : ByteArray) : QU × Nat × Nat :=
  match (toksB s.data.toList)[200]? with
  | some x => (zq, x.1, 12)
  | none => if skipB (endB (toksB s.data.toList)) s.data.toList < s.size then (zq, skipB (endB (toksB s.data.toList)) s.data.toList, 10)
    else match queryB s (toksB s.data.toList) s.size with
      | .ok q _ => (q, s.size, 0)
      | .stop a r => (zq, a, r)
      | .out => (zq, 0, 0)
theorem PB.quiet {S : Nat → Prop} {W W' : World} {N : Nat} {xs : List Value} {a r : Int} (h : PB W N xs a r) (T : Turn S W W') (h0 : ¬ S N := by exact id) (h1 : ¬ S (N + 1) := by exact id) (h2 : ¬ S (N + 2) := by exact id) : PB W' N xs a r :=
  ⟨range_turn h.q T h0, h.bq.turn T h0, T.cell h1 h.a, h.ba.turn T h1, T.cell h2 h.r, h.br.turn T h2⟩
theorem PB.res {W : World} {N : Nat} {xs : List Value} {a r : Int} (h : PB W N xs a r) (a' r' : Int) : PB ((W.setCell ⟨N + 1, 0, none⟩ (.int .i64 a')).setCell ⟨N + 2, 0, none⟩ (.int .i64 r')) N xs a' r' := by
  have T2 := Turn.put W (N + 1) 0 (.int .i64 a')
  have T3 := Turn.put (W.setCell ⟨N + 1, 0, none⟩ (.int .i64 a')) (N + 2) 0 (.int .i64 r')
  exact ⟨range_turn (range_turn h.q T2 (by omega)) T3 (by omega), (h.bq.turn T2 (by omega)).turn T3 (by omega), T3.cell (by omega) (World.cell?_setCell_same _ _ _ h.a), (h.ba.set _ _).turn T3 (by omega), World.cell?_setCell_same _ _ _ (T2.cell (by omega) h.r), (h.br.turn T2 (by omega)).set _ _⟩
theorem store_end {W : World} {N : Nat} {x y x4 x5 : Int} {x0 x1 x2 x3 v0 v1 v2 v3 : Value} (h : PB W N [x0, x1, x2, x3] x4 x5) :
    PB ((((((W.setCell ⟨N, 0, none⟩ v0).setCell ⟨N, 1, none⟩ v1).setCell ⟨N, 2, none⟩ v2).setCell ⟨N, 3, none⟩ v3).setCell ⟨N + 1, 0, none⟩ (.int .i64 x)).setCell ⟨N + 2, 0, none⟩ (.int .i64 y)) N [v0, v1, v2, v3] x y ∧
    Turn (fun k => k = N ∨ k = N + 1 ∨ k = N + 2) W ((((((W.setCell ⟨N, 0, none⟩ v0).setCell ⟨N, 1, none⟩ v1).setCell ⟨N, 2, none⟩ v2).setCell ⟨N, 3, none⟩ v3).setCell ⟨N + 1, 0, none⟩ (.int .i64 x)).setCell ⟨N + 2, 0, none⟩ (.int .i64 y)) := by
  have R1 := World.rangeAt_setCells_same W N 0 [v0, v1, v2, v3] (range_there h.q rfl h.bq)
  have T1 : Turn (fun k => k = N) W (W.setCells N 0 [v0, v1, v2, v3]) := Turn.setCells _ 0 (Turn.refl _ _) (.inl rfl)
  have P1 : PB (W.setCells N 0 [v0, v1, v2, v3]) N [v0, v1, v2, v3] x4 x5 := ⟨R1, h.bq.setCells _ 0, T1.cell (by omega) h.a, h.ba.turn T1 (by omega), T1.cell (by omega) h.r, h.br.turn T1 (by omega)⟩
  refine ⟨P1.res x y, ?_⟩
  exact ((T1.more (S' := fun k => k = N ∨ k = N + 1 ∨ k = N + 2) (fun k _ q => .inl q)).setCell (p := ⟨_, 0, none⟩) (.inl (.inr (.inl rfl))) _).setCell (p := ⟨_, 0, none⟩) (.inl (.inr (.inr rfl))) _
theorem CnsO.low {b c : Nat} {W : World} {v : Value} {C : List CN} (h : CnsO b W v C) (hc : c ≤ b) : CnsO c W v C := by
  obtain ⟨xs, ho, hx⟩ := h
  refine ⟨xs, own_weak ho hc, fun k d hd => ?_⟩
  obtain ⟨lv, rv, a, b, d, e, f⟩ := hx k d hd
  exact ⟨lv, rv, a, b, d, e.low hc, f.low hc⟩
theorem zq_there (b : Nat) (w : World) : quV b zq w (.agg (quL (.slice none 0 0) (.slice none 0 0) 0 false).toArray) := ⟨_, _, rfl, World.ownsRow_nil .., [], World.ownsRow_nil .., by simp [zq]⟩
theorem results5 {w : World} {N : Nat} {ev cv : Value} {wd a r : Int} {by_ : Bool} {tmps : Array Value} (h : PB w N (quL ev cv wd by_) a r) (h2 : tmps.getD 2 undef = .pointer (some ⟨N, 0, none⟩)) (h3 : tmps.getD 3 undef = .pointer (some ⟨N + 1, 0, none⟩)) (h4 : tmps.getD 4 undef = .pointer (some ⟨N + 2, 0, none⟩)) :
    (results Tryd.f5 tmps).run Tryd.prog w = .ok (.tuple #[.agg (quL ev cv wd by_).toArray, .int .i64 a, .int .i64 r]) w := by
  have l1 := run_loadVar_mid w N 0 27 _ _ h.q Tryd.underlying27 rfl size27
  have la : (loadVar 3 ⟨N + 1, 0, none⟩).run Tryd.prog w = .ok (.int .i64 a) w := by have := h.a; simp [go_sem, this]
  have lr : (loadVar 28 ⟨N + 2, 0, none⟩).run Tryd.prog w = .ok (.int .i64 r) w := by have := h.r; simp [go_sem, this]
  unfold results
  rw [show Tryd.f5.results = #[.cell 2 27, .cell 3 3, .cell 4 28] from rfl]
  simp only [List.mapM_toArray, List.mapM_cons, List.mapM_nil, bind_assoc, pure_bind, map_eq_pure_bind, h2, h3, h4, asAddr]
  simp [Sem.run_bind, l1, la, lr]
set_option maxRecDepth 100000 in
set_option maxHeartbeats 4000000 in
theorem parse_is (w : World) (s : ByteArray) (hs : s.size ≤ 140737488355328) (hE : ErrAt w) :
    Calls Tryd.prog 5 #[.string s] w fun y w' => ∃ x, y = .returned (.tuple #[x, .int .i64 ((parseB s).2.1 : Int), .int .i64 ((parseB s).2.2 : Int)]) ∧ quV w.heap.size (parseB s).1 w' x ∧ Turn (fun _ => False) w w' := by
  have hmf : ∀ (fn : Fn) (first cap : Array Value) (w : World), (Instr.makeFunc fn first cap).run Tryd.prog w = .ok (.func fn first cap) w := fun _ _ _ _ => rfl
  obtain ⟨W, hW⟩ : ∃ W, W = ((w.alloc (.cells #[.slice none 0 0, .slice none 0 0, .int .i64 0, .bool false] 27)).alloc (.cells #[.int .i64 0] 3)).alloc (.cells #[.int .i64 0] 28) := ⟨_, rfl⟩
  have T0 : Turn (fun _ => False) w W := by rw [hW]; exact (((Turn.refl _ _).alloc _).alloc _).alloc _
  have PB0 : PB W w.heap.size (quL (.slice none 0 0) (.slice none 0 0) 0 false) 0 0 := by
    have a1 : Turn (fun _ => False) (w.alloc (.cells #[.slice none 0 0, .slice none 0 0, .int .i64 0, .bool false] 27)) W := by rw [hW]; exact ((Turn.refl _ _).alloc _).alloc _
    have a2 : Turn (fun _ => False) ((w.alloc (.cells #[.slice none 0 0, .slice none 0 0, .int .i64 0, .bool false] 27)).alloc (.cells #[.int .i64 0] 3)) W := by rw [hW]; exact (Turn.refl _ _).alloc _
    refine ⟨range_turn (range_new w (quL (.slice none 0 0) (.slice none 0 0) 0 false) 27) a1 id, (Blk.new w (quL (.slice none 0 0) (.slice none 0 0) 0 false) 27).turn a1 id, a2.cell id (cell_new (by rw [World.size_alloc]) rfl), ?_, ?_, ?_⟩
    · have := (Blk.new (w.alloc (.cells #[.slice none 0 0, .slice none 0 0, .int .i64 0, .bool false] 27)) [.int .i64 0] 3).turn a2 id
      rw [World.size_alloc] at this
      exact this
    · rw [hW]; exact cell_new (by rw [World.size_alloc, World.size_alloc]) rfl
    · have := Blk.new ((w.alloc (.cells #[.slice none 0 0, .slice none 0 0, .int .i64 0, .bool false] 27)).alloc (.cells #[.int .i64 0] 3)) [.int .i64 0] 28
      rw [World.size_alloc, World.size_alloc] at this
      rw [hW]; exact this
  have LX := Lib.hid (lex_is W s hs (hE.turn T0 id))
  have SZ : W.heap.size = w.heap.size + 3 := by rw [hW]; simp
  have F0 := Lib.hid (And.intro T0 (And.intro PB0 SZ))
  have HW := Lib.hid hW
  obtain ⟨R, hR⟩ : ∃ R, R = parseB s := ⟨_, rfl⟩
  rw [← hR]
  have HR := Lib.hid hR
  clear hW T0 PB0 SZ hR hE
  go_enter_defers Tryd.func5, Tryd.ntmps5
  go_upto_region 1 with fail
  rw [← HW.out]
  go_wp2_with fail
  with_reducible refine LX.out.mono ?_
  rintro y w1 ⟨T1, (⟨x, r, pre, e1, e2, rfl⟩ | ⟨e1, e2, rfl⟩ | ⟨e1, e2, v, rfl, e3⟩)⟩
  · obtain ⟨zA, hA⟩ : ∃ z : Int, z = (x.1 : Int) := ⟨_, rfl⟩
    rw [← hA]
    have PW : PB w1 w.heap.size (quL (.slice none 0 0) (.slice none 0 0) 0 false) 0 0 := F0.out.2.1.quiet T1
    have ya : w1.cell? ⟨w.heap.size + 1, 0, none⟩ = some (.int .i64 0) := PW.a
    have yr : w1.cell? ⟨w.heap.size + 1 + 1, 0, none⟩ = some (.int .i64 0) := PW.r
    have fa : ∀ i, w1.frozen? ⟨w.heap.size + 1, i, none⟩ = false := PW.ba.fz
    have fr : ∀ i, w1.frozen? ⟨w.heap.size + 1 + 1, i, none⟩ = false := PW.br.fz
    have PW2 := PW.res zA 12
    have TW := F0.out.1.trans T1
    obtain ⟨w2, hw2⟩ : ∃ X, X = (w1.setCell ⟨w.heap.size + 1, 0, none⟩ (.int .i64 zA)).setCell ⟨w.heap.size + 1 + 1, 0, none⟩ (.int .i64 12) := ⟨_, rfl⟩
    have T2 : Turn (fun _ => False) w w2 := by rw [hw2]; exact (TW.setCell (p := ⟨_, 0, none⟩) (.inr (Nat.le_succ _)) _).setCell (p := ⟨_, 0, none⟩) (.inr (Nat.le_add_right _ 2)) _
    rw [show w.heap.size + 2 = w.heap.size + 1 + 1 from rfl, ← hw2] at PW2
    have H2 := Lib.hid hw2
    have hRR : R = (zq, x.1, 12) := by
      rw [HR.out]
      unfold parseB
      rw [e1, List.getElem?_append_right (by omega), e2]; rfl
    have P2 := Lib.hid (And.intro PW2 (And.intro T2 (And.intro hRR hA)))
    have E1 := Lib.hid e1
    have E2 := Lib.hid e2
    clear hw2 PW PW2 TW T2 hRR hA e1 e2 T1
    go_upto_region 2 with fail
    rw [← H2.out]
    clear H2 ya yr fa fr
    have d1 : w2.cell? ⟨w.heap.size + 1, 0, none⟩ = some (.int .i64 zA) := P2.out.1.a
    have d2 : w2.cell? ⟨w.heap.size + 1 + 1, 0, none⟩ = some (.int .i64 12) := P2.out.1.r
    have y0 := P2.out.1.q 0 _ rfl
    have y1 := P2.out.1.q 1 _ rfl
    have y2 := P2.out.1.q 2 _ rfl
    have y3 := P2.out.1.q 3 _ rfl
    have f0 := P2.out.1.bq.fz
    have fa : ∀ i, w2.frozen? ⟨w.heap.size + 1, i, none⟩ = false := P2.out.1.ba.fz
    have fr : ∀ i, w2.frozen? ⟨w.heap.size + 1 + 1, i, none⟩ = false := P2.out.1.br.fz
    go_upto_region 3 with fail
    have sd0 : w2.drew.cell? ⟨w.heap.size + 1, 0, none⟩ = some (.int .i64 zA) := d1
    have sd1 : w2.drew.cell? ⟨w.heap.size + 1 + 1, 0, none⟩ = some (.int .i64 12) := d2
    go_region
    all_goals go_wp2_with fail
    all_goals
      obtain ⟨PE, TE⟩ := stop_end (x := zA) (y := 12) P2.out.1 P2.out.2.1
      rw [P2.out.2.2.1]
      have hAA := P2.out.2.2.2
      refine ⟨_, results5 PE rfl rfl rfl, _, ?_, zq_there _ _, TE.more (fun k hk q => by omega)⟩
      rw [hAA]
      rfl
  · obtain ⟨zA, hA⟩ : ∃ z : Int, z = (skipB (endB (toksB s.data.toList)) s.data.toList : Int) := ⟨_, rfl⟩
    rw [← hA]
    have PW : PB w1 w.heap.size (quL (.slice none 0 0) (.slice none 0 0) 0 false) 0 0 := F0.out.2.1.quiet T1
    have ya : w1.cell? ⟨w.heap.size + 1, 0, none⟩ = some (.int .i64 0) := PW.a
    have yr : w1.cell? ⟨w.heap.size + 1 + 1, 0, none⟩ = some (.int .i64 0) := PW.r
    have fa : ∀ i, w1.frozen? ⟨w.heap.size + 1, i, none⟩ = false := PW.ba.fz
    have fr : ∀ i, w1.frozen? ⟨w.heap.size + 1 + 1, i, none⟩ = false := PW.br.fz
    have PW2 := PW.res zA 10
    have TW := F0.out.1.trans T1
    obtain ⟨w2, hw2⟩ : ∃ X, X = (w1.setCell ⟨w.heap.size + 1, 0, none⟩ (.int .i64 zA)).setCell ⟨w.heap.size + 1 + 1, 0, none⟩ (.int .i64 10) := ⟨_, rfl⟩
    have T2 : Turn (fun _ => False) w w2 := by rw [hw2]; exact (TW.setCell (p := ⟨_, 0, none⟩) (.inr (Nat.le_succ _)) _).setCell (p := ⟨_, 0, none⟩) (.inr (Nat.le_add_right _ 2)) _
    rw [show w.heap.size + 2 = w.heap.size + 1 + 1 from rfl, ← hw2] at PW2
    have H2 := Lib.hid hw2
    have hRR : R = (zq, skipB (endB (toksB s.data.toList)) s.data.toList, 10) := by
      rw [HR.out]
      unfold parseB
      rw [List.getElem?_eq_none e1]; dsimp only; rw [if_pos e2]
    have P2 := Lib.hid (And.intro PW2 (And.intro T2 (And.intro hRR hA)))
    have E1 := Lib.hid e1
    have E2 := Lib.hid e2
    clear hw2 PW PW2 TW T2 hRR hA e1 e2 T1
    go_upto_region 2 with fail
    rw [← H2.out]
    clear H2 ya yr fa fr
    have d1 : w2.cell? ⟨w.heap.size + 1, 0, none⟩ = some (.int .i64 zA) := P2.out.1.a
    have d2 : w2.cell? ⟨w.heap.size + 1 + 1, 0, none⟩ = some (.int .i64 10) := P2.out.1.r
    have y0 := P2.out.1.q 0 _ rfl
    have y1 := P2.out.1.q 1 _ rfl
    have y2 := P2.out.1.q 2 _ rfl
    have y3 := P2.out.1.q 3 _ rfl
    have f0 := P2.out.1.bq.fz
    have fa : ∀ i, w2.frozen? ⟨w.heap.size + 1, i, none⟩ = false := P2.out.1.ba.fz
    have fr : ∀ i, w2.frozen? ⟨w.heap.size + 1 + 1, i, none⟩ = false := P2.out.1.br.fz
    go_upto_region 3 with fail
    have sd0 : w2.drew.cell? ⟨w.heap.size + 1, 0, none⟩ = some (.int .i64 zA) := d1
    have sd1 : w2.drew.cell? ⟨w.heap.size + 1 + 1, 0, none⟩ = some (.int .i64 10) := d2
    go_region
    all_goals go_wp2_with fail
    all_goals
      obtain ⟨PE, TE⟩ := stop_end (x := zA) (y := 10) P2.out.1 P2.out.2.1
      rw [P2.out.2.2.1]
      have hAA := P2.out.2.2.2
      refine ⟨_, results5 PE rfl rfl rfl, _, ?_, zq_there _ _, TE.more (fun k hk q => by omega)⟩
      rw [hAA]
      rfl
  · have PW : PB w1 w.heap.size (quL (.slice none 0 0) (.slice none 0 0) 0 false) 0 0 := F0.out.2.1.quiet T1
    have ya : w1.cell? ⟨w.heap.size + 1, 0, none⟩ = some (.int .i64 0) := PW.a
    have yr : w1.cell? ⟨w.heap.size + 1 + 1, 0, none⟩ = some (.int .i64 0) := PW.r
    have fa : ∀ i, w1.frozen? ⟨w.heap.size + 1, i, none⟩ = false := PW.ba.fz
    have fr : ∀ i, w1.frozen? ⟨w.heap.size + 1 + 1, i, none⟩ = false := PW.br.fz
    have PW2 := PW.res s.size 0
    have TW := F0.out.1.trans T1
    have T12 : Turn (fun k => k = w.heap.size + 1 ∨ k = w.heap.size + 1 + 1) w1 ((w1.setCell ⟨w.heap.size + 1, 0, none⟩ (.int .i64 (s.size : Int))).setCell ⟨w.heap.size + 1 + 1, 0, none⟩ (.int .i64 0)) := ((Turn.refl _ _).setCell (p := ⟨_, 0, none⟩) (.inl (.inl rfl)) _).setCell (p := ⟨_, 0, none⟩) (.inl (.inr rfl)) _
    obtain ⟨ga, gc, rfl, -⟩ := own_slice e3
    have o2 := own_turn e3 T12 (fun k hk q => by have := (own_blk e3 hk).2; have := F0.out.2.2; omega)
    obtain ⟨w2, hw2⟩ : ∃ X, X = (w1.setCell ⟨w.heap.size + 1, 0, none⟩ (.int .i64 (s.size : Int))).setCell ⟨w.heap.size + 1 + 1, 0, none⟩ (.int .i64 0) := ⟨_, rfl⟩
    rw [show w.heap.size + 2 = w.heap.size + 1 + 1 from rfl, ← hw2] at PW2
    rw [← hw2] at T12 o2
    have T2 : Turn (fun _ => False) w w2 := TW.comp T12 (fun k hk q => by omega)
    obtain ⟨w3, hw3⟩ : ∃ X, X = w2.alloc (.cells #[.slice ga (toksB s.data.toList).length gc, .int .i64 0, .int .i64 (s.size : Int), .int .i64 0] 43) := ⟨_, rfl⟩
    have T3 : Turn (fun _ => False) w2 w3 := by rw [hw3]; exact (Turn.refl _ _).alloc _
    have R3 : w3.rangeAt w2.heap.size 0 [.slice ga (toksB s.data.toList).length gc, .int .i64 0, .int .i64 (s.size : Int), .int .i64 0] := by rw [hw3]; exact range_new w2 [.slice ga (toksB s.data.toList).length gc, .int .i64 0, .int .i64 (s.size : Int), .int .i64 0] 43
    have B3 : Blk w3 w2.heap.size 43 := by rw [hw3]; exact Blk.new w2 [.slice ga (toksB s.data.toList).length gc, .int .i64 0, .int .i64 (s.size : Int), .int .i64 0] 43
    have PR := Lib.hid (query_is w3 (show ParAt w3 w2.heap.size W.heap.size s (toksB s.data.toList) (.slice ga (toksB s.data.toList).length gc) 0 s.size 0 from ⟨B3, R3 0 _ rfl, R3 1 _ rfl, R3 2 _ rfl, R3 3 _ rfl, own_turn o2 T3 (fun _ _ f => f), e1⟩))
    have P3 := Lib.hid (And.intro (PW2.quiet T3) (And.intro (T2.trans T3) (And.intro T2.size (show w2.heap.size < w3.heap.size from B3.lt))))
    have H2 := Lib.hid hw2
    have H3 := Lib.hid hw3
    have hRR : R = match queryB s (toksB s.data.toList) s.size with
        | .ok q _ => (q, s.size, 0)
        | .stop a r => (zq, a, r)
        | .out => (zq, 0, 0) := by
      rw [HR.out]
      unfold parseB
      rw [List.getElem?_eq_none e1]
      dsimp only
      rw [if_neg (by omega)]
    have HRR := Lib.hid hRR
    have N2 := Lib.hid (show w.heap.size + 3 ≤ w2.heap.size by have := F0.out.2.2; have := T1.size; have := T12.size; omega)
    clear hw2 PW PW2 TW T2 T12 hRR e1 e2 e3 o2 T1 T3 R3 B3 hw3
    generalize (toksB s.data.toList).length = nt at *
    go_upto_region 2 with fail
    rw [← H2.out]
    clear H2 ya yr fa fr
    have d2 : w2.cell? ⟨w.heap.size + 1 + 1, 0, none⟩ = some (.int .i64 0) := by rw [H3.out] at P3; exact (World.cell?_alloc_lt _ _ _ (by have := N2.out; show w.heap.size + 1 + 1 < w2.heap.size; omega)).symm.trans P3.out.1.r
    go_upto_region 6 with fail
    rw [← H3.out]
    clear H3 d2
    go_wp2_with fail
    with_reducible refine PR.out.mono ?_
    intro y w4 hy
    obtain ⟨rq, hrq⟩ : ∃ r, r = queryB s (toksB s.data.toList) s.size := ⟨_, rfl⟩
    rw [← hrq] at hy
    have hRR := HRR.out
    rw [← hrq] at hRR
    clear hrq HRR HR PR
    cases rq with
    | out => exact hy.elim
    | stop a r =>
      obtain ⟨rfl, T4⟩ := hy
      have hl := N2.out
      have G := Lib.hid (And.intro (P3.out.1.quiet T4 (by omega) (by omega) (by omega)) (And.intro (P3.out.2.1.comp T4 (fun k hk q => by have := P3.out.2.2.1; omega)) hRR))
      clear T4 hRR hl
      unfold stopE
      go_wp2_with fail
      refine leaves_cons (f := 8) (args := #[.pointer (some ⟨w.heap.size, 0, none⟩), .pointer (some ⟨w.heap.size + 1, 0, none⟩), .pointer (some ⟨w.heap.size + 2, 0, none⟩)]) (by simp) (by simp [go_sem]) ?_
      refine (catch_stop w.heap.size w4 a r [] G.out.1 rfl).mono ?_
      rintro e u' w5 ⟨rfl, rfl, PE, TE⟩
      rw [G.out.2.2]
      exact ⟨_, results5 PE rfl rfl rfl, _, rfl, zq_there _ _, G.out.2.1.comp TE (fun k hk q => by omega)⟩
    | ok q i =>
      obtain ⟨xv, rfl, ⟨ev, cv, rfl, hE, hC⟩, T4, P4⟩ := hy
      have hl := N2.out
      obtain ⟨ea, ec, rfl, -⟩ := own_slice hE
      obtain ⟨ca, cc, rfl⟩ : ∃ a c, cv = .slice a q.conds.length c := by
        obtain ⟨xs, ho, -⟩ := hC
        obtain ⟨a, c, h, -⟩ := own_slice ho
        exact ⟨a, c, h⟩
      have PB4 := P3.out.1.quiet T4 (by omega) (by omega) (by omega)
      have y0 := PB4.q 0 _ rfl
      have y1 := PB4.q 1 _ rfl
      have y2 := PB4.q 2 _ rfl
      have y3 := PB4.q 3 _ rfl
      have f0 := PB4.bq.fz
      have ya : w4.cell? ⟨w.heap.size + 1, 0, none⟩ = some (.int .i64 (s.size : Int)) := PB4.a
      have yr : w4.cell? ⟨w.heap.size + 1 + 1, 0, none⟩ = some (.int .i64 0) := PB4.r
      have fa : ∀ i, w4.frozen? ⟨w.heap.size + 1, i, none⟩ = false := PB4.ba.fz
      have fr : ∀ i, w4.frozen? ⟨w.heap.size + 1 + 1, i, none⟩ = false := PB4.br.fz
      have HE := Lib.hid hE
      have HC := Lib.hid hC
      have G := Lib.hid (And.intro PB4 (And.intro (P3.out.2.1.comp T4 (fun k hk q => by have := P3.out.2.2.1; omega)) hRR))
      clear T4 hRR P4 PB4 hE hC hl
      unfold quL
      go_wp2_with fail
      obtain ⟨PE, TE⟩ := store_end (x := s.size) (y := 0) (v0 := .slice ea q.elems.length ec) (v1 := .slice ca q.conds.length cc) (v2 := .int .i64 q.window) (v3 := .bool q.byKey) G.out.1
      have hl := N2.out
      have hlt := P3.out.2.2.2
      have hE2 := own_turn HE.out TE (fun k hk q => by have := (own_blk HE.out hk).2; omega)
      have hC2 := HC.out.turn TE (fun k hk q => by omega)
      refine leaves_cons (f := 8) (args := #[.pointer (some ⟨w.heap.size, 0, none⟩), .pointer (some ⟨w.heap.size + 1, 0, none⟩), .pointer (some ⟨w.heap.size + 2, 0, none⟩)]) (by simp) (by simp [go_sem]) ?_
      refine (catch_idle w.heap.size _).mono ?_
      rintro e u' w5 ⟨rfl, rfl, T5⟩
      rw [G.out.2.2]
      exact ⟨_, results5 (PE.quiet T5) rfl rfl rfl, _, rfl, ⟨_, _, rfl, own_weak (own_turn hE2 T5 (fun _ _ f => f)) (by omega), (hC2.turn T5 (fun _ _ f => f)).low (by omega)⟩, (G.out.2.1.comp TE (fun k hk q => by omega)).trans T5⟩
end Go.Proofs.YtadogobdlcionaaDoor
