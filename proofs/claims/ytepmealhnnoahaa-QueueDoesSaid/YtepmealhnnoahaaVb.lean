/-
  The document's own desk: a query is asked: early answers.
  The document's desk and the program's: what one and the same state becomes.
  The document's own desk: a query is asked: what lies there while matches are told.
  The document's own desk does a command: the ways by which nothing changes.
  The document's own desk does a command: a query comes, a query is ended.
  The document's own desk: a query is asked, and its matches are told.
-/
import Derived.Test.YtepmealhnnoahaaVa
namespace Go.Proofs.Ytepmealhnnoahaa
set_option linter.unusedSimpArgs false
open Go.ChangeShapes Go.WideShapes Go.ChangeAt Go.RowKit
set_option linter.unusedVariables false
theorem b58e (e : Int) (w : World) : (Instr.build 58 #[(0, .agg #[.int .i64 e, .int .i64 0, .slice none 0 0])]).run Try.prog w = .ok (.agg #[.int .i64 e, .int .i64 0, .slice none 0 0, .slice none 0 0]) w := run_build w 58 _ _ (by kernel_rfl)
/-- An error is told, and nothing else is. -/
def ErrPost (e : Int) (w : World) (en : Ending) (w' : World) : Prop := en = .returned (.agg #[.int .i64 e, .int .i64 0, .slice none 0 0, .slice none 0 0]) ∧ Turn (fun _ => False) w w'
section
variable {w : World} {r base : Nat} {qu ou : Int} {N E : Nat → Prop} {ids : List Int} {S : DS}
set_option maxRecDepth 100000 in
set_option maxHeartbeats 4000000 in
theorem dpoll_few (w : World) (r : Nat) (i n s g : Int) (hn : n < 1) : Calls Try.prog 35 #[.pointer (some ⟨r, 0, none⟩), .agg (cmdL 4 i n s g).toArray] w (ErrPost 1 w) := by
  obtain ⟨W0, hW0⟩ : ∃ W0, W0 = w.alloc (.cells (cmdL 4 i n s g).toArray 43) := ⟨_, rfl⟩
  have T0 : Turn (fun _ => False) w W0 := by rw [hW0]; exact (Turn.refl _ w).alloc _
  have R0 : W0.rangeAt w.heap.size 0 (cmdL 4 i n s g) := by rw [hW0]; exact range_new w (cmdL 4 i n s g) 43
  have Z0 : W0.heap.size = w.heap.size + 1 := by rw [hW0, World.size_alloc]
  obtain ⟨W1, hW1⟩ : ∃ W1, W1 = W0.alloc (.cells #[.int .i64 0, .int .i64 0, .slice none 0 0, .slice none 0 0] 58) := ⟨_, rfl⟩
  have T1 : Turn (fun _ => False) W0 W1 := by rw [hW1]; exact (Turn.refl _ W0).alloc _
  have B1 : Blk W1 (w.heap.size + 1) 58 := by rw [hW1, ← Z0]; exact Blk.new W0 [.int .i64 0, .int .i64 0, .slice none 0 0, .slice none 0 0] 58
  have R1 : W1.rangeAt (w.heap.size + 1) 0 [.int .i64 0, .int .i64 0, .slice none 0 0, .slice none 0 0] := by rw [hW1, ← Z0]; exact range_new W0 [.int .i64 0, .int .i64 0, .slice none 0 0, .slice none 0 0] 58
  have c2 : W1.cell? ⟨w.heap.size, 2, none⟩ = some (.int .i64 n) := T1.cell id (R0 2 _ rfl)
  have TH := Lib.hid (show W1.there (w.heap.size + 1) 0 4 from range_there R1 rfl B1)
  have FIN := Lib.hid (show Turn (fun _ => False) w (W1.setCells (w.heap.size + 1) 0 [.int .i64 1, .int .i64 0, .slice none 0 0, .slice none 0 0]) from (T0.trans T1).comp (Turn.setCells _ 0 (show Turn (fun q => q = w.heap.size + 1) _ _ from Turn.refl _ _) (.inl rfl)) (fun k hk e => by omega))
  have FOLD := Lib.hid (show W1 = (w.alloc (.cells (cmdL 4 i n s g).toArray 43)).alloc (.cells #[.int .i64 0, .int .i64 0, .slice none 0 0, .slice none 0 0] 58) from by rw [hW1, hW0])
  have t1 : decide (n < 1) = true := decide_eq_true hn
  clear hW0 T0 R0 Z0 hW1 T1 B1 R1 hn
  unfold cmdL at FOLD ⊢
  go_enter Try.func35, Try.ntmps35
  go_upto_region 1 with fail
  rw [← FOLD.out]
  clear FOLD
  generalize w.heap.size + 1 = rb at *
  go_upto_region 2 with fail
  refine wp_region_lit ?_
  refine rl_build rfl 53 _ rfl (vs := #[(0, .int .i64 1)]) (v := .agg #[.int .i64 1, .int .i64 0, .slice none 0 0]) (by simp [Act.eval]) (build53e 1 _) ?_
  try simp only [Act.put, List.setIfInBounds_toArray, List.set_cons_zero, List.set_cons_succ]
  refine rl_build rfl 58 _ rfl (vs := #[(0, .agg #[.int .i64 1, .int .i64 0, .slice none 0 0])]) (v := .agg #[.int .i64 1, .int .i64 0, .slice none 0 0, .slice none 0 0]) (by simp [Act.eval]) (b58e 1 _) ?_
  try simp only [Act.put, List.setIfInBounds_toArray, List.set_cons_zero, List.set_cons_succ]
  refine wpList_store_mid rfl 58 _ _ rfl rb 0 #[.int .i64 1, .int .i64 0, .slice none 0 0, .slice none 0 0] rfl rfl TH.out size58 (by simp [Value.oneCell']) ?_
  try simp only [Act.put, List.setIfInBounds_toArray, List.set_cons_zero, List.set_cons_succ]
  go_wp2_with fail
  exact bodyPost_ret (v := .agg #[.int .i64 1, .int .i64 0, .slice none 0 0, .slice none 0 0]) (res_cell (a := 4) rfl rfl (run_loadVar_mid _ rb 0 58 _ _ (World.rangeAt_setCells_same _ rb 0 _ TH.out) Try.underlying58 rfl size58)) rfl ⟨rfl, FIN.out⟩
set_option maxRecDepth 100000 in
set_option maxHeartbeats 4000000 in
theorem DocAt.poll_none (h : DocAt w r base qu ou N E ids S) (hids : ids.length ≤ 1000) (i n s g : Int) (hn : ¬ n < 1) (hs : S i = none) : Calls Try.prog 35 #[.pointer (some ⟨r, 0, none⟩), .agg (cmdL 4 i n s g).toArray] w (ErrPost 15 w) := by
  obtain ⟨W0, hW0⟩ : ∃ W0, W0 = w.alloc (.cells (cmdL 4 i n s g).toArray 43) := ⟨_, rfl⟩
  have T0 : Turn (fun _ => False) w W0 := by rw [hW0]; exact (Turn.refl _ w).alloc _
  have R0 : W0.rangeAt w.heap.size 0 (cmdL 4 i n s g) := by rw [hW0]; exact range_new w (cmdL 4 i n s g) 43
  have Z0 : W0.heap.size = w.heap.size + 1 := by rw [hW0, World.size_alloc]
  obtain ⟨W1, hW1⟩ : ∃ W1, W1 = W0.alloc (.cells #[.int .i64 0, .int .i64 0, .slice none 0 0, .slice none 0 0] 58) := ⟨_, rfl⟩
  have T1 : Turn (fun _ => False) W0 W1 := by rw [hW1]; exact (Turn.refl _ W0).alloc _
  have B1 : Blk W1 (w.heap.size + 1) 58 := by rw [hW1, ← Z0]; exact Blk.new W0 [.int .i64 0, .int .i64 0, .slice none 0 0, .slice none 0 0] 58
  have R1 : W1.rangeAt (w.heap.size + 1) 0 [.int .i64 0, .int .i64 0, .slice none 0 0, .slice none 0 0] := by rw [hW1, ← Z0]; exact range_new W0 [.int .i64 0, .int .i64 0, .slice none 0 0, .slice none 0 0] 58
  have c2 : W1.cell? ⟨w.heap.size, 2, none⟩ = some (.int .i64 n) := T1.cell id (R0 2 _ rfl)
  have TH := Lib.hid (show W1.there (w.heap.size + 1) 0 4 from range_there R1 rfl B1)
  have FIN := Lib.hid (show Turn (fun _ => False) w (W1.setCells (w.heap.size + 1) 0 [.int .i64 15, .int .i64 0, .slice none 0 0, .slice none 0 0]) from (T0.trans T1).comp (Turn.setCells _ 0 (show Turn (fun q => q = w.heap.size + 1) _ _ from Turn.refl _ _) (.inl rfl)) (fun k hk e => by omega))
  have FOLD := Lib.hid (show W1 = (w.alloc (.cells (cmdL 4 i n s g).toArray 43)).alloc (.cells #[.int .i64 0, .int .i64 0, .slice none 0 0, .slice none 0 0] 58) from by rw [hW1, hW0])
  have t1 : decide (n < 1) = false := decide_eq_false hn
  have c1 : W1.cell? ⟨w.heap.size, 1, none⟩ = some (.int .i64 i) := T1.cell id (R0 1 _ rfl)
  have hp : posD ids i = -1 := by
    rcases h.pos i with ⟨_, hp⟩ | ⟨k, l, lo, _, _, _, hs2⟩
    · exact hp
    · rw [hs] at hs2; cases hs2
  have FD := (h.turn (T0.trans T1) id (fun _ _ f => f) (fun _ _ f => f.elim) (fun _ f => f.elim)).find hids i
  rw [hp] at FD
  have FD := Lib.hid FD
  clear hW0 T0 R0 Z0 hW1 T1 B1 R1 hn h hids hs hp
  unfold cmdL at FOLD ⊢
  go_enter Try.func35, Try.ntmps35
  go_upto_region 1 with fail
  rw [← FOLD.out]
  clear FOLD
  generalize w.heap.size + 1 = rb at *
  go_wp2_with fail
  with_reducible refine FD.out.mono ?_
  rintro en W5 ⟨rfl, rfl⟩
  go_upto_region 5 with fail
  refine wp_region_lit ?_
  refine rl_build rfl 53 _ rfl (vs := #[(0, .int .i64 15)]) (v := .agg #[.int .i64 15, .int .i64 0, .slice none 0 0]) (by simp [Act.eval]) (build53e 15 _) ?_
  try simp only [Act.put, List.setIfInBounds_toArray, List.set_cons_zero, List.set_cons_succ]
  refine rl_build rfl 58 _ rfl (vs := #[(0, .agg #[.int .i64 15, .int .i64 0, .slice none 0 0])]) (v := .agg #[.int .i64 15, .int .i64 0, .slice none 0 0, .slice none 0 0]) (by simp [Act.eval]) (b58e 15 _) ?_
  try simp only [Act.put, List.setIfInBounds_toArray, List.set_cons_zero, List.set_cons_succ]
  refine wpList_store_mid rfl 58 _ _ rfl rb 0 #[.int .i64 15, .int .i64 0, .slice none 0 0, .slice none 0 0] rfl rfl TH.out size58 (by simp [Value.oneCell']) ?_
  try simp only [Act.put, List.setIfInBounds_toArray, List.set_cons_zero, List.set_cons_succ]
  go_wp2_with fail
  exact bodyPost_ret (v := .agg #[.int .i64 15, .int .i64 0, .slice none 0 0, .slice none 0 0]) (res_cell (a := 4) rfl rfl (run_loadVar_mid _ rb 0 58 _ _ (World.rangeAt_setCells_same _ rb 0 _ TH.out) Try.underlying58 rfl size58)) rfl ⟨rfl, FIN.out⟩
set_option maxRecDepth 100000 in
set_option maxHeartbeats 4000000 in
theorem DocAt.poll_lost (h : DocAt w r base qu ou N E ids S) (hids : ids.length ≤ 1000) (i n s g : Int) (hn : ¬ n < 1) (hs : S i = some ([], true)) : Calls Try.prog 35 #[.pointer (some ⟨r, 0, none⟩), .agg (cmdL 4 i n s g).toArray] w (ErrPost 20 w) := by
  obtain ⟨W0, hW0⟩ : ∃ W0, W0 = w.alloc (.cells (cmdL 4 i n s g).toArray 43) := ⟨_, rfl⟩
  have T0 : Turn (fun _ => False) w W0 := by rw [hW0]; exact (Turn.refl _ w).alloc _
  have R0 : W0.rangeAt w.heap.size 0 (cmdL 4 i n s g) := by rw [hW0]; exact range_new w (cmdL 4 i n s g) 43
  have Z0 : W0.heap.size = w.heap.size + 1 := by rw [hW0, World.size_alloc]
  obtain ⟨W1, hW1⟩ : ∃ W1, W1 = W0.alloc (.cells #[.int .i64 0, .int .i64 0, .slice none 0 0, .slice none 0 0] 58) := ⟨_, rfl⟩
  have T1 : Turn (fun _ => False) W0 W1 := by rw [hW1]; exact (Turn.refl _ W0).alloc _
  have B1 : Blk W1 (w.heap.size + 1) 58 := by rw [hW1, ← Z0]; exact Blk.new W0 [.int .i64 0, .int .i64 0, .slice none 0 0, .slice none 0 0] 58
  have R1 : W1.rangeAt (w.heap.size + 1) 0 [.int .i64 0, .int .i64 0, .slice none 0 0, .slice none 0 0] := by rw [hW1, ← Z0]; exact range_new W0 [.int .i64 0, .int .i64 0, .slice none 0 0, .slice none 0 0] 58
  have c2 : W1.cell? ⟨w.heap.size, 2, none⟩ = some (.int .i64 n) := T1.cell id (R0 2 _ rfl)
  have TH0 := Lib.hid (show ∀ W, Turn (fun _ => False) W1 W → W.there (w.heap.size + 1) 0 4 ∧ Turn (fun _ => False) w (W.setCells (w.heap.size + 1) 0 [.int .i64 20, .int .i64 0, .slice none 0 0, .slice none 0 0]) from fun W TW => ⟨range_there (range_turn R1 TW id) rfl (B1.turn TW id), ((T0.trans T1).trans TW).comp (Turn.setCells _ 0 (show Turn (fun q => q = w.heap.size + 1) _ _ from Turn.refl _ _) (.inl rfl)) (fun k hk e => by omega)⟩)
  have FOLD := Lib.hid (show W1 = (w.alloc (.cells (cmdL 4 i n s g).toArray 43)).alloc (.cells #[.int .i64 0, .int .i64 0, .slice none 0 0, .slice none 0 0] 58) from by rw [hW1, hW0])
  have t1 : decide (n < 1) = false := decide_eq_false hn
  have c1 : W1.cell? ⟨w.heap.size, 1, none⟩ = some (.int .i64 i) := T1.cell id (R0 1 _ rfl)
  have hd := h.turn (T0.trans T1) id (fun _ _ f => f) (fun _ _ f => f.elim) (fun _ f => f.elim)
  obtain ⟨q, l, lo, hq, hqi, hp, hs2⟩ : ∃ q l lo, q < ids.length ∧ ids.getD q 0 = i ∧ posD ids i = (q : Int) ∧ S i = some (l, lo) := by
    rcases h.pos i with ⟨hs3, _⟩ | hh
    · rw [hs] at hs3; cases hs3
    · exact hh
  have FD := hd.find hids i
  rw [hp] at FD
  have FD := Lib.hid FD
  obtain ⟨va, vc, gq, ua, uc, rfl, y7, hbq, y1, y2, y3, hfr, -⟩ := hd.at hq
  have erl : rowS S i = [] := by unfold rowS; rw [hs]; rfl
  have elo : lostS S i = true := by unfold lostS; rw [hs]; rfl
  rw [hqi, erl] at y2
  rw [hqi] at y1
  rw [hqi, elo] at y3
  have q0 : (0 : Int) ≤ (q : Int) := Int.natCast_nonneg q
  have q1 : (q : Int) < (ids.length : Int) := Int.ofNat_lt.2 hq
  have q2 : decide ((q : Int) < 0) = false := decide_eq_false (Int.not_lt.2 q0)
  simp only [List.length_nil] at y2
  clear hW0 T0 R0 Z0 hW1 T1 B1 R1 hn h hids hs hp hd hfr hbq hs2 hq hqi erl elo
  unfold cmdL at FOLD ⊢
  go_enter Try.func35, Try.ntmps35
  go_upto_region 1 with fail
  rw [← FOLD.out]
  clear FOLD
  generalize w.heap.size + 1 = rb at *
  go_wp2_with fail
  with_reducible refine FD.out.mono ?_
  rintro en W5 ⟨rfl, rfl⟩
  go_upto_region 7 with fail
  have TW : Turn (fun _ => False) W1 (W1.alloc (.cells #[.int .i64 i, .slice ua 0 uc, .bool true] 91)) := (Turn.refl _ W1).alloc _
  have TH := Lib.hid (TH0.out _ TW).1
  have FIN := Lib.hid (TH0.out _ TW).2
  have x1 : (W1.alloc (.cells #[.int .i64 i, .slice ua 0 uc, .bool true] 91)).cell? ⟨W1.heap.size, 1, none⟩ = some (.slice ua 0 uc) := range_new W1 [.int .i64 i, .slice ua 0 uc, .bool true] 91 1 _ rfl
  have x2 : (W1.alloc (.cells #[.int .i64 i, .slice ua 0 uc, .bool true] 91)).cell? ⟨W1.heap.size, 2, none⟩ = some (.bool true) := range_new W1 [.int .i64 i, .slice ua 0 uc, .bool true] 91 2 _ rfl
  generalize (W1.alloc (.cells #[.int .i64 i, .slice ua 0 uc, .bool true] 91)) = W2 at *
  clear TW TH0 FD y7 y1 y2 y3 c1 c2
  go_upto_region 8 with fail
  refine wp_region_lit ?_
  refine rl_build rfl 53 _ rfl (vs := #[(0, .int .i64 20)]) (v := .agg #[.int .i64 20, .int .i64 0, .slice none 0 0]) (by simp [Act.eval]) (build53e 20 _) ?_
  try simp only [Act.put, List.setIfInBounds_toArray, List.set_cons_zero, List.set_cons_succ]
  refine rl_build rfl 58 _ rfl (vs := #[(0, .agg #[.int .i64 20, .int .i64 0, .slice none 0 0])]) (v := .agg #[.int .i64 20, .int .i64 0, .slice none 0 0, .slice none 0 0]) (by simp [Act.eval]) (b58e 20 _) ?_
  try simp only [Act.put, List.setIfInBounds_toArray, List.set_cons_zero, List.set_cons_succ]
  refine wpList_store_mid rfl 58 _ _ rfl rb 0 #[.int .i64 20, .int .i64 0, .slice none 0 0, .slice none 0 0] rfl rfl TH.out size58 (by simp [Value.oneCell']) ?_
  try simp only [Act.put, List.setIfInBounds_toArray, List.set_cons_zero, List.set_cons_succ]
  go_wp2_with fail
  exact bodyPost_ret (v := .agg #[.int .i64 20, .int .i64 0, .slice none 0 0, .slice none 0 0]) (res_cell (a := 4) rfl rfl (run_loadVar_mid _ rb 0 58 _ _ (World.rangeAt_setCells_same _ rb 0 _ TH.out) Try.underlying58 rfl size58)) rfl ⟨rfl, FIN.out⟩
end
end Go.Proofs.Ytepmealhnnoahaa
namespace Go.Proofs.Ytepmealhnnoahaa
set_option linter.unusedSimpArgs false
open Go.ChangeShapes Go.WideShapes Go.ChangeAt Go.RowKit
set_option linter.unusedVariables false
/-- Which queries there are then, in their order. -/
def idsR (qu : Int) (S : DS) (ids : List Int) (stamp k i : Int) : List Int :=
  if k = 2 then (if (ids.length : Int) < qu then ids ++ [stamp] else ids) else if k = 3 then (match S i with | none => ids | some _ => ids.eraseIdx (posD ids i).toNat) else ids
section
variable {w : World} {r base : Nat} {qu ou : Int} {N E : Nat → Prop} {ids : List Int} {S : DS}
/-- How many there are is what the program counts. -/
theorem idsR_len (h : DocAt w r base qu ou N E ids S) {stamp k i n s g : Int} {Os : List OutV} (hst : S stamp = none) : (doR qu ou S ids.length stamp k i n s g Os).m = (idsR qu S ids stamp k i).length := by
  unfold doR idsR
  by_cases k2 : k = 2
  · rw [if_pos k2, if_pos k2]
    unfold regR
    split
    · rw [hst]
      show ids.length + 1 = (ids ++ [stamp]).length
      simp
    · rfl
  rw [if_neg k2, if_neg k2]
  by_cases k3 : k = 3
  · rw [if_pos k3, if_pos k3]
    unfold unrR
    rcases h.pos i with ⟨hs, hp⟩ | ⟨q, l, lo, hq, hqi, hp, hs⟩
    · rw [hs]
    · rw [hs]
      dsimp only
      rw [hp, Int.toNat_natCast, erase_len hq]
  rw [if_neg k3, if_neg k3]
  split
  · rfl
  · split
    · unfold polR
      split
      · rfl
      · split
        · rfl
        · split <;> rfl
    · split <;> rfl
/-- An event: the document's order is the program's. -/
theorem pub_same {Os : List OutV} (h : ∀ o ∈ Os, SortH o.hits) (S : DS) (ou : Int) : losesD (putsD ou S (insA (hitsL Os).flatten [])) (lostL Os) = pubD ou S Os ∧ putsG ou S (insA (hitsL Os).flatten []) = pubG ou S Os := by
  rw [insA_merged h]
  exact ⟨rfl, rfl⟩
end
end Go.Proofs.Ytepmealhnnoahaa
namespace Go.Proofs.Ytepmealhnnoahaa
set_option linter.unusedSimpArgs false
open Go.ChangeShapes Go.WideShapes Go.ChangeAt Go.RowKit
set_option linter.unusedVariables false
/-- While matches are told: the query's copy in qb, what is told in tb, the result's block rb. -/
structure QS (w : World) (E : Nat → Prop) (i : Int) (ua : Option Addr) (n uc : Nat) (lo : Bool) (qb tb rb : Nat) (ms : List (List (List Int))) (mv : Value) (gl : List (Int × Int)) (gv : Value) (wr : World) : Prop where
  box : wr.rangeAt qb 0 [.int .i64 i, .slice ua n uc, .bool lo]
  bqb : Blk wr qb 91
  tell : wr.rangeAt tb 0 [.int .i64 0, .int .i64 0, mv, gv]
  btb : Blk wr tb 58
  rr : wr.rangeAt rb 0 [.int .i64 0, .int .i64 0, .slice none 0 0, .slice none 0 0]
  brb : Blk wr rb 58
  rt : rb ≠ tb
  new : w.heap.size ≤ qb ∧ w.heap.size ≤ tb ∧ w.heap.size ≤ rb
  mrow : MRow wr w.heap.size (fun q => E q ∨ w.heap.size ≤ q) mv ms
  grow : wr.ownsRow w.heap.size 38 2 gv gl.length (rcells gl)
  turn : Turn (fun _ => False) w wr
section
variable {w wr W W' : World} {E : Nat → Prop} {i : Int} {ua : Option Addr} {n uc : Nat} {lo : Bool} {qb tb rb : Nat} {ms ms' : List (List (List Int))} {mv mv' : Value} {gl gl' : List (Int × Int)} {gv gv' : Value}
theorem QS.sz (h : QS w E i ua n uc lo qb tb rb ms mv gl gv wr) : w.heap.size ≤ wr.heap.size := h.turn.size
theorem QS.turns (h : QS w E i ua n uc lo qb tb rb ms mv gl gv wr) (T : Turn (fun _ => False) wr W) : QS w E i ua n uc lo qb tb rb ms mv gl gv W :=
  ⟨range_turn h.box T id, h.bqb.turn T id, range_turn h.tell T id, h.btb.turn T id, range_turn h.rr T id, h.brb.turn T id, h.rt, h.new, h.mrow.turn T (fun _ _ f => f.elim) (fun _ _ f => f), own_turn h.grow T (fun _ _ f => f), h.turn.trans T⟩
/-- One cell of what is told is another one; one block of which it is the row has turned. -/
theorem tell_set {a b c d u : Value} {k : Nat} {tb : Nat} {W' : World} (h : W'.rangeAt tb 0 [a, b, c, d]) (hk : k < 4) : (W'.setCell ⟨tb, k, none⟩ u).rangeAt tb 0 ([a, b, c, d].set k u) := fun j x hx => by
  rw [Nat.zero_add]
  by_cases e : k = j
  · subst e
    rw [List.getElem?_set_self (by simpa using hk)] at hx
    cases hx
    have := h k _ (List.getElem?_eq_getElem (by simpa using hk))
    rw [Nat.zero_add] at this
    exact World.cell?_setCell_same W' _ _ this
  · rw [cell_off _ _ _ _ _ e]
    rw [List.getElem?_set_ne e] at hx
    have := h j x hx
    rw [Nat.zero_add] at this
    exact this
theorem QS.refs (h : QS w E i ua n uc lo qb tb rb ms mv gl gv wr) (T : Turn (fun q => gv.ownBlock = some q) wr W') (own' : W'.ownsRow w.heap.size 38 2 gv' gl'.length (rcells gl')) :
    QS w E i ua n uc lo qb tb rb ms mv gl' gv' (W'.setCell ⟨tb, 3, none⟩ gv') ∧ W'.cell? ⟨tb, 3, none⟩ = some gv ∧ Blk W' tb 58 := by
  have g38 : ∀ q, gv.ownBlock = some q → Blk wr q 38 ∧ w.heap.size ≤ q := fun q hq => own_blkD h.grow hq
  have zt : ∀ {b : Nat} {t : TypeId}, Blk wr b t → t ≠ 38 → ¬ gv.ownBlock = some b := fun hb h1 e => (g38 _ e).1.ne hb (fun q => h1 q.symm) rfl
  have ntb := zt h.btb (by decide)
  have btb' := h.btb.turn T ntb
  have R := range_turn h.tell T ntb
  have c3 : W'.cell? ⟨tb, 3, none⟩ = some gv := R 3 _ rfl
  have T2 : Turn (fun q => q = tb) W' (W'.setCell ⟨tb, 3, none⟩ gv') := Turn.put _ _ _ _
  have TT : Turn (fun q => gv.ownBlock = some q ∨ q = tb) wr (W'.setCell ⟨tb, 3, none⟩ gv') := (T.more (fun _ _ e => .inl e)).trans (T2.more (fun _ _ e => .inr e))
  have znew : ∀ q, (gv.ownBlock = some q ∨ q = tb) → w.heap.size ≤ q := fun q z => z.elim (fun e => (g38 q e).2) (fun e => e ▸ h.new.2.1)
  have z2 : ∀ {b : Nat} {t : TypeId}, Blk wr b t → t ≠ 38 → t ≠ 58 → ¬ (gv.ownBlock = some b ∨ b = tb) := fun hb h1 h2 z => z.elim (zt hb h1) (fun e => hb.ne h.btb h2 e)
  exact ⟨⟨range_turn h.box TT (z2 h.bqb (by decide) (by decide)), h.bqb.turn TT (z2 h.bqb (by decide) (by decide)), tell_set R (by decide), btb'.set _ _, range_turn h.rr TT (fun z => z.elim (zt h.brb (by decide)) h.rt), h.brb.turn TT (fun z => z.elim (zt h.brb (by decide)) h.rt), h.rt, h.new, h.mrow.turn TT (fun k _ z => .inr (znew k z)) (fun q hq => z2 (h.mrow.blk hq).1 (by decide) (by decide)), own_turn own' T2 (fun q hq e => (own_blkD own' hq).1.ne btb' (by decide) e), h.turn.comp TT (fun q hq z => by have := znew q z; omega)⟩, c3, btb'⟩
theorem QS.match_ (h : QS w E i ua n uc lo qb tb rb ms mv gl gv wr) (hn : ms.length ≤ 1000000) {vs : Value} {l : List (List Int)} (hs : SetsAt wr (fun q => E q ∨ w.heap.size ≤ q) vs l) :
    ∃ (a' : Option Addr) (c' : Nat) (W' : World), (Builtin.append_ #[51, 51] 51 #[mv, .slice (some ⟨wr.heap.size, 0, none⟩) 1 1]).run Try.prog (wr.alloc (.cells #[vs] 69)) = .ok (.slice a' (ms.length + 1) c') W' ∧
      QS w E i ua n uc lo qb tb rb (ms ++ [l]) (.slice a' (ms.length + 1) c') gl gv (W'.setCell ⟨tb, 2, none⟩ (.slice a' (ms.length + 1) c')) ∧ W'.cell? ⟨tb, 2, none⟩ = some mv ∧ Blk W' tb 58 ∧ Turn (fun q => mv.ownBlock = some q) wr W' := by
  obtain ⟨v', W', hrun, hm, T, hbl⟩ := h.mrow.add h.sz hn hs (fun k hk => .inr (h.mrow.blk hk).2)
  obtain ⟨a', c', e⟩ := hm.sl
  rw [List.length_append] at e
  have e : v' = .slice a' (ms.length + 1) c' := e
  subst e
  have zt : ∀ {b : Nat} {t : TypeId}, Blk wr b t → t ≠ 69 → ¬ mv.ownBlock = some b := fun hb h1 e => (h.mrow.blk e).1.ne hb (fun q => h1 q.symm) rfl
  have ntb := zt h.btb (by decide)
  have btb' := h.btb.turn T ntb
  have R := range_turn h.tell T ntb
  have c2 : W'.cell? ⟨tb, 2, none⟩ = some mv := R 2 _ rfl
  have T2 : Turn (fun q => q = tb) W' (W'.setCell ⟨tb, 2, none⟩ (.slice a' (ms.length + 1) c')) := Turn.put _ _ _ _
  have TT : Turn (fun q => mv.ownBlock = some q ∨ q = tb) wr (W'.setCell ⟨tb, 2, none⟩ (.slice a' (ms.length + 1) c')) := (T.more (fun _ _ e => .inl e)).trans (T2.more (fun _ _ e => .inr e))
  have znew : ∀ q, (mv.ownBlock = some q ∨ q = tb) → w.heap.size ≤ q := fun q z => z.elim (fun e => (h.mrow.blk e).2) (fun e => e ▸ h.new.2.1)
  have z2 : ∀ {b : Nat} {t : TypeId}, Blk wr b t → t ≠ 69 → t ≠ 58 → ¬ (mv.ownBlock = some b ∨ b = tb) := fun hb h1 h2 z => z.elim (zt hb h1) (fun e => hb.ne h.btb h2 e)
  exact ⟨a', c', W', hrun, ⟨range_turn h.box TT (z2 h.bqb (by decide) (by decide)), h.bqb.turn TT (z2 h.bqb (by decide) (by decide)), tell_set R (by decide), btb'.set _ _, range_turn h.rr TT (fun z => z.elim (zt h.brb (by decide)) h.rt), h.brb.turn TT (fun z => z.elim (zt h.brb (by decide)) h.rt), h.rt, h.new, hm.turn T2 (fun k _ z => .inr (by rw [z]; exact h.new.2.1)) (fun q hq e => (hm.blk hq).1.ne btb' (by decide) e), own_turn h.grow TT (fun q hq => z2 (own_blkD h.grow hq).1 (by decide) (by decide)), h.turn.comp TT (fun q hq z => by have := znew q z; omega)⟩, c2, btb', T⟩
end
end Go.Proofs.Ytepmealhnnoahaa
namespace Go.Proofs.Ytepmealhnnoahaa
set_option linter.unusedSimpArgs false
open Go.ChangeShapes Go.WideShapes Go.ChangeAt Go.RowKit
set_option linter.unusedVariables false
/-- What a command leaves of the document's desk. -/
def DoPost (w : World) (r base : Nat) (qu ou : Int) (N : Nat → Prop) (ids : List Int) (R : Res) (e : Ending) (w' : World) : Prop :=
  ∃ (aa ga : Option Addr) (ac gc : Nat), e = .returned (.agg #[.int .i64 R.err, .int .i64 R.num, .slice aa R.ms.length ac, .slice ga R.gone.length gc]) ∧ DocAt w' r base qu ou N (fun q => N q ∨ w.heap.size ≤ q) ids R.S ∧
    MRow w' w.heap.size (fun q => N q ∨ w.heap.size ≤ q) (.slice aa R.ms.length ac) R.ms ∧ w'.ownsRow w.heap.size 38 2 (.slice ga R.gone.length gc) R.gone.length (rcells R.gone) ∧ Turn (ZD r base N w) w w'
/-- While a command is done: it lies in cb, the result in rb, what is told in tb. -/
structure D0 (w : World) (cb rb tb : Nat) (cs : List Value) (W : World) : Prop where
  cmd : W.rangeAt cb 0 cs
  bcb : Blk W cb 43
  rr : W.rangeAt rb 0 [.int .i64 0, .int .i64 0, .slice none 0 0, .slice none 0 0]
  brb : Blk W rb 58
  tt : W.rangeAt tb 0 [.int .i64 0, .int .i64 0, .slice none 0 0, .slice none 0 0]
  btb : Blk W tb 58
  rt : rb ≠ tb
  new : w.heap.size ≤ cb ∧ w.heap.size ≤ rb ∧ w.heap.size ≤ tb
  turn : Turn (fun _ => False) w W
section
variable {w w' W V : World} {r base cb rb tb : Nat} {qu ou : Int} {N E : Nat → Prop} {ids : List Int} {S : DS} {cs : List Value}
theorem do_open (w : World) (cs : List Value) (W1 W2 : World) (h1 : W1 = (w.alloc (.cells cs.toArray 43)).alloc (.cells #[.int .i64 0, .int .i64 0, .slice none 0 0, .slice none 0 0] 58)) (h2 : W2 = W1.alloc (.cells #[.int .i64 0, .int .i64 0, .slice none 0 0, .slice none 0 0] 58)) :
    D0 w w.heap.size (w.heap.size + 1) W1.heap.size cs W2 ∧ Turn (fun _ => False) w W1 ∧ W1.rangeAt w.heap.size 0 cs := by
  have z0 : (w.alloc (.cells cs.toArray 43)).heap.size = w.heap.size + 1 := by rw [World.size_alloc]
  have z1 : W1.heap.size = w.heap.size + 2 := by rw [h1, World.size_alloc, World.size_alloc]
  have T0 : Turn (fun _ => False) w (w.alloc (.cells cs.toArray 43)) := (Turn.refl _ w).alloc _
  have T1 : Turn (fun _ => False) (w.alloc (.cells cs.toArray 43)) W1 := by rw [h1]; exact (Turn.refl _ _).alloc _
  have T2 : Turn (fun _ => False) W1 W2 := by rw [h2]; exact (Turn.refl _ _).alloc _
  have c0 : (w.alloc (.cells cs.toArray 43)).rangeAt w.heap.size 0 cs := range_new w cs 43
  have b0 : Blk (w.alloc (.cells cs.toArray 43)) w.heap.size 43 := Blk.new w cs 43
  have c1 : W1.rangeAt (w.heap.size + 1) 0 [.int .i64 0, .int .i64 0, .slice none 0 0, .slice none 0 0] := by
    rw [h1, ← z0]; exact range_new (w.alloc (.cells cs.toArray 43)) [.int .i64 0, .int .i64 0, .slice none 0 0, .slice none 0 0] 58
  have b1 : Blk W1 (w.heap.size + 1) 58 := by
    rw [h1, ← z0]; exact Blk.new (w.alloc (.cells cs.toArray 43)) [.int .i64 0, .int .i64 0, .slice none 0 0, .slice none 0 0] 58
  have c2 : W2.rangeAt W1.heap.size 0 [.int .i64 0, .int .i64 0, .slice none 0 0, .slice none 0 0] := by
    rw [h2]; exact range_new W1 [.int .i64 0, .int .i64 0, .slice none 0 0, .slice none 0 0] 58
  have b2 : Blk W2 W1.heap.size 58 := by
    rw [h2]; exact Blk.new W1 [.int .i64 0, .int .i64 0, .slice none 0 0, .slice none 0 0] 58
  exact ⟨⟨range_turn (range_turn c0 T1 id) T2 id, (b0.turn T1 id).turn T2 id, range_turn c1 T2 id, b1.turn T2 id, c2, b2, by omega, by omega, (T0.trans T1).trans T2⟩, T0.trans T1, range_turn c0 T1 id⟩
theorem D0.turns (Z : D0 w cb rb tb cs W) (T : Turn (fun _ => False) W V) : D0 w cb rb tb cs V :=
  ⟨range_turn Z.cmd T id, Z.bcb.turn T id, range_turn Z.rr T id, Z.brb.turn T id, range_turn Z.tt T id, Z.btb.turn T id, Z.rt, Z.new, Z.turn.trans T⟩
theorem D0.thr (Z : D0 w cb rb tb cs W) : W.there rb 0 4 := range_there Z.rr rfl Z.brb
/-- Nothing changes. -/
theorem D0.fin (Z : D0 w cb rb tb cs W) (h : DocAt w r base qu ou N N ids S) (hN : ∀ q, N q → q < w.heap.size) (m : Nat) (er nu : Int) :
    DoPost w r base qu ou N ids ⟨S, m, er, nu, [], []⟩ (.returned (.agg #[.int .i64 er, .int .i64 nu, .slice none 0 0, .slice none 0 0])) (W.setCells rb 0 [.int .i64 er, .int .i64 nu, .slice none 0 0, .slice none 0 0]) := by
  have T : Turn (fun q => q = rb) W (W.setCells rb 0 [.int .i64 er, .int .i64 nu, .slice none 0 0, .slice none 0 0]) := Turn.setCells _ _ (Turn.refl _ _) (.inl rfl)
  have TT : Turn (fun _ => False) w (W.setCells rb 0 [.int .i64 er, .int .i64 nu, .slice none 0 0, .slice none 0 0]) := Z.turn.comp T (fun q hq e => by have := Z.new.2.1; omega)
  exact ⟨none, none, 0, 0, rfl, (h.other (fun k n => .inl n) (fun k e => e)).turn TT id (fun _ _ f => f) (fun _ _ f => f.elim) (fun _ f => f.elim), MRow.nil _ _ _, ⟨rfl, .inl ⟨rfl, rfl⟩⟩, TT.more (fun _ _ f => f.elim)⟩

set_option maxRecDepth 100000 in
set_option maxHeartbeats 4000000 in
theorem DocAt.do_else (h : DocAt w r base qu ou N N ids S) (hids : ids.length ≤ 1000) (hN : ∀ q, N q → q < w.heap.size) {stamp k i n s g : Int} (hk : k ≠ 1 ∧ k ≠ 2 ∧ k ≠ 3 ∧ k ≠ 4 ∧ k ≠ 5) (v : Value) (m : Nat) :
    Calls Try.prog 14 #[.pointer (some ⟨r, 0, none⟩), .int .i64 stamp, .agg (cmdL k i n s g).toArray, v] w (DoPost w r base qu ou N ids ⟨S, m, 1, 0, [], []⟩) := by
  obtain ⟨W1, hW1⟩ : ∃ W1, W1 = (w.alloc (.cells (cmdL k i n s g).toArray 43)).alloc (.cells #[.int .i64 0, .int .i64 0, .slice none 0 0, .slice none 0 0] 58) := ⟨_, rfl⟩
  obtain ⟨W2, hW2⟩ : ∃ W2, W2 = W1.alloc (.cells #[.int .i64 0, .int .i64 0, .slice none 0 0, .slice none 0 0] 58) := ⟨_, rfl⟩
  obtain ⟨Z, T1, R1⟩ := do_open w (cmdL k i n s g) W1 W2 hW1 hW2
  have c1 : W1.cell? ⟨w.heap.size, 1, none⟩ = some (.int .i64 i) := R1 1 _ rfl
  have c0 : W2.cell? ⟨w.heap.size, 0, none⟩ = some (.int .i64 k) := Z.cmd 0 _ rfl
  have FD := Lib.hid ((h.turn T1 id (fun _ _ f => f) (fun _ _ f => f.elim) (fun _ f => f.elim)).find hids i)
  have TH := Lib.hid Z.thr
  have FIN := Lib.hid (Z.fin h hN m 1 0)
  have t1 : (k == 1) = false := beq_eq_false_iff_ne.2 hk.1
  have t2 : (k == 2) = false := beq_eq_false_iff_ne.2 hk.2.1
  have t3 : (k == 3) = false := beq_eq_false_iff_ne.2 hk.2.2.1
  have t4 : (k == 4) = false := beq_eq_false_iff_ne.2 hk.2.2.2.1
  have t5 : (k == 5) = false := beq_eq_false_iff_ne.2 hk.2.2.2.2
  clear hk
  have HW1 := Lib.hid hW1
  have HW2 := Lib.hid hW2
  clear hW1 hW2
  clear Z T1 R1 h hids hN
  unfold cmdL at HW1 ⊢
  go_enter Try.func14, Try.ntmps14
  go_upto_region 1 with fail
  rw [← HW1.out]
  clear HW1
  generalize w.heap.size + 1 = rb at *
  go_wp2_with fail
  with_reducible refine FD.out.mono ?_
  rintro en W5 ⟨rfl, rfl⟩
  go_upto_region 3 with fail
  rw [← HW2.out]
  clear HW2 FD c1
  go_upto_region 25 with fail
  refine wp_region_lit ?_
  refine rl_build rfl 53 _ rfl (vs := #[(0, .int .i64 1)]) (v := .agg #[.int .i64 1, .int .i64 0, .slice none 0 0]) (by simp [Act.eval]) (build53e 1 _) ?_
  try simp only [Act.put, List.setIfInBounds_toArray, List.set_cons_zero, List.set_cons_succ]
  refine rl_build rfl 58 _ rfl (vs := #[(0, .agg #[.int .i64 1, .int .i64 0, .slice none 0 0])]) (v := .agg #[.int .i64 1, .int .i64 0, .slice none 0 0, .slice none 0 0]) (by simp [Act.eval]) (b58e 1 _) ?_
  try simp only [Act.put, List.setIfInBounds_toArray, List.set_cons_zero, List.set_cons_succ]
  refine wpList_store_mid rfl 58 _ _ rfl rb 0 #[.int .i64 1, .int .i64 0, .slice none 0 0, .slice none 0 0] rfl rfl TH.out size58 (by simp [Value.oneCell']) ?_
  try simp only [Act.put, List.setIfInBounds_toArray, List.set_cons_zero, List.set_cons_succ]
  go_wp2_with fail
  exact bodyPost_ret (v := .agg #[.int .i64 1, .int .i64 0, .slice none 0 0, .slice none 0 0]) (res_cell (a := 8) rfl rfl (run_loadVar_mid _ rb 0 58 _ _ (World.rangeAt_setCells_same _ rb 0 _ TH.out) Try.underlying58 rfl size58)) rfl FIN.out
set_option maxRecDepth 100000 in
set_option maxHeartbeats 4000000 in
theorem DocAt.do_close (h : DocAt w r base qu ou N N ids S) (hids : ids.length ≤ 1000) (hN : ∀ q, N q → q < w.heap.size) {stamp i n s g : Int} (v : Value) (m : Nat) :
    Calls Try.prog 14 #[.pointer (some ⟨r, 0, none⟩), .int .i64 stamp, .agg (cmdL 5 i n s g).toArray, v] w (DoPost w r base qu ou N ids ⟨S, m, 0, stamp, [], []⟩) := by
  obtain ⟨W1, hW1⟩ : ∃ W1, W1 = (w.alloc (.cells (cmdL 5 i n s g).toArray 43)).alloc (.cells #[.int .i64 0, .int .i64 0, .slice none 0 0, .slice none 0 0] 58) := ⟨_, rfl⟩
  obtain ⟨W2, hW2⟩ : ∃ W2, W2 = W1.alloc (.cells #[.int .i64 0, .int .i64 0, .slice none 0 0, .slice none 0 0] 58) := ⟨_, rfl⟩
  obtain ⟨Z, T1, R1⟩ := do_open w (cmdL 5 i n s g) W1 W2 hW1 hW2
  have c1 : W1.cell? ⟨w.heap.size, 1, none⟩ = some (.int .i64 i) := R1 1 _ rfl
  have c0 : W2.cell? ⟨w.heap.size, 0, none⟩ = some (.int .i64 5) := Z.cmd 0 _ rfl
  have FD := Lib.hid ((h.turn T1 id (fun _ _ f => f) (fun _ _ f => f.elim) (fun _ f => f.elim)).find hids i)
  have TH := Lib.hid Z.thr
  have FIN := Lib.hid (Z.fin h hN m 0 stamp)
  have HW1 := Lib.hid hW1
  have HW2 := Lib.hid hW2
  clear hW1 hW2
  clear Z T1 R1 h hids hN
  unfold cmdL at HW1 ⊢
  go_enter Try.func14, Try.ntmps14
  go_upto_region 1 with fail
  rw [← HW1.out]
  clear HW1
  generalize w.heap.size + 1 = rb at *
  go_wp2_with fail
  with_reducible refine FD.out.mono ?_
  rintro en W5 ⟨rfl, rfl⟩
  go_upto_region 3 with fail
  rw [← HW2.out]
  clear HW2 FD c1
  go_upto_region 24 with fail
  refine wp_region_lit ?_
  refine rl_val rfl (v := .int .i64 stamp) (by go_simp; try with_reducible rfl) ?_
  try simp only [Act.put, List.setIfInBounds_toArray, List.set_cons_zero, List.set_cons_succ]
  refine rl_build rfl 53 _ rfl (vs := #[(1, .int .i64 stamp)]) (v := .agg #[.int .i64 0, .int .i64 stamp, .slice none 0 0]) (by simp [Act.eval]) (build53n stamp _) ?_
  try simp only [Act.put, List.setIfInBounds_toArray, List.set_cons_zero, List.set_cons_succ]
  refine rl_build rfl 58 _ rfl (vs := #[(0, .agg #[.int .i64 0, .int .i64 stamp, .slice none 0 0])]) (v := .agg #[.int .i64 0, .int .i64 stamp, .slice none 0 0, .slice none 0 0]) (by simp [Act.eval]) (b58 stamp _) ?_
  try simp only [Act.put, List.setIfInBounds_toArray, List.set_cons_zero, List.set_cons_succ]
  refine wpList_store_mid rfl 58 _ _ rfl rb 0 #[.int .i64 0, .int .i64 stamp, .slice none 0 0, .slice none 0 0] rfl rfl TH.out size58 (by simp [Value.oneCell']) ?_
  try simp only [Act.put, List.setIfInBounds_toArray, List.set_cons_zero, List.set_cons_succ]
  go_wp2_with fail
  exact bodyPost_ret (v := .agg #[.int .i64 0, .int .i64 stamp, .slice none 0 0, .slice none 0 0]) (res_cell (a := 8) rfl rfl (run_loadVar_mid _ rb 0 58 _ _ (World.rangeAt_setCells_same _ rb 0 _ TH.out) Try.underlying58 rfl size58)) rfl FIN.out
set_option maxRecDepth 100000 in
set_option maxHeartbeats 4000000 in
theorem DocAt.do_full (h : DocAt w r base qu ou N N ids S) (hids : ids.length ≤ 1000) (hN : ∀ q, N q → q < w.heap.size) {stamp i n s g : Int} (hq : qu ≤ (ids.length : Int)) (v : Value) (m : Nat) :
    Calls Try.prog 14 #[.pointer (some ⟨r, 0, none⟩), .int .i64 stamp, .agg (cmdL 2 i n s g).toArray, v] w (DoPost w r base qu ou N ids ⟨S, m, 16, 0, [], []⟩) := by
  obtain ⟨W1, hW1⟩ : ∃ W1, W1 = (w.alloc (.cells (cmdL 2 i n s g).toArray 43)).alloc (.cells #[.int .i64 0, .int .i64 0, .slice none 0 0, .slice none 0 0] 58) := ⟨_, rfl⟩
  obtain ⟨W2, hW2⟩ : ∃ W2, W2 = W1.alloc (.cells #[.int .i64 0, .int .i64 0, .slice none 0 0, .slice none 0 0] 58) := ⟨_, rfl⟩
  obtain ⟨Z, T1, R1⟩ := do_open w (cmdL 2 i n s g) W1 W2 hW1 hW2
  have c1 : W1.cell? ⟨w.heap.size, 1, none⟩ = some (.int .i64 i) := R1 1 _ rfl
  have c0 : W2.cell? ⟨w.heap.size, 0, none⟩ = some (.int .i64 2) := Z.cmd 0 _ rfl
  have FD := Lib.hid ((h.turn T1 id (fun _ _ f => f) (fun _ _ f => f.elim) (fun _ f => f.elim)).find hids i)
  have TH := Lib.hid Z.thr
  have FIN := Lib.hid (Z.fin h hN m 16 0)
  have hx := Z.turn
  obtain ⟨vq, Uq, X⟩ := (h.turn hx id (fun _ _ f => f) (fun _ _ f => f.elim) (fun _ f => f.elim)).x
  have d7 := X.c7
  have d3 := X.c3
  obtain ⟨qa, qc, rfl, -⟩ := X.own.sl
  have t1 : decide (qu ≤ (ids.length : Int)) = true := decide_eq_true hq
  obtain ⟨V, hV⟩ : ∃ V, V = W2.drew := ⟨_, rfl⟩
  have TV : Turn (fun _ => False) W2 V := by rw [hV]; exact (Turn.refl _ W2).drewN 1
  have ZV := Z.turns TV
  have TH := Lib.hid ZV.thr
  have FIN := Lib.hid (ZV.fin h hN m 16 0)
  have HV := Lib.hid hV
  clear X hx hq hV TV ZV
  have HW1 := Lib.hid hW1
  have HW2 := Lib.hid hW2
  clear hW1 hW2
  clear Z T1 R1 h hids hN
  unfold cmdL at HW1 ⊢
  go_enter Try.func14, Try.ntmps14
  go_upto_region 1 with fail
  rw [← HW1.out]
  clear HW1
  generalize w.heap.size + 1 = rb at *
  go_wp2_with fail
  with_reducible refine FD.out.mono ?_
  rintro en W5 ⟨rfl, rfl⟩
  go_upto_region 3 with fail
  rw [← HW2.out]
  clear HW2 FD c1
  go_upto_region 5 with fail
  go_region
  rw [← HV.out]
  clear HV d7 d3 c0
  go_upto_region 6 with fail
  refine wp_region_lit ?_
  refine rl_build rfl 53 _ rfl (vs := #[(0, .int .i64 16)]) (v := .agg #[.int .i64 16, .int .i64 0, .slice none 0 0]) (by simp [Act.eval]) (build53e 16 _) ?_
  try simp only [Act.put, List.setIfInBounds_toArray, List.set_cons_zero, List.set_cons_succ]
  refine rl_build rfl 58 _ rfl (vs := #[(0, .agg #[.int .i64 16, .int .i64 0, .slice none 0 0])]) (v := .agg #[.int .i64 16, .int .i64 0, .slice none 0 0, .slice none 0 0]) (by simp [Act.eval]) (b58e 16 _) ?_
  try simp only [Act.put, List.setIfInBounds_toArray, List.set_cons_zero, List.set_cons_succ]
  refine wpList_store_mid rfl 58 _ _ rfl rb 0 #[.int .i64 16, .int .i64 0, .slice none 0 0, .slice none 0 0] rfl rfl TH.out size58 (by simp [Value.oneCell']) ?_
  try simp only [Act.put, List.setIfInBounds_toArray, List.set_cons_zero, List.set_cons_succ]
  go_wp2_with fail
  exact bodyPost_ret (v := .agg #[.int .i64 16, .int .i64 0, .slice none 0 0, .slice none 0 0]) (res_cell (a := 8) rfl rfl (run_loadVar_mid _ rb 0 58 _ _ (World.rangeAt_setCells_same _ rb 0 _ TH.out) Try.underlying58 rfl size58)) rfl FIN.out
set_option maxRecDepth 100000 in
set_option maxHeartbeats 4000000 in
theorem DocAt.do_unr_none (h : DocAt w r base qu ou N N ids S) (hids : ids.length ≤ 1000) (hN : ∀ q, N q → q < w.heap.size) {stamp i n s g : Int} (hs : S i = none) (v : Value) (m : Nat) :
    Calls Try.prog 14 #[.pointer (some ⟨r, 0, none⟩), .int .i64 stamp, .agg (cmdL 3 i n s g).toArray, v] w (DoPost w r base qu ou N ids ⟨S, m, 15, 0, [], []⟩) := by
  obtain ⟨W1, hW1⟩ : ∃ W1, W1 = (w.alloc (.cells (cmdL 3 i n s g).toArray 43)).alloc (.cells #[.int .i64 0, .int .i64 0, .slice none 0 0, .slice none 0 0] 58) := ⟨_, rfl⟩
  obtain ⟨W2, hW2⟩ : ∃ W2, W2 = W1.alloc (.cells #[.int .i64 0, .int .i64 0, .slice none 0 0, .slice none 0 0] 58) := ⟨_, rfl⟩
  obtain ⟨Z, T1, R1⟩ := do_open w (cmdL 3 i n s g) W1 W2 hW1 hW2
  have c1 : W1.cell? ⟨w.heap.size, 1, none⟩ = some (.int .i64 i) := R1 1 _ rfl
  have c0 : W2.cell? ⟨w.heap.size, 0, none⟩ = some (.int .i64 3) := Z.cmd 0 _ rfl
  have FD := Lib.hid ((h.turn T1 id (fun _ _ f => f) (fun _ _ f => f.elim) (fun _ f => f.elim)).find hids i)
  have TH := Lib.hid Z.thr
  have FIN := Lib.hid (Z.fin h hN m 15 0)
  have hp : posD ids i = -1 := by
    rcases h.pos i with ⟨_, hp⟩ | ⟨k, l, lo, _, _, _, hs2⟩
    · exact hp
    · rw [hs] at hs2; cases hs2
  have FD1 := FD.out
  rw [hp] at FD1
  have FD := Lib.hid FD1
  clear FD1 hp hs
  have HW1 := Lib.hid hW1
  have HW2 := Lib.hid hW2
  clear hW1 hW2
  clear Z T1 R1 h hids hN
  unfold cmdL at HW1 ⊢
  go_enter Try.func14, Try.ntmps14
  go_upto_region 1 with fail
  rw [← HW1.out]
  clear HW1
  generalize w.heap.size + 1 = rb at *
  go_wp2_with fail
  with_reducible refine FD.out.mono ?_
  rintro en W5 ⟨rfl, rfl⟩
  go_upto_region 3 with fail
  rw [← HW2.out]
  clear HW2 FD c1
  go_upto_region 11 with fail
  refine wp_region_lit ?_
  refine rl_build rfl 53 _ rfl (vs := #[(0, .int .i64 15)]) (v := .agg #[.int .i64 15, .int .i64 0, .slice none 0 0]) (by simp [Act.eval]) (build53e 15 _) ?_
  try simp only [Act.put, List.setIfInBounds_toArray, List.set_cons_zero, List.set_cons_succ]
  refine rl_build rfl 58 _ rfl (vs := #[(0, .agg #[.int .i64 15, .int .i64 0, .slice none 0 0])]) (v := .agg #[.int .i64 15, .int .i64 0, .slice none 0 0, .slice none 0 0]) (by simp [Act.eval]) (b58e 15 _) ?_
  try simp only [Act.put, List.setIfInBounds_toArray, List.set_cons_zero, List.set_cons_succ]
  refine wpList_store_mid rfl 58 _ _ rfl rb 0 #[.int .i64 15, .int .i64 0, .slice none 0 0, .slice none 0 0] rfl rfl TH.out size58 (by simp [Value.oneCell']) ?_
  try simp only [Act.put, List.setIfInBounds_toArray, List.set_cons_zero, List.set_cons_succ]
  go_wp2_with fail
  exact bodyPost_ret (v := .agg #[.int .i64 15, .int .i64 0, .slice none 0 0, .slice none 0 0]) (res_cell (a := 8) rfl rfl (run_loadVar_mid _ rb 0 58 _ _ (World.rangeAt_setCells_same _ rb 0 _ TH.out) Try.underlying58 rfl size58)) rfl FIN.out
end
end Go.Proofs.Ytepmealhnnoahaa
namespace Go.Proofs.Ytepmealhnnoahaa
set_option linter.unusedSimpArgs false
open Go.ChangeShapes Go.WideShapes Go.ChangeAt Go.RowKit
set_option linter.unusedVariables false
/-- While a command is done, behind what the desk turned: the result in rb, what is told in tb. -/
structure D1 (w : World) (r base : Nat) (qu ou : Int) (N : Nat → Prop) (rb tb : Nat) (ids : List Int) (S : DS) (gl : List (Int × Int)) (gv : Value) (V : World) : Prop where
  doc : DocAt V r base qu ou N (fun q => N q ∨ w.heap.size ≤ q) ids S
  rr : V.rangeAt rb 0 [.int .i64 0, .int .i64 0, .slice none 0 0, .slice none 0 0]
  brb : Blk V rb 58
  tell : V.rangeAt tb 0 [.int .i64 0, .int .i64 0, .slice none 0 0, gv]
  btb : Blk V tb 58
  grow : V.ownsRow w.heap.size 38 2 gv gl.length (rcells gl)
  rt : rb ≠ tb
  new : w.heap.size ≤ rb ∧ w.heap.size ≤ tb
  turn : Turn (ZD r base N w) w V
section
variable {w w' W V V' W' : World} {r base cb rb tb : Nat} {qu ou : Int} {N E : Nat → Prop} {ids ids' : List Int} {S S' : DS} {cs : List Value} {gl gl' : List (Int × Int)} {gv gv' : Value}
theorem D0.one (Z : D0 w cb rb tb cs W) (h : DocAt w r base qu ou N N ids S) : D1 w r base qu ou N rb tb ids S [] (.slice none 0 0) W :=
  ⟨(h.other (fun k n => .inl n) (fun k e => e)).turn Z.turn id (fun _ _ f => f) (fun _ _ f => f.elim) (fun _ f => f.elim), Z.rr, Z.brb, Z.tt, Z.btb, ⟨rfl, .inl ⟨rfl, rfl⟩⟩, Z.rt, Z.new.2, Z.turn.more (fun _ _ f => f.elim)⟩
theorem D1.turns (Z : D1 w r base qu ou N rb tb ids S gl gv V) (T : Turn (fun _ => False) V V') : D1 w r base qu ou N rb tb ids S gl gv V' :=
  ⟨Z.doc.turn T id (fun _ _ f => f) (fun _ _ f => f.elim) (fun _ f => f.elim), range_turn Z.rr T id, Z.brb.turn T id, range_turn Z.tell T id, Z.btb.turn T id, own_turn Z.grow T (fun _ _ f => f), Z.rt, Z.new, Z.turn.comp T (fun _ _ f => f.elim)⟩
theorem D1.sz (Z : D1 w r base qu ou N rb tb ids S gl gv V) : w.heap.size ≤ V.heap.size := Z.turn.size
theorem D1.refs (Z : D1 w r base qu ou N rb tb ids S gl gv V) (T : Turn (fun q => gv.ownBlock = some q) V W') (own' : W'.ownsRow w.heap.size 38 2 gv' gl'.length (rcells gl')) :
    D1 w r base qu ou N rb tb ids S gl' gv' (W'.setCell ⟨tb, 3, none⟩ gv') ∧ W'.cell? ⟨tb, 3, none⟩ = some gv ∧ Blk W' tb 58 := by
  have g38 : ∀ q, gv.ownBlock = some q → Blk V q 38 ∧ w.heap.size ≤ q := fun q hq => own_blkD Z.grow hq
  have ntb : ¬ gv.ownBlock = some tb := fun e => (g38 tb e).1.ne Z.btb (by decide) rfl
  have nrb : ¬ gv.ownBlock = some rb := fun e => (g38 rb e).1.ne Z.brb (by decide) rfl
  have btb' := Z.btb.turn T ntb
  have R := range_turn Z.tell T ntb
  have c3 : W'.cell? ⟨tb, 3, none⟩ = some gv := R 3 _ rfl
  have T2 : Turn (fun q => q = tb) W' (W'.setCell ⟨tb, 3, none⟩ gv') := Turn.put _ _ _ _
  have TT : Turn (fun q => gv.ownBlock = some q ∨ q = tb) V (W'.setCell ⟨tb, 3, none⟩ gv') := (T.more (fun _ _ e => .inl e)).trans (T2.more (fun _ _ e => .inr e))
  have zt : ∀ {b : Nat} {t : TypeId}, Blk V b t → t ≠ 38 → t ≠ 58 → ¬ (gv.ownBlock = some b ∨ b = tb) := fun hb h1 h2 z => z.elim (fun e => (g38 _ e).1.ne hb (fun q => h1 q.symm) rfl) (fun e => hb.ne Z.btb h2 e)
  have znew : ∀ q, (gv.ownBlock = some q ∨ q = tb) → w.heap.size ≤ q := fun q z => z.elim (fun e => (g38 q e).2) (fun e => e ▸ Z.new.2)
  exact ⟨⟨Z.doc.turn TT (zt Z.doc.bl (by decide) (by decide)) (fun k hk => zt hk (by decide) (by decide)) (fun k hk z => absurd z (zt hk (by decide) (by decide))) (fun k z _ => .inr (znew k z)), range_turn Z.rr TT (fun z => z.elim nrb Z.rt), Z.brb.turn TT (fun z => z.elim nrb Z.rt), tell_set R (by decide), btb'.set _ _, own_turn own' T2 (fun q hq e => (own_blkD own' hq).1.ne btb' (by decide) e), Z.rt, Z.new, Z.turn.comp TT (fun q hq z => by have := znew q z; omega)⟩, c3, btb'⟩
theorem D1.desk (Z : D1 w r base qu ou N rb tb ids S gl gv V) (T : Turn (ZD r base N V) V V') (hd : DocAt V' r base qu ou N (fun q => N q ∨ w.heap.size ≤ q) ids' S') : D1 w r base qu ou N rb tb ids' S' gl gv V' := by
  have zt : ∀ {b : Nat} {t : TypeId}, Blk V b t → (t ≠ 33 ∧ t ≠ 91 ∧ t ≠ 71) → ¬ ZD r base N V b := fun hb ht => zd_ty hb Z.doc.bl ht
  exact ⟨hd, range_turn Z.rr T (zt Z.brb (by decide)), Z.brb.turn T (zt Z.brb (by decide)), range_turn Z.tell T (zt Z.btb (by decide)), Z.btb.turn T (zt Z.btb (by decide)), own_turn Z.grow T (fun q hq => zt (own_blkD Z.grow hq).1 (by decide)), Z.rt, Z.new, Z.turn.comp T (fun q hq z => ZD_back Z.turn hq z)⟩
theorem D1.thr (Z : D1 w r base qu ou N rb tb ids S gl gv V) : V.there rb 0 4 := range_there Z.rr rfl Z.brb
theorem D1.done {ga : Option Addr} {gc : Nat} (Z : D1 w r base qu ou N rb tb ids S gl (.slice ga gl.length gc) V) (m : Nat) (er nu : Int) :
    DoPost w r base qu ou N ids ⟨S, m, er, nu, [], gl⟩ (.returned (.agg #[.int .i64 er, .int .i64 nu, .slice none 0 0, .slice ga gl.length gc])) (V.setCells rb 0 [.int .i64 er, .int .i64 nu, .slice none 0 0, .slice ga gl.length gc]) := by
  have T : Turn (fun q => q = rb) V (V.setCells rb 0 [.int .i64 er, .int .i64 nu, .slice none 0 0, .slice ga gl.length gc]) := Turn.setCells _ _ (Turn.refl _ _) (.inl rfl)
  have zt : ∀ {b : Nat} {t : TypeId}, Blk V b t → t ≠ 58 → ¬ b = rb := fun hb ht e => hb.ne Z.brb ht e
  exact ⟨none, ga, 0, gc, rfl, Z.doc.turn T (zt Z.doc.bl (by decide)) (fun k hk => zt hk (by decide)) (fun k hk z => absurd z (zt hk (by decide))) (fun k z t => absurd z (t.ne Z.brb (by decide))), MRow.nil _ _ _, own_turn Z.grow T (fun q hq => zt (own_blkD Z.grow hq).1 (by decide)), Z.turn.comp T (fun q hq e => by have := Z.new.1; omega)⟩
theorem QRow.cap {w : World} {base n cap : Nat} {a : Option Addr} {xs : List Value} (h : QRow w base (.slice a n cap) n xs) : n ≤ cap := by
  rcases h with h | ⟨_, g, e, _⟩
  · rcases h.2 with ⟨e, _⟩ | ⟨g', cap', cu, e, hb, hg, hnc, _⟩
    · simp at e; omega
    · simp at e
      obtain ⟨_, rfl⟩ := e
      exact hnc
  · injection e with z1 z2 z3
    omega
theorem D1.cap (Z : D1 w r base qu ou N rb tb ids S gl gv V) {a : Option Addr} {cap : Nat} (y7 : V.cell? ⟨r, 7, none⟩ = some (.slice a ids.length cap)) : ids.length ≤ cap := by
  obtain ⟨v, U, X⟩ := Z.doc.x
  have e := X.c7
  rw [y7] at e
  injection e with e
  subst e
  exact X.own.cap
theorem D1.unr (Z : D1 w r base qu ou N rb tb ids S gl gv V) (hids : ids.length ≤ 1000) {q gq cap : Nat} (hq : q < ids.length) {i : Int} (hi : ids.getD q 0 = i) (y7 : V.cell? ⟨r, 7, none⟩ = some (.slice (some ⟨gq, 0, none⟩) ids.length cap)) {A : Addr} {c : Nat} (hA : q + 1 < ids.length → A = ⟨gq, (q + 1) * 3, none⟩) :
    ∃ (rg rc : Nat) (W1 : World) (a' : Option Addr) (c' : Nat) (W2 : World), (Builtin.append_ #[31, 31] 31 #[.slice (some ⟨V.heap.size, 0, none⟩) 0 0, .slice (some A) (ids.length - (q + 1)) c]).run Try.prog (V.alloc (.cells #[] 91)) = .ok (.slice (some ⟨rg, 0, none⟩) (ids.length - (q + 1)) rc) W1 ∧
      W1.cell? ⟨r, 7, none⟩ = some (.slice (some ⟨gq, 0, none⟩) ids.length cap) ∧ (Builtin.append_ #[31, 31] 31 #[.slice (some ⟨gq, 0, none⟩) q q, .slice (some ⟨rg, 0, none⟩) (ids.length - (q + 1)) rc]).run Try.prog W1 = .ok (.slice a' (ids.length - 1) c') W2 ∧
      W2.cell? ⟨r, 7, none⟩ = some (.slice (some ⟨gq, 0, none⟩) ids.length cap) ∧ W2.frozen? ⟨r, 7, none⟩ = false ∧ D1 w r base qu ou N rb tb (ids.eraseIdx q) (updI S i none) gl gv (W2.setCell ⟨r, 7, none⟩ (.slice a' (ids.length - 1) c')) := by
  obtain ⟨v, U, X⟩ := Z.doc.x
  have e := X.c7
  rw [y7] at e
  injection e with e
  subst e
  have hl : (flatN (qrow ids U S) ids.length).length = ids.length * 3 := flatN_len (qrow_len ids U S) _
  have one : ∀ u ∈ flatN (qrow ids U S) ids.length, u.oneCell' = true := by
    have key : ∀ k, k ≤ ids.length → ∀ u ∈ flatN (qrow ids U S) k, u.oneCell' = true := fun k => by
      induction k with
      | zero => intro _ u hu; simp [flatN] at hu
      | succ k ih =>
        intro hk u hu
        have hu : u ∈ flatN (qrow ids U S) k ++ qrow ids U S k := hu
        rcases List.mem_append.1 hu with h | h
        · exact ih (by omega) u h
        · obtain ⟨ps, _, ho, _⟩ := (X.rows k (by omega)).1.ex
          obtain ⟨a, c, e, -⟩ := own_slice ho
          unfold qrow at h
          rw [e] at h
          simp only [List.mem_cons, List.not_mem_nil, or_false] at h
          rcases h with h | h | h <;> (rw [h]; rfl)
    exact key _ (Nat.le_refl _)
  obtain ⟨rg, rc, W1, r1, o1, T1⟩ := X.own.rest hl one hids (by omega) hA (c := c)
  obtain ⟨v', W2, r2, row, T2⟩ := QRow.cut (X.own.turn T1 (fun _ _ f => f)) hl hids hq (Nat.le_trans X.bs T1.size) o1
  rw [flatN_erase (qrow_len ids U S) hq] at row
  obtain ⟨a', c', rfl, -⟩ := row.sl
  have TT := T1.trans T2
  obtain ⟨X2, T3⟩ := X.erase hq hi TT row
  exact ⟨rg, rc, W1, a', c', W2, r1, T1.cell id y7, r2, TT.cell id y7, (X.bl.turn TT id).fz _, Z.desk T3 X2.doc⟩
set_option maxRecDepth 100000 in
set_option maxHeartbeats 4000000 in
theorem DocAt.do_reg (h : DocAt w r base qu ou N N ids S) (hids : ids.length ≤ 1000) {stamp i n s g : Int} (hq : (ids.length : Int) < qu) (hst : S stamp = none) (v : Value) (m : Nat) :
    Calls Try.prog 14 #[.pointer (some ⟨r, 0, none⟩), .int .i64 stamp, .agg (cmdL 2 i n s g).toArray, v] w (DoPost w r base qu ou N (ids ++ [stamp]) ⟨updI S stamp (some ([], false)), m, 0, stamp, [], []⟩) := by
  obtain ⟨W1, hW1⟩ : ∃ W1, W1 = (w.alloc (.cells (cmdL 2 i n s g).toArray 43)).alloc (.cells #[.int .i64 0, .int .i64 0, .slice none 0 0, .slice none 0 0] 58) := ⟨_, rfl⟩
  obtain ⟨W2, hW2⟩ : ∃ W2, W2 = W1.alloc (.cells #[.int .i64 0, .int .i64 0, .slice none 0 0, .slice none 0 0] 58) := ⟨_, rfl⟩
  obtain ⟨Z, T1, R1⟩ := do_open w (cmdL 2 i n s g) W1 W2 hW1 hW2
  have c1 : W1.cell? ⟨w.heap.size, 1, none⟩ = some (.int .i64 i) := R1 1 _ rfl
  have c0 : W2.cell? ⟨w.heap.size, 0, none⟩ = some (.int .i64 2) := Z.cmd 0 _ rfl
  have FD := (h.turn T1 id (fun _ _ f => f) (fun _ _ f => f.elim) (fun _ f => f.elim)).find hids i
  have FD := Lib.hid FD
  have Z0 := Z.one h
  obtain ⟨vq, Uq, X0⟩ := Z0.doc.x
  have d7 := X0.c7
  have d3 := X0.c3
  obtain ⟨qa, qc, rfl, -⟩ := X0.own.sl
  have t1 : decide (qu ≤ (ids.length : Int)) = false := decide_eq_false (by omega)
  obtain ⟨V, hV⟩ : ∃ V, V = W2.drew := ⟨_, rfl⟩
  have TV : Turn (fun _ => False) W2 V := by rw [hV]; exact (Turn.refl _ W2).drewN 1
  have Z1 := (Z.turns TV).one h
  obtain ⟨v2, U2, X⟩ := Z1.doc.x
  have e2 := X.c7
  rw [TV.cell id d7] at e2
  injection e2 with e2
  subst e2
  have d7V := X.c7
  obtain ⟨v', W', hrun, d7', br, ⟨a', c', rfl⟩, X2, TR⟩ := X.regRun hst hids
  have fz7 := br.fz 7
  have Z2 := Z1.desk TR X2.doc
  have RUN := Lib.hid hrun
  have TH := Lib.hid Z2.thr
  have FIN := Lib.hid (Z2.done (ga := none) (gc := 0) m 0 stamp)
  have HV := Lib.hid hV
  clear Z0 Z1 Z2 X X0 X2 TR hrun Z T1 R1 h hids hst br hq TV hV
  have HW1 := Lib.hid hW1
  have HW2 := Lib.hid hW2
  clear hW1 hW2
  unfold cmdL at HW1 ⊢
  go_enter Try.func14, Try.ntmps14
  go_upto_region 1 with fail
  rw [← HW1.out]
  clear HW1
  generalize w.heap.size + 1 = rb at *
  go_wp2_with fail
  with_reducible refine FD.out.mono ?_
  rintro en W5 ⟨rfl, rfl⟩
  go_upto_region 3 with fail
  rw [← HW2.out]
  clear HW2 FD c1
  go_upto_region 5 with fail
  go_region
  rw [← HV.out]
  clear HV d7 d3 c0
  go_upto_region 8 with (refine rl_append_run (by rfl) _ _ _ (by rfl) (by rfl) (by rfl) RUN.out ?_)
  clear d7V d7' fz7
  generalize W'.setCell ⟨r, 7, none⟩ (.slice a' (ids.length + 1) c') = W4 at *
  refine wp_region_lit ?_
  refine rl_val rfl (v := .int .i64 stamp) (by go_simp; try with_reducible rfl) ?_
  try simp only [Act.put, List.setIfInBounds_toArray, List.set_cons_zero, List.set_cons_succ]
  refine rl_build rfl 53 _ rfl (vs := #[(1, .int .i64 stamp)]) (v := .agg #[.int .i64 0, .int .i64 stamp, .slice none 0 0]) (by simp [Act.eval]) (build53n stamp _) ?_
  try simp only [Act.put, List.setIfInBounds_toArray, List.set_cons_zero, List.set_cons_succ]
  refine rl_build rfl 58 _ rfl (vs := #[(0, .agg #[.int .i64 0, .int .i64 stamp, .slice none 0 0])]) (v := .agg #[.int .i64 0, .int .i64 stamp, .slice none 0 0, .slice none 0 0]) (by simp [Act.eval]) (b58 stamp _) ?_
  try simp only [Act.put, List.setIfInBounds_toArray, List.set_cons_zero, List.set_cons_succ]
  refine wpList_store_mid rfl 58 _ _ rfl rb 0 #[.int .i64 0, .int .i64 stamp, .slice none 0 0, .slice none 0 0] rfl rfl TH.out size58 (by simp [Value.oneCell']) ?_
  try simp only [Act.put, List.setIfInBounds_toArray, List.set_cons_zero, List.set_cons_succ]
  go_wp2_with fail
  exact bodyPost_ret (v := .agg #[.int .i64 0, .int .i64 stamp, .slice none 0 0, .slice none 0 0]) (res_cell (a := 8) rfl rfl (run_loadVar_mid _ rb 0 58 _ _ (World.rangeAt_setCells_same _ rb 0 _ TH.out) Try.underlying58 rfl size58)) rfl FIN.out
theorem frow_some {w : World} {base : Nat} {M : Nat → Prop} {ua : Option Addr} {n uc : Nat} {l : List Fnd} (h : FRow w base M (.slice ua n uc) l) {j : Nat} {f : Fnd} (hj : l[j]? = some f) : ∃ ub, ua = some ⟨ub, 0, none⟩ ∧ Blk w ub 71 := by
  obtain ⟨ps, h1, h2, h3⟩ := h.ex
  have hlt := (List.getElem?_eq_some_iff.1 hj).1
  rcases h2.2 with ⟨e, e2⟩ | ⟨g', cap', cur, e1, _, hgg, _⟩
  · have : l.length = 0 := by injection e
    omega
  · injection e1 with z1 z2 z3
    exact ⟨g', z1, ⟨_, hgg⟩⟩
def UL (w : World) (r base : Nat) (qu ou : Int) (N : Nat → Prop) (rb tb : Nat) (ids : List Int) (S : DS) (l : List Fnd) (gh : Nat) (v11 : Value) (wr : World) : Prop :=
  ∃ (k : Nat) (gv : Value), v11 = .int .i64 (k : Int) ∧ k ≤ l.length ∧ gh = l.length - k ∧ D1 w r base qu ou N rb tb ids S (frefs (l.take k)) gv wr
set_option maxRecDepth 100000 in
set_option maxHeartbeats 8000000 in
theorem DocAt.do_unr (h : DocAt w r base qu ou N N ids S) (hids : ids.length ≤ 1000) {stamp i n s g : Int} {l : List Fnd} {lo : Bool} (hs : S i = some (l, lo)) (hn : l.length ≤ 100000 ∧ (frefs l).length ≤ 100000) (v : Value) (m : Nat) :
    Calls Try.prog 14 #[.pointer (some ⟨r, 0, none⟩), .int .i64 stamp, .agg (cmdL 3 i n s g).toArray, v] w (DoPost w r base qu ou N (ids.eraseIdx (posD ids i).toNat) ⟨updI S i none, m, 0, 0, [], frefs l⟩) := by
  obtain ⟨W1, hW1⟩ : ∃ W1, W1 = (w.alloc (.cells (cmdL 3 i n s g).toArray 43)).alloc (.cells #[.int .i64 0, .int .i64 0, .slice none 0 0, .slice none 0 0] 58) := ⟨_, rfl⟩
  obtain ⟨W2, hW2⟩ : ∃ W2, W2 = W1.alloc (.cells #[.int .i64 0, .int .i64 0, .slice none 0 0, .slice none 0 0] 58) := ⟨_, rfl⟩
  obtain ⟨Z, T1, R1⟩ := do_open w (cmdL 3 i n s g) W1 W2 hW1 hW2
  have c1 : W1.cell? ⟨w.heap.size, 1, none⟩ = some (.int .i64 i) := R1 1 _ rfl
  have c0 : W2.cell? ⟨w.heap.size, 0, none⟩ = some (.int .i64 3) := Z.cmd 0 _ rfl
  have FD := (h.turn T1 id (fun _ _ f => f) (fun _ _ f => f.elim) (fun _ f => f.elim)).find hids i
  obtain ⟨q, l', lo', hq, hqi, hp, hs2⟩ : ∃ q l lo, q < ids.length ∧ ids.getD q 0 = i ∧ posD ids i = (q : Int) ∧ S i = some (l, lo) := by
    rcases h.pos i with ⟨hs3, _⟩ | hh
    · rw [hs] at hs3; cases hs3
    · exact hh
  clear hs2 l' lo'
  rw [hp] at FD
  have ep : (posD ids i).toNat = q := by rw [hp]; rfl
  rw [ep]
  have FD := Lib.hid FD
  have U0 : UL w r base qu ou N (w.heap.size + 1) W1.heap.size ids S l l.length (.int .i64 0) W2 := ⟨0, _, rfl, Nat.zero_le _, rfl, Z.one h⟩
  have q0 : (0 : Int) ≤ (q : Int) := Int.natCast_nonneg q
  have q1 : (q : Int) < (ids.length : Int) := Int.ofNat_lt.2 hq
  have q2 : decide ((q : Int) < 0) = false := decide_eq_false (Int.not_lt.2 q0)
  have erl : rowS S (ids.getD q 0) = l := by unfold rowS; rw [hqi, hs]; rfl
  have G := Lib.hid (And.intro hq (And.intro hqi (And.intro hids (And.intro hs (And.intro erl hn)))))
  clear Z T1 R1 h hp ep hq hqi hids hs erl hn
  have HW1 := Lib.hid hW1
  have HW2 := Lib.hid hW2
  clear hW1 hW2
  unfold cmdL at HW1 ⊢
  go_enter Try.func14, Try.ntmps14
  go_upto_region 1 with fail
  rw [← HW1.out]
  clear HW1
  generalize w.heap.size + 1 = rb at *
  go_wp2_with fail
  with_reducible refine FD.out.mono ?_
  rintro en W5 ⟨rfl, rfl⟩
  go_upto_region 3 with fail
  rw [← HW2.out]
  clear HW2 FD c1
  generalize W1.heap.size = tb at *
  go_wp2_with fail
  clear c0
  go_loopg [11] l.length (fun gh v11 wr => UL w r base qu ou N rb tb ids S l gh v11 wr)
  case atStart => exact U0
  case round =>
    clear U0
    obtain ⟨k, gv, rfl, hk, hgk, Z⟩ := hrel
    obtain ⟨hq, hqi, hids, hs, erl, hn⟩ := G.out
    obtain ⟨va, vc, gq, ua, uc, rfl, y7, hbq, -, y2, -, hfr, -⟩ := Z.doc.at hq
    rw [erl] at y2 hfr
    by_cases hkl : k < l.length
    · obtain ⟨f, hf⟩ : ∃ f, l[k]? = some f := ⟨_, List.getElem?_eq_getElem hkl⟩
      obtain ⟨ub, rfl, hub⟩ := frow_some hfr hf
      obtain ⟨vs, vr, hx, fx⟩ := hfr.at hf
      have hx1 := hx 1 _ rfl
      obtain ⟨ra, rc, rfl⟩ := fx.refs.sl
      have t1 : decide ((k : Int) < (l.length : Int)) = true := decide_eq_true (Int.ofNat_lt.2 hkl)
      have t2 : decide (k < l.length) = true := decide_eq_true hkl
      have k0 : (0 : Int) ≤ (k : Int) := Int.natCast_nonneg k
      have k1 : (k : Int) < (l.length : Int) := Int.ofNat_lt.2 hkl
      have ek : wrap64 ((k : Int) + 1) = (k : Int) + 1 := by unfold wrap64; have := hn.1; omega
      obtain ⟨ga, gc, rfl, -⟩ := own_slice Z.grow
      obtain ⟨gl, hgl⟩ : ∃ gl, frefs (l.take k) = gl := ⟨_, rfl⟩
      rw [hgl] at Z
      obtain ⟨V, hV⟩ : ∃ V, V = wr.drew := ⟨_, rfl⟩
      have TV : Turn (fun _ => False) wr V := by rw [hV]; exact (Turn.refl _ wr).drewN 1
      have ZV := Z.turns TV
      have fV := fx.turn TV (fun _ _ f => f.elim)
      have gx : gl.length + f.refs.length ≤ 1000000 := by
        have h1 := fV.r2
        have h2 := frefs_take l k
        rw [hgl] at h2
        omega
      obtain ⟨v', W3, hrun, own', T', -⟩ := app_refsI ZV.grow (refsin_row fV.refs) gx ZV.sz 54
      obtain ⟨PF, c3, b3⟩ := ZV.refs T' own'
      have z7 := hbq.turn TV id
      have zub := hub.turn TV id
      have ng : ∀ {b : Nat} {t : TypeId}, Blk V b t → t ≠ 38 → ¬ (Value.slice ga gl.length gc).ownBlock = some b := fun hb ht e => (own_blkD ZV.grow e).1.ne hb (fun z => ht z.symm) rfl
      have nr : ∀ {b : Nat} {t : TypeId}, Blk V b t → t ≠ 38 → t ≠ 58 → tb ≠ b := fun hb ht h2 => b3.ne (hb.turn T' (ng hb ht)) (fun z => h2 z.symm)
      have zV : V.cell? ⟨r, 7, none⟩ = some (.slice (some ⟨gq, 0, none⟩) ids.length vc) ∧ V.cell? ⟨gq, q * 3 + 1, none⟩ = some (.slice (some ⟨ub, 0, none⟩) l.length uc) ∧ V.cell? ⟨ub, k * 2 + 1, none⟩ = some (.slice (some ⟨ra, 0, none⟩) f.refs.length rc) := ⟨TV.cell id y7, TV.cell id y2, TV.cell id hx1⟩
      have zD := zV
      rw [hV] at zD
      have zV3 : W3.cell? ⟨r, 7, none⟩ = some (.slice (some ⟨gq, 0, none⟩) ids.length vc) ∧ W3.cell? ⟨gq, q * 3 + 1, none⟩ = some (.slice (some ⟨ub, 0, none⟩) l.length uc) ∧ W3.cell? ⟨ub, k * 2 + 1, none⟩ = some (.slice (some ⟨ra, 0, none⟩) f.refs.length rc) := ⟨T'.cell (ng ZV.doc.bl (by decide)) zV.1, T'.cell (ng z7 (by decide)) zV.2.1, T'.cell (ng zub (by decide)) zV.2.2⟩
      have zV4 : (W3.setCell ⟨tb, 3, none⟩ v').cell? ⟨r, 7, none⟩ = some (.slice (some ⟨gq, 0, none⟩) ids.length vc) ∧ (W3.setCell ⟨tb, 3, none⟩ v').cell? ⟨gq, q * 3 + 1, none⟩ = some (.slice (some ⟨ub, 0, none⟩) l.length uc) ∧ (W3.setCell ⟨tb, 3, none⟩ v').cell? ⟨ub, k * 2 + 1, none⟩ = some (.slice (some ⟨ra, 0, none⟩) f.refs.length rc) := ⟨(cell_far _ _ _ _ _ _ (nr ZV.doc.bl (by decide) (by decide))).trans zV3.1, (cell_far _ _ _ _ _ _ (nr z7 (by decide) (by decide))).trans zV3.2.1, (cell_far _ _ _ _ _ _ (nr zub (by decide) (by decide))).trans zV3.2.2⟩
      have yV : V.cell? ⟨tb, 3, none⟩ = some (.slice ga gl.length gc) := ZV.tell 3 _ rfl
      have y3 := c3
      have fz3 : W3.frozen? ⟨tb, 3, none⟩ = false := b3.fz _
      have FIN := Lib.hid (show UL w r base qu ou N rb tb ids S l (l.length - (k + 1)) (.int .i64 ((k : Int) + 1)) (W3.setCell ⟨tb, 3, none⟩ v') from ⟨k + 1, v', congrArg (Value.int .i64) (Int.natCast_succ k).symm, hkl, rfl, by rw [frefs_step hf, hgl]; exact PF⟩)
      obtain ⟨a', c', rfl, -⟩ := own_slice own'
      generalize (gl ++ f.refs).length = ng' at *
      have RUN1 := Lib.hid hrun
      have G2 := Lib.hid (And.intro hgk hkl)
      clear TV ZV fV gx hrun own' T' PF c3 b3 ng nr z7 zub hx hx1 fx hfr hub Z hbq hs erl hqi hids hq hk hgk hkl hgl hn
      go_upto_region 15 with fail
      clear y7 y2
      refine wp_region_held_drew (S := (fun w' => w'.cell? ⟨r, 7, none⟩ = some (.slice (some ⟨gq, 0, none⟩) ids.length vc) ∧ w'.cell? ⟨gq, q * 3 + 1, none⟩ = some (.slice (some ⟨ub, 0, none⟩) l.length uc) ∧ w'.cell? ⟨ub, k * 2 + 1, none⟩ = some (.slice (some ⟨ra, 0, none⟩) f.refs.length rc))) (by kernel_rfl) ?hs0 (fun hS0 => ?_)
      case hs0 => ((try dsimp only); first | with_reducible exact zD | with_reducible exact zV | with_reducible exact zV3 | with_reducible exact zV4)
      rw [← hV] at hS0 ⊢
      clear hV
      refine wpAnyH_take (i := 0) (oi := { dst := some 68, op := Op.fieldAddr 58 (Operand.tmp 10) 1, type := 0, pos := "ref.go:121", after := #[], guard := none }) (v := ?_) rfl (by kernel_rfl) (by kernel_rfl) (by kernel_rfl) (fun _ _ _ h => h) (Or.inl ⟨by rfl, ?hy1⟩) hS0 ?_
      case hy1 => (intro w hSw; (try dsimp only at hSw); go_simp; try with_reducible rfl)
      try simp only [Act.put, List.setIfInBounds_toArray, List.set_cons_zero, List.set_cons_succ]
      refine wpAnyH_take (i := 2) (oi := { dst := some 70, op := Op.move (Operand.tmp 0), type := 30, pos := "ref.go:121", after := #[], guard := none }) (v := ?_) rfl (by kernel_rfl) (by kernel_rfl) (by kernel_rfl) (fun _ _ _ h => h) (Or.inl ⟨by rfl, ?hy2⟩) hS0 ?_
      case hy2 => (intro w hSw; (try dsimp only at hSw); go_simp; try with_reducible rfl)
      try simp only [Act.put, List.setIfInBounds_toArray, List.set_cons_zero, List.set_cons_succ]
      refine wpAnyH_take (i := 3) (oi := { dst := some 71, op := Op.nilCheck (Operand.tmp 70), type := 0, pos := "ref.go:121", after := #[{ on := 2, ground := Ground.data }], guard := none }) (v := ?_) rfl (by kernel_rfl) (by kernel_rfl) (by kernel_rfl) (fun _ _ _ h => h) (Or.inl ⟨by rfl, ?hy3⟩) hS0 ?_
      case hy3 => (intro w hSw; (try dsimp only at hSw); go_simp; try with_reducible rfl)
      try simp only [Act.put, List.setIfInBounds_toArray, List.set_cons_zero, List.set_cons_succ]
      refine wpAnyH_take (i := 4) (oi := { dst := some 72, op := Op.fieldAddr 33 (Operand.tmp 71) 1, type := 0, pos := "ref.go:121", after := #[{ on := 3, ground := Ground.data }], guard := none }) (v := ?_) rfl (by kernel_rfl) (by kernel_rfl) (by kernel_rfl) (fun _ _ _ h => h) (Or.inl ⟨by rfl, ?hy4⟩) hS0 ?_
      case hy4 => (intro w hSw; (try dsimp only at hSw); go_simp; try with_reducible rfl)
      try simp only [Act.put, List.setIfInBounds_toArray, List.set_cons_zero, List.set_cons_succ]
      refine wpAnyH_take (i := 5) (oi := { dst := some 73, op := Op.load 31 (Operand.tmp 72), type := 31, pos := "ref.go:121", after := #[{ on := 4, ground := Ground.data }], guard := none }) (v := ?_) rfl (by kernel_rfl) (by kernel_rfl) (by kernel_rfl) (fun _ _ _ h => h) (Or.inl ⟨by rfl, ?hy5⟩) hS0 ?_
      case hy5 => (intro w hSw; (try dsimp only at hSw); go_simp; try with_reducible rfl)
      try simp only [Act.put, List.setIfInBounds_toArray, List.set_cons_zero, List.set_cons_succ]
      refine wpAnyH_take (i := 6) (oi := { dst := some 74, op := Op.move (Operand.tmp 9), type := 3, pos := "ref.go:121", after := #[], guard := none }) (v := ?_) rfl (by kernel_rfl) (by kernel_rfl) (by kernel_rfl) (fun _ _ _ h => h) (Or.inl ⟨by rfl, ?hy6⟩) hS0 ?_
      case hy6 => (intro w hSw; (try dsimp only at hSw); go_simp; try with_reducible rfl)
      try simp only [Act.put, List.setIfInBounds_toArray, List.set_cons_zero, List.set_cons_succ]
      refine wpAnyH_take (i := 7) (oi := { dst := some 75, op := Op.indexAddr 31 (Operand.tmp 73) (Operand.tmp 74), type := 0, pos := "ref.go:121", after := #[{ on := 5, ground := Ground.data }, { on := 6, ground := Ground.data }], guard := none }) (v := ?_) rfl (by kernel_rfl) (by kernel_rfl) (by kernel_rfl) (fun _ _ _ h => h) (Or.inl ⟨by rfl, ?hy7⟩) hS0 ?_
      case hy7 => (intro w hSw; (try dsimp only at hSw); go_simp; try with_reducible rfl)
      try simp only [Act.put, List.setIfInBounds_toArray, List.set_cons_zero, List.set_cons_succ]
      refine wpAnyH_take (i := 8) (oi := { dst := some 76, op := Op.fieldAddr 91 (Operand.tmp 75) 1, type := 0, pos := "ref.go:121", after := #[{ on := 7, ground := Ground.data }], guard := none }) (v := ?_) rfl (by kernel_rfl) (by kernel_rfl) (by kernel_rfl) (fun _ _ _ h => h) (Or.inl ⟨by rfl, ?hy8⟩) hS0 ?_
      case hy8 => (intro w hSw; (try dsimp only at hSw); go_simp; try with_reducible rfl)
      try simp only [Act.put, List.setIfInBounds_toArray, List.set_cons_zero, List.set_cons_succ]
      refine wpAnyH_take (i := 9) (oi := { dst := some 77, op := Op.load 89 (Operand.tmp 76), type := 89, pos := "ref.go:121", after := #[{ on := 8, ground := Ground.data }], guard := none }) (v := ?_) rfl (by kernel_rfl) (by kernel_rfl) (by kernel_rfl) (fun _ _ _ h => h) (Or.inl ⟨by rfl, ?hy9⟩) hS0 ?_
      case hy9 => (intro w hSw; (try dsimp only at hSw); go_simp; try with_reducible rfl)
      try simp only [Act.put, List.setIfInBounds_toArray, List.set_cons_zero, List.set_cons_succ]
      refine wpAnyH_take (i := 10) (oi := { dst := some 78, op := Op.move (Operand.tmp 11), type := 3, pos := "ref.go:121", after := #[], guard := none }) (v := ?_) rfl (by kernel_rfl) (by kernel_rfl) (by kernel_rfl) (fun _ _ _ h => h) (Or.inl ⟨by rfl, ?hy10⟩) hS0 ?_
      case hy10 => (intro w hSw; (try dsimp only at hSw); go_simp; try with_reducible rfl)
      try simp only [Act.put, List.setIfInBounds_toArray, List.set_cons_zero, List.set_cons_succ]
      refine wpAnyH_take (i := 11) (oi := { dst := some 79, op := Op.indexAddr 89 (Operand.tmp 77) (Operand.tmp 78), type := 0, pos := "ref.go:121", after := #[{ on := 9, ground := Ground.data }, { on := 10, ground := Ground.data }], guard := none }) (v := ?_) rfl (by kernel_rfl) (by kernel_rfl) (by kernel_rfl) (fun _ _ _ h => h) (Or.inl ⟨by rfl, ?hy11⟩) hS0 ?_
      case hy11 => (intro w hSw; (try dsimp only at hSw); go_simp; try with_reducible rfl)
      try simp only [Act.put, List.setIfInBounds_toArray, List.set_cons_zero, List.set_cons_succ]
      refine wpAnyH_take (i := 12) (oi := { dst := some 80, op := Op.fieldAddr 71 (Operand.tmp 79) 1, type := 0, pos := "ref.go:121", after := #[{ on := 11, ground := Ground.data }], guard := none }) (v := ?_) rfl (by kernel_rfl) (by kernel_rfl) (by kernel_rfl) (fun _ _ _ h => h) (Or.inl ⟨by rfl, ?hy12⟩) hS0 ?_
      case hy12 => (intro w hSw; (try dsimp only at hSw); go_simp; try with_reducible rfl)
      try simp only [Act.put, List.setIfInBounds_toArray, List.set_cons_zero, List.set_cons_succ]
      refine wpAnyH_take (i := 13) (oi := { dst := some 81, op := Op.load 54 (Operand.tmp 80), type := 54, pos := "ref.go:121", after := #[{ on := 12, ground := Ground.data }], guard := none }) (v := ?_) rfl (by kernel_rfl) (by kernel_rfl) (by kernel_rfl) (fun _ _ _ h => h) (Or.inl ⟨by rfl, ?hy13⟩) hS0 ?_
      case hy13 => (intro w hSw; (try dsimp only at hSw); go_simp; try with_reducible rfl)
      try simp only [Act.put, List.setIfInBounds_toArray, List.set_cons_zero, List.set_cons_succ]
      refine wpAnyH_ready (rs := [1]) (by kernel_rfl) (by simp) ?_
      refine AllReadyH.cons (o := { dst := some 69, op := Op.load 54 (Operand.tmp 68), type := 54, pos := "ref.go:121", after := #[{ on := 0, ground := Ground.data }], guard := none }) rfl (fun K hK => ?_) ?_
      · go_simp
        refine hK.out _ _ ?hs14 (fun hS14 => ?_)
        case hs14 => ((try dsimp only); first | with_reducible exact zD | with_reducible exact zV | with_reducible exact zV3 | with_reducible exact zV4)
        clear hK K hS0
        refine wpAnyH_ready (rs := [14]) (by kernel_rfl) (by simp) ?_
        refine AllReadyH.cons (o := { dst := some 82, op := Op.call { callee := Callee.builtin Builtin.append, args := #[Operand.tmp 69, Operand.tmp 81], argTypes := #[54, 54] }, type := 54, pos := "ref.go:121", after := #[{ on := 1, ground := Ground.data }, { on := 13, ground := Ground.data }], guard := none }) rfl (fun K hK => ?_) ?_
        · refine rs_append_run (by rfl) _ _ _ (by rfl) (by rfl) (by rfl) RUN1.out ?_
          refine hK.out _ _ ?hs15 (fun hS15 => ?_)
          case hs15 => ((try dsimp only); first | with_reducible exact zD | with_reducible exact zV | with_reducible exact zV3 | with_reducible exact zV4)
          clear hK K hS14
          refine wpAnyH_take (i := 15) (oi := { dst := some 83, op := Op.fieldAddr 58 (Operand.tmp 10) 1, type := 0, pos := "ref.go:121", after := #[{ on := 0, ground := Ground.phase }, { on := 1, ground := Ground.phase }, { on := 2, ground := Ground.phase }, { on := 3, ground := Ground.phase }, { on := 4, ground := Ground.phase }, { on := 5, ground := Ground.phase }, { on := 6, ground := Ground.phase }, { on := 7, ground := Ground.phase }, { on := 8, ground := Ground.phase }, { on := 9, ground := Ground.phase }, { on := 10, ground := Ground.phase }, { on := 11, ground := Ground.phase }, { on := 12, ground := Ground.phase }, { on := 13, ground := Ground.phase }, { on := 14, ground := Ground.phase }], guard := none }) (v := ?_) rfl (by kernel_rfl) (by kernel_rfl) (by kernel_rfl) (fun _ _ _ h => h) (Or.inl ⟨by rfl, ?hy16⟩) hS15 ?_
          case hy16 => (intro w hSw; (try dsimp only at hSw); go_simp; try with_reducible rfl)
          try simp only [Act.put, List.setIfInBounds_toArray, List.set_cons_zero, List.set_cons_succ]
          refine wpAnyH_ready (rs := [16]) (by kernel_rfl) (by simp) ?_
          refine AllReadyH.cons (o := { dst := none, op := Op.store 54 (Operand.tmp 83) (Operand.tmp 82), type := 0, pos := "ref.go:121", after := #[{ on := 15, ground := Ground.data }, { on := 14, ground := Ground.data }, { on := 14, ground := Ground.chain }, { on := 0, ground := Ground.phase }, { on := 1, ground := Ground.phase }, { on := 2, ground := Ground.phase }, { on := 3, ground := Ground.phase }, { on := 4, ground := Ground.phase }, { on := 5, ground := Ground.phase }, { on := 6, ground := Ground.phase }, { on := 7, ground := Ground.phase }, { on := 8, ground := Ground.phase }, { on := 9, ground := Ground.phase }, { on := 10, ground := Ground.phase }, { on := 11, ground := Ground.phase }, { on := 12, ground := Ground.phase }, { on := 13, ground := Ground.phase }, { on := 14, ground := Ground.phase }], guard := none }) rfl (fun K hK => ?_) ?_
          · go_simp
            refine hK.out _ _ ?hs17 (fun hS17 => ?_)
            case hs17 => ((try dsimp only); first | with_reducible exact zD | with_reducible exact zV | with_reducible exact zV3 | with_reducible exact zV4)
            clear hK K hS15
            refine wpAnyH_done (by kernel_rfl) ?_ _
            clear zD zV zV3 zV4 yV y3 fz3
            go_wp2_with fail
            go_roundg (l.length - (k + 1))
            case measure => have := G2.out.1; have := G2.out.2; omega
            case rel => first | exact FIN.out | (rw [ek]; exact FIN.out)
          exact AllReadyH.nil
        exact AllReadyH.nil
      exact AllReadyH.nil
    · obtain rfl : k = l.length := Nat.le_antisymm hk (Nat.not_lt.1 hkl)
      rw [List.take_length] at Z
      have t1 : decide ((l.length : Int) < (l.length : Int)) = false := decide_eq_false (Int.lt_irrefl _)
      have t2 : decide (l.length < l.length) = false := decide_eq_false (Nat.lt_irrefl _)
      obtain ⟨ga, gc, rfl, -⟩ := own_slice Z.grow
      have ek : wrap64 ((q : Int) + 1) = (q : Int) + 1 := by unfold wrap64; omega
      have k5 : (0 : Int) ≤ (q : Int) + 1 := by omega
      have k6 : (q : Int) + 1 ≤ (ids.length : Int) := by omega
      have k7 : ((q : Int) + 1).toNat = q + 1 := by omega
      have hcap := Z.cap y7
      have k8 : (q : Int) ≤ (vc : Int) := by omega
      have k9 : q ≤ vc := by omega
      by_cases hv : vc = q + 1
      · obtain ⟨rg, rc, W3, a', c', W4, run1, e7, run2, f7, z7, PF⟩ := Z.unr hids hq hqi y7 (A := ⟨gq, 0, none⟩) (c := 0) (fun h => absurd h (by omega))
        have hn0 : ids.length - (q + 1) = 0 := by omega
        have hn1 : ids.length = q + 1 := by omega
        have hv0 : vc - (q + 1) = 0 := by omega
        have hn2 : ids.length - 1 = q := by omega
        rw [hn0] at run1 run2
        rw [hn2] at run2 PF
        have y7a : (wr.alloc (.cells #[] 91)).cell? ⟨r, 7, none⟩ = some (.slice (some ⟨gq, 0, none⟩) ids.length vc) := past y7
        have FIN := Lib.hid (PF.done (m := m) (er := 0) (nu := 0))
        have TH := Lib.hid PF.thr
        have RT := Lib.hid PF.tell
        have RUN1 := Lib.hid run1
        have RUN2 := Lib.hid run2
        clear hk hgk hkl hfr hbq hs erl run1 run2 PF Z hqi hn hcap
        go_upto_region 16 with fail
        clear y2 t1 t2
        go_upto_region 17 with (((with_reducible show wpList _ _ _ ({ dst := some 92, op := _, type := _, pos := _, after := _, guard := _ } :: _) _ _); refine rl_append_run (by rfl) _ _ _ (by rfl) (by rfl) (by rfl) RUN1.out ?_))
        clear y7 y7a RUN1
        go_upto_region 18 with (((with_reducible show wpList _ _ _ ({ dst := some 102, op := _, type := _, pos := _, after := _, guard := _ } :: _) _ _); refine rl_append_run (by rfl) _ _ _ (by rfl) (by rfl) (by rfl) RUN2.out ?_))
        clear e7 f7 z7
        generalize W4.setCell ⟨r, 7, none⟩ (.slice a' q c') = W5 at *
        generalize (frefs l).length = ng at *
        refine wp_region_lit ?_
        refine wpList_load_mid rfl 58 _ rfl tb 0 rfl _ _ RT.out Try.underlying58 rfl size58 ?_
        try simp only [Act.put, List.setIfInBounds_toArray, List.set_cons_zero, List.set_cons_succ]
        refine wpList_store_mid rfl 58 _ _ rfl rb 0 #[.int .i64 0, .int .i64 0, .slice none 0 0, .slice ga ng gc] rfl rfl TH.out size58 (by simp [Value.oneCell']) ?_
        try simp only [Act.put, List.setIfInBounds_toArray, List.set_cons_zero, List.set_cons_succ]
        go_wp2_with fail
        exact bodyPost_ret (v := .agg #[.int .i64 0, .int .i64 0, .slice none 0 0, .slice ga ng gc]) (res_cell (a := 8) rfl rfl (run_loadVar_mid _ rb 0 58 _ _ (World.rangeAt_setCells_same _ rb 0 _ TH.out) Try.underlying58 rfl size58)) rfl FIN.out
      · obtain ⟨rg, rc, W3, a', c', W4, run1, e7, run2, f7, z7, PF⟩ := Z.unr hids hq hqi y7 (A := ⟨gq, (q + 1) * 3, none⟩) (c := vc - (q + 1)) (fun h => rfl)
        have y7a : (wr.alloc (.cells #[] 91)).cell? ⟨r, 7, none⟩ = some (.slice (some ⟨gq, 0, none⟩) ids.length vc) := past y7
        have FIN := Lib.hid (PF.done (m := m) (er := 0) (nu := 0))
        have TH := Lib.hid PF.thr
        have RT := Lib.hid PF.tell
        have RUN1 := Lib.hid run1
        have RUN2 := Lib.hid run2
        clear hk hgk hkl hfr hbq hs erl run1 run2 PF Z hqi hn hcap
        go_upto_region 16 with fail
        clear y2 t1 t2
        go_upto_region 17 with (((with_reducible show wpList _ _ _ ({ dst := some 92, op := _, type := _, pos := _, after := _, guard := _ } :: _) _ _); refine rl_append_run (by rfl) _ _ _ (by rfl) (by rfl) (by rfl) RUN1.out ?_))
        clear y7 y7a RUN1
        go_upto_region 18 with (((with_reducible show wpList _ _ _ ({ dst := some 102, op := _, type := _, pos := _, after := _, guard := _ } :: _) _ _); refine rl_append_run (by rfl) _ _ _ (by rfl) (by rfl) (by rfl) RUN2.out ?_))
        clear e7 f7 z7
        generalize W4.setCell ⟨r, 7, none⟩ (.slice a' (ids.length - 1) c') = W5 at *
        generalize (frefs l).length = ng at *
        refine wp_region_lit ?_
        refine wpList_load_mid rfl 58 _ rfl tb 0 rfl _ _ RT.out Try.underlying58 rfl size58 ?_
        try simp only [Act.put, List.setIfInBounds_toArray, List.set_cons_zero, List.set_cons_succ]
        refine wpList_store_mid rfl 58 _ _ rfl rb 0 #[.int .i64 0, .int .i64 0, .slice none 0 0, .slice ga ng gc] rfl rfl TH.out size58 (by simp [Value.oneCell']) ?_
        try simp only [Act.put, List.setIfInBounds_toArray, List.set_cons_zero, List.set_cons_succ]
        go_wp2_with fail
        exact bodyPost_ret (v := .agg #[.int .i64 0, .int .i64 0, .slice none 0 0, .slice ga ng gc]) (res_cell (a := 8) rfl rfl (run_loadVar_mid _ rb 0 58 _ _ (World.rangeAt_setCells_same _ rb 0 _ TH.out) Try.underlying58 rfl size58)) rfl FIN.out
end
end Go.Proofs.Ytepmealhnnoahaa
namespace Go.Proofs.Ytepmealhnnoahaa
set_option linter.unusedSimpArgs false
open Go.ChangeShapes Go.WideShapes Go.ChangeAt Go.RowKit
set_option linter.unusedVariables false
section
variable {w wr W V W5 : World} {r base : Nat} {qu ou : Int} {N E : Nat → Prop} {ids ids' : List Int} {S S' : DS} {i : Int} {ua : Option Addr} {n uc : Nat} {lo : Bool} {qb tb rb : Nat} {ms ms' : List (List (List Int))} {mv mv' : Value} {gl gl' : List (Int × Int)} {gv gv' : Value}
theorem QS.fin {aa ga : Option Addr} {ac gc : Nat} (Z : QS w N i ua n uc lo qb tb rb ms (.slice aa ms.length ac) gl (.slice ga gl.length gc) V) (hr : Blk V r 33) (T : Turn (ZD r base N V) V W5) (hd : DocAt W5 r base qu ou N (fun q => N q ∨ w.heap.size ≤ q) ids S') (m : Nat) :
    W5.rangeAt tb 0 [.int .i64 0, .int .i64 0, .slice aa ms.length ac, .slice ga gl.length gc] ∧ W5.there rb 0 4 ∧
    DoPost w r base qu ou N ids ⟨S', m, 0, 0, ms, gl⟩ (.returned (.agg #[.int .i64 0, .int .i64 0, .slice aa ms.length ac, .slice ga gl.length gc])) (W5.setCells rb 0 [.int .i64 0, .int .i64 0, .slice aa ms.length ac, .slice ga gl.length gc]) := by
  have zt : ∀ {b : Nat} {t : TypeId}, Blk V b t → (t ≠ 33 ∧ t ≠ 91 ∧ t ≠ 71) → ¬ ZD r base N V b := fun hb ht => zd_ty hb hr ht
  have brb := Z.brb.turn T (zt Z.brb (by decide))
  have T2 : Turn (fun q => q = rb) W5 (W5.setCells rb 0 [.int .i64 0, .int .i64 0, .slice aa ms.length ac, .slice ga gl.length gc]) := Turn.setCells _ _ (Turn.refl _ _) (.inl rfl)
  have zr : ∀ {b : Nat} {t : TypeId}, Blk W5 b t → t ≠ 58 → ¬ b = rb := fun hb ht e => hb.ne brb ht e
  have tm : ∀ k, MTy V k → ¬ ZD r base N V k := fun k t => by
    rcases t with t | t | t
    · exact zt t (by decide)
    · exact zt t (by decide)
    · exact zt t (by decide)
  have mrow : MRow W5 w.heap.size (fun q => N q ∨ w.heap.size ≤ q) (.slice aa ms.length ac) ms := by
    obtain ⟨ps, p1, p2, p3⟩ := Z.mrow.ex
    exact ⟨ps, p1, own_turn p2 T (fun q hq => zt (own_blkD p2 hq).1 (by decide)), fun j l p hl hp => ((p3 j l p hl hp).typed.turn T (fun k _ z => by
      by_cases t : MTy V k
      · exact absurd z (tm k t)
      · exact .inr t)).weak (fun k q => .inl q)⟩
  exact ⟨range_turn Z.tell T (zt Z.btb (by decide)), range_there (range_turn Z.rr T (zt Z.brb (by decide))) rfl brb, aa, ga, ac, gc, rfl, hd.turn T2 (zr hd.bl (by decide)) (fun k hk => zr hk (by decide)) (fun k hk z => absurd z (zr hk (by decide))) (fun k z t => absurd z (t.ne brb (by decide))),
    mrow.turn T2 (fun k _ z => .inr (by rw [z]; exact Z.new.2.2)) (fun q hq => zr (mrow.blk hq).1 (by decide)), own_turn (own_turn Z.grow T (fun q hq => zt (own_blkD Z.grow hq).1 (by decide))) T2 (fun q hq => zr ((own_blkD Z.grow hq).1.turn T (zt (own_blkD Z.grow hq).1 (by decide))) (by decide)),
    ((Z.turn.more (fun _ _ f => f.elim)).comp T (fun q hq z => ZD_back (Z.turn.more (fun _ _ f => f.elim)) hq z)).comp T2 (fun q hq e => by have := Z.new.2.2; omega)⟩
theorem wrapQ {j c n : Nat} (h : j < c) (h2 : c ≤ n) (h3 : n ≤ 100000) : wrap64 ((j : Int) + 1) = (j : Int) + 1 := by unfold wrap64; omega
theorem mapQ (l : List Fnd) (j : Nat) (h : l.length ≤ 100000) : ((l.take j).map (·.sets)).length ≤ 1000000 := by rw [List.length_map, List.length_take]; omega
theorem refQ (l : List Fnd) (j : Nat) (h : (frefs l).length ≤ 100000) {n : Nat} (hn : n ≤ 1000) : (frefs (l.take j)).length + n ≤ 1000000 := by
  have := frefs_take l j
  omega
def QL (w : World) (N : Nat → Prop) (i : Int) (ua : Option Addr) (uc : Nat) (lo : Bool) (qb tb rb : Nat) (l : List Fnd) (c gh : Nat) (v9 : Value) (wr : World) : Prop :=
  ∃ (j : Nat) (mv gv : Value), v9 = .int .i64 (j : Int) ∧ j ≤ c ∧ gh = c - j ∧ QS w N i ua l.length uc lo qb tb rb ((l.take j).map (·.sets)) mv (frefs (l.take j)) gv wr
set_option maxRecDepth 100000 in
set_option maxHeartbeats 8000000 in
theorem DocAt.poll_some (h : DocAt w r base qu ou N N ids S) (hids : ids.length ≤ 1000) (hN : ∀ q, N q → q < w.heap.size) (i n s g : Int) (hn : ¬ n < 1) {l : List Fnd} {lo : Bool} (hs : S i = some (l, lo)) (hlo : l.length ≠ 0 ∨ lo = false) (hl : l.length ≤ 100000 ∧ (frefs l).length ≤ 100000) {c : Nat} (hc : min n (l.length : Int) = (c : Int)) (m : Nat) :
    Calls Try.prog 35 #[.pointer (some ⟨r, 0, none⟩), .agg (cmdL 4 i n s g).toArray] w (DoPost w r base qu ou N ids ⟨updI S i (some (l.drop c, lo)), m, 0, 0, (l.take c).map (·.sets), frefs (l.take c)⟩) := by
  obtain ⟨W0, hW0⟩ : ∃ W0, W0 = w.alloc (.cells (cmdL 4 i n s g).toArray 43) := ⟨_, rfl⟩
  have T0 : Turn (fun _ => False) w W0 := by rw [hW0]; exact (Turn.refl _ w).alloc _
  have R0 : W0.rangeAt w.heap.size 0 (cmdL 4 i n s g) := by rw [hW0]; exact range_new w (cmdL 4 i n s g) 43
  have Z0 : W0.heap.size = w.heap.size + 1 := by rw [hW0, World.size_alloc]
  obtain ⟨W1, hW1⟩ : ∃ W1, W1 = W0.alloc (.cells #[.int .i64 0, .int .i64 0, .slice none 0 0, .slice none 0 0] 58) := ⟨_, rfl⟩
  have T1 : Turn (fun _ => False) W0 W1 := by rw [hW1]; exact (Turn.refl _ W0).alloc _
  have B1 : Blk W1 (w.heap.size + 1) 58 := by rw [hW1, ← Z0]; exact Blk.new W0 [.int .i64 0, .int .i64 0, .slice none 0 0, .slice none 0 0] 58
  have R1 : W1.rangeAt (w.heap.size + 1) 0 [.int .i64 0, .int .i64 0, .slice none 0 0, .slice none 0 0] := by rw [hW1, ← Z0]; exact range_new W0 [.int .i64 0, .int .i64 0, .slice none 0 0, .slice none 0 0] 58
  have c2 : W1.cell? ⟨w.heap.size, 2, none⟩ = some (.int .i64 n) := T1.cell id (R0 2 _ rfl)
  have FOLD := Lib.hid (show W1 = (w.alloc (.cells (cmdL 4 i n s g).toArray 43)).alloc (.cells #[.int .i64 0, .int .i64 0, .slice none 0 0, .slice none 0 0] 58) from by rw [hW1, hW0])
  have t1 : decide (n < 1) = false := decide_eq_false hn
  have c1 : W1.cell? ⟨w.heap.size, 1, none⟩ = some (.int .i64 i) := T1.cell id (R0 1 _ rfl)
  have hd := h.turn (T0.trans T1) id (fun _ _ f => f) (fun _ _ f => f.elim) (fun _ f => f.elim)
  obtain ⟨q, l', lo', hq, hqi, hp, hs2⟩ : ∃ q l lo, q < ids.length ∧ ids.getD q 0 = i ∧ posD ids i = (q : Int) ∧ S i = some (l, lo) := by
    rcases h.pos i with ⟨hs3, _⟩ | hh
    · rw [hs] at hs3; cases hs3
    · exact hh
  clear hs2 l' lo'
  have FD := hd.find hids i
  rw [hp] at FD
  have FD := Lib.hid FD
  have hT01 := T0.trans T1
  obtain ⟨va, vc, gq, ua, uc, rfl, y7, hbq, y1, y2, y3, hfr, -⟩ := h.at hq
  have erl : rowS S (ids.getD q 0) = l := by unfold rowS; rw [hqi, hs]; rfl
  have elo : lostS S i = lo := by unfold lostS; rw [hs]; rfl
  rw [erl] at y2 hfr
  rw [hqi] at y1
  rw [hqi, elo] at y3
  have HY := Lib.hid (And.intro y7 y2)
  replace y7 := hT01.cell id y7
  replace y1 := hT01.cell id y1
  replace y2 := hT01.cell id y2
  replace y3 := hT01.cell id y3
  have q0 : (0 : Int) ≤ (q : Int) := Int.natCast_nonneg q
  have q1 : (q : Int) < (ids.length : Int) := Int.ofNat_lt.2 hq
  have q2 : decide ((q : Int) < 0) = false := decide_eq_false (Int.not_lt.2 q0)
  have hcl : c ≤ l.length := by omega
  have HL := Lib.hid (And.intro hl (And.intro hcl (And.intro hlo (And.intro hqi hs))))
  have HQ := Lib.hid (And.intro hq (And.intro hids (And.intro hN hbq)))
  have HH := Lib.hid (And.intro h hd)
  have HF := Lib.hid hfr
  have HB := Lib.hid (And.intro hT01 (And.intro B1 (And.intro R1 hbq)))
  have HS : W1.heap.size = w.heap.size + 2 := by rw [hW1, World.size_alloc, Z0]
  have hS2 := Lib.hid HS
  have cN : W1.cell? ⟨w.heap.size, 2, none⟩ = some (.int .i64 n) := c2
  have hc2 := Lib.hid hc
  clear hW0 T0 R0 Z0 hW1 T1 B1 R1 hn h hids hs hp hd hfr hbq hq hqi erl elo hl hcl hlo hN hT01 HS hc
  unfold cmdL at FOLD ⊢
  go_enter Try.func35, Try.ntmps35
  go_upto_region 1 with fail
  rw [← FOLD.out]
  clear FOLD
  generalize hrb : w.heap.size + 1 = rb at *
  go_wp2_with fail
  with_reducible refine FD.out.mono ?_
  rintro en W5 ⟨rfl, rfl⟩
  go_upto_region 7 with fail
  have TX : Turn (fun _ => False) W1 (W1.alloc (.cells #[.int .i64 i, .slice ua l.length uc, .bool lo] 91)) := (Turn.refl _ W1).alloc _
  have BX : Blk (W1.alloc (.cells #[.int .i64 i, .slice ua l.length uc, .bool lo] 91)) W1.heap.size 91 := Blk.new W1 [.int .i64 i, .slice ua l.length uc, .bool lo] 91
  have RX : (W1.alloc (.cells #[.int .i64 i, .slice ua l.length uc, .bool lo] 91)).rangeAt W1.heap.size 0 [.int .i64 i, .slice ua l.length uc, .bool lo] := range_new W1 [.int .i64 i, .slice ua l.length uc, .bool lo] 91
  generalize (W1.alloc (.cells #[.int .i64 i, .slice ua l.length uc, .bool lo] 91)) = W2 at *
  have x1 := RX 1 _ rfl
  have x2 := RX 2 _ rfl
  rw [Nat.zero_add] at x1 x2
  have d2 := TX.cell id c2
  clear FD y7 y1 y2 y3 c1 c2 cN
  go_cut [37] from 10 (fun v37 wx => v37 = .bool false ∧ wx = W2)
  case first =>
    obtain ⟨_, _, hlo, _, _⟩ := HL.out
    by_cases hn0 : l.length = 0
    · obtain rfl : lo = false := hlo.resolve_left (fun h => h hn0)
      have e0 : ((l.length : Int) == 0) = true := by rw [hn0]; rfl
      go_wp2_with fail
      go_meet
      case rel => exact ⟨rfl, rfl⟩
    · have e0 : ((l.length : Int) == 0) = false := beq_eq_false_iff_ne.2 (by omega)
      go_wp2_with fail
      go_meet
      case rel => exact ⟨rfl, rfl⟩
  case rest =>
  obtain ⟨rfl, rfl⟩ := hcut
  have TA : Turn (fun _ => False) wc (wc.alloc (.cells #[.int .i64 0, .int .i64 0, .slice none 0 0, .slice none 0 0] 58)) := (Turn.refl _ wc).alloc _
  have BA : Blk (wc.alloc (.cells #[.int .i64 0, .int .i64 0, .slice none 0 0, .slice none 0 0] 58)) wc.heap.size 58 := Blk.new wc [.int .i64 0, .int .i64 0, .slice none 0 0, .slice none 0 0] 58
  have RA : (wc.alloc (.cells #[.int .i64 0, .int .i64 0, .slice none 0 0, .slice none 0 0] 58)).rangeAt wc.heap.size 0 [.int .i64 0, .int .i64 0, .slice none 0 0, .slice none 0 0] := range_new wc [.int .i64 0, .int .i64 0, .slice none 0 0, .slice none 0 0] 58
  go_upto_region 10 with fail
  generalize (wc.alloc (.cells #[.int .i64 0, .int .i64 0, .slice none 0 0, .slice none 0 0] 58)) = W3 at *
  have w1 := TA.cell id x1
  have w2 := TA.cell id d2
  have hmin : (if (l.length : Int) < n then (l.length : Int) else n) = (c : Int) := by
    rw [← hc2.out]
    split <;> omega
  have Q0 : QL w N i ua uc lo W1.heap.size wc.heap.size rb l c c (.int .i64 0) W3 := ⟨0, _, _, rfl, Nat.zero_le _, rfl, by
    obtain ⟨T01, B1, R1, _⟩ := HB.out
    have TT := TX.trans TA
    exact ⟨range_turn RX TA id, BX.turn TA id, RA, BA, range_turn R1 TT id, B1.turn TT id, by have := hS2.out; have := TX.size; have := BX.lt; omega, by have := hS2.out; have := BX.lt; omega, MRow.nil _ _ _, ⟨rfl, .inl ⟨rfl, rfl⟩⟩, T01.trans TT⟩⟩
  clear x1 x2 d2 TX BX RX TA BA RA hS2 HB
  generalize W1.heap.size = qb at *
  generalize wc.heap.size = tb at *
  clear hrb
  go_upto_region 11 with fail
  clear hmin
  go_wp2_with fail
  clear w1 w2
  go_loopg [9] c (fun gh v9 wr => QL w N i ua uc lo qb tb rb l c gh v9 wr)
  case atStart => exact Q0
  case round =>
    clear Q0
    obtain ⟨j, mv, gv, rfl, hj, hgj, Z⟩ := hrel
    rename World => wj
    obtain ⟨hl, hcl, _, hqi, hs⟩ := HL.out
    have z1 : wj.cell? ⟨qb, 1, none⟩ = some (.slice ua l.length uc) := Z.box 1 _ rfl
    obtain ⟨aa, ac, rfl⟩ := Z.mrow.sl
    obtain ⟨ga, gc, rfl, -⟩ := own_slice Z.grow
    by_cases hjl : j < c
    · obtain ⟨f, hf⟩ : ∃ f, l[j]? = some f := ⟨_, List.getElem?_eq_getElem (Nat.lt_of_lt_of_le hjl hcl)⟩
      obtain ⟨ub, rfl, hub⟩ := frow_some HF.out hf
      obtain ⟨vs, vr, hx, fx⟩ := HF.out.at hf
      have hx0 := hx 0 _ rfl
      have hx1 := hx 1 _ rfl
      rw [Nat.add_zero] at hx0
      obtain ⟨sa, sc, rfl⟩ := fx.sets.sl
      obtain ⟨ra, rc, rfl⟩ := fx.refs.sl
      have t1 : decide ((j : Int) < (c : Int)) = true := decide_eq_true (Int.ofNat_lt.2 hjl)
      have t2 : decide (j < c) = true := decide_eq_true hjl
      have j0 : (0 : Int) ≤ (j : Int) := Int.natCast_nonneg j
      have j1 : (j : Int) < (l.length : Int) := Int.ofNat_lt.2 (Nat.lt_of_lt_of_le hjl hcl)
      have ej := wrapQ hjl hcl hl.1
      obtain ⟨ms, hms⟩ : ∃ ms, (l.take j).map (·.sets) = ms := ⟨_, rfl⟩
      obtain ⟨gl, hgl⟩ : ∃ gl, frefs (l.take j) = gl := ⟨_, rfl⟩
      have hml : ms.length ≤ 1000000 := by rw [← hms]; exact mapQ l j hl.1
      have gx : gl.length + f.refs.length ≤ 1000000 := by rw [← hgl]; exact refQ l j hl.2 fx.r2
      rw [hms, hgl] at Z
      have STEP := Lib.hid (show ∀ mv' gv' W, QS w N i (some ⟨ub, 0, none⟩) l.length uc lo qb tb rb (ms ++ [f.sets]) mv' (gl ++ f.refs) gv' W → QL w N i (some ⟨ub, 0, none⟩) uc lo qb tb rb l c (c - (j + 1)) (.int .i64 ((j : Int) + 1)) W from fun mv' gv' W z => ⟨j + 1, mv', gv', congrArg (Value.int .i64) (Int.natCast_succ j).symm, hjl, rfl, by
        have em : (l.take (j + 1)).map (·.sets) = ms ++ [f.sets] := by rw [List.take_add_one, hf, List.map_append, hms]; rfl
        rw [frefs_step hf, hgl, em]; exact z⟩)
      have G2 := Lib.hid (And.intro hgj hjl)
      have GX := Lib.hid gx
      obtain ⟨V, hV⟩ : ∃ V, V = wj.drew := ⟨_, rfl⟩
      have TV : Turn (fun _ => False) wj V := by rw [hV]; exact (Turn.refl _ wj).drewN 1
      have ZV := Z.turns TV
      have TT := Z.turn.trans TV
      have fV := ((fx.room).weak (N' := fun q => N q ∨ w.heap.size ≤ q) (fun k n => n.elim (fun n => .inl (fun x => x n)) .inr)).turn TT (fun _ _ f => f.elim)
      obtain ⟨a', c', W', hrun, ZF, c2, b2, T'⟩ := ZV.match_ hml fV.sets
      have bub := hub.turn TT id
      have nm : ∀ {b : Nat} {t : TypeId}, Blk V b t → t ≠ 69 → ¬ (Value.slice aa ms.length ac).ownBlock = some b := fun hb ht e => (ZV.mrow.blk e).1.ne hb (fun z => ht z.symm) rfl
      have nt : ∀ {b : Nat} {t : TypeId}, Blk V b t → t ≠ 69 → t ≠ 58 → tb ≠ b := fun hb ht h2 => b2.ne (hb.turn T' (nm hb ht)) (fun z => h2 z.symm)
      have zV : V.cell? ⟨qb, 1, none⟩ = some (.slice (some ⟨ub, 0, none⟩) l.length uc) ∧ V.cell? ⟨ub, j * 2, none⟩ = some (.slice (some ⟨sa, 0, none⟩) f.sets.length sc) := ⟨ZV.box 1 _ rfl, TT.cell id hx0⟩
      have zD := zV
      rw [hV] at zD
      have zV1 : (V.alloc (.cells #[.slice (some ⟨sa, 0, none⟩) f.sets.length sc] 69)).cell? ⟨qb, 1, none⟩ = some (.slice (some ⟨ub, 0, none⟩) l.length uc) ∧ (V.alloc (.cells #[.slice (some ⟨sa, 0, none⟩) f.sets.length sc] 69)).cell? ⟨ub, j * 2, none⟩ = some (.slice (some ⟨sa, 0, none⟩) f.sets.length sc) := ⟨past zV.1, past zV.2⟩
      have zV3 : W'.cell? ⟨qb, 1, none⟩ = some (.slice (some ⟨ub, 0, none⟩) l.length uc) ∧ W'.cell? ⟨ub, j * 2, none⟩ = some (.slice (some ⟨sa, 0, none⟩) f.sets.length sc) := ⟨T'.cell (nm ZV.bqb (by decide)) zV.1, T'.cell (nm bub (by decide)) zV.2⟩
      have zV4 : (W'.setCell ⟨tb, 2, none⟩ (.slice a' (ms.length + 1) c')).cell? ⟨qb, 1, none⟩ = some (.slice (some ⟨ub, 0, none⟩) l.length uc) ∧ (W'.setCell ⟨tb, 2, none⟩ (.slice a' (ms.length + 1) c')).cell? ⟨ub, j * 2, none⟩ = some (.slice (some ⟨sa, 0, none⟩) f.sets.length sc) := ⟨(cell_far _ _ _ _ _ _ (nt ZV.bqb (by decide) (by decide))).trans zV3.1, (cell_far _ _ _ _ _ _ (nt bub (by decide) (by decide))).trans zV3.2⟩
      have yV : V.cell? ⟨tb, 2, none⟩ = some (.slice aa ms.length ac) := ZV.tell 2 _ rfl
      have yV1 : (V.alloc (.cells #[.slice (some ⟨sa, 0, none⟩) f.sets.length sc] 69)).cell? ⟨tb, 2, none⟩ = some (.slice aa ms.length ac) := past yV
      have y3 := c2
      have fz3 : W'.frozen? ⟨tb, 2, none⟩ = false := b2.fz _
      have RUN1 := Lib.hid hrun
      have HZF := Lib.hid ZF
      have HFX := Lib.hid (And.intro fx (And.intro hub hx1))
      clear gx hms hgl hml TV ZV TT fV hrun ZF c2 b2 T' bub nm nt hx0 hx1 fx hub hx hf Z hj hgj hjl hl hcl hqi hs
      go_upto_region 14 with fail
      clear z1
      refine wp_region_held_drew (S := (fun w' => w'.cell? ⟨qb, 1, none⟩ = some (.slice (some ⟨ub, 0, none⟩) l.length uc) ∧ w'.cell? ⟨ub, j * 2, none⟩ = some (.slice (some ⟨sa, 0, none⟩) f.sets.length sc))) (by kernel_rfl) ?hs0 (fun hS0 => ?_)
      case hs0 => ((try dsimp only); first | with_reducible exact zD | with_reducible exact zV | with_reducible exact zV1 | with_reducible exact zV3 | with_reducible exact zV4)
      rw [← hV] at hS0 ⊢
      clear hV
      refine wpAnyH_take (i := 0) (oi := { dst := some 52, op := Op.fieldAddr 58 (Operand.tmp 7) 0, type := 0, pos := "ref.go:98", after := #[], guard := none }) (v := ?_) rfl (by kernel_rfl) (by kernel_rfl) (by kernel_rfl) (fun _ _ _ h => h) (Or.inl ⟨by rfl, ?hy1⟩) hS0 ?_
      case hy1 => (intro w hSw; (try dsimp only at hSw); go_simp; try with_reducible rfl)
      try simp only [Act.put, List.setIfInBounds_toArray, List.set_cons_zero, List.set_cons_succ]
      refine wpAnyH_take (i := 1) (oi := { dst := some 53, op := Op.fieldAddr 53 (Operand.tmp 52) 2, type := 0, pos := "ref.go:98", after := #[{ on := 0, ground := Ground.data }], guard := none }) (v := ?_) rfl (by kernel_rfl) (by kernel_rfl) (by kernel_rfl) (fun _ _ _ h => h) (Or.inl ⟨by rfl, ?hy2⟩) hS0 ?_
      case hy2 => (intro w hSw; (try dsimp only at hSw); go_simp; try with_reducible rfl)
      try simp only [Act.put, List.setIfInBounds_toArray, List.set_cons_zero, List.set_cons_succ]
      refine wpAnyH_take (i := 3) (oi := { dst := some 55, op := Op.fieldAddr 91 (Operand.tmp 6) 1, type := 0, pos := "ref.go:98", after := #[], guard := none }) (v := ?_) rfl (by kernel_rfl) (by kernel_rfl) (by kernel_rfl) (fun _ _ _ h => h) (Or.inl ⟨by rfl, ?hy3⟩) hS0 ?_
      case hy3 => (intro w hSw; (try dsimp only at hSw); go_simp; try with_reducible rfl)
      try simp only [Act.put, List.setIfInBounds_toArray, List.set_cons_zero, List.set_cons_succ]
      refine wpAnyH_take (i := 4) (oi := { dst := some 56, op := Op.load 89 (Operand.tmp 55), type := 89, pos := "ref.go:98", after := #[{ on := 3, ground := Ground.data }], guard := none }) (v := ?_) rfl (by kernel_rfl) (by kernel_rfl) (by kernel_rfl) (fun _ _ _ h => h) (Or.inl ⟨by rfl, ?hy4⟩) hS0 ?_
      case hy4 => (intro w hSw; (try dsimp only at hSw); go_simp; try with_reducible rfl)
      try simp only [Act.put, List.setIfInBounds_toArray, List.set_cons_zero, List.set_cons_succ]
      refine wpAnyH_take (i := 5) (oi := { dst := some 57, op := Op.move (Operand.tmp 9), type := 3, pos := "ref.go:98", after := #[], guard := none }) (v := ?_) rfl (by kernel_rfl) (by kernel_rfl) (by kernel_rfl) (fun _ _ _ h => h) (Or.inl ⟨by rfl, ?hy5⟩) hS0 ?_
      case hy5 => (intro w hSw; (try dsimp only at hSw); go_simp; try with_reducible rfl)
      try simp only [Act.put, List.setIfInBounds_toArray, List.set_cons_zero, List.set_cons_succ]
      refine wpAnyH_take (i := 6) (oi := { dst := some 58, op := Op.indexAddr 89 (Operand.tmp 56) (Operand.tmp 57), type := 0, pos := "ref.go:98", after := #[{ on := 4, ground := Ground.data }, { on := 5, ground := Ground.data }], guard := none }) (v := ?_) rfl (by kernel_rfl) (by kernel_rfl) (by kernel_rfl) (fun _ _ _ h => h) (Or.inl ⟨by rfl, ?hy6⟩) hS0 ?_
      case hy6 => (intro w hSw; (try dsimp only at hSw); go_simp; try with_reducible rfl)
      try simp only [Act.put, List.setIfInBounds_toArray, List.set_cons_zero, List.set_cons_succ]
      refine wpAnyH_take (i := 7) (oi := { dst := some 59, op := Op.fieldAddr 71 (Operand.tmp 58) 0, type := 0, pos := "ref.go:98", after := #[{ on := 6, ground := Ground.data }], guard := none }) (v := ?_) rfl (by kernel_rfl) (by kernel_rfl) (by kernel_rfl) (fun _ _ _ h => h) (Or.inl ⟨by rfl, ?hy7⟩) hS0 ?_
      case hy7 => (intro w hSw; (try dsimp only at hSw); go_simp; try with_reducible rfl)
      try simp only [Act.put, List.setIfInBounds_toArray, List.set_cons_zero, List.set_cons_succ]
      refine wpAnyH_take (i := 8) (oi := { dst := some 60, op := Op.load 69 (Operand.tmp 59), type := 69, pos := "ref.go:98", after := #[{ on := 7, ground := Ground.data }], guard := none }) (v := ?_) rfl (by kernel_rfl) (by kernel_rfl) (by kernel_rfl) (fun _ _ _ h => h) (Or.inl ⟨by rfl, ?hy8⟩) hS0 ?_
      case hy8 => (intro w hSw; (try dsimp only at hSw); go_simp; try with_reducible rfl)
      try simp only [Act.put, List.setIfInBounds_toArray, List.set_cons_zero, List.set_cons_succ]
      refine wpAnyH_ready (rs := [2, 9]) (by kernel_rfl) (by simp) ?_
      refine AllReadyH.cons (o := { dst := some 54, op := Op.load 51 (Operand.tmp 53), type := 51, pos := "ref.go:98", after := #[{ on := 1, ground := Ground.data }], guard := none }) rfl (fun K hK => ?_) ?_
      · go_simp
        refine hK.out _ _ ?hs9 (fun hS9 => ?_)
        case hs9 => ((try dsimp only); first | with_reducible exact zD | with_reducible exact zV | with_reducible exact zV1 | with_reducible exact zV3 | with_reducible exact zV4)
        clear hK K hS0
        refine wpAnyH_ready (rs := [9]) (by kernel_rfl) (by simp) ?_
        refine AllReadyH.cons (o := { dst := some 61, op := Op.buildSlice 51 1 #[(0, Operand.tmp 60)], type := 51, pos := "ref.go:98", after := #[{ on := 8, ground := Ground.data }], guard := none }) rfl (fun K hK => ?_) ?_
        · go_simp
          refine hK.out _ _ ?hs10 (fun hS10 => ?_)
          case hs10 => ((try dsimp only); first | with_reducible exact zD | with_reducible exact zV | with_reducible exact zV1 | with_reducible exact zV3 | with_reducible exact zV4)
          clear hK K hS9
          refine wpAnyH_ready (rs := [10]) (by kernel_rfl) (by simp) ?_
          refine AllReadyH.cons (o := { dst := some 62, op := Op.call { callee := Callee.builtin Builtin.append, args := #[Operand.tmp 54, Operand.tmp 61], argTypes := #[51, 51] }, type := 51, pos := "ref.go:98", after := #[{ on := 2, ground := Ground.data }, { on := 9, ground := Ground.data }], guard := none }) rfl (fun K hK => ?_) ?_
          · refine rs_append_run (by rfl) _ _ _ (by rfl) (by rfl) (by rfl) RUN1.out ?_
            refine hK.out _ _ ?hs11 (fun hS11 => ?_)
            case hs11 => ((try dsimp only); first | with_reducible exact zD | with_reducible exact zV | with_reducible exact zV1 | with_reducible exact zV3 | with_reducible exact zV4)
            clear hK K hS10
            refine wpAnyH_take (i := 11) (oi := { dst := some 63, op := Op.fieldAddr 58 (Operand.tmp 7) 0, type := 0, pos := "ref.go:98", after := #[{ on := 0, ground := Ground.phase }, { on := 1, ground := Ground.phase }, { on := 2, ground := Ground.phase }, { on := 3, ground := Ground.phase }, { on := 4, ground := Ground.phase }, { on := 5, ground := Ground.phase }, { on := 6, ground := Ground.phase }, { on := 7, ground := Ground.phase }, { on := 8, ground := Ground.phase }, { on := 9, ground := Ground.phase }, { on := 10, ground := Ground.phase }], guard := none }) (v := ?_) rfl (by kernel_rfl) (by kernel_rfl) (by kernel_rfl) (fun _ _ _ h => h) (Or.inl ⟨by rfl, ?hy12⟩) hS11 ?_
            case hy12 => (intro w hSw; (try dsimp only at hSw); go_simp; try with_reducible rfl)
            try simp only [Act.put, List.setIfInBounds_toArray, List.set_cons_zero, List.set_cons_succ]
            refine wpAnyH_take (i := 12) (oi := { dst := some 64, op := Op.fieldAddr 53 (Operand.tmp 63) 2, type := 0, pos := "ref.go:98", after := #[{ on := 11, ground := Ground.data }, { on := 0, ground := Ground.phase }, { on := 1, ground := Ground.phase }, { on := 2, ground := Ground.phase }, { on := 3, ground := Ground.phase }, { on := 4, ground := Ground.phase }, { on := 5, ground := Ground.phase }, { on := 6, ground := Ground.phase }, { on := 7, ground := Ground.phase }, { on := 8, ground := Ground.phase }, { on := 9, ground := Ground.phase }, { on := 10, ground := Ground.phase }], guard := none }) (v := ?_) rfl (by kernel_rfl) (by kernel_rfl) (by kernel_rfl) (fun _ _ _ h => h) (Or.inl ⟨by rfl, ?hy13⟩) hS11 ?_
            case hy13 => (intro w hSw; (try dsimp only at hSw); go_simp; try with_reducible rfl)
            try simp only [Act.put, List.setIfInBounds_toArray, List.set_cons_zero, List.set_cons_succ]
            refine wpAnyH_ready (rs := [13]) (by kernel_rfl) (by simp) ?_
            refine AllReadyH.cons (o := { dst := none, op := Op.store 51 (Operand.tmp 64) (Operand.tmp 62), type := 0, pos := "ref.go:98", after := #[{ on := 12, ground := Ground.data }, { on := 10, ground := Ground.data }, { on := 10, ground := Ground.chain }, { on := 0, ground := Ground.phase }, { on := 1, ground := Ground.phase }, { on := 2, ground := Ground.phase }, { on := 3, ground := Ground.phase }, { on := 4, ground := Ground.phase }, { on := 5, ground := Ground.phase }, { on := 6, ground := Ground.phase }, { on := 7, ground := Ground.phase }, { on := 8, ground := Ground.phase }, { on := 9, ground := Ground.phase }, { on := 10, ground := Ground.phase }], guard := none }) rfl (fun K hK => ?_) ?_
            · go_simp
              refine hK.out _ _ ?hs14 (fun hS14 => ?_)
              case hs14 => ((try dsimp only); first | with_reducible exact zD | with_reducible exact zV | with_reducible exact zV1 | with_reducible exact zV3 | with_reducible exact zV4)
              clear hK K hS11
              refine wpAnyH_done (by kernel_rfl) ?_ _
              clear zD zV zV1 zV3 zV4 yV yV1 y3 fz3 RUN1
              have Z4 := HZF.out
              clear HZF
              generalize W'.setCell ⟨tb, 2, none⟩ (.slice a' (ms.length + 1) c') = W4 at *
              obtain ⟨fx, hub, hx1⟩ := HFX.out
              have gx := GX.out
              have z1 : W4.cell? ⟨qb, 1, none⟩ = some (.slice (some ⟨ub, 0, none⟩) l.length uc) := Z4.box 1 _ rfl
              obtain ⟨V, hV⟩ : ∃ V, V = W4.drew := ⟨_, rfl⟩
              have TV : Turn (fun _ => False) W4 V := by rw [hV]; exact (Turn.refl _ W4).drewN 1
              have ZV := Z4.turns TV
              have TT := Z4.turn.trans TV
              have fV := fx.turn TT (fun _ _ f => f.elim)
              obtain ⟨v', W3, hrun, own', T', -⟩ := app_refsI ZV.grow (refsin_row fV.refs) gx ZV.sz 54
              obtain ⟨PF, c3, b3⟩ := ZV.refs T' own'
              have bub := hub.turn TT id
              have ng : ∀ {b : Nat} {t : TypeId}, Blk V b t → t ≠ 38 → ¬ (Value.slice ga gl.length gc).ownBlock = some b := fun hb ht e => (own_blkD ZV.grow e).1.ne hb (fun z => ht z.symm) rfl
              have nr : ∀ {b : Nat} {t : TypeId}, Blk V b t → t ≠ 38 → t ≠ 58 → tb ≠ b := fun hb ht h2 => b3.ne (hb.turn T' (ng hb ht)) (fun z => h2 z.symm)
              have zV : V.cell? ⟨qb, 1, none⟩ = some (.slice (some ⟨ub, 0, none⟩) l.length uc) ∧ V.cell? ⟨ub, j * 2 + 1, none⟩ = some (.slice (some ⟨ra, 0, none⟩) f.refs.length rc) := ⟨ZV.box 1 _ rfl, TT.cell id hx1⟩
              have zD := zV
              rw [hV] at zD
              have zV3 : W3.cell? ⟨qb, 1, none⟩ = some (.slice (some ⟨ub, 0, none⟩) l.length uc) ∧ W3.cell? ⟨ub, j * 2 + 1, none⟩ = some (.slice (some ⟨ra, 0, none⟩) f.refs.length rc) := ⟨T'.cell (ng ZV.bqb (by decide)) zV.1, T'.cell (ng bub (by decide)) zV.2⟩
              have zV4 : (W3.setCell ⟨tb, 3, none⟩ v').cell? ⟨qb, 1, none⟩ = some (.slice (some ⟨ub, 0, none⟩) l.length uc) ∧ (W3.setCell ⟨tb, 3, none⟩ v').cell? ⟨ub, j * 2 + 1, none⟩ = some (.slice (some ⟨ra, 0, none⟩) f.refs.length rc) := ⟨(cell_far _ _ _ _ _ _ (nr ZV.bqb (by decide) (by decide))).trans zV3.1, (cell_far _ _ _ _ _ _ (nr bub (by decide) (by decide))).trans zV3.2⟩
              have yV : V.cell? ⟨tb, 3, none⟩ = some (.slice ga gl.length gc) := ZV.tell 3 _ rfl
              have y3 := c3
              have fz3 : W3.frozen? ⟨tb, 3, none⟩ = false := b3.fz _
              have FIN := Lib.hid (STEP.out _ v' _ PF)
              obtain ⟨an, cn, rfl, -⟩ := own_slice own'
              generalize (gl ++ f.refs).length = ng' at *
              have RUN2 := Lib.hid hrun
              clear TV ZV TT fV hrun own' T' PF c3 b3 ng nr bub hx1 fx hub Z4 gx
              go_upto_region 15 with fail
              clear z1
              refine wp_region_held_drew (S := (fun w' => w'.cell? ⟨qb, 1, none⟩ = some (.slice (some ⟨ub, 0, none⟩) l.length uc) ∧ w'.cell? ⟨ub, j * 2 + 1, none⟩ = some (.slice (some ⟨ra, 0, none⟩) f.refs.length rc))) (by kernel_rfl) ?hs0 (fun hS0 => ?_)
              case hs0 => ((try dsimp only); first | with_reducible exact zD | with_reducible exact zV | with_reducible exact zV3 | with_reducible exact zV4)
              rw [← hV] at hS0 ⊢
              clear hV
              refine wpAnyH_take (i := 0) (oi := { dst := some 65, op := Op.fieldAddr 58 (Operand.tmp 7) 1, type := 0, pos := "ref.go:99", after := #[], guard := none }) (v := ?_) rfl (by kernel_rfl) (by kernel_rfl) (by kernel_rfl) (fun _ _ _ h => h) (Or.inl ⟨by rfl, ?hy1⟩) hS0 ?_
              case hy1 => (intro w hSw; (try dsimp only at hSw); go_simp; try with_reducible rfl)
              try simp only [Act.put, List.setIfInBounds_toArray, List.set_cons_zero, List.set_cons_succ]
              refine wpAnyH_take (i := 2) (oi := { dst := some 67, op := Op.fieldAddr 91 (Operand.tmp 6) 1, type := 0, pos := "ref.go:99", after := #[], guard := none }) (v := ?_) rfl (by kernel_rfl) (by kernel_rfl) (by kernel_rfl) (fun _ _ _ h => h) (Or.inl ⟨by rfl, ?hy2⟩) hS0 ?_
              case hy2 => (intro w hSw; (try dsimp only at hSw); go_simp; try with_reducible rfl)
              try simp only [Act.put, List.setIfInBounds_toArray, List.set_cons_zero, List.set_cons_succ]
              refine wpAnyH_take (i := 3) (oi := { dst := some 68, op := Op.load 89 (Operand.tmp 67), type := 89, pos := "ref.go:99", after := #[{ on := 2, ground := Ground.data }], guard := none }) (v := ?_) rfl (by kernel_rfl) (by kernel_rfl) (by kernel_rfl) (fun _ _ _ h => h) (Or.inl ⟨by rfl, ?hy3⟩) hS0 ?_
              case hy3 => (intro w hSw; (try dsimp only at hSw); go_simp; try with_reducible rfl)
              try simp only [Act.put, List.setIfInBounds_toArray, List.set_cons_zero, List.set_cons_succ]
              refine wpAnyH_take (i := 4) (oi := { dst := some 69, op := Op.move (Operand.tmp 9), type := 3, pos := "ref.go:99", after := #[], guard := none }) (v := ?_) rfl (by kernel_rfl) (by kernel_rfl) (by kernel_rfl) (fun _ _ _ h => h) (Or.inl ⟨by rfl, ?hy4⟩) hS0 ?_
              case hy4 => (intro w hSw; (try dsimp only at hSw); go_simp; try with_reducible rfl)
              try simp only [Act.put, List.setIfInBounds_toArray, List.set_cons_zero, List.set_cons_succ]
              refine wpAnyH_take (i := 5) (oi := { dst := some 70, op := Op.indexAddr 89 (Operand.tmp 68) (Operand.tmp 69), type := 0, pos := "ref.go:99", after := #[{ on := 3, ground := Ground.data }, { on := 4, ground := Ground.data }], guard := none }) (v := ?_) rfl (by kernel_rfl) (by kernel_rfl) (by kernel_rfl) (fun _ _ _ h => h) (Or.inl ⟨by rfl, ?hy5⟩) hS0 ?_
              case hy5 => (intro w hSw; (try dsimp only at hSw); go_simp; try with_reducible rfl)
              try simp only [Act.put, List.setIfInBounds_toArray, List.set_cons_zero, List.set_cons_succ]
              refine wpAnyH_take (i := 6) (oi := { dst := some 71, op := Op.fieldAddr 71 (Operand.tmp 70) 1, type := 0, pos := "ref.go:99", after := #[{ on := 5, ground := Ground.data }], guard := none }) (v := ?_) rfl (by kernel_rfl) (by kernel_rfl) (by kernel_rfl) (fun _ _ _ h => h) (Or.inl ⟨by rfl, ?hy6⟩) hS0 ?_
              case hy6 => (intro w hSw; (try dsimp only at hSw); go_simp; try with_reducible rfl)
              try simp only [Act.put, List.setIfInBounds_toArray, List.set_cons_zero, List.set_cons_succ]
              refine wpAnyH_take (i := 7) (oi := { dst := some 72, op := Op.load 54 (Operand.tmp 71), type := 54, pos := "ref.go:99", after := #[{ on := 6, ground := Ground.data }], guard := none }) (v := ?_) rfl (by kernel_rfl) (by kernel_rfl) (by kernel_rfl) (fun _ _ _ h => h) (Or.inl ⟨by rfl, ?hy7⟩) hS0 ?_
              case hy7 => (intro w hSw; (try dsimp only at hSw); go_simp; try with_reducible rfl)
              try simp only [Act.put, List.setIfInBounds_toArray, List.set_cons_zero, List.set_cons_succ]
              refine wpAnyH_ready (rs := [1]) (by kernel_rfl) (by simp) ?_
              refine AllReadyH.cons (o := { dst := some 66, op := Op.load 54 (Operand.tmp 65), type := 54, pos := "ref.go:99", after := #[{ on := 0, ground := Ground.data }], guard := none }) rfl (fun K hK => ?_) ?_
              · go_simp
                refine hK.out _ _ ?hs8 (fun hS8 => ?_)
                case hs8 => ((try dsimp only); first | with_reducible exact zD | with_reducible exact zV | with_reducible exact zV3 | with_reducible exact zV4)
                clear hK K hS0
                refine wpAnyH_ready (rs := [8]) (by kernel_rfl) (by simp) ?_
                refine AllReadyH.cons (o := { dst := some 73, op := Op.call { callee := Callee.builtin Builtin.append, args := #[Operand.tmp 66, Operand.tmp 72], argTypes := #[54, 54] }, type := 54, pos := "ref.go:99", after := #[{ on := 1, ground := Ground.data }, { on := 7, ground := Ground.data }], guard := none }) rfl (fun K hK => ?_) ?_
                · refine rs_append_run (by rfl) _ _ _ (by rfl) (by rfl) (by rfl) RUN2.out ?_
                  refine hK.out _ _ ?hs9 (fun hS9 => ?_)
                  case hs9 => ((try dsimp only); first | with_reducible exact zD | with_reducible exact zV | with_reducible exact zV3 | with_reducible exact zV4)
                  clear hK K hS8
                  refine wpAnyH_take (i := 9) (oi := { dst := some 74, op := Op.fieldAddr 58 (Operand.tmp 7) 1, type := 0, pos := "ref.go:99", after := #[{ on := 0, ground := Ground.phase }, { on := 1, ground := Ground.phase }, { on := 2, ground := Ground.phase }, { on := 3, ground := Ground.phase }, { on := 4, ground := Ground.phase }, { on := 5, ground := Ground.phase }, { on := 6, ground := Ground.phase }, { on := 7, ground := Ground.phase }, { on := 8, ground := Ground.phase }], guard := none }) (v := ?_) rfl (by kernel_rfl) (by kernel_rfl) (by kernel_rfl) (fun _ _ _ h => h) (Or.inl ⟨by rfl, ?hy10⟩) hS9 ?_
                  case hy10 => (intro w hSw; (try dsimp only at hSw); go_simp; try with_reducible rfl)
                  try simp only [Act.put, List.setIfInBounds_toArray, List.set_cons_zero, List.set_cons_succ]
                  refine wpAnyH_ready (rs := [10]) (by kernel_rfl) (by simp) ?_
                  refine AllReadyH.cons (o := { dst := none, op := Op.store 54 (Operand.tmp 74) (Operand.tmp 73), type := 0, pos := "ref.go:99", after := #[{ on := 9, ground := Ground.data }, { on := 8, ground := Ground.data }, { on := 8, ground := Ground.chain }, { on := 0, ground := Ground.phase }, { on := 1, ground := Ground.phase }, { on := 2, ground := Ground.phase }, { on := 3, ground := Ground.phase }, { on := 4, ground := Ground.phase }, { on := 5, ground := Ground.phase }, { on := 6, ground := Ground.phase }, { on := 7, ground := Ground.phase }, { on := 8, ground := Ground.phase }], guard := none }) rfl (fun K hK => ?_) ?_
                  · go_simp
                    refine hK.out _ _ ?hs11 (fun hS11 => ?_)
                    case hs11 => ((try dsimp only); first | with_reducible exact zD | with_reducible exact zV | with_reducible exact zV3 | with_reducible exact zV4)
                    clear hK K hS9
                    refine wpAnyH_done (by kernel_rfl) ?_ _
                    clear zD zV zV3 zV4 yV y3 fz3
                    go_wp2_with fail
                    go_roundg (c - (j + 1))
                    case measure => have := G2.out.1; have := G2.out.2; omega
                    case rel => first | exact FIN.out | (rw [ej]; exact FIN.out)
                  exact AllReadyH.nil
                exact AllReadyH.nil
              exact AllReadyH.nil
            exact AllReadyH.nil
          exact AllReadyH.nil
        exact AllReadyH.nil
      refine AllReadyH.cons (o := { dst := some 61, op := Op.buildSlice 51 1 #[(0, Operand.tmp 60)], type := 51, pos := "ref.go:98", after := #[{ on := 8, ground := Ground.data }], guard := none }) rfl (fun K hK => ?_) ?_
      · go_simp
        refine hK.out _ _ ?hs15 (fun hS15 => ?_)
        case hs15 => ((try dsimp only); first | with_reducible exact zD | with_reducible exact zV | with_reducible exact zV1 | with_reducible exact zV3 | with_reducible exact zV4)
        clear hK K hS0
        refine wpAnyH_ready (rs := [2]) (by kernel_rfl) (by simp) ?_
        refine AllReadyH.cons (o := { dst := some 54, op := Op.load 51 (Operand.tmp 53), type := 51, pos := "ref.go:98", after := #[{ on := 1, ground := Ground.data }], guard := none }) rfl (fun K hK => ?_) ?_
        · go_simp
          refine hK.out _ _ ?hs16 (fun hS16 => ?_)
          case hs16 => ((try dsimp only); first | with_reducible exact zD | with_reducible exact zV | with_reducible exact zV1 | with_reducible exact zV3 | with_reducible exact zV4)
          clear hK K hS15
          refine wpAnyH_ready (rs := [10]) (by kernel_rfl) (by simp) ?_
          refine AllReadyH.cons (o := { dst := some 62, op := Op.call { callee := Callee.builtin Builtin.append, args := #[Operand.tmp 54, Operand.tmp 61], argTypes := #[51, 51] }, type := 51, pos := "ref.go:98", after := #[{ on := 2, ground := Ground.data }, { on := 9, ground := Ground.data }], guard := none }) rfl (fun K hK => ?_) ?_
          · refine rs_append_run (by rfl) _ _ _ (by rfl) (by rfl) (by rfl) RUN1.out ?_
            refine hK.out _ _ ?hs17 (fun hS17 => ?_)
            case hs17 => ((try dsimp only); first | with_reducible exact zD | with_reducible exact zV | with_reducible exact zV1 | with_reducible exact zV3 | with_reducible exact zV4)
            clear hK K hS16
            refine wpAnyH_take (i := 11) (oi := { dst := some 63, op := Op.fieldAddr 58 (Operand.tmp 7) 0, type := 0, pos := "ref.go:98", after := #[{ on := 0, ground := Ground.phase }, { on := 1, ground := Ground.phase }, { on := 2, ground := Ground.phase }, { on := 3, ground := Ground.phase }, { on := 4, ground := Ground.phase }, { on := 5, ground := Ground.phase }, { on := 6, ground := Ground.phase }, { on := 7, ground := Ground.phase }, { on := 8, ground := Ground.phase }, { on := 9, ground := Ground.phase }, { on := 10, ground := Ground.phase }], guard := none }) (v := ?_) rfl (by kernel_rfl) (by kernel_rfl) (by kernel_rfl) (fun _ _ _ h => h) (Or.inl ⟨by rfl, ?hy18⟩) hS17 ?_
            case hy18 => (intro w hSw; (try dsimp only at hSw); go_simp; try with_reducible rfl)
            try simp only [Act.put, List.setIfInBounds_toArray, List.set_cons_zero, List.set_cons_succ]
            refine wpAnyH_take (i := 12) (oi := { dst := some 64, op := Op.fieldAddr 53 (Operand.tmp 63) 2, type := 0, pos := "ref.go:98", after := #[{ on := 11, ground := Ground.data }, { on := 0, ground := Ground.phase }, { on := 1, ground := Ground.phase }, { on := 2, ground := Ground.phase }, { on := 3, ground := Ground.phase }, { on := 4, ground := Ground.phase }, { on := 5, ground := Ground.phase }, { on := 6, ground := Ground.phase }, { on := 7, ground := Ground.phase }, { on := 8, ground := Ground.phase }, { on := 9, ground := Ground.phase }, { on := 10, ground := Ground.phase }], guard := none }) (v := ?_) rfl (by kernel_rfl) (by kernel_rfl) (by kernel_rfl) (fun _ _ _ h => h) (Or.inl ⟨by rfl, ?hy19⟩) hS17 ?_
            case hy19 => (intro w hSw; (try dsimp only at hSw); go_simp; try with_reducible rfl)
            try simp only [Act.put, List.setIfInBounds_toArray, List.set_cons_zero, List.set_cons_succ]
            refine wpAnyH_ready (rs := [13]) (by kernel_rfl) (by simp) ?_
            refine AllReadyH.cons (o := { dst := none, op := Op.store 51 (Operand.tmp 64) (Operand.tmp 62), type := 0, pos := "ref.go:98", after := #[{ on := 12, ground := Ground.data }, { on := 10, ground := Ground.data }, { on := 10, ground := Ground.chain }, { on := 0, ground := Ground.phase }, { on := 1, ground := Ground.phase }, { on := 2, ground := Ground.phase }, { on := 3, ground := Ground.phase }, { on := 4, ground := Ground.phase }, { on := 5, ground := Ground.phase }, { on := 6, ground := Ground.phase }, { on := 7, ground := Ground.phase }, { on := 8, ground := Ground.phase }, { on := 9, ground := Ground.phase }, { on := 10, ground := Ground.phase }], guard := none }) rfl (fun K hK => ?_) ?_
            · go_simp
              refine hK.out _ _ ?hs20 (fun hS20 => ?_)
              case hs20 => ((try dsimp only); first | with_reducible exact zD | with_reducible exact zV | with_reducible exact zV1 | with_reducible exact zV3 | with_reducible exact zV4)
              clear hK K hS17
              refine wpAnyH_done (by kernel_rfl) ?_ _
              clear zD zV zV1 zV3 zV4 yV yV1 y3 fz3 RUN1
              have Z4 := HZF.out
              clear HZF
              generalize W'.setCell ⟨tb, 2, none⟩ (.slice a' (ms.length + 1) c') = W4 at *
              obtain ⟨fx, hub, hx1⟩ := HFX.out
              have gx := GX.out
              have z1 : W4.cell? ⟨qb, 1, none⟩ = some (.slice (some ⟨ub, 0, none⟩) l.length uc) := Z4.box 1 _ rfl
              obtain ⟨V, hV⟩ : ∃ V, V = W4.drew := ⟨_, rfl⟩
              have TV : Turn (fun _ => False) W4 V := by rw [hV]; exact (Turn.refl _ W4).drewN 1
              have ZV := Z4.turns TV
              have TT := Z4.turn.trans TV
              have fV := fx.turn TT (fun _ _ f => f.elim)
              obtain ⟨v', W3, hrun, own', T', -⟩ := app_refsI ZV.grow (refsin_row fV.refs) gx ZV.sz 54
              obtain ⟨PF, c3, b3⟩ := ZV.refs T' own'
              have bub := hub.turn TT id
              have ng : ∀ {b : Nat} {t : TypeId}, Blk V b t → t ≠ 38 → ¬ (Value.slice ga gl.length gc).ownBlock = some b := fun hb ht e => (own_blkD ZV.grow e).1.ne hb (fun z => ht z.symm) rfl
              have nr : ∀ {b : Nat} {t : TypeId}, Blk V b t → t ≠ 38 → t ≠ 58 → tb ≠ b := fun hb ht h2 => b3.ne (hb.turn T' (ng hb ht)) (fun z => h2 z.symm)
              have zV : V.cell? ⟨qb, 1, none⟩ = some (.slice (some ⟨ub, 0, none⟩) l.length uc) ∧ V.cell? ⟨ub, j * 2 + 1, none⟩ = some (.slice (some ⟨ra, 0, none⟩) f.refs.length rc) := ⟨ZV.box 1 _ rfl, TT.cell id hx1⟩
              have zD := zV
              rw [hV] at zD
              have zV3 : W3.cell? ⟨qb, 1, none⟩ = some (.slice (some ⟨ub, 0, none⟩) l.length uc) ∧ W3.cell? ⟨ub, j * 2 + 1, none⟩ = some (.slice (some ⟨ra, 0, none⟩) f.refs.length rc) := ⟨T'.cell (ng ZV.bqb (by decide)) zV.1, T'.cell (ng bub (by decide)) zV.2⟩
              have zV4 : (W3.setCell ⟨tb, 3, none⟩ v').cell? ⟨qb, 1, none⟩ = some (.slice (some ⟨ub, 0, none⟩) l.length uc) ∧ (W3.setCell ⟨tb, 3, none⟩ v').cell? ⟨ub, j * 2 + 1, none⟩ = some (.slice (some ⟨ra, 0, none⟩) f.refs.length rc) := ⟨(cell_far _ _ _ _ _ _ (nr ZV.bqb (by decide) (by decide))).trans zV3.1, (cell_far _ _ _ _ _ _ (nr bub (by decide) (by decide))).trans zV3.2⟩
              have yV : V.cell? ⟨tb, 3, none⟩ = some (.slice ga gl.length gc) := ZV.tell 3 _ rfl
              have y3 := c3
              have fz3 : W3.frozen? ⟨tb, 3, none⟩ = false := b3.fz _
              have FIN := Lib.hid (STEP.out _ v' _ PF)
              obtain ⟨an, cn, rfl, -⟩ := own_slice own'
              generalize (gl ++ f.refs).length = ng' at *
              have RUN2 := Lib.hid hrun
              clear TV ZV TT fV hrun own' T' PF c3 b3 ng nr bub hx1 fx hub Z4 gx
              go_upto_region 15 with fail
              clear z1
              refine wp_region_held_drew (S := (fun w' => w'.cell? ⟨qb, 1, none⟩ = some (.slice (some ⟨ub, 0, none⟩) l.length uc) ∧ w'.cell? ⟨ub, j * 2 + 1, none⟩ = some (.slice (some ⟨ra, 0, none⟩) f.refs.length rc))) (by kernel_rfl) ?hs0 (fun hS0 => ?_)
              case hs0 => ((try dsimp only); first | with_reducible exact zD | with_reducible exact zV | with_reducible exact zV3 | with_reducible exact zV4)
              rw [← hV] at hS0 ⊢
              clear hV
              refine wpAnyH_take (i := 0) (oi := { dst := some 65, op := Op.fieldAddr 58 (Operand.tmp 7) 1, type := 0, pos := "ref.go:99", after := #[], guard := none }) (v := ?_) rfl (by kernel_rfl) (by kernel_rfl) (by kernel_rfl) (fun _ _ _ h => h) (Or.inl ⟨by rfl, ?hy1⟩) hS0 ?_
              case hy1 => (intro w hSw; (try dsimp only at hSw); go_simp; try with_reducible rfl)
              try simp only [Act.put, List.setIfInBounds_toArray, List.set_cons_zero, List.set_cons_succ]
              refine wpAnyH_take (i := 2) (oi := { dst := some 67, op := Op.fieldAddr 91 (Operand.tmp 6) 1, type := 0, pos := "ref.go:99", after := #[], guard := none }) (v := ?_) rfl (by kernel_rfl) (by kernel_rfl) (by kernel_rfl) (fun _ _ _ h => h) (Or.inl ⟨by rfl, ?hy2⟩) hS0 ?_
              case hy2 => (intro w hSw; (try dsimp only at hSw); go_simp; try with_reducible rfl)
              try simp only [Act.put, List.setIfInBounds_toArray, List.set_cons_zero, List.set_cons_succ]
              refine wpAnyH_take (i := 3) (oi := { dst := some 68, op := Op.load 89 (Operand.tmp 67), type := 89, pos := "ref.go:99", after := #[{ on := 2, ground := Ground.data }], guard := none }) (v := ?_) rfl (by kernel_rfl) (by kernel_rfl) (by kernel_rfl) (fun _ _ _ h => h) (Or.inl ⟨by rfl, ?hy3⟩) hS0 ?_
              case hy3 => (intro w hSw; (try dsimp only at hSw); go_simp; try with_reducible rfl)
              try simp only [Act.put, List.setIfInBounds_toArray, List.set_cons_zero, List.set_cons_succ]
              refine wpAnyH_take (i := 4) (oi := { dst := some 69, op := Op.move (Operand.tmp 9), type := 3, pos := "ref.go:99", after := #[], guard := none }) (v := ?_) rfl (by kernel_rfl) (by kernel_rfl) (by kernel_rfl) (fun _ _ _ h => h) (Or.inl ⟨by rfl, ?hy4⟩) hS0 ?_
              case hy4 => (intro w hSw; (try dsimp only at hSw); go_simp; try with_reducible rfl)
              try simp only [Act.put, List.setIfInBounds_toArray, List.set_cons_zero, List.set_cons_succ]
              refine wpAnyH_take (i := 5) (oi := { dst := some 70, op := Op.indexAddr 89 (Operand.tmp 68) (Operand.tmp 69), type := 0, pos := "ref.go:99", after := #[{ on := 3, ground := Ground.data }, { on := 4, ground := Ground.data }], guard := none }) (v := ?_) rfl (by kernel_rfl) (by kernel_rfl) (by kernel_rfl) (fun _ _ _ h => h) (Or.inl ⟨by rfl, ?hy5⟩) hS0 ?_
              case hy5 => (intro w hSw; (try dsimp only at hSw); go_simp; try with_reducible rfl)
              try simp only [Act.put, List.setIfInBounds_toArray, List.set_cons_zero, List.set_cons_succ]
              refine wpAnyH_take (i := 6) (oi := { dst := some 71, op := Op.fieldAddr 71 (Operand.tmp 70) 1, type := 0, pos := "ref.go:99", after := #[{ on := 5, ground := Ground.data }], guard := none }) (v := ?_) rfl (by kernel_rfl) (by kernel_rfl) (by kernel_rfl) (fun _ _ _ h => h) (Or.inl ⟨by rfl, ?hy6⟩) hS0 ?_
              case hy6 => (intro w hSw; (try dsimp only at hSw); go_simp; try with_reducible rfl)
              try simp only [Act.put, List.setIfInBounds_toArray, List.set_cons_zero, List.set_cons_succ]
              refine wpAnyH_take (i := 7) (oi := { dst := some 72, op := Op.load 54 (Operand.tmp 71), type := 54, pos := "ref.go:99", after := #[{ on := 6, ground := Ground.data }], guard := none }) (v := ?_) rfl (by kernel_rfl) (by kernel_rfl) (by kernel_rfl) (fun _ _ _ h => h) (Or.inl ⟨by rfl, ?hy7⟩) hS0 ?_
              case hy7 => (intro w hSw; (try dsimp only at hSw); go_simp; try with_reducible rfl)
              try simp only [Act.put, List.setIfInBounds_toArray, List.set_cons_zero, List.set_cons_succ]
              refine wpAnyH_ready (rs := [1]) (by kernel_rfl) (by simp) ?_
              refine AllReadyH.cons (o := { dst := some 66, op := Op.load 54 (Operand.tmp 65), type := 54, pos := "ref.go:99", after := #[{ on := 0, ground := Ground.data }], guard := none }) rfl (fun K hK => ?_) ?_
              · go_simp
                refine hK.out _ _ ?hs8 (fun hS8 => ?_)
                case hs8 => ((try dsimp only); first | with_reducible exact zD | with_reducible exact zV | with_reducible exact zV3 | with_reducible exact zV4)
                clear hK K hS0
                refine wpAnyH_ready (rs := [8]) (by kernel_rfl) (by simp) ?_
                refine AllReadyH.cons (o := { dst := some 73, op := Op.call { callee := Callee.builtin Builtin.append, args := #[Operand.tmp 66, Operand.tmp 72], argTypes := #[54, 54] }, type := 54, pos := "ref.go:99", after := #[{ on := 1, ground := Ground.data }, { on := 7, ground := Ground.data }], guard := none }) rfl (fun K hK => ?_) ?_
                · refine rs_append_run (by rfl) _ _ _ (by rfl) (by rfl) (by rfl) RUN2.out ?_
                  refine hK.out _ _ ?hs9 (fun hS9 => ?_)
                  case hs9 => ((try dsimp only); first | with_reducible exact zD | with_reducible exact zV | with_reducible exact zV3 | with_reducible exact zV4)
                  clear hK K hS8
                  refine wpAnyH_take (i := 9) (oi := { dst := some 74, op := Op.fieldAddr 58 (Operand.tmp 7) 1, type := 0, pos := "ref.go:99", after := #[{ on := 0, ground := Ground.phase }, { on := 1, ground := Ground.phase }, { on := 2, ground := Ground.phase }, { on := 3, ground := Ground.phase }, { on := 4, ground := Ground.phase }, { on := 5, ground := Ground.phase }, { on := 6, ground := Ground.phase }, { on := 7, ground := Ground.phase }, { on := 8, ground := Ground.phase }], guard := none }) (v := ?_) rfl (by kernel_rfl) (by kernel_rfl) (by kernel_rfl) (fun _ _ _ h => h) (Or.inl ⟨by rfl, ?hy10⟩) hS9 ?_
                  case hy10 => (intro w hSw; (try dsimp only at hSw); go_simp; try with_reducible rfl)
                  try simp only [Act.put, List.setIfInBounds_toArray, List.set_cons_zero, List.set_cons_succ]
                  refine wpAnyH_ready (rs := [10]) (by kernel_rfl) (by simp) ?_
                  refine AllReadyH.cons (o := { dst := none, op := Op.store 54 (Operand.tmp 74) (Operand.tmp 73), type := 0, pos := "ref.go:99", after := #[{ on := 9, ground := Ground.data }, { on := 8, ground := Ground.data }, { on := 8, ground := Ground.chain }, { on := 0, ground := Ground.phase }, { on := 1, ground := Ground.phase }, { on := 2, ground := Ground.phase }, { on := 3, ground := Ground.phase }, { on := 4, ground := Ground.phase }, { on := 5, ground := Ground.phase }, { on := 6, ground := Ground.phase }, { on := 7, ground := Ground.phase }, { on := 8, ground := Ground.phase }], guard := none }) rfl (fun K hK => ?_) ?_
                  · go_simp
                    refine hK.out _ _ ?hs11 (fun hS11 => ?_)
                    case hs11 => ((try dsimp only); first | with_reducible exact zD | with_reducible exact zV | with_reducible exact zV3 | with_reducible exact zV4)
                    clear hK K hS9
                    refine wpAnyH_done (by kernel_rfl) ?_ _
                    clear zD zV zV3 zV4 yV y3 fz3
                    go_wp2_with fail
                    go_roundg (c - (j + 1))
                    case measure => have := G2.out.1; have := G2.out.2; omega
                    case rel => first | exact FIN.out | (rw [ej]; exact FIN.out)
                  exact AllReadyH.nil
                exact AllReadyH.nil
              exact AllReadyH.nil
            exact AllReadyH.nil
          exact AllReadyH.nil
        exact AllReadyH.nil
      exact AllReadyH.nil
    · obtain rfl : j = c := Nat.le_antisymm hj (Nat.not_lt.1 hjl)
      have t1 : decide ((j : Int) < (j : Int)) = false := decide_eq_false (Int.lt_irrefl _)
      have t2 : decide (j < j) = false := decide_eq_false (Nat.lt_irrefl _)
      obtain ⟨hqr, hids, hN, hbq⟩ := HQ.out
      have h0 := HH.out.1
      obtain ⟨V, hV⟩ : ∃ V, V = wj.drew := ⟨_, rfl⟩
      have TV : Turn (fun _ => False) wj V := by rw [hV]; exact (Turn.refl _ wj).drewN 1
      have ZV := Z.turns TV
      have dV := (h0.other (N' := N) (E' := fun q => N q ∨ w.heap.size ≤ q) (fun k n => .inl n) (fun k e => e)).turn ZV.turn id (fun _ _ f => f) (fun _ _ f => f.elim) (fun _ f => f.elim)
      have y7V := ZV.turn.cell id HY.out.1
      have y2V := ZV.turn.cell id HY.out.2
      obtain ⟨v0, U, X⟩ := dV.x
      have e := X.c7
      rw [y7V] at e
      injection e with e
      subst e
      have eU : U q = .slice ua l.length uc := by
        have := X.qcell hqr 1 _ rfl
        rw [y2V] at this
        injection this with this
        exact this.symm
      have hNV : ∀ q, N q → q < V.heap.size := fun q n => Nat.lt_of_lt_of_le (hN q n) ZV.turn.size
      have nq : qb ≠ gq := fun e => by have := hbq.lt; have := Z.new.1; omega
      have ngr : gq ≠ r := X.b91.ne X.bl (by decide)
      obtain ⟨ps0, hp0, ho0, -⟩ := HF.out.ex
      rcases ho0.2 with ⟨e, -⟩ | ⟨ub, cap', cu, e, hb0, hgg, hnc, -⟩
      · obtain ⟨rfl, e1, rfl⟩ : ua = none ∧ l.length = 0 ∧ uc = 0 := by injection e with z1 z2 z3; exact ⟨z1, z2, z3⟩
        clear e
        obtain rfl : j = 0 := Nat.le_zero.1 (e1 ▸ hcl)
        have hnl := e1
        have z1V : V.cell? ⟨qb, 1, none⟩ = some (.slice none 0 0) := by
          have := ZV.box 1 _ rfl
          rw [e1] at this
          exact this
        rw [e1] at z1
        have hx : X.own = X.own := rfl
        clear hx
        obtain ⟨v', W3, hrun, T3, ⟨a', c', hv'⟩, X2, TR⟩ := X.dropRun hNV hqr hqi hs hl.1 hcl (sv := .slice none 0 0) (fun ps hp ho => .inl ⟨rfl, by rw [List.eq_nil_of_length_eq_zero (hp.trans e1)]; rfl⟩)
        generalize l.length - 0 = nl0 at hv'
        subst hv'
        obtain ⟨RT, TH, FIN⟩ := ZV.fin X.bl TR X2.doc m
        have zV : V.cell? ⟨r, 7, none⟩ = some (.slice (some ⟨gq, 0, none⟩) ids.length vc) ∧ V.cell? ⟨qb, 1, none⟩ = some (.slice none 0 0) := ⟨y7V, z1V⟩
        have zD := zV
        rw [hV] at zD
        have zV1 : (V.alloc (.cells #[] 71)).cell? ⟨r, 7, none⟩ = some (.slice (some ⟨gq, 0, none⟩) ids.length vc) ∧ (V.alloc (.cells #[] 71)).cell? ⟨qb, 1, none⟩ = some (.slice none 0 0) := ⟨past zV.1, past zV.2⟩
        have zV3 : W3.cell? ⟨r, 7, none⟩ = some (.slice (some ⟨gq, 0, none⟩) ids.length vc) ∧ W3.cell? ⟨qb, 1, none⟩ = some (.slice none 0 0) := ⟨T3.cell id zV.1, T3.cell id zV.2⟩
        have zV4 : (W3.setCell ⟨gq, q * 3 + 1, none⟩ (.slice a' nl0 c')).cell? ⟨r, 7, none⟩ = some (.slice (some ⟨gq, 0, none⟩) ids.length vc) ∧ (W3.setCell ⟨gq, q * 3 + 1, none⟩ (.slice a' nl0 c')).cell? ⟨qb, 1, none⟩ = some (.slice none 0 0) := ⟨(cell_far _ _ _ _ _ _ ngr).trans zV3.1, (cell_far _ _ _ _ _ _ (fun e => nq e.symm)).trans zV3.2⟩
        have y3 := T3.cell id y2V
        have fz3 : W3.frozen? ⟨gq, q * 3 + 1, none⟩ = false := (X.b91.turn T3 id).fz _
        have hRT := Lib.hid RT
        have hTH := Lib.hid TH
        have hFIN := Lib.hid FIN
        have hRUN := Lib.hid hrun
        have z1j := z1
        clear Z hj hjl hgj hl hcl hqi hs hqr hids hN hbq h0 TV ZV dV y7V y2V X eU hNV nq ngr ps0 hp0 ho0 hrun T3 X2 TR RT TH FIN z1V HF HQ HH HL HY hnl
        go_upto_region 16 with fail
        clear z1 z1j
        refine wp_region_held_drew (S := (fun w' => w'.cell? ⟨r, 7, none⟩ = some (.slice (some ⟨gq, 0, none⟩) ids.length vc) ∧ w'.cell? ⟨qb, 1, none⟩ = some (.slice none 0 0))) (by kernel_rfl) ?hs0 (fun hS0 => ?_)
        case hs0 => ((try dsimp only); first | with_reducible exact zD | with_reducible exact zV | with_reducible exact zV1 | with_reducible exact zV3 | with_reducible exact zV4)
        rw [← hV] at hS0 ⊢
        clear hV
        refine wpAnyH_take (i := 0) (oi := { dst := some 75, op := Op.move (Operand.tmp 0), type := 30, pos := "ref.go:101", after := #[], guard := none }) (v := ?_) rfl (by kernel_rfl) (by kernel_rfl) (by kernel_rfl) (fun _ _ _ h => h) (Or.inl ⟨by rfl, ?hy1⟩) hS0 ?_
        case hy1 => (intro w hSw; (try dsimp only at hSw); go_simp; try with_reducible rfl)
        try simp only [Act.put, List.setIfInBounds_toArray, List.set_cons_zero, List.set_cons_succ]
        refine wpAnyH_take (i := 1) (oi := { dst := some 76, op := Op.nilCheck (Operand.tmp 75), type := 0, pos := "ref.go:101", after := #[{ on := 0, ground := Ground.data }], guard := none }) (v := ?_) rfl (by kernel_rfl) (by kernel_rfl) (by kernel_rfl) (fun _ _ _ h => h) (Or.inl ⟨by rfl, ?hy2⟩) hS0 ?_
        case hy2 => (intro w hSw; (try dsimp only at hSw); go_simp; try with_reducible rfl)
        try simp only [Act.put, List.setIfInBounds_toArray, List.set_cons_zero, List.set_cons_succ]
        refine wpAnyH_take (i := 2) (oi := { dst := some 77, op := Op.fieldAddr 33 (Operand.tmp 76) 1, type := 0, pos := "ref.go:101", after := #[{ on := 1, ground := Ground.data }], guard := none }) (v := ?_) rfl (by kernel_rfl) (by kernel_rfl) (by kernel_rfl) (fun _ _ _ h => h) (Or.inl ⟨by rfl, ?hy3⟩) hS0 ?_
        case hy3 => (intro w hSw; (try dsimp only at hSw); go_simp; try with_reducible rfl)
        try simp only [Act.put, List.setIfInBounds_toArray, List.set_cons_zero, List.set_cons_succ]
        refine wpAnyH_take (i := 3) (oi := { dst := some 78, op := Op.load 31 (Operand.tmp 77), type := 31, pos := "ref.go:101", after := #[{ on := 2, ground := Ground.data }], guard := none }) (v := ?_) rfl (by kernel_rfl) (by kernel_rfl) (by kernel_rfl) (fun _ _ _ h => h) (Or.inl ⟨by rfl, ?hy4⟩) hS0 ?_
        case hy4 => (intro w hSw; (try dsimp only at hSw); go_simp; try with_reducible rfl)
        try simp only [Act.put, List.setIfInBounds_toArray, List.set_cons_zero, List.set_cons_succ]
        refine wpAnyH_take (i := 4) (oi := { dst := some 79, op := Op.move (Operand.tmp 5), type := 3, pos := "ref.go:101", after := #[], guard := none }) (v := ?_) rfl (by kernel_rfl) (by kernel_rfl) (by kernel_rfl) (fun _ _ _ h => h) (Or.inl ⟨by rfl, ?hy5⟩) hS0 ?_
        case hy5 => (intro w hSw; (try dsimp only at hSw); go_simp; try with_reducible rfl)
        try simp only [Act.put, List.setIfInBounds_toArray, List.set_cons_zero, List.set_cons_succ]
        refine wpAnyH_take (i := 6) (oi := { dst := some 81, op := Op.fieldAddr 91 (Operand.tmp 6) 1, type := 0, pos := "ref.go:101", after := #[], guard := none }) (v := ?_) rfl (by kernel_rfl) (by kernel_rfl) (by kernel_rfl) (fun _ _ _ h => h) (Or.inl ⟨by rfl, ?hy6⟩) hS0 ?_
        case hy6 => (intro w hSw; (try dsimp only at hSw); go_simp; try with_reducible rfl)
        try simp only [Act.put, List.setIfInBounds_toArray, List.set_cons_zero, List.set_cons_succ]
        refine wpAnyH_take (i := 7) (oi := { dst := some 82, op := Op.load 89 (Operand.tmp 81), type := 89, pos := "ref.go:101", after := #[{ on := 6, ground := Ground.data }], guard := none }) (v := ?_) rfl (by kernel_rfl) (by kernel_rfl) (by kernel_rfl) (fun _ _ _ h => h) (Or.inl ⟨by rfl, ?hy7⟩) hS0 ?_
        case hy7 => (intro w hSw; (try dsimp only at hSw); go_simp; try with_reducible rfl)
        try simp only [Act.put, List.setIfInBounds_toArray, List.set_cons_zero, List.set_cons_succ]
        refine wpAnyH_take (i := 8) (oi := { dst := some 83, op := Op.move (Operand.tmp 8), type := 3, pos := "ref.go:101", after := #[], guard := none }) (v := ?_) rfl (by kernel_rfl) (by kernel_rfl) (by kernel_rfl) (fun _ _ _ h => h) (Or.inl ⟨by rfl, ?hy8⟩) hS0 ?_
        case hy8 => (intro w hSw; (try dsimp only at hSw); go_simp; try with_reducible rfl)
        try simp only [Act.put, List.setIfInBounds_toArray, List.set_cons_zero, List.set_cons_succ]
        refine wpAnyH_take (i := 9) (oi := { dst := some 84, op := Op.slice 89 (Operand.tmp 82) (some (Operand.tmp 83)) none none, type := 89, pos := "ref.go:101", after := #[{ on := 7, ground := Ground.data }, { on := 8, ground := Ground.data }], guard := none }) (v := ?_) rfl (by kernel_rfl) (by kernel_rfl) (by kernel_rfl) (fun _ _ _ h => h) (Or.inl ⟨by rfl, ?hy9⟩) hS0 ?_
        case hy9 => (intro w hSw; (try dsimp only at hSw); go_simp; try with_reducible rfl)
        try simp only [Act.put, List.setIfInBounds_toArray, List.set_cons_zero, List.set_cons_succ]
        refine wpAnyH_ready (rs := [5]) (by kernel_rfl) (by simp) ?_
        refine AllReadyH.cons (o := { dst := some 80, op := Op.buildSlice 89 0 #[], type := 89, pos := "ref.go:101", after := #[], guard := none }) rfl (fun K hK => ?_) ?_
        · go_simp
          refine hK.out _ _ ?hs10 (fun hS10 => ?_)
          case hs10 => ((try dsimp only); first | with_reducible exact zD | with_reducible exact zV | with_reducible exact zV1 | with_reducible exact zV3 | with_reducible exact zV4)
          clear hK K hS0
          refine wpAnyH_ready (rs := [10]) (by kernel_rfl) (by simp) ?_
          refine AllReadyH.cons (o := { dst := some 85, op := Op.call { callee := Callee.builtin Builtin.append, args := #[Operand.tmp 80, Operand.tmp 84], argTypes := #[89, 89] }, type := 89, pos := "ref.go:101", after := #[{ on := 5, ground := Ground.data }, { on := 9, ground := Ground.data }], guard := none }) rfl (fun K hK => ?_) ?_
          · refine rs_append_run (by rfl) _ _ _ (by rfl) (by rfl) (by rfl) hRUN.out ?_
            refine hK.out _ _ ?hs11 (fun hS11 => ?_)
            case hs11 => ((try dsimp only); first | with_reducible exact zD | with_reducible exact zV | with_reducible exact zV1 | with_reducible exact zV3 | with_reducible exact zV4)
            clear hK K hS10
            refine wpAnyH_take (i := 11) (oi := { dst := some 86, op := Op.indexAddr 31 (Operand.tmp 78) (Operand.tmp 79), type := 0, pos := "ref.go:101", after := #[{ on := 3, ground := Ground.data }, { on := 4, ground := Ground.data }, { on := 0, ground := Ground.phase }, { on := 1, ground := Ground.phase }, { on := 2, ground := Ground.phase }, { on := 3, ground := Ground.phase }, { on := 4, ground := Ground.phase }, { on := 5, ground := Ground.phase }, { on := 6, ground := Ground.phase }, { on := 7, ground := Ground.phase }, { on := 8, ground := Ground.phase }, { on := 9, ground := Ground.phase }, { on := 10, ground := Ground.phase }], guard := none }) (v := ?_) rfl (by kernel_rfl) (by kernel_rfl) (by kernel_rfl) (fun _ _ _ h => h) (Or.inl ⟨by rfl, ?hy12⟩) hS11 ?_
            case hy12 => (intro w hSw; (try dsimp only at hSw); go_simp; try with_reducible rfl)
            try simp only [Act.put, List.setIfInBounds_toArray, List.set_cons_zero, List.set_cons_succ]
            refine wpAnyH_take (i := 12) (oi := { dst := some 87, op := Op.fieldAddr 91 (Operand.tmp 86) 1, type := 0, pos := "ref.go:101", after := #[{ on := 11, ground := Ground.data }, { on := 0, ground := Ground.phase }, { on := 1, ground := Ground.phase }, { on := 2, ground := Ground.phase }, { on := 3, ground := Ground.phase }, { on := 4, ground := Ground.phase }, { on := 5, ground := Ground.phase }, { on := 6, ground := Ground.phase }, { on := 7, ground := Ground.phase }, { on := 8, ground := Ground.phase }, { on := 9, ground := Ground.phase }, { on := 10, ground := Ground.phase }], guard := none }) (v := ?_) rfl (by kernel_rfl) (by kernel_rfl) (by kernel_rfl) (fun _ _ _ h => h) (Or.inl ⟨by rfl, ?hy13⟩) hS11 ?_
            case hy13 => (intro w hSw; (try dsimp only at hSw); go_simp; try with_reducible rfl)
            try simp only [Act.put, List.setIfInBounds_toArray, List.set_cons_zero, List.set_cons_succ]
            refine wpAnyH_ready (rs := [13]) (by kernel_rfl) (by simp) ?_
            refine AllReadyH.cons (o := { dst := none, op := Op.store 89 (Operand.tmp 87) (Operand.tmp 85), type := 0, pos := "ref.go:101", after := #[{ on := 12, ground := Ground.data }, { on := 10, ground := Ground.data }, { on := 10, ground := Ground.chain }, { on := 0, ground := Ground.phase }, { on := 1, ground := Ground.phase }, { on := 2, ground := Ground.phase }, { on := 3, ground := Ground.phase }, { on := 4, ground := Ground.phase }, { on := 5, ground := Ground.phase }, { on := 6, ground := Ground.phase }, { on := 7, ground := Ground.phase }, { on := 8, ground := Ground.phase }, { on := 9, ground := Ground.phase }, { on := 10, ground := Ground.phase }], guard := none }) rfl (fun K hK => ?_) ?_
            · go_simp
              refine hK.out _ _ ?hs14 (fun hS14 => ?_)
              case hs14 => ((try dsimp only); first | with_reducible exact zD | with_reducible exact zV | with_reducible exact zV1 | with_reducible exact zV3 | with_reducible exact zV4)
              clear hK K hS11
              refine wpAnyH_done (by kernel_rfl) ?_ _
              clear zD zV zV1 zV3 zV4 y3 fz3 hRUN
              generalize W3.setCell ⟨gq, q * 3 + 1, none⟩ (.slice a' nl0 c') = W6 at *
              generalize ((l.take 0).map (·.sets)).length = nm at *
              generalize (frefs (l.take 0)).length = ng at *
              go_upto_region 17 with fail
              refine wp_region_lit ?_
              refine wpList_load_mid rfl 58 _ rfl tb 0 rfl _ _ hRT.out Try.underlying58 rfl size58 ?_
              try simp only [Act.put, List.setIfInBounds_toArray, List.set_cons_zero, List.set_cons_succ]
              refine wpList_store_mid rfl 58 _ _ rfl rb 0 #[.int .i64 0, .int .i64 0, .slice aa nm ac, .slice ga ng gc] rfl rfl hTH.out size58 (by simp [Value.oneCell']) ?_
              try simp only [Act.put, List.setIfInBounds_toArray, List.set_cons_zero, List.set_cons_succ]
              go_wp2_with fail
              exact bodyPost_ret (v := .agg #[.int .i64 0, .int .i64 0, .slice aa nm ac, .slice ga ng gc]) (res_cell (a := 4) rfl rfl (run_loadVar_mid _ rb 0 58 _ _ (World.rangeAt_setCells_same _ rb 0 _ hTH.out) Try.underlying58 rfl size58)) rfl (by first | exact hFIN.out | (have hh := hFIN.out; rw [List.map_take] at hh; exact hh))
            exact AllReadyH.nil
          exact AllReadyH.nil
        exact AllReadyH.nil
      · obtain hv | hv : cap' = j ∨ cap' ≠ j := Classical.em _
        · have hvu : uc = cap' := by injection e
          obtain ⟨rfl, rfl⟩ : ua = some ⟨ub, 0, none⟩ ∧ uc = cap' := by injection e with z1 z2 z3; exact ⟨z1, z3⟩
          have hnl := hnc
          have z1V : V.cell? ⟨qb, 1, none⟩ = some (.slice (some ⟨ub, 0, none⟩) l.length uc) := ZV.box 1 _ rfl
          have s2 : j ≤ uc := Nat.le_trans hcl hnc
          have s3 : (j : Int) ≤ (uc : Int) := Int.ofNat_le.2 s2
          have hv2 : uc = j := hv
          have hn1 : l.length = j := by omega
          have hn0 : l.length - j = 0 := by omega
          have hv0 : uc - j = 0 := by omega
          have hx : X.own = X.own := rfl
          clear hx
          obtain ⟨v', W3, hrun, T3, ⟨a', c', hv'⟩, X2, TR⟩ := X.dropRun hNV hqr hqi hs hl.1 hcl (sv := .slice (some ⟨ub, 0, none⟩) 0 0) (fun ps hp ho => .inr ⟨ub, 0, 0, by rw [hp, hn0], fun x u hu => by rw [List.drop_of_length_le (Nat.le_of_eq (hp.trans hn1))] at hu; cases hu⟩)
          rw [hn0] at hv'
          subst hv'
          obtain ⟨RT, TH, FIN⟩ := ZV.fin X.bl TR X2.doc m
          have zV : V.cell? ⟨r, 7, none⟩ = some (.slice (some ⟨gq, 0, none⟩) ids.length vc) ∧ V.cell? ⟨qb, 1, none⟩ = some (.slice (some ⟨ub, 0, none⟩) l.length uc) := ⟨y7V, z1V⟩
          have zD := zV
          rw [hV] at zD
          have zV1 : (V.alloc (.cells #[] 71)).cell? ⟨r, 7, none⟩ = some (.slice (some ⟨gq, 0, none⟩) ids.length vc) ∧ (V.alloc (.cells #[] 71)).cell? ⟨qb, 1, none⟩ = some (.slice (some ⟨ub, 0, none⟩) l.length uc) := ⟨past zV.1, past zV.2⟩
          have zV3 : W3.cell? ⟨r, 7, none⟩ = some (.slice (some ⟨gq, 0, none⟩) ids.length vc) ∧ W3.cell? ⟨qb, 1, none⟩ = some (.slice (some ⟨ub, 0, none⟩) l.length uc) := ⟨T3.cell id zV.1, T3.cell id zV.2⟩
          have zV4 : (W3.setCell ⟨gq, q * 3 + 1, none⟩ (.slice a' 0 c')).cell? ⟨r, 7, none⟩ = some (.slice (some ⟨gq, 0, none⟩) ids.length vc) ∧ (W3.setCell ⟨gq, q * 3 + 1, none⟩ (.slice a' 0 c')).cell? ⟨qb, 1, none⟩ = some (.slice (some ⟨ub, 0, none⟩) l.length uc) := ⟨(cell_far _ _ _ _ _ _ ngr).trans zV3.1, (cell_far _ _ _ _ _ _ (fun e => nq e.symm)).trans zV3.2⟩
          have y3 := T3.cell id y2V
          have fz3 : W3.frozen? ⟨gq, q * 3 + 1, none⟩ = false := (X.b91.turn T3 id).fz _
          have s0 : (0 : Int) ≤ (j : Int) := Int.natCast_nonneg j
          have s1 : (j : Int) ≤ (l.length : Int) := Int.ofNat_le.2 hcl
          have hRT := Lib.hid RT
          have hTH := Lib.hid TH
          have hFIN := Lib.hid FIN
          have hRUN := Lib.hid hrun
          have z1j := z1
          clear Z hj hjl hgj hl hcl hqi hs hqr hids hN hbq h0 TV ZV dV y7V y2V X eU hNV nq ngr ps0 hp0 ho0 hrun T3 X2 TR RT TH FIN z1V HF HQ HH HL HY hnl e hb0 hgg hnc
          go_upto_region 16 with fail
          clear z1 z1j
          refine wp_region_held_drew (S := (fun w' => w'.cell? ⟨r, 7, none⟩ = some (.slice (some ⟨gq, 0, none⟩) ids.length vc) ∧ w'.cell? ⟨qb, 1, none⟩ = some (.slice (some ⟨ub, 0, none⟩) l.length uc))) (by kernel_rfl) ?hs0 (fun hS0 => ?_)
          case hs0 => ((try dsimp only); first | with_reducible exact zD | with_reducible exact zV | with_reducible exact zV1 | with_reducible exact zV3 | with_reducible exact zV4)
          rw [← hV] at hS0 ⊢
          clear hV
          refine wpAnyH_take (i := 0) (oi := { dst := some 75, op := Op.move (Operand.tmp 0), type := 30, pos := "ref.go:101", after := #[], guard := none }) (v := ?_) rfl (by kernel_rfl) (by kernel_rfl) (by kernel_rfl) (fun _ _ _ h => h) (Or.inl ⟨by rfl, ?hy1⟩) hS0 ?_
          case hy1 => (intro w hSw; (try dsimp only at hSw); go_simp; try with_reducible rfl)
          try simp only [Act.put, List.setIfInBounds_toArray, List.set_cons_zero, List.set_cons_succ]
          refine wpAnyH_take (i := 1) (oi := { dst := some 76, op := Op.nilCheck (Operand.tmp 75), type := 0, pos := "ref.go:101", after := #[{ on := 0, ground := Ground.data }], guard := none }) (v := ?_) rfl (by kernel_rfl) (by kernel_rfl) (by kernel_rfl) (fun _ _ _ h => h) (Or.inl ⟨by rfl, ?hy2⟩) hS0 ?_
          case hy2 => (intro w hSw; (try dsimp only at hSw); go_simp; try with_reducible rfl)
          try simp only [Act.put, List.setIfInBounds_toArray, List.set_cons_zero, List.set_cons_succ]
          refine wpAnyH_take (i := 2) (oi := { dst := some 77, op := Op.fieldAddr 33 (Operand.tmp 76) 1, type := 0, pos := "ref.go:101", after := #[{ on := 1, ground := Ground.data }], guard := none }) (v := ?_) rfl (by kernel_rfl) (by kernel_rfl) (by kernel_rfl) (fun _ _ _ h => h) (Or.inl ⟨by rfl, ?hy3⟩) hS0 ?_
          case hy3 => (intro w hSw; (try dsimp only at hSw); go_simp; try with_reducible rfl)
          try simp only [Act.put, List.setIfInBounds_toArray, List.set_cons_zero, List.set_cons_succ]
          refine wpAnyH_take (i := 3) (oi := { dst := some 78, op := Op.load 31 (Operand.tmp 77), type := 31, pos := "ref.go:101", after := #[{ on := 2, ground := Ground.data }], guard := none }) (v := ?_) rfl (by kernel_rfl) (by kernel_rfl) (by kernel_rfl) (fun _ _ _ h => h) (Or.inl ⟨by rfl, ?hy4⟩) hS0 ?_
          case hy4 => (intro w hSw; (try dsimp only at hSw); go_simp; try with_reducible rfl)
          try simp only [Act.put, List.setIfInBounds_toArray, List.set_cons_zero, List.set_cons_succ]
          refine wpAnyH_take (i := 4) (oi := { dst := some 79, op := Op.move (Operand.tmp 5), type := 3, pos := "ref.go:101", after := #[], guard := none }) (v := ?_) rfl (by kernel_rfl) (by kernel_rfl) (by kernel_rfl) (fun _ _ _ h => h) (Or.inl ⟨by rfl, ?hy5⟩) hS0 ?_
          case hy5 => (intro w hSw; (try dsimp only at hSw); go_simp; try with_reducible rfl)
          try simp only [Act.put, List.setIfInBounds_toArray, List.set_cons_zero, List.set_cons_succ]
          refine wpAnyH_take (i := 6) (oi := { dst := some 81, op := Op.fieldAddr 91 (Operand.tmp 6) 1, type := 0, pos := "ref.go:101", after := #[], guard := none }) (v := ?_) rfl (by kernel_rfl) (by kernel_rfl) (by kernel_rfl) (fun _ _ _ h => h) (Or.inl ⟨by rfl, ?hy6⟩) hS0 ?_
          case hy6 => (intro w hSw; (try dsimp only at hSw); go_simp; try with_reducible rfl)
          try simp only [Act.put, List.setIfInBounds_toArray, List.set_cons_zero, List.set_cons_succ]
          refine wpAnyH_take (i := 7) (oi := { dst := some 82, op := Op.load 89 (Operand.tmp 81), type := 89, pos := "ref.go:101", after := #[{ on := 6, ground := Ground.data }], guard := none }) (v := ?_) rfl (by kernel_rfl) (by kernel_rfl) (by kernel_rfl) (fun _ _ _ h => h) (Or.inl ⟨by rfl, ?hy7⟩) hS0 ?_
          case hy7 => (intro w hSw; (try dsimp only at hSw); go_simp; try with_reducible rfl)
          try simp only [Act.put, List.setIfInBounds_toArray, List.set_cons_zero, List.set_cons_succ]
          refine wpAnyH_take (i := 8) (oi := { dst := some 83, op := Op.move (Operand.tmp 8), type := 3, pos := "ref.go:101", after := #[], guard := none }) (v := ?_) rfl (by kernel_rfl) (by kernel_rfl) (by kernel_rfl) (fun _ _ _ h => h) (Or.inl ⟨by rfl, ?hy8⟩) hS0 ?_
          case hy8 => (intro w hSw; (try dsimp only at hSw); go_simp; try with_reducible rfl)
          try simp only [Act.put, List.setIfInBounds_toArray, List.set_cons_zero, List.set_cons_succ]
          refine wpAnyH_take (i := 9) (oi := { dst := some 84, op := Op.slice 89 (Operand.tmp 82) (some (Operand.tmp 83)) none none, type := 89, pos := "ref.go:101", after := #[{ on := 7, ground := Ground.data }, { on := 8, ground := Ground.data }], guard := none }) (v := ?_) rfl (by kernel_rfl) (by kernel_rfl) (by kernel_rfl) (fun _ _ _ h => h) (Or.inl ⟨by rfl, ?hy9⟩) hS0 ?_
          case hy9 => (intro w hSw; (try dsimp only at hSw); go_simp; try with_reducible rfl)
          try simp only [Act.put, List.setIfInBounds_toArray, List.set_cons_zero, List.set_cons_succ]
          refine wpAnyH_ready (rs := [5]) (by kernel_rfl) (by simp) ?_
          refine AllReadyH.cons (o := { dst := some 80, op := Op.buildSlice 89 0 #[], type := 89, pos := "ref.go:101", after := #[], guard := none }) rfl (fun K hK => ?_) ?_
          · go_simp
            refine hK.out _ _ ?hs10 (fun hS10 => ?_)
            case hs10 => ((try dsimp only); first | with_reducible exact zD | with_reducible exact zV | with_reducible exact zV1 | with_reducible exact zV3 | with_reducible exact zV4)
            clear hK K hS0
            refine wpAnyH_ready (rs := [10]) (by kernel_rfl) (by simp) ?_
            refine AllReadyH.cons (o := { dst := some 85, op := Op.call { callee := Callee.builtin Builtin.append, args := #[Operand.tmp 80, Operand.tmp 84], argTypes := #[89, 89] }, type := 89, pos := "ref.go:101", after := #[{ on := 5, ground := Ground.data }, { on := 9, ground := Ground.data }], guard := none }) rfl (fun K hK => ?_) ?_
            · refine rs_append_run (by rfl) _ _ _ (by rfl) (by rfl) (by rfl) hRUN.out ?_
              refine hK.out _ _ ?hs11 (fun hS11 => ?_)
              case hs11 => ((try dsimp only); first | with_reducible exact zD | with_reducible exact zV | with_reducible exact zV1 | with_reducible exact zV3 | with_reducible exact zV4)
              clear hK K hS10
              refine wpAnyH_take (i := 11) (oi := { dst := some 86, op := Op.indexAddr 31 (Operand.tmp 78) (Operand.tmp 79), type := 0, pos := "ref.go:101", after := #[{ on := 3, ground := Ground.data }, { on := 4, ground := Ground.data }, { on := 0, ground := Ground.phase }, { on := 1, ground := Ground.phase }, { on := 2, ground := Ground.phase }, { on := 3, ground := Ground.phase }, { on := 4, ground := Ground.phase }, { on := 5, ground := Ground.phase }, { on := 6, ground := Ground.phase }, { on := 7, ground := Ground.phase }, { on := 8, ground := Ground.phase }, { on := 9, ground := Ground.phase }, { on := 10, ground := Ground.phase }], guard := none }) (v := ?_) rfl (by kernel_rfl) (by kernel_rfl) (by kernel_rfl) (fun _ _ _ h => h) (Or.inl ⟨by rfl, ?hy12⟩) hS11 ?_
              case hy12 => (intro w hSw; (try dsimp only at hSw); go_simp; try with_reducible rfl)
              try simp only [Act.put, List.setIfInBounds_toArray, List.set_cons_zero, List.set_cons_succ]
              refine wpAnyH_take (i := 12) (oi := { dst := some 87, op := Op.fieldAddr 91 (Operand.tmp 86) 1, type := 0, pos := "ref.go:101", after := #[{ on := 11, ground := Ground.data }, { on := 0, ground := Ground.phase }, { on := 1, ground := Ground.phase }, { on := 2, ground := Ground.phase }, { on := 3, ground := Ground.phase }, { on := 4, ground := Ground.phase }, { on := 5, ground := Ground.phase }, { on := 6, ground := Ground.phase }, { on := 7, ground := Ground.phase }, { on := 8, ground := Ground.phase }, { on := 9, ground := Ground.phase }, { on := 10, ground := Ground.phase }], guard := none }) (v := ?_) rfl (by kernel_rfl) (by kernel_rfl) (by kernel_rfl) (fun _ _ _ h => h) (Or.inl ⟨by rfl, ?hy13⟩) hS11 ?_
              case hy13 => (intro w hSw; (try dsimp only at hSw); go_simp; try with_reducible rfl)
              try simp only [Act.put, List.setIfInBounds_toArray, List.set_cons_zero, List.set_cons_succ]
              refine wpAnyH_ready (rs := [13]) (by kernel_rfl) (by simp) ?_
              refine AllReadyH.cons (o := { dst := none, op := Op.store 89 (Operand.tmp 87) (Operand.tmp 85), type := 0, pos := "ref.go:101", after := #[{ on := 12, ground := Ground.data }, { on := 10, ground := Ground.data }, { on := 10, ground := Ground.chain }, { on := 0, ground := Ground.phase }, { on := 1, ground := Ground.phase }, { on := 2, ground := Ground.phase }, { on := 3, ground := Ground.phase }, { on := 4, ground := Ground.phase }, { on := 5, ground := Ground.phase }, { on := 6, ground := Ground.phase }, { on := 7, ground := Ground.phase }, { on := 8, ground := Ground.phase }, { on := 9, ground := Ground.phase }, { on := 10, ground := Ground.phase }], guard := none }) rfl (fun K hK => ?_) ?_
              · go_simp
                refine hK.out _ _ ?hs14 (fun hS14 => ?_)
                case hs14 => ((try dsimp only); first | with_reducible exact zD | with_reducible exact zV | with_reducible exact zV1 | with_reducible exact zV3 | with_reducible exact zV4)
                clear hK K hS11
                refine wpAnyH_done (by kernel_rfl) ?_ _
                clear zD zV zV1 zV3 zV4 y3 fz3 hRUN
                generalize W3.setCell ⟨gq, q * 3 + 1, none⟩ (.slice a' 0 c') = W6 at *
                generalize ((l.take j).map (·.sets)).length = nm at *
                generalize (frefs (l.take j)).length = ng at *
                go_upto_region 17 with fail
                refine wp_region_lit ?_
                refine wpList_load_mid rfl 58 _ rfl tb 0 rfl _ _ hRT.out Try.underlying58 rfl size58 ?_
                try simp only [Act.put, List.setIfInBounds_toArray, List.set_cons_zero, List.set_cons_succ]
                refine wpList_store_mid rfl 58 _ _ rfl rb 0 #[.int .i64 0, .int .i64 0, .slice aa nm ac, .slice ga ng gc] rfl rfl hTH.out size58 (by simp [Value.oneCell']) ?_
                try simp only [Act.put, List.setIfInBounds_toArray, List.set_cons_zero, List.set_cons_succ]
                go_wp2_with fail
                exact bodyPost_ret (v := .agg #[.int .i64 0, .int .i64 0, .slice aa nm ac, .slice ga ng gc]) (res_cell (a := 4) rfl rfl (run_loadVar_mid _ rb 0 58 _ _ (World.rangeAt_setCells_same _ rb 0 _ hTH.out) Try.underlying58 rfl size58)) rfl (by first | exact hFIN.out | (have hh := hFIN.out; rw [List.map_take] at hh; exact hh))
              exact AllReadyH.nil
            exact AllReadyH.nil
          exact AllReadyH.nil
        · have hvu : uc = cap' := by injection e
          obtain ⟨rfl, rfl⟩ : ua = some ⟨ub, 0, none⟩ ∧ uc = cap' := by injection e with z1 z2 z3; exact ⟨z1, z3⟩
          have hnl := hnc
          have z1V : V.cell? ⟨qb, 1, none⟩ = some (.slice (some ⟨ub, 0, none⟩) l.length uc) := ZV.box 1 _ rfl
          have s2 : j ≤ uc := Nat.le_trans hcl hnc
          have s3 : (j : Int) ≤ (uc : Int) := Int.ofNat_le.2 s2
          have hx : X.own = X.own := rfl
          clear hx
          obtain ⟨v', W3, hrun, T3, ⟨a', c', rfl⟩, X2, TR⟩ := X.dropRun hNV hqr hqi hs hl.1 hcl (sv := .slice (some ⟨ub, j * 2, none⟩) (l.length - j) (uc - j)) (fun ps hp ho => .inr ⟨ub, j * 2, uc - j, by rw [hp], fun x u hu => by rw [fcells_drop, List.getElem?_drop] at hu; rw [eU] at ho; exact (ho.cellAt (j * 2 + x) (by have := (List.getElem?_eq_some_iff.1 hu).1; rw [fcells_len, hp] at this; exact this)).trans hu⟩)
          obtain ⟨RT, TH, FIN⟩ := ZV.fin X.bl TR X2.doc m
          have zV : V.cell? ⟨r, 7, none⟩ = some (.slice (some ⟨gq, 0, none⟩) ids.length vc) ∧ V.cell? ⟨qb, 1, none⟩ = some (.slice (some ⟨ub, 0, none⟩) l.length uc) := ⟨y7V, z1V⟩
          have zD := zV
          rw [hV] at zD
          have zV1 : (V.alloc (.cells #[] 71)).cell? ⟨r, 7, none⟩ = some (.slice (some ⟨gq, 0, none⟩) ids.length vc) ∧ (V.alloc (.cells #[] 71)).cell? ⟨qb, 1, none⟩ = some (.slice (some ⟨ub, 0, none⟩) l.length uc) := ⟨past zV.1, past zV.2⟩
          have zV3 : W3.cell? ⟨r, 7, none⟩ = some (.slice (some ⟨gq, 0, none⟩) ids.length vc) ∧ W3.cell? ⟨qb, 1, none⟩ = some (.slice (some ⟨ub, 0, none⟩) l.length uc) := ⟨T3.cell id zV.1, T3.cell id zV.2⟩
          have zV4 : (W3.setCell ⟨gq, q * 3 + 1, none⟩ (.slice a' (l.length - j) c')).cell? ⟨r, 7, none⟩ = some (.slice (some ⟨gq, 0, none⟩) ids.length vc) ∧ (W3.setCell ⟨gq, q * 3 + 1, none⟩ (.slice a' (l.length - j) c')).cell? ⟨qb, 1, none⟩ = some (.slice (some ⟨ub, 0, none⟩) l.length uc) := ⟨(cell_far _ _ _ _ _ _ ngr).trans zV3.1, (cell_far _ _ _ _ _ _ (fun e => nq e.symm)).trans zV3.2⟩
          have y3 := T3.cell id y2V
          have fz3 : W3.frozen? ⟨gq, q * 3 + 1, none⟩ = false := (X.b91.turn T3 id).fz _
          have s0 : (0 : Int) ≤ (j : Int) := Int.natCast_nonneg j
          have s1 : (j : Int) ≤ (l.length : Int) := Int.ofNat_le.2 hcl
          have hRT := Lib.hid RT
          have hTH := Lib.hid TH
          have hFIN := Lib.hid FIN
          have hRUN := Lib.hid hrun
          have z1j := z1
          clear Z hj hjl hgj hl hcl hqi hs hqr hids hN hbq h0 TV ZV dV y7V y2V X eU hNV nq ngr ps0 hp0 ho0 hrun T3 X2 TR RT TH FIN z1V HF HQ HH HL HY hnl e hb0 hgg hnc
          go_upto_region 16 with fail
          clear z1 z1j
          refine wp_region_held_drew (S := (fun w' => w'.cell? ⟨r, 7, none⟩ = some (.slice (some ⟨gq, 0, none⟩) ids.length vc) ∧ w'.cell? ⟨qb, 1, none⟩ = some (.slice (some ⟨ub, 0, none⟩) l.length uc))) (by kernel_rfl) ?hs0 (fun hS0 => ?_)
          case hs0 => ((try dsimp only); first | with_reducible exact zD | with_reducible exact zV | with_reducible exact zV1 | with_reducible exact zV3 | with_reducible exact zV4)
          rw [← hV] at hS0 ⊢
          clear hV
          refine wpAnyH_take (i := 0) (oi := { dst := some 75, op := Op.move (Operand.tmp 0), type := 30, pos := "ref.go:101", after := #[], guard := none }) (v := ?_) rfl (by kernel_rfl) (by kernel_rfl) (by kernel_rfl) (fun _ _ _ h => h) (Or.inl ⟨by rfl, ?hy1⟩) hS0 ?_
          case hy1 => (intro w hSw; (try dsimp only at hSw); go_simp; try with_reducible rfl)
          try simp only [Act.put, List.setIfInBounds_toArray, List.set_cons_zero, List.set_cons_succ]
          refine wpAnyH_take (i := 1) (oi := { dst := some 76, op := Op.nilCheck (Operand.tmp 75), type := 0, pos := "ref.go:101", after := #[{ on := 0, ground := Ground.data }], guard := none }) (v := ?_) rfl (by kernel_rfl) (by kernel_rfl) (by kernel_rfl) (fun _ _ _ h => h) (Or.inl ⟨by rfl, ?hy2⟩) hS0 ?_
          case hy2 => (intro w hSw; (try dsimp only at hSw); go_simp; try with_reducible rfl)
          try simp only [Act.put, List.setIfInBounds_toArray, List.set_cons_zero, List.set_cons_succ]
          refine wpAnyH_take (i := 2) (oi := { dst := some 77, op := Op.fieldAddr 33 (Operand.tmp 76) 1, type := 0, pos := "ref.go:101", after := #[{ on := 1, ground := Ground.data }], guard := none }) (v := ?_) rfl (by kernel_rfl) (by kernel_rfl) (by kernel_rfl) (fun _ _ _ h => h) (Or.inl ⟨by rfl, ?hy3⟩) hS0 ?_
          case hy3 => (intro w hSw; (try dsimp only at hSw); go_simp; try with_reducible rfl)
          try simp only [Act.put, List.setIfInBounds_toArray, List.set_cons_zero, List.set_cons_succ]
          refine wpAnyH_take (i := 3) (oi := { dst := some 78, op := Op.load 31 (Operand.tmp 77), type := 31, pos := "ref.go:101", after := #[{ on := 2, ground := Ground.data }], guard := none }) (v := ?_) rfl (by kernel_rfl) (by kernel_rfl) (by kernel_rfl) (fun _ _ _ h => h) (Or.inl ⟨by rfl, ?hy4⟩) hS0 ?_
          case hy4 => (intro w hSw; (try dsimp only at hSw); go_simp; try with_reducible rfl)
          try simp only [Act.put, List.setIfInBounds_toArray, List.set_cons_zero, List.set_cons_succ]
          refine wpAnyH_take (i := 4) (oi := { dst := some 79, op := Op.move (Operand.tmp 5), type := 3, pos := "ref.go:101", after := #[], guard := none }) (v := ?_) rfl (by kernel_rfl) (by kernel_rfl) (by kernel_rfl) (fun _ _ _ h => h) (Or.inl ⟨by rfl, ?hy5⟩) hS0 ?_
          case hy5 => (intro w hSw; (try dsimp only at hSw); go_simp; try with_reducible rfl)
          try simp only [Act.put, List.setIfInBounds_toArray, List.set_cons_zero, List.set_cons_succ]
          refine wpAnyH_take (i := 6) (oi := { dst := some 81, op := Op.fieldAddr 91 (Operand.tmp 6) 1, type := 0, pos := "ref.go:101", after := #[], guard := none }) (v := ?_) rfl (by kernel_rfl) (by kernel_rfl) (by kernel_rfl) (fun _ _ _ h => h) (Or.inl ⟨by rfl, ?hy6⟩) hS0 ?_
          case hy6 => (intro w hSw; (try dsimp only at hSw); go_simp; try with_reducible rfl)
          try simp only [Act.put, List.setIfInBounds_toArray, List.set_cons_zero, List.set_cons_succ]
          refine wpAnyH_take (i := 7) (oi := { dst := some 82, op := Op.load 89 (Operand.tmp 81), type := 89, pos := "ref.go:101", after := #[{ on := 6, ground := Ground.data }], guard := none }) (v := ?_) rfl (by kernel_rfl) (by kernel_rfl) (by kernel_rfl) (fun _ _ _ h => h) (Or.inl ⟨by rfl, ?hy7⟩) hS0 ?_
          case hy7 => (intro w hSw; (try dsimp only at hSw); go_simp; try with_reducible rfl)
          try simp only [Act.put, List.setIfInBounds_toArray, List.set_cons_zero, List.set_cons_succ]
          refine wpAnyH_take (i := 8) (oi := { dst := some 83, op := Op.move (Operand.tmp 8), type := 3, pos := "ref.go:101", after := #[], guard := none }) (v := ?_) rfl (by kernel_rfl) (by kernel_rfl) (by kernel_rfl) (fun _ _ _ h => h) (Or.inl ⟨by rfl, ?hy8⟩) hS0 ?_
          case hy8 => (intro w hSw; (try dsimp only at hSw); go_simp; try with_reducible rfl)
          try simp only [Act.put, List.setIfInBounds_toArray, List.set_cons_zero, List.set_cons_succ]
          refine wpAnyH_take (i := 9) (oi := { dst := some 84, op := Op.slice 89 (Operand.tmp 82) (some (Operand.tmp 83)) none none, type := 89, pos := "ref.go:101", after := #[{ on := 7, ground := Ground.data }, { on := 8, ground := Ground.data }], guard := none }) (v := ?_) rfl (by kernel_rfl) (by kernel_rfl) (by kernel_rfl) (fun _ _ _ h => h) (Or.inl ⟨by rfl, ?hy9⟩) hS0 ?_
          case hy9 => (intro w hSw; (try dsimp only at hSw); go_simp; try with_reducible rfl)
          try simp only [Act.put, List.setIfInBounds_toArray, List.set_cons_zero, List.set_cons_succ]
          refine wpAnyH_ready (rs := [5]) (by kernel_rfl) (by simp) ?_
          refine AllReadyH.cons (o := { dst := some 80, op := Op.buildSlice 89 0 #[], type := 89, pos := "ref.go:101", after := #[], guard := none }) rfl (fun K hK => ?_) ?_
          · go_simp
            refine hK.out _ _ ?hs10 (fun hS10 => ?_)
            case hs10 => ((try dsimp only); first | with_reducible exact zD | with_reducible exact zV | with_reducible exact zV1 | with_reducible exact zV3 | with_reducible exact zV4)
            clear hK K hS0
            refine wpAnyH_ready (rs := [10]) (by kernel_rfl) (by simp) ?_
            refine AllReadyH.cons (o := { dst := some 85, op := Op.call { callee := Callee.builtin Builtin.append, args := #[Operand.tmp 80, Operand.tmp 84], argTypes := #[89, 89] }, type := 89, pos := "ref.go:101", after := #[{ on := 5, ground := Ground.data }, { on := 9, ground := Ground.data }], guard := none }) rfl (fun K hK => ?_) ?_
            · refine rs_append_run (by rfl) _ _ _ (by rfl) (by rfl) (by rfl) hRUN.out ?_
              refine hK.out _ _ ?hs11 (fun hS11 => ?_)
              case hs11 => ((try dsimp only); first | with_reducible exact zD | with_reducible exact zV | with_reducible exact zV1 | with_reducible exact zV3 | with_reducible exact zV4)
              clear hK K hS10
              refine wpAnyH_take (i := 11) (oi := { dst := some 86, op := Op.indexAddr 31 (Operand.tmp 78) (Operand.tmp 79), type := 0, pos := "ref.go:101", after := #[{ on := 3, ground := Ground.data }, { on := 4, ground := Ground.data }, { on := 0, ground := Ground.phase }, { on := 1, ground := Ground.phase }, { on := 2, ground := Ground.phase }, { on := 3, ground := Ground.phase }, { on := 4, ground := Ground.phase }, { on := 5, ground := Ground.phase }, { on := 6, ground := Ground.phase }, { on := 7, ground := Ground.phase }, { on := 8, ground := Ground.phase }, { on := 9, ground := Ground.phase }, { on := 10, ground := Ground.phase }], guard := none }) (v := ?_) rfl (by kernel_rfl) (by kernel_rfl) (by kernel_rfl) (fun _ _ _ h => h) (Or.inl ⟨by rfl, ?hy12⟩) hS11 ?_
              case hy12 => (intro w hSw; (try dsimp only at hSw); go_simp; try with_reducible rfl)
              try simp only [Act.put, List.setIfInBounds_toArray, List.set_cons_zero, List.set_cons_succ]
              refine wpAnyH_take (i := 12) (oi := { dst := some 87, op := Op.fieldAddr 91 (Operand.tmp 86) 1, type := 0, pos := "ref.go:101", after := #[{ on := 11, ground := Ground.data }, { on := 0, ground := Ground.phase }, { on := 1, ground := Ground.phase }, { on := 2, ground := Ground.phase }, { on := 3, ground := Ground.phase }, { on := 4, ground := Ground.phase }, { on := 5, ground := Ground.phase }, { on := 6, ground := Ground.phase }, { on := 7, ground := Ground.phase }, { on := 8, ground := Ground.phase }, { on := 9, ground := Ground.phase }, { on := 10, ground := Ground.phase }], guard := none }) (v := ?_) rfl (by kernel_rfl) (by kernel_rfl) (by kernel_rfl) (fun _ _ _ h => h) (Or.inl ⟨by rfl, ?hy13⟩) hS11 ?_
              case hy13 => (intro w hSw; (try dsimp only at hSw); go_simp; try with_reducible rfl)
              try simp only [Act.put, List.setIfInBounds_toArray, List.set_cons_zero, List.set_cons_succ]
              refine wpAnyH_ready (rs := [13]) (by kernel_rfl) (by simp) ?_
              refine AllReadyH.cons (o := { dst := none, op := Op.store 89 (Operand.tmp 87) (Operand.tmp 85), type := 0, pos := "ref.go:101", after := #[{ on := 12, ground := Ground.data }, { on := 10, ground := Ground.data }, { on := 10, ground := Ground.chain }, { on := 0, ground := Ground.phase }, { on := 1, ground := Ground.phase }, { on := 2, ground := Ground.phase }, { on := 3, ground := Ground.phase }, { on := 4, ground := Ground.phase }, { on := 5, ground := Ground.phase }, { on := 6, ground := Ground.phase }, { on := 7, ground := Ground.phase }, { on := 8, ground := Ground.phase }, { on := 9, ground := Ground.phase }, { on := 10, ground := Ground.phase }], guard := none }) rfl (fun K hK => ?_) ?_
              · go_simp
                refine hK.out _ _ ?hs14 (fun hS14 => ?_)
                case hs14 => ((try dsimp only); first | with_reducible exact zD | with_reducible exact zV | with_reducible exact zV1 | with_reducible exact zV3 | with_reducible exact zV4)
                clear hK K hS11
                refine wpAnyH_done (by kernel_rfl) ?_ _
                clear zD zV zV1 zV3 zV4 y3 fz3 hRUN
                generalize W3.setCell ⟨gq, q * 3 + 1, none⟩ (.slice a' (l.length - j) c') = W6 at *
                generalize ((l.take j).map (·.sets)).length = nm at *
                generalize (frefs (l.take j)).length = ng at *
                go_upto_region 17 with fail
                refine wp_region_lit ?_
                refine wpList_load_mid rfl 58 _ rfl tb 0 rfl _ _ hRT.out Try.underlying58 rfl size58 ?_
                try simp only [Act.put, List.setIfInBounds_toArray, List.set_cons_zero, List.set_cons_succ]
                refine wpList_store_mid rfl 58 _ _ rfl rb 0 #[.int .i64 0, .int .i64 0, .slice aa nm ac, .slice ga ng gc] rfl rfl hTH.out size58 (by simp [Value.oneCell']) ?_
                try simp only [Act.put, List.setIfInBounds_toArray, List.set_cons_zero, List.set_cons_succ]
                go_wp2_with fail
                exact bodyPost_ret (v := .agg #[.int .i64 0, .int .i64 0, .slice aa nm ac, .slice ga ng gc]) (res_cell (a := 4) rfl rfl (run_loadVar_mid _ rb 0 58 _ _ (World.rangeAt_setCells_same _ rb 0 _ hTH.out) Try.underlying58 rfl size58)) rfl (by first | exact hFIN.out | (have hh := hFIN.out; rw [List.map_take] at hh; exact hh))
              exact AllReadyH.nil
            exact AllReadyH.nil
          exact AllReadyH.nil
end
end Go.Proofs.Ytepmealhnnoahaa
