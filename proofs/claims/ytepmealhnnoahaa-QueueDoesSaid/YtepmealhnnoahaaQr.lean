/-
  A desk in memory: a query is registered.
-/
import Derived.Test.YtepmealhnnoahaaQl
namespace Go.Proofs.Ytepmealhnnoahaa
open Go.ChangeShapes Go.WideShapes Go.ChangeAt Go.RowKit
set_option linter.unusedVariables false set_option linter.unusedSimpArgs false
theorem rl_rd {P : Program} {w : World} {ops : Array Oper} {rest : List Oper} {o : Oper} {a : Act} {Q : Exit → Act → World → Prop} (hgd : o.guard = none) {v : Value}
    (hr : (execOp a.eval o).run P w = .ok (.value v) w) (h : wpList P ops Q rest (a.put o.dst v) w) : wpList P ops Q (o :: rest) a w := rl_val hgd hr h
theorem size53 : (Try.prog.info? 53).map (·.size) = some 3 := by kernel_rfl
theorem build53n (n : Int) (w : World) : (Instr.build 53 #[(1, .int .i64 n)]).run Try.prog w = .ok (.agg #[.int .i64 0, .int .i64 n, .slice none 0 0]) w := run_build w 53 _ _ (by kernel_rfl)
theorem build53e (n : Int) (w : World) : (Instr.build 53 #[(0, .int .i64 n)]).run Try.prog w = .ok (.agg #[.int .i64 n, .int .i64 0, .slice none 0 0]) w := run_build w 53 _ _ (by kernel_rfl)
/-- An answer's cells. -/
def ansL (e n : Int) : List Value := [.int .i64 e, .int .i64 n, .slice none 0 0]
theorem ansL_is (e n : Int) : (ansL e n).length = 3 ∧ (ansL e n).toArray.all (·.oneCell') = true := ⟨rfl, by simp [ansL, Value.oneCell']⟩
section
variable {w w' : World} {d mb : Nat} {qu ou : Int} {cnt m : Nat} {Q : Int → Option Wt}
set_option maxRecDepth 100000 in
set_option maxHeartbeats 2000000 in
theorem DeskAt.register_yes (h : DeskAt w d mb qu ou cnt m Q) (hn : cnt < maxLen) (hm : (m : Int) < qu) {i : Int} (hi : (Lit.int .i64 i).wf = true) {m' : Nat} (hm' : m' = if (Q i).isSome then m else m + 1) :
    Calls Try.prog 29 #[.pointer (some ⟨d, 0, none⟩), .int .i64 i] w fun e w' => e = .returned (.agg (ansL 0 i).toArray) ∧ DeskAt w' d mb qu ou (cnt + 1) m' (updI Q i (some ((Q i).getD Wt.zero))) ∧ Turn (fun k => k = mb) w w' := by
  obtain ⟨cs, hcs⟩ : ∃ cs, ansL 0 i = cs := ⟨_, rfl⟩
  have HCS := Lib.hid hcs
  rw [hcs]
  clear hcs
  obtain ⟨W, hW⟩ : ∃ W, W = w.alloc (.cells #[.int .i64 0, .int .i64 0, .slice none 0 0] 53) := ⟨_, rfl⟩
  have T : Turn (fun _ => False) w W := by rw [hW]; exact (Turn.refl _ w).alloc _
  have Bk : Blk W w.heap.size 53 := by rw [hW]; exact Blk.new w [.int .i64 0, .int .i64 0, .slice none 0 0] 53
  have C : W.rangeAt w.heap.size 0 [.int .i64 0, .int .i64 0, .slice none 0 0] := by rw [hW]; exact range_new w [.int .i64 0, .int .i64 0, .slice none 0 0] 53
  have hh := h.keep T
  have c7 := hh.c7
  have c3 := hh.c3
  have LN : ∀ dr, (Builtin.len_ #[80] 3 #[.map (some mb)]).run Try.prog (W.drewN dr) = .ok (.int .i64 (m : Int)) (W.drewN dr) := fun dr => (hh.keep ((Turn.refl _ W).drewN dr)).mp.len (t := 80) (e := 94) Try.underlying80 3
  have t1 : decide (qu ≤ (m : Int)) = false := decide_eq_false (by omega)
  have MID := Lib.hid (fun dr => (show Turn (fun _ => False) w ((W.drewN dr).drew) from (T.drewN dr).drewN 1))
  have H := Lib.hid (And.intro h (And.intro hn (And.intro hi (And.intro T (And.intro Bk C)))))
  have HM := Lib.hid hm'
  clear T Bk C hh h hn hi hm hm'
  go_enter Try.func29, Try.ntmps29
  go_upto_region 1 with fail
  rw [← hW]
  clear hW
  generalize hb : w.heap.size = b at *
  have HB := Lib.hid hb
  clear hb
  go_wp2_with fail
  go_quiet (fail)
  go_upto_region 3 with fail
  have T0 : Turn (fun _ => False) w (W.drewN nq).drew := MID.out nq
  have TV : Turn (fun _ => False) W (W.drewN nq).drew := ((Turn.refl _ W).drewN nq).drewN 1
  generalize W.drewN nq = V0 at *
  have hd := H.out.1.keep T0
  have B3 := H.out.2.2.2.2.1.turn TV (fun f => f)
  have C3 := range_turn H.out.2.2.2.2.2 TV (fun f => f)
  have LK := hd.mp.look1 (t := 80) (e := 94) Try.underlying3 Try.underlying80 (zero94 _) H.out.2.2.1
  obtain ⟨W2, hr, hp, T2⟩ := hd.put H.out.2.1 H.out.2.2.1 ((Q i).getD Wt.zero)
  have LK2 := hp.mp.look1 (t := 80) (e := 94) Try.underlying3 Try.underlying80 (zero94 _) H.out.2.2.1
  rw [updI_at] at LK2
  rw [← HM.out] at hp
  dsimp only [Option.getD_some] at LK2
  obtain ⟨q, hq⟩ : ∃ q, (Q i).getD Wt.zero = q := ⟨_, rfl⟩
  rw [hq] at hr hp LK LK2
  have HQ := Lib.hid hq
  obtain ⟨bk, n, cap, l⟩ := q
  obtain ⟨ad, had⟩ : ∃ ad : Option Addr, bk.map (fun b => (⟨b, 0, none⟩ : Addr)) = ad := ⟨_, rfl⟩
  unfold Wt.val Wt.sl at hr LK LK2
  dsimp only at hr LK LK2
  rw [had] at hr LK LK2
  have nd : d ≠ mb := hd.ne hd.bl
  have nb : b ≠ mb := hd.ne B3
  have p7 : V0.drew.cell? ⟨d, 7, none⟩ = some (.map (some mb)) := hd.c7
  have p7b := T2.cell nd p7
  have lk : (Instr.lookup 80 (.map (some mb)) (.int .i64 i) false).run Try.prog V0.drew = .ok (.agg #[.slice ad n cap, .bool l]) V0.drew := LK
  have lkb : (Instr.lookup 80 (.map (some mb)) (.int .i64 i) false).run Try.prog W2 = .ok (.agg #[.slice ad n cap, .bool l]) W2 := LK2
  have TH := Lib.hid (show W2.there b 0 3 from range_there (range_turn C3 T2 nb) rfl (B3.turn T2 nb))
  have HC := Lib.hid (show cs.length = 3 ∧ cs.toArray.all (·.oneCell') = true by rw [← HCS.out]; exact ansL_is 0 i)
  have BU := Lib.hid (show ∀ w, (Instr.build 53 #[(1, .int .i64 i)]).run Try.prog w = .ok (.agg cs.toArray) w from fun w => by rw [← HCS.out]; exact build53n i w)
  have T3 : Turn (fun k => k = b) W2 (W2.setCells b 0 cs) := Turn.setCells _ 0 (Turn.refl _ W2) (.inl rfl)
  have hbl := B3.lt
  have FIN := Lib.hid (show DeskAt (W2.setCells b 0 cs) d mb qu ou (cnt + 1) m' (updI Q i (some ((Q i).getD Wt.zero))) ∧ Turn (fun k => k = mb) w (W2.setCells b 0 cs) from by
    rw [hq]
    refine ⟨hp.turn T3 (fun e => ?_) (Ne.symm nb), ((T0.more (S' := fun k => k = mb) (fun _ _ f => f.elim)).trans T2).comp T3 (fun k hk e => ?_)⟩
    · exact hd.bl.ne B3 (by decide) e
    · have := HB.out
      omega)
  have HR := Lib.hid (show (Instr.mapUpdate 80 (.map (some mb)) (.int .i64 i) (.agg #[.slice ad n cap, .bool l])).run Try.prog V0.drew = .ok () W2 from hr)
  clear T0 TV hd B3 C3 LK hr hp T2 LK2 hq had nd nb T3 hbl c7 c3 LN MID
  refine wp_region_held_drew (S := (fun w' => w'.cell? ⟨d, 7, none⟩ = some (.map (some mb)) ∧ (Instr.lookup 80 (.map (some mb)) (.int .i64 i) false).run Try.prog w' = .ok (.agg #[.slice ad n cap, .bool l]) w')) (by kernel_rfl) ?hs0 (fun hS0 => ?_)
  case hs0 => ((try dsimp only); first | with_reducible exact ⟨p7, lk⟩ | with_reducible exact ⟨p7b, lkb⟩ | exact ⟨p7, lk⟩ | exact ⟨p7b, lkb⟩)
  refine wpAnyH_take (i := 0) (oi := { dst := some 17, op := Op.move (Operand.tmp 0), type := 25, pos := "queue.go:66", after := #[], guard := none }) (v := ?_) rfl (by kernel_rfl) (by kernel_rfl) (by kernel_rfl) (fun _ _ _ h => h) (Or.inl ⟨by rfl, ?hy1⟩) hS0 ?_
  case hy1 => (intro w hSw; (try dsimp only at hSw); go_simp; try with_reducible rfl)
  try simp only [Act.put, List.setIfInBounds_toArray, List.set_cons_zero, List.set_cons_succ]
  refine wpAnyH_take (i := 1) (oi := { dst := some 18, op := Op.nilCheck (Operand.tmp 17), type := 0, pos := "queue.go:66", after := #[{ on := 0, ground := Ground.data }], guard := none }) (v := ?_) rfl (by kernel_rfl) (by kernel_rfl) (by kernel_rfl) (fun _ _ _ h => h) (Or.inl ⟨by rfl, ?hy2⟩) hS0 ?_
  case hy2 => (intro w hSw; (try dsimp only at hSw); go_simp; try with_reducible rfl)
  try simp only [Act.put, List.setIfInBounds_toArray, List.set_cons_zero, List.set_cons_succ]
  refine wpAnyH_take (i := 2) (oi := { dst := some 19, op := Op.fieldAddr 82 (Operand.tmp 18) 1, type := 0, pos := "queue.go:66", after := #[{ on := 1, ground := Ground.data }], guard := none }) (v := ?_) rfl (by kernel_rfl) (by kernel_rfl) (by kernel_rfl) (fun _ _ _ h => h) (Or.inl ⟨by rfl, ?hy3⟩) hS0 ?_
  case hy3 => (intro w hSw; (try dsimp only at hSw); go_simp; try with_reducible rfl)
  try simp only [Act.put, List.setIfInBounds_toArray, List.set_cons_zero, List.set_cons_succ]
  refine wpAnyH_take (i := 3) (oi := { dst := some 20, op := Op.load 80 (Operand.tmp 19), type := 80, pos := "queue.go:66", after := #[{ on := 2, ground := Ground.data }], guard := none }) (v := ?_) rfl (by kernel_rfl) (by kernel_rfl) (by kernel_rfl) (fun _ _ _ h => h) (Or.inl ⟨by rfl, ?hy4⟩) hS0 ?_
  case hy4 => (intro w hSw; (try dsimp only at hSw); go_simp; try with_reducible rfl)
  try simp only [Act.put, List.setIfInBounds_toArray, List.set_cons_zero, List.set_cons_succ]
  refine wpAnyH_take (i := 4) (oi := { dst := some 21, op := Op.move (Operand.tmp 1), type := 3, pos := "queue.go:66", after := #[], guard := none }) (v := ?_) rfl (by kernel_rfl) (by kernel_rfl) (by kernel_rfl) (fun _ _ _ h => h) (Or.inl ⟨by rfl, ?hy5⟩) hS0 ?_
  case hy5 => (intro w hSw; (try dsimp only at hSw); go_simp; try with_reducible rfl)
  try simp only [Act.put, List.setIfInBounds_toArray, List.set_cons_zero, List.set_cons_succ]
  refine wpAnyH_take (i := 5) (oi := { dst := some 22, op := Op.move (Operand.tmp 0), type := 25, pos := "queue.go:66", after := #[], guard := none }) (v := ?_) rfl (by kernel_rfl) (by kernel_rfl) (by kernel_rfl) (fun _ _ _ h => h) (Or.inl ⟨by rfl, ?hy6⟩) hS0 ?_
  case hy6 => (intro w hSw; (try dsimp only at hSw); go_simp; try with_reducible rfl)
  try simp only [Act.put, List.setIfInBounds_toArray, List.set_cons_zero, List.set_cons_succ]
  refine wpAnyH_take (i := 6) (oi := { dst := some 23, op := Op.nilCheck (Operand.tmp 22), type := 0, pos := "queue.go:66", after := #[{ on := 5, ground := Ground.data }], guard := none }) (v := ?_) rfl (by kernel_rfl) (by kernel_rfl) (by kernel_rfl) (fun _ _ _ h => h) (Or.inl ⟨by rfl, ?hy7⟩) hS0 ?_
  case hy7 => (intro w hSw; (try dsimp only at hSw); go_simp; try with_reducible rfl)
  try simp only [Act.put, List.setIfInBounds_toArray, List.set_cons_zero, List.set_cons_succ]
  refine wpAnyH_take (i := 7) (oi := { dst := some 24, op := Op.fieldAddr 82 (Operand.tmp 23) 1, type := 0, pos := "queue.go:66", after := #[{ on := 6, ground := Ground.data }], guard := none }) (v := ?_) rfl (by kernel_rfl) (by kernel_rfl) (by kernel_rfl) (fun _ _ _ h => h) (Or.inl ⟨by rfl, ?hy8⟩) hS0 ?_
  case hy8 => (intro w hSw; (try dsimp only at hSw); go_simp; try with_reducible rfl)
  try simp only [Act.put, List.setIfInBounds_toArray, List.set_cons_zero, List.set_cons_succ]
  refine wpAnyH_take (i := 8) (oi := { dst := some 25, op := Op.load 80 (Operand.tmp 24), type := 80, pos := "queue.go:66", after := #[{ on := 7, ground := Ground.data }], guard := none }) (v := ?_) rfl (by kernel_rfl) (by kernel_rfl) (by kernel_rfl) (fun _ _ _ h => h) (Or.inl ⟨by rfl, ?hy9⟩) hS0 ?_
  case hy9 => (intro w hSw; (try dsimp only at hSw); go_simp; try with_reducible rfl)
  try simp only [Act.put, List.setIfInBounds_toArray, List.set_cons_zero, List.set_cons_succ]
  refine wpAnyH_take (i := 9) (oi := { dst := some 26, op := Op.move (Operand.tmp 1), type := 3, pos := "queue.go:66", after := #[], guard := none }) (v := ?_) rfl (by kernel_rfl) (by kernel_rfl) (by kernel_rfl) (fun _ _ _ h => h) (Or.inl ⟨by rfl, ?hy10⟩) hS0 ?_
  case hy10 => (intro w hSw; (try dsimp only at hSw); go_simp; try with_reducible rfl)
  try simp only [Act.put, List.setIfInBounds_toArray, List.set_cons_zero, List.set_cons_succ]
  refine wpAnyH_take (i := 10) (oi := { dst := some 27, op := Op.lookup 80 (Operand.tmp 25) (Operand.tmp 26) false, type := 94, pos := "queue.go:66", after := #[{ on := 8, ground := Ground.data }, { on := 9, ground := Ground.data }], guard := none }) (v := ?_) rfl (by kernel_rfl) (by kernel_rfl) (by kernel_rfl) (fun _ _ _ h => h) (Or.inl ⟨by rfl, ?hy11⟩) hS0 ?_
  case hy11 => (intro w hSw; (try dsimp only at hSw); go_simp; try with_reducible rfl)
  try simp only [Act.put, List.setIfInBounds_toArray, List.set_cons_zero, List.set_cons_succ]
  refine wpAnyH_ready (rs := [11]) (by kernel_rfl) (by simp) ?_
  refine AllReadyH.cons (o := { dst := none, op := Op.mapUpdate 80 (Operand.tmp 20) (Operand.tmp 21) (Operand.tmp 27), type := 0, pos := "queue.go:66", after := #[{ on := 3, ground := Ground.data }, { on := 4, ground := Ground.data }, { on := 10, ground := Ground.data }, { on := 0, ground := Ground.phase }, { on := 1, ground := Ground.phase }, { on := 2, ground := Ground.phase }, { on := 3, ground := Ground.phase }, { on := 4, ground := Ground.phase }, { on := 5, ground := Ground.phase }, { on := 6, ground := Ground.phase }, { on := 7, ground := Ground.phase }, { on := 8, ground := Ground.phase }, { on := 9, ground := Ground.phase }, { on := 10, ground := Ground.phase }], guard := none }) rfl (fun K hK => ?_) ?_
  · (have hr := HR.out); go_simp
    refine hK.out _ _ ?hs12 (fun hS12 => ?_)
    case hs12 => ((try dsimp only); first | with_reducible exact ⟨p7, lk⟩ | with_reducible exact ⟨p7b, lkb⟩ | exact ⟨p7, lk⟩ | exact ⟨p7b, lkb⟩)
    clear hK K hS0
    refine wpAnyH_done (by kernel_rfl) ?_ _
    go_upto_region 4 with fail
    refine wp_region_lit ?_
    refine rl_rd rfl (v := .int .i64 i) ?hz1 ?_
    case hz1 => (go_simp; try with_reducible rfl)
    try simp only [Act.put, List.setIfInBounds_toArray, List.set_cons_zero, List.set_cons_succ]
    refine rl_build rfl 53 _ rfl (vs := #[(1, .int .i64 i)]) (v := .agg cs.toArray) (by simp [Act.eval]) (BU.out _) ?_
    try simp only [Act.put, List.setIfInBounds_toArray, List.set_cons_zero, List.set_cons_succ]
    refine wpList_store_mid rfl 53 _ _ rfl b 0 cs.toArray rfl rfl (by rw [List.size_toArray, HC.out.1]; exact TH.out) (by rw [List.size_toArray, HC.out.1]; exact size53) HC.out.2 ?_
    try simp only [Act.put, List.setIfInBounds_toArray, List.set_cons_zero, List.set_cons_succ]
    go_wp2_with fail
    exact bodyPost_ret (v := .agg cs.toArray) (res_cell (a := 4) rfl rfl (run_loadVar_mid _ b 0 53 cs _ (World.rangeAt_setCells_same _ b 0 cs (by rw [HC.out.1]; exact TH.out)) Try.underlying53 rfl (by rw [HC.out.1]; exact size53))) rfl ⟨rfl, FIN.out⟩
  exact AllReadyH.nil
set_option maxRecDepth 100000 in
set_option maxHeartbeats 2000000 in
theorem DeskAt.register_no (h : DeskAt w d mb qu ou cnt m Q) (hm : qu ≤ (m : Int)) (i : Int) :
    Calls Try.prog 29 #[.pointer (some ⟨d, 0, none⟩), .int .i64 i] w fun e w' => e = .returned (.agg (ansL 16 0).toArray) ∧ Turn (fun _ => False) w w' := by
  obtain ⟨cs, hcs⟩ : ∃ cs, ansL 16 0 = cs := ⟨_, rfl⟩
  have HCS := Lib.hid hcs
  rw [hcs]
  clear hcs
  obtain ⟨W, hW⟩ : ∃ W, W = w.alloc (.cells #[.int .i64 0, .int .i64 0, .slice none 0 0] 53) := ⟨_, rfl⟩
  have T : Turn (fun _ => False) w W := by rw [hW]; exact (Turn.refl _ w).alloc _
  have Bk : Blk W w.heap.size 53 := by rw [hW]; exact Blk.new w [.int .i64 0, .int .i64 0, .slice none 0 0] 53
  have C : W.rangeAt w.heap.size 0 [.int .i64 0, .int .i64 0, .slice none 0 0] := by rw [hW]; exact range_new w [.int .i64 0, .int .i64 0, .slice none 0 0] 53
  have hh := h.keep T
  have c7 := hh.c7
  have c3 := hh.c3
  have LN : ∀ dr, (Builtin.len_ #[80] 3 #[.map (some mb)]).run Try.prog (W.drewN dr) = .ok (.int .i64 (m : Int)) (W.drewN dr) := fun dr => (hh.keep ((Turn.refl _ W).drewN dr)).mp.len (t := 80) (e := 94) Try.underlying80 3
  have t1 : decide (qu ≤ (m : Int)) = true := decide_eq_true hm
  have HC := Lib.hid (show cs.length = 3 ∧ cs.toArray.all (·.oneCell') = true by rw [← HCS.out]; exact ansL_is 16 0)
  have BU := Lib.hid (show ∀ w, (Instr.build 53 #[(0, .int .i64 16)]).run Try.prog w = .ok (.agg cs.toArray) w from fun w => by rw [← HCS.out]; exact build53e 16 w)
  have hbl := Bk.lt
  have TH := Lib.hid (fun dr => show (W.drewN dr).there w.heap.size 0 3 from range_there (range_turn C ((Turn.refl (fun _ => False) W).drewN dr) (fun f => f)) rfl (Bk.turn ((Turn.refl (fun _ => False) W).drewN dr) (fun f => f)))
  have FIN := Lib.hid (fun dr => show Turn (fun _ => False) w ((W.drewN dr).setCells w.heap.size 0 cs) from (T.drewN dr).comp (Turn.setCells cs 0 (show Turn (fun k => k = w.heap.size) (W.drewN dr) (W.drewN dr) from Turn.refl _ _) (.inl rfl)) (fun k hk e => by omega))
  clear T Bk C hh h hm hbl
  go_enter Try.func29, Try.ntmps29
  go_upto_region 1 with fail
  rw [← hW]
  clear hW
  generalize w.heap.size = b at *
  go_wp2_with fail
  go_quiet (fail)
  go_upto_region 2 with fail
  refine wp_region_lit ?_
  refine rl_build rfl 53 _ rfl (vs := #[(0, .int .i64 16)]) (v := .agg cs.toArray) (by simp [Act.eval]) (BU.out _) ?_
  try simp only [Act.put, List.setIfInBounds_toArray, List.set_cons_zero, List.set_cons_succ]
  refine wpList_store_mid rfl 53 _ _ rfl b 0 cs.toArray rfl rfl (by rw [List.size_toArray, HC.out.1]; exact TH.out _) (by rw [List.size_toArray, HC.out.1]; exact size53) HC.out.2 ?_
  try simp only [Act.put, List.setIfInBounds_toArray, List.set_cons_zero, List.set_cons_succ]
  go_wp2_with fail
  exact bodyPost_ret (v := .agg cs.toArray) (res_cell (a := 4) rfl rfl (run_loadVar_mid _ b 0 53 cs _ (World.rangeAt_setCells_same _ b 0 cs (by rw [HC.out.1]; exact TH.out _)) Try.underlying53 rfl (by rw [HC.out.1]; exact size53))) rfl ⟨rfl, FIN.out _⟩
end
end Go.Proofs.Ytepmealhnnoahaa
