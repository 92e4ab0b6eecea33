/-
  The document's own epochs, in memory: new ones, a ref that is retired, and what is ripe.
-/
import Derived.Test.YtibmimdlgbhdnaaRefE
import Derived.Test.YtibmimdlgbhdnaaDel2
namespace Go.Proofs.Ytibmimdlgbhdnaa
open Go.ChangeShapes Go.WideShapes Go.ChangeAt Go.RowKit
set_option linter.unusedVariables false

theorem info105 : (Try.prog.info? 105).map (fun i => (i.zero, i.size, i.bytes)) = some (some (.agg #[.int .i64 0, .int .i64 0, .int .i64 0]), 3, 24) := by kernel_rfl
theorem info51r : (Try.prog.info? 51).map (fun i => (i.zero, i.size, i.bytes)) = some (some (.agg #[.int .i64 0, .int .i64 0]), 2, 16) := by kernel_rfl
theorem info100 : (Try.prog.info? 100).map (fun i => (i.zero, i.size, i.bytes)) = some (some (.agg #[.int .i64 0, .slice none 0 0]), 2, 32) := by kernel_rfl
theorem rl_append_run {P : Program} {w w' : World} {ops : Array Oper} {rest : List Oper} {o : Oper} {a : Act} {Q : Exit → Act → World → Prop} (hgd : o.guard = none) (s x : Operand) (t : TypeId)
    (ho : o.op = .call { callee := .builtin .append, args := #[s, x], argTypes := #[t, t] }) {v v1 v2 : Value} (hs : a.eval s = v1) (hx : a.eval x = v2)
    (hr : (Builtin.append_ #[t, t] o.type #[v1, v2]).run P w = .ok v w') (h : wpList P ops Q rest (a.put o.dst v) w') : wpList P ops Q (o :: rest) a w :=
  wpList_plain hgd fun _ hK => by
    unfold Oper.wp execOp
    simp only [ho, resolve, invoke, builtin, Sem.run_bind, Sem.run_pure, Result.andThen_ok, List.map_toArray, List.map_cons, List.map_nil, hs, hx, hr]
    exact hK _ _ h
theorem rs_append_run {P : Program} {w w' : World} {ops : Array Oper} {o : Oper} {a : Act} {K : Act → World → Prop} {Q : Exit → Act → World → Prop} {E : Prop} (hgd : o.guard = none) (s x : Operand) (t : TypeId)
    (ho : o.op = .call { callee := .builtin .append, args := #[s, x], argTypes := #[t, t] }) {v v1 v2 : Value} (hs : a.eval s = v1) (hx : a.eval x = v2)
    (hr : (Builtin.append_ #[t, t] o.type #[v1, v2]).run P w = .ok v w') (h : K (a.put o.dst v) w') : if Region.wanted o (yielded ops a.tmps) = true then Oper.wp P o a w K Q else E := by
  have hw : Region.wanted o (yielded ops a.tmps) = true := by simp [Region.wanted, hgd]
  rw [if_pos hw]
  unfold Oper.wp execOp
  simp only [ho, resolve, invoke, builtin, Sem.run_bind, Sem.run_pure, Result.andThen_ok, List.map_toArray, List.map_cons, List.map_nil, hs, hx, hr]
  exact h
theorem three_cells {W WA : World} {q : Int × Int × Int} {t : Nat} (hc : ∀ (j : Nat) u, [Value.int .i64 q.1, .int .i64 q.2.1, .int .i64 q.2.2][j]? = some u → WA.cell? ⟨t, j, none⟩ = some u) : ∀ (j : Nat) u, [Value.int .i64 q.1, .int .i64 q.2.1, .int .i64 q.2.2][j]? = some u → WA.cell? ((⟨t, 0, none⟩ : Addr).add j) = some u := fun j u h => by
  rw [Go.WideShapes.add_plain, Nat.zero_add]
  exact hc j u h
/-- One record more, at any world that has come of W. -/
theorem old_app {W WA : World} {base t : Nat} {v : Value} {l : List (Int × Int × Int)} (h : W.ownsRow base 105 3 v l.length (cells3 l)) (hB : base ≤ W.heap.size) (q : Int × Int × Int) (hl : l.length ≤ 1000) (hb : Below W.heap.size W WA)
    (hc : ∀ (j : Nat) u, [Value.int .i64 q.1, .int .i64 q.2.1, .int .i64 q.2.2][j]? = some u → WA.cell? ⟨t, j, none⟩ = some u) :
    ∃ v' w', (Builtin.append_ #[98, 98] 98 #[v, .slice (some ⟨t, 0, none⟩) 1 1]).run Try.prog WA = .ok v' w' ∧ w'.ownsRow base 105 3 v' (l ++ [q]).length (cells3 (l ++ [q])) ∧ Turn (fun k => v.ownBlock = some k) W w' ∧ (v'.ownBlock = v.ownBlock ∨ v'.ownBlock = none ∨ ∃ k, v'.ownBlock = some k ∧ W.heap.size ≤ k) := by
  obtain ⟨i3, j1, j2, j3, j4⟩ := info_parts info105
  have hA := own_keep h (fun k hk => hb.block k (h.lt k hk).2)
  have hz := hb.size
  obtain ⟨v', w', hr, ho, hg, _, ha⟩ := run_append_own_at (P := Try.prog) WA base 98 98 105 i3 _ 3 24 Try.underlying98 j1 j2 j3 j4 rfl (by decide) v l.length (cells3 l) hA ⟨t, 0, none⟩ 1 1 [.int .i64 q.1, .int .i64 q.2.1, .int .i64 q.2.2] rfl (three_cells (W := W) hc) (fun u hu => by simp at hu; rcases hu with rfl | rfl | rfl <;> rfl) (by unfold maxLen; omega) (by omega) (by omega)
  refine ⟨v', w', hr, by rw [cells3_snoc, List.length_append]; exact ho, (Turn.of_below (S := fun k => v.ownBlock = some k) hb).trans ((Turn.refl _ WA).grown hg (fun k hk => .inl hk)), ?_⟩
  rcases ha with e | e
  · exact .inl e
  · exact .inr (.inr ⟨_, e, hz⟩)
theorem cells2_snocR : ∀ (l : List (Int × Int)) (q : Int × Int), cells2 (l ++ [q]) = cells2 l ++ [.int .i64 q.1, .int .i64 q.2]
  | [], q => rfl
  | x :: l, q => by
    show _ :: _ :: cells2 (l ++ [q]) = _ :: _ :: (cells2 l ++ _)
    rw [cells2_snocR l q]
theorem ref_app {W WA : World} {base t : Nat} {v : Value} {l : List (Int × Int)} (h : W.ownsRow base 51 2 v l.length (cells2 l)) (hB : base ≤ W.heap.size) (q : Int × Int) (hl : l.length ≤ 1000) (hb : Below W.heap.size W WA)
    (h0 : WA.cell? ⟨t, 0, none⟩ = some (.int .i64 q.1)) (h1 : WA.cell? ⟨t, 1, none⟩ = some (.int .i64 q.2)) :
    ∃ v' w', (Builtin.append_ #[53, 53] 53 #[v, .slice (some ⟨t, 0, none⟩) 1 1]).run Try.prog WA = .ok v' w' ∧ w'.ownsRow base 51 2 v' (l ++ [q]).length (cells2 (l ++ [q])) ∧ Turn (fun k => v.ownBlock = some k) W w' := by
  obtain ⟨i3, j1, j2, j3, j4⟩ := info_parts info51r
  have hA := own_keep h (fun k hk => hb.block k (h.lt k hk).2)
  have hz := hb.size
  obtain ⟨v', w', hr, ho, hg, _⟩ := run_append_own WA base 53 53 51 i3 _ 2 16 Try.underlying53 j1 j2 j3 j4 rfl (by decide) v l.length (cells2 l) hA ⟨t, 0, none⟩ 1 1 [.int .i64 q.1, .int .i64 q.2] rfl (fun j u hu => by
    rw [Go.WideShapes.add_plain, Nat.zero_add]
    match j, hu with
    | 0, hu => simp at hu; subst hu; exact h0
    | 1, hu => simp at hu; subst hu; exact h1
    | j + 2, hu => simp at hu) (fun u hu => by simp at hu; rcases hu with rfl | rfl <;> rfl) (by unfold maxLen; omega) (by omega) (by omega)
  refine ⟨v', w', hr, ?_, (Turn.of_below (S := fun k => v.ownBlock = some k) hb).trans ((Turn.refl _ WA).grown hg (fun k hk => .inl hk))⟩
  have e : cells2 (l ++ [q]) = cells2 l ++ [.int .i64 q.1, .int .i64 q.2] := cells2_snocR l q
  rw [e, List.length_append]
  exact ho
section
variable {w w' : World} {rb ab n cap base : Nat} {now : Int} {P : Nat → Int} {U : Nat → Value} {Q : Nat → List (Int × Int × Int)}
set_option maxRecDepth 100000 in
set_option maxHeartbeats 2000000 in
theorem RefE.retire (h : RefE w rb ab n cap base now P U Q) {a : Nat} (ha : a < n) (r0 r1 : Int) (hq : (Q a).length ≤ 1000) :
    Calls Try.prog 38 #[.pointer (some ⟨rb, 0, none⟩), .int .i64 (a : Int), .agg #[.int .i64 r0, .int .i64 r1]] w fun e w' => e = .returned (.bool true) ∧ ∃ u', RefE w' rb ab n cap base now P (upd U a u') (upd Q a (Q a ++ [(r0, r1, now)])) ∧ Turn (RefOwn rb ab n U) w w' := by
  have T0 : Turn (fun _ => False) w (w.alloc (.cells #[.int .i64 r0, .int .i64 r1] 51)) := (Turn.refl _ w).alloc _
  have h1 := h.same T0
  have H := h1.is (a : Int)
  rw [hasB_yes ha] at H
  have H := Lib.hid H
  have b0 := World.cell?_alloc_new w #[.int .i64 r0, .int .i64 r1] 51 0
  have b1 := World.cell?_alloc_new w #[.int .i64 r0, .int .i64 r1] 51 1
  simp only [List.getElem?_toArray, List.getElem?_cons_zero, List.getElem?_cons_succ] at b0 b1
  have hz : w.heap.size < (w.alloc (.cells #[.int .i64 r0, .int .i64 r1] 51)).heap.size := by simp
  have HB2 := Lib.hid (World.ownsRow_lit (base := 0) (e := 51) (size := 2) w #[.int .i64 r0, .int .i64 r1] 1 (Nat.zero_le _) (by decide) rfl)
  have hbw := h.bw
  have HT := Lib.hid T0
  have han : (a : Int) < (n : Int) := by omega
  have ha0 : (0 : Int) ≤ (a : Int) := by omega
  clear h T0
  go_enter Try.func38, Try.ntmps38
  go_wp2_with fail
  refine H.out.mono ?_
  rintro e w1 ⟨rfl, rfl⟩
  go_wp2_with fail
  generalize w.alloc (.cells #[.int .i64 r0, .int .i64 r1] 51) = W at *
  obtain ⟨bb, hbb⟩ : ∃ bb, w.heap.size = bb := ⟨_, rfl⟩
  rw [hbb] at b0 b1 hz hbw HB2 ⊢
  clear hbb
  obtain ⟨ad, cp, eu, _⟩ := own_slice (h1.rows a ha)
  have c0 := h1.c0
  have c1 := h1.c1
  have cu := h1.cu a ha
  rw [eu] at cu
  have rows := h1.rows a ha
  have hbb2 : ∀ k, (U a).ownBlock = some k → k ≠ rb ∧ k ≠ ab := fun k hk => by
    have := h1.rowx ha hk
    have := h1.br
    have := h1.ba
    omega
  obtain ⟨u1, w1, run1, own1, T1, f1⟩ := old_app (t := W.heap.size) (WA := W.drew.alloc (.cells #[.int .i64 r0, .int .i64 r1, .int .i64 now] 105)) rows h1.bw (r0, r1, now) (by omega) (((Below.refl _ W).drew).alloc (Nat.le_refl _) _) (fun j u hu => (World.cell?_alloc_new W.drew #[.int .i64 r0, .int .i64 r1, .int .i64 now] 105 j).trans (by simpa using hu))
  obtain ⟨ad1, cp1, e1, _⟩ := own_slice own1
  rw [show (Q a ++ [(r0, r1, now)]).length = (Q a).length + 1 from by simp] at e1
  subst e1
  obtain ⟨E1, T2⟩ := h1.put ha T1 own1 f1
  have FIN := Lib.hid (show ∃ u', RefE (w1.setCell ⟨ab, a * 2 + 1, none⟩ (.slice ad1 ((Q a).length + 1) cp1)) rb ab n cap base now P (upd U a u') (upd Q a (Q a ++ [(r0, r1, now)])) ∧ Turn (RefOwn rb ab n U) w (w1.setCell ⟨ab, a * 2 + 1, none⟩ (.slice ad1 ((Q a).length + 1) cp1)) from ⟨_, E1, (HT.out.more (fun k _ e => e.elim)).trans T2⟩)
  have ftab : w1.frozen? ⟨ab, a * 2 + 1, none⟩ = false := (World.frozen?_of_block (w := W) (T1.block ab (Nat.lt_of_lt_of_le h1.ba h1.bw) (fun e => (hbb2 ab e).2 rfl))).trans (h1.fa _)
  have cu1 : w1.cell? ⟨ab, a * 2 + 1, none⟩ = some (U a) := (T1.cell (fun e => (hbb2 ab e).2 rfl) (h1.cu a ha))
  have c01 := T1.cell (fun e => (hbb2 rb e).1 rfl) c0
  have c11 := T1.cell (fun e => (hbb2 rb e).1 rfl) c1
  have rne : (U a).ownBlock ≠ some bb := fun e => by
    rcases own_apart rows HB2.out (by decide) with q | q
    · rw [e] at q
      cases q
    · exact q e
  have b01 := T1.cell rne b0
  have b11 := T1.cell rne b1
  rw [eu] at cu1 run1
  have RUN := Lib.hid run1
  have cua := past (o := .cells #[.int .i64 r0, .int .i64 r1, .int .i64 now] 105) cu
  have hne : rb ≠ ab := h1.ne
  have nba : ab ≠ bb := by have := h1.ba; omega
  have nbr : rb ≠ bb := by have := h1.br; omega
  have past2 : ∀ {b i : Nat} {v : Value}, W.cell? ⟨b, i, none⟩ = some v → (W.drew.alloc (.cells #[.int .i64 r0, .int .i64 r1, .int .i64 now] 105)).cell? ⟨b, i, none⟩ = some v := fun h => past (w := W.drew) h
  have KD : W.drew.cell? ⟨rb, 0, none⟩ = some (.int .i64 now) ∧ W.drew.cell? ⟨rb, 1, none⟩ = some (.slice (some ⟨ab, 0, none⟩) n cap) ∧ W.drew.cell? ⟨bb, 0, none⟩ = some (.int .i64 r0) ∧ W.drew.cell? ⟨bb, 1, none⟩ = some (.int .i64 r1) := ⟨c0, c1, b0, b1⟩
  have KA := And.intro (past2 c0) (And.intro (past2 c1) (And.intro (past2 b0) (past2 b1)))
  have K1 := And.intro c01 (And.intro c11 (And.intro b01 b11))
  have K2 : (w1.setCell ⟨ab, a * 2 + 1, none⟩ (.slice ad1 ((Q a).length + 1) cp1)).cell? ⟨rb, 0, none⟩ = some (.int .i64 now) ∧ (w1.setCell ⟨ab, a * 2 + 1, none⟩ (.slice ad1 ((Q a).length + 1) cp1)).cell? ⟨rb, 1, none⟩ = some (.slice (some ⟨ab, 0, none⟩) n cap) ∧ (w1.setCell ⟨ab, a * 2 + 1, none⟩ (.slice ad1 ((Q a).length + 1) cp1)).cell? ⟨bb, 0, none⟩ = some (.int .i64 r0) ∧ (w1.setCell ⟨ab, a * 2 + 1, none⟩ (.slice ad1 ((Q a).length + 1) cp1)).cell? ⟨bb, 1, none⟩ = some (.int .i64 r1) :=
    ⟨(cell_far _ _ _ _ _ _ (Ne.symm hne)).trans c01, (cell_far _ _ _ _ _ _ (Ne.symm hne)).trans c11, (cell_far _ _ _ _ _ _ nba).trans b01, (cell_far _ _ _ _ _ _ nba).trans b11⟩
  clear rows hbb2 run1 own1 T1 f1 E1 T2 h1 HT H HB2 rne c01 c11 b01 b11
  refine wp_region_held_drew (S := (fun w' => w'.cell? ⟨rb, 0, none⟩ = some (.int .i64 now) ∧ w'.cell? ⟨rb, 1, none⟩ = some (.slice (some ⟨ab, 0, none⟩) n cap) ∧ w'.cell? ⟨bb, 0, none⟩ = some (.int .i64 r0) ∧ w'.cell? ⟨bb, 1, none⟩ = some (.int .i64 r1))) (by kernel_rfl) ?hs0 (fun hS0 => ?_)
  case hs0 => ((try dsimp only); first | with_reducible exact KD | with_reducible exact KA | with_reducible exact K1 | with_reducible exact K2 | exact KD | exact KA | exact K1 | exact K2)
  refine wpAnyH_take (i := 0) (oi := { dst := some 13, op := Op.move (Operand.tmp 0), type := 44, pos := "ref.go:71", after := #[], guard := none }) (v := ?_) rfl (by kernel_rfl) (by kernel_rfl) (by kernel_rfl) (fun _ _ _ h => h) (Or.inl ⟨by rfl, ?hy1⟩) hS0 ?_
  case hy1 => (intro w hSw; (try dsimp only at hSw); go_simp; try with_reducible rfl)
  try simp only [Act.put, List.setIfInBounds_toArray, List.set_cons_zero, List.set_cons_succ]
  refine wpAnyH_take (i := 1) (oi := { dst := some 14, op := Op.nilCheck (Operand.tmp 13), type := 0, pos := "ref.go:71", after := #[{ on := 0, ground := Ground.data }], guard := none }) (v := ?_) rfl (by kernel_rfl) (by kernel_rfl) (by kernel_rfl) (fun _ _ _ h => h) (Or.inl ⟨by rfl, ?hy2⟩) hS0 ?_
  case hy2 => (intro w hSw; (try dsimp only at hSw); go_simp; try with_reducible rfl)
  try simp only [Act.put, List.setIfInBounds_toArray, List.set_cons_zero, List.set_cons_succ]
  refine wpAnyH_take (i := 2) (oi := { dst := some 15, op := Op.fieldAddr 60 (Operand.tmp 14) 1, type := 0, pos := "ref.go:71", after := #[{ on := 1, ground := Ground.data }], guard := none }) (v := ?_) rfl (by kernel_rfl) (by kernel_rfl) (by kernel_rfl) (fun _ _ _ h => h) (Or.inl ⟨by rfl, ?hy3⟩) hS0 ?_
  case hy3 => (intro w hSw; (try dsimp only at hSw); go_simp; try with_reducible rfl)
  try simp only [Act.put, List.setIfInBounds_toArray, List.set_cons_zero, List.set_cons_succ]
  refine wpAnyH_take (i := 3) (oi := { dst := some 16, op := Op.load 58 (Operand.tmp 15), type := 58, pos := "ref.go:71", after := #[{ on := 2, ground := Ground.data }], guard := none }) (v := ?_) rfl (by kernel_rfl) (by kernel_rfl) (by kernel_rfl) (fun _ _ _ h => h) (Or.inl ⟨by rfl, ?hy4⟩) hS0 ?_
  case hy4 => (intro w hSw; (try dsimp only at hSw); go_simp; try with_reducible rfl)
  try simp only [Act.put, List.setIfInBounds_toArray, List.set_cons_zero, List.set_cons_succ]
  refine wpAnyH_take (i := 4) (oi := { dst := some 17, op := Op.move (Operand.tmp 1), type := 3, pos := "ref.go:71", after := #[], guard := none }) (v := ?_) rfl (by kernel_rfl) (by kernel_rfl) (by kernel_rfl) (fun _ _ _ h => h) (Or.inl ⟨by rfl, ?hy5⟩) hS0 ?_
  case hy5 => (intro w hSw; (try dsimp only at hSw); go_simp; try with_reducible rfl)
  try simp only [Act.put, List.setIfInBounds_toArray, List.set_cons_zero, List.set_cons_succ]
  refine wpAnyH_take (i := 5) (oi := { dst := some 18, op := Op.move (Operand.tmp 0), type := 44, pos := "ref.go:71", after := #[], guard := none }) (v := ?_) rfl (by kernel_rfl) (by kernel_rfl) (by kernel_rfl) (fun _ _ _ h => h) (Or.inl ⟨by rfl, ?hy6⟩) hS0 ?_
  case hy6 => (intro w hSw; (try dsimp only at hSw); go_simp; try with_reducible rfl)
  try simp only [Act.put, List.setIfInBounds_toArray, List.set_cons_zero, List.set_cons_succ]
  refine wpAnyH_take (i := 6) (oi := { dst := some 19, op := Op.nilCheck (Operand.tmp 18), type := 0, pos := "ref.go:71", after := #[{ on := 5, ground := Ground.data }], guard := none }) (v := ?_) rfl (by kernel_rfl) (by kernel_rfl) (by kernel_rfl) (fun _ _ _ h => h) (Or.inl ⟨by rfl, ?hy7⟩) hS0 ?_
  case hy7 => (intro w hSw; (try dsimp only at hSw); go_simp; try with_reducible rfl)
  try simp only [Act.put, List.setIfInBounds_toArray, List.set_cons_zero, List.set_cons_succ]
  refine wpAnyH_take (i := 7) (oi := { dst := some 20, op := Op.fieldAddr 60 (Operand.tmp 19) 1, type := 0, pos := "ref.go:71", after := #[{ on := 6, ground := Ground.data }], guard := none }) (v := ?_) rfl (by kernel_rfl) (by kernel_rfl) (by kernel_rfl) (fun _ _ _ h => h) (Or.inl ⟨by rfl, ?hy8⟩) hS0 ?_
  case hy8 => (intro w hSw; (try dsimp only at hSw); go_simp; try with_reducible rfl)
  try simp only [Act.put, List.setIfInBounds_toArray, List.set_cons_zero, List.set_cons_succ]
  refine wpAnyH_take (i := 8) (oi := { dst := some 21, op := Op.load 58 (Operand.tmp 20), type := 58, pos := "ref.go:71", after := #[{ on := 7, ground := Ground.data }], guard := none }) (v := ?_) rfl (by kernel_rfl) (by kernel_rfl) (by kernel_rfl) (fun _ _ _ h => h) (Or.inl ⟨by rfl, ?hy9⟩) hS0 ?_
  case hy9 => (intro w hSw; (try dsimp only at hSw); go_simp; try with_reducible rfl)
  try simp only [Act.put, List.setIfInBounds_toArray, List.set_cons_zero, List.set_cons_succ]
  refine wpAnyH_take (i := 9) (oi := { dst := some 22, op := Op.move (Operand.tmp 1), type := 3, pos := "ref.go:71", after := #[], guard := none }) (v := ?_) rfl (by kernel_rfl) (by kernel_rfl) (by kernel_rfl) (fun _ _ _ h => h) (Or.inl ⟨by rfl, ?hy10⟩) hS0 ?_
  case hy10 => (intro w hSw; (try dsimp only at hSw); go_simp; try with_reducible rfl)
  try simp only [Act.put, List.setIfInBounds_toArray, List.set_cons_zero, List.set_cons_succ]
  refine wpAnyH_take (i := 10) (oi := { dst := some 23, op := Op.indexAddr 58 (Operand.tmp 21) (Operand.tmp 22), type := 0, pos := "ref.go:71", after := #[{ on := 8, ground := Ground.data }, { on := 9, ground := Ground.data }], guard := none }) (v := ?_) rfl (by kernel_rfl) (by kernel_rfl) (by kernel_rfl) (fun _ _ _ h => h) (Or.inl ⟨by rfl, ?hy11⟩) hS0 ?_
  case hy11 => (intro w hSw; (try dsimp only at hSw); go_simp; try with_reducible rfl)
  try simp only [Act.put, List.setIfInBounds_toArray, List.set_cons_zero, List.set_cons_succ]
  refine wpAnyH_take (i := 11) (oi := { dst := some 24, op := Op.fieldAddr 100 (Operand.tmp 23) 1, type := 0, pos := "ref.go:71", after := #[{ on := 10, ground := Ground.data }], guard := none }) (v := ?_) rfl (by kernel_rfl) (by kernel_rfl) (by kernel_rfl) (fun _ _ _ h => h) (Or.inl ⟨by rfl, ?hy12⟩) hS0 ?_
  case hy12 => (intro w hSw; (try dsimp only at hSw); go_simp; try with_reducible rfl)
  try simp only [Act.put, List.setIfInBounds_toArray, List.set_cons_zero, List.set_cons_succ]
  refine wpAnyH_take (i := 13) (oi := { dst := some 26, op := Op.load 51 (Operand.tmp 5), type := 51, pos := "ref.go:71", after := #[], guard := none }) (v := ?_) rfl (by kernel_rfl) (by kernel_rfl) (by kernel_rfl) (fun _ _ _ h => h) (Or.inl ⟨by rfl, ?hy13⟩) hS0 ?_
  case hy13 => (intro w hSw; (try dsimp only at hSw); go_simp; try with_reducible rfl)
  try simp only [Act.put, List.setIfInBounds_toArray, List.set_cons_zero, List.set_cons_succ]
  refine wpAnyH_take (i := 14) (oi := { dst := some 27, op := Op.move (Operand.tmp 0), type := 44, pos := "ref.go:71", after := #[], guard := none }) (v := ?_) rfl (by kernel_rfl) (by kernel_rfl) (by kernel_rfl) (fun _ _ _ h => h) (Or.inl ⟨by rfl, ?hy14⟩) hS0 ?_
  case hy14 => (intro w hSw; (try dsimp only at hSw); go_simp; try with_reducible rfl)
  try simp only [Act.put, List.setIfInBounds_toArray, List.set_cons_zero, List.set_cons_succ]
  refine wpAnyH_take (i := 15) (oi := { dst := some 28, op := Op.nilCheck (Operand.tmp 27), type := 0, pos := "ref.go:71", after := #[{ on := 14, ground := Ground.data }], guard := none }) (v := ?_) rfl (by kernel_rfl) (by kernel_rfl) (by kernel_rfl) (fun _ _ _ h => h) (Or.inl ⟨by rfl, ?hy15⟩) hS0 ?_
  case hy15 => (intro w hSw; (try dsimp only at hSw); go_simp; try with_reducible rfl)
  try simp only [Act.put, List.setIfInBounds_toArray, List.set_cons_zero, List.set_cons_succ]
  refine wpAnyH_take (i := 16) (oi := { dst := some 29, op := Op.fieldAddr 60 (Operand.tmp 28) 0, type := 0, pos := "ref.go:71", after := #[{ on := 15, ground := Ground.data }], guard := none }) (v := ?_) rfl (by kernel_rfl) (by kernel_rfl) (by kernel_rfl) (fun _ _ _ h => h) (Or.inl ⟨by rfl, ?hy16⟩) hS0 ?_
  case hy16 => (intro w hSw; (try dsimp only at hSw); go_simp; try with_reducible rfl)
  try simp only [Act.put, List.setIfInBounds_toArray, List.set_cons_zero, List.set_cons_succ]
  refine wpAnyH_take (i := 17) (oi := { dst := some 30, op := Op.load 3 (Operand.tmp 29), type := 3, pos := "ref.go:71", after := #[{ on := 16, ground := Ground.data }], guard := none }) (v := ?_) rfl (by kernel_rfl) (by kernel_rfl) (by kernel_rfl) (fun _ _ _ h => h) (Or.inl ⟨by rfl, ?hy17⟩) hS0 ?_
  case hy17 => (intro w hSw; (try dsimp only at hSw); go_simp; try with_reducible rfl)
  try simp only [Act.put, List.setIfInBounds_toArray, List.set_cons_zero, List.set_cons_succ]
  refine wpAnyH_take (i := 18) (oi := { dst := some 31, op := Op.build 105 #[(0, Operand.tmp 26), (1, Operand.tmp 30)], type := 105, pos := "ref.go:71", after := #[{ on := 13, ground := Ground.data }, { on := 17, ground := Ground.data }], guard := none }) (v := ?_) rfl (by kernel_rfl) (by kernel_rfl) (by kernel_rfl) (fun _ _ _ h => h) (Or.inl ⟨by rfl, ?hy18⟩) hS0 ?_
  case hy18 => (intro w hSw; (try dsimp only at hSw); go_simp; try with_reducible rfl)
  try simp only [Act.put, List.setIfInBounds_toArray, List.set_cons_zero, List.set_cons_succ]
  refine wpAnyH_ready (rs := [12, 19]) (by kernel_rfl) (by simp) ?_
  refine AllReadyH.cons (o := { dst := some 25, op := Op.load 98 (Operand.tmp 24), type := 98, pos := "ref.go:71", after := #[{ on := 11, ground := Ground.data }], guard := none }) rfl (fun K hK => ?_) ?_
  · go_simp
    refine hK.out _ _ ?hs19 (fun hS19 => ?_)
    case hs19 => ((try dsimp only); first | with_reducible exact KD | with_reducible exact KA | with_reducible exact K1 | with_reducible exact K2 | exact KD | exact KA | exact K1 | exact K2)
    clear hK K hS0
    refine wpAnyH_ready (rs := [19]) (by kernel_rfl) (by simp) ?_
    refine AllReadyH.cons (o := { dst := some 32, op := Op.buildSlice 98 1 #[(0, Operand.tmp 31)], type := 98, pos := "ref.go:71", after := #[{ on := 18, ground := Ground.data }], guard := none }) rfl (fun K hK => ?_) ?_
    · go_simp
      refine hK.out _ _ ?hs20 (fun hS20 => ?_)
      case hs20 => ((try dsimp only); first | with_reducible exact KD | with_reducible exact KA | with_reducible exact K1 | with_reducible exact K2 | exact KD | exact KA | exact K1 | exact K2)
      clear hK K hS19
      refine wpAnyH_ready (rs := [20]) (by kernel_rfl) (by simp) ?_
      refine AllReadyH.cons (o := { dst := some 33, op := Op.call { callee := Callee.builtin Builtin.append, args := #[Operand.tmp 25, Operand.tmp 32], argTypes := #[98, 98] }, type := 98, pos := "ref.go:71", after := #[{ on := 12, ground := Ground.data }, { on := 19, ground := Ground.data }], guard := none }) rfl (fun K hK => ?_) ?_
      · refine rs_append_run (by rfl) _ _ _ (by rfl) (by rfl) (by rfl) RUN.out ?_
        refine hK.out _ _ ?hs21 (fun hS21 => ?_)
        case hs21 => ((try dsimp only); first | with_reducible exact KD | with_reducible exact KA | with_reducible exact K1 | with_reducible exact K2 | exact KD | exact KA | exact K1 | exact K2)
        clear hK K hS20
        refine wpAnyH_take (i := 21) (oi := { dst := some 34, op := Op.indexAddr 58 (Operand.tmp 16) (Operand.tmp 17), type := 0, pos := "ref.go:71", after := #[{ on := 3, ground := Ground.data }, { on := 4, ground := Ground.data }, { on := 0, ground := Ground.phase }, { on := 1, ground := Ground.phase }, { on := 2, ground := Ground.phase }, { on := 3, ground := Ground.phase }, { on := 4, ground := Ground.phase }, { on := 5, ground := Ground.phase }, { on := 6, ground := Ground.phase }, { on := 7, ground := Ground.phase }, { on := 8, ground := Ground.phase }, { on := 9, ground := Ground.phase }, { on := 10, ground := Ground.phase }, { on := 11, ground := Ground.phase }, { on := 12, ground := Ground.phase }, { on := 13, ground := Ground.phase }, { on := 14, ground := Ground.phase }, { on := 15, ground := Ground.phase }, { on := 16, ground := Ground.phase }, { on := 17, ground := Ground.phase }, { on := 18, ground := Ground.phase }, { on := 19, ground := Ground.phase }, { on := 20, ground := Ground.phase }], guard := none }) (v := ?_) rfl (by kernel_rfl) (by kernel_rfl) (by kernel_rfl) (fun _ _ _ h => h) (Or.inl ⟨by rfl, ?hy22⟩) hS21 ?_
        case hy22 => (intro w hSw; (try dsimp only at hSw); go_simp; try with_reducible rfl)
        try simp only [Act.put, List.setIfInBounds_toArray, List.set_cons_zero, List.set_cons_succ]
        refine wpAnyH_take (i := 22) (oi := { dst := some 35, op := Op.fieldAddr 100 (Operand.tmp 34) 1, type := 0, pos := "ref.go:71", after := #[{ on := 21, ground := Ground.data }, { on := 0, ground := Ground.phase }, { on := 1, ground := Ground.phase }, { on := 2, ground := Ground.phase }, { on := 3, ground := Ground.phase }, { on := 4, ground := Ground.phase }, { on := 5, ground := Ground.phase }, { on := 6, ground := Ground.phase }, { on := 7, ground := Ground.phase }, { on := 8, ground := Ground.phase }, { on := 9, ground := Ground.phase }, { on := 10, ground := Ground.phase }, { on := 11, ground := Ground.phase }, { on := 12, ground := Ground.phase }, { on := 13, ground := Ground.phase }, { on := 14, ground := Ground.phase }, { on := 15, ground := Ground.phase }, { on := 16, ground := Ground.phase }, { on := 17, ground := Ground.phase }, { on := 18, ground := Ground.phase }, { on := 19, ground := Ground.phase }, { on := 20, ground := Ground.phase }], guard := none }) (v := ?_) rfl (by kernel_rfl) (by kernel_rfl) (by kernel_rfl) (fun _ _ _ h => h) (Or.inl ⟨by rfl, ?hy23⟩) hS21 ?_
        case hy23 => (intro w hSw; (try dsimp only at hSw); go_simp; try with_reducible rfl)
        try simp only [Act.put, List.setIfInBounds_toArray, List.set_cons_zero, List.set_cons_succ]
        refine wpAnyH_ready (rs := [23]) (by kernel_rfl) (by simp) ?_
        refine AllReadyH.cons (o := { dst := none, op := Op.store 98 (Operand.tmp 35) (Operand.tmp 33), type := 0, pos := "ref.go:71", after := #[{ on := 22, ground := Ground.data }, { on := 20, ground := Ground.data }, { on := 20, ground := Ground.chain }, { on := 0, ground := Ground.phase }, { on := 1, ground := Ground.phase }, { on := 2, ground := Ground.phase }, { on := 3, ground := Ground.phase }, { on := 4, ground := Ground.phase }, { on := 5, ground := Ground.phase }, { on := 6, ground := Ground.phase }, { on := 7, ground := Ground.phase }, { on := 8, ground := Ground.phase }, { on := 9, ground := Ground.phase }, { on := 10, ground := Ground.phase }, { on := 11, ground := Ground.phase }, { on := 12, ground := Ground.phase }, { on := 13, ground := Ground.phase }, { on := 14, ground := Ground.phase }, { on := 15, ground := Ground.phase }, { on := 16, ground := Ground.phase }, { on := 17, ground := Ground.phase }, { on := 18, ground := Ground.phase }, { on := 19, ground := Ground.phase }, { on := 20, ground := Ground.phase }], guard := none }) rfl (fun K hK => ?_) ?_
        · go_simp
          refine hK.out _ _ ?hs24 (fun hS24 => ?_)
          case hs24 => ((try dsimp only); first | with_reducible exact KD | with_reducible exact KA | with_reducible exact K1 | with_reducible exact K2 | exact KD | exact KA | exact K1 | exact K2)
          clear hK K hS21
          refine wpAnyH_done (by kernel_rfl) ?_ _
          go_wp2_with fail
          go_ret
          exact ⟨rfl, FIN.out⟩
        exact AllReadyH.nil
      exact AllReadyH.nil
    exact AllReadyH.nil
  refine AllReadyH.cons (o := { dst := some 32, op := Op.buildSlice 98 1 #[(0, Operand.tmp 31)], type := 98, pos := "ref.go:71", after := #[{ on := 18, ground := Ground.data }], guard := none }) rfl (fun K hK => ?_) ?_
  · go_simp
    refine hK.out _ _ ?hs25 (fun hS25 => ?_)
    case hs25 => ((try dsimp only); first | with_reducible exact KD | with_reducible exact KA | with_reducible exact K1 | with_reducible exact K2 | exact KD | exact KA | exact K1 | exact K2)
    clear hK K hS0
    refine wpAnyH_ready (rs := [12]) (by kernel_rfl) (by simp) ?_
    refine AllReadyH.cons (o := { dst := some 25, op := Op.load 98 (Operand.tmp 24), type := 98, pos := "ref.go:71", after := #[{ on := 11, ground := Ground.data }], guard := none }) rfl (fun K hK => ?_) ?_
    · go_simp
      refine hK.out _ _ ?hs26 (fun hS26 => ?_)
      case hs26 => ((try dsimp only); first | with_reducible exact KD | with_reducible exact KA | with_reducible exact K1 | with_reducible exact K2 | exact KD | exact KA | exact K1 | exact K2)
      clear hK K hS25
      refine wpAnyH_ready (rs := [20]) (by kernel_rfl) (by simp) ?_
      refine AllReadyH.cons (o := { dst := some 33, op := Op.call { callee := Callee.builtin Builtin.append, args := #[Operand.tmp 25, Operand.tmp 32], argTypes := #[98, 98] }, type := 98, pos := "ref.go:71", after := #[{ on := 12, ground := Ground.data }, { on := 19, ground := Ground.data }], guard := none }) rfl (fun K hK => ?_) ?_
      · refine rs_append_run (by rfl) _ _ _ (by rfl) (by rfl) (by rfl) RUN.out ?_
        refine hK.out _ _ ?hs27 (fun hS27 => ?_)
        case hs27 => ((try dsimp only); first | with_reducible exact KD | with_reducible exact KA | with_reducible exact K1 | with_reducible exact K2 | exact KD | exact KA | exact K1 | exact K2)
        clear hK K hS26
        refine wpAnyH_take (i := 21) (oi := { dst := some 34, op := Op.indexAddr 58 (Operand.tmp 16) (Operand.tmp 17), type := 0, pos := "ref.go:71", after := #[{ on := 3, ground := Ground.data }, { on := 4, ground := Ground.data }, { on := 0, ground := Ground.phase }, { on := 1, ground := Ground.phase }, { on := 2, ground := Ground.phase }, { on := 3, ground := Ground.phase }, { on := 4, ground := Ground.phase }, { on := 5, ground := Ground.phase }, { on := 6, ground := Ground.phase }, { on := 7, ground := Ground.phase }, { on := 8, ground := Ground.phase }, { on := 9, ground := Ground.phase }, { on := 10, ground := Ground.phase }, { on := 11, ground := Ground.phase }, { on := 12, ground := Ground.phase }, { on := 13, ground := Ground.phase }, { on := 14, ground := Ground.phase }, { on := 15, ground := Ground.phase }, { on := 16, ground := Ground.phase }, { on := 17, ground := Ground.phase }, { on := 18, ground := Ground.phase }, { on := 19, ground := Ground.phase }, { on := 20, ground := Ground.phase }], guard := none }) (v := ?_) rfl (by kernel_rfl) (by kernel_rfl) (by kernel_rfl) (fun _ _ _ h => h) (Or.inl ⟨by rfl, ?hy28⟩) hS27 ?_
        case hy28 => (intro w hSw; (try dsimp only at hSw); go_simp; try with_reducible rfl)
        try simp only [Act.put, List.setIfInBounds_toArray, List.set_cons_zero, List.set_cons_succ]
        refine wpAnyH_take (i := 22) (oi := { dst := some 35, op := Op.fieldAddr 100 (Operand.tmp 34) 1, type := 0, pos := "ref.go:71", after := #[{ on := 21, ground := Ground.data }, { on := 0, ground := Ground.phase }, { on := 1, ground := Ground.phase }, { on := 2, ground := Ground.phase }, { on := 3, ground := Ground.phase }, { on := 4, ground := Ground.phase }, { on := 5, ground := Ground.phase }, { on := 6, ground := Ground.phase }, { on := 7, ground := Ground.phase }, { on := 8, ground := Ground.phase }, { on := 9, ground := Ground.phase }, { on := 10, ground := Ground.phase }, { on := 11, ground := Ground.phase }, { on := 12, ground := Ground.phase }, { on := 13, ground := Ground.phase }, { on := 14, ground := Ground.phase }, { on := 15, ground := Ground.phase }, { on := 16, ground := Ground.phase }, { on := 17, ground := Ground.phase }, { on := 18, ground := Ground.phase }, { on := 19, ground := Ground.phase }, { on := 20, ground := Ground.phase }], guard := none }) (v := ?_) rfl (by kernel_rfl) (by kernel_rfl) (by kernel_rfl) (fun _ _ _ h => h) (Or.inl ⟨by rfl, ?hy29⟩) hS27 ?_
        case hy29 => (intro w hSw; (try dsimp only at hSw); go_simp; try with_reducible rfl)
        try simp only [Act.put, List.setIfInBounds_toArray, List.set_cons_zero, List.set_cons_succ]
        refine wpAnyH_ready (rs := [23]) (by kernel_rfl) (by simp) ?_
        refine AllReadyH.cons (o := { dst := none, op := Op.store 98 (Operand.tmp 35) (Operand.tmp 33), type := 0, pos := "ref.go:71", after := #[{ on := 22, ground := Ground.data }, { on := 20, ground := Ground.data }, { on := 20, ground := Ground.chain }, { on := 0, ground := Ground.phase }, { on := 1, ground := Ground.phase }, { on := 2, ground := Ground.phase }, { on := 3, ground := Ground.phase }, { on := 4, ground := Ground.phase }, { on := 5, ground := Ground.phase }, { on := 6, ground := Ground.phase }, { on := 7, ground := Ground.phase }, { on := 8, ground := Ground.phase }, { on := 9, ground := Ground.phase }, { on := 10, ground := Ground.phase }, { on := 11, ground := Ground.phase }, { on := 12, ground := Ground.phase }, { on := 13, ground := Ground.phase }, { on := 14, ground := Ground.phase }, { on := 15, ground := Ground.phase }, { on := 16, ground := Ground.phase }, { on := 17, ground := Ground.phase }, { on := 18, ground := Ground.phase }, { on := 19, ground := Ground.phase }, { on := 20, ground := Ground.phase }], guard := none }) rfl (fun K hK => ?_) ?_
        · go_simp
          refine hK.out _ _ ?hs30 (fun hS30 => ?_)
          case hs30 => ((try dsimp only); first | with_reducible exact KD | with_reducible exact KA | with_reducible exact K1 | with_reducible exact K2 | exact KD | exact KA | exact K1 | exact K2)
          clear hK K hS27
          refine wpAnyH_done (by kernel_rfl) ?_ _
          go_wp2_with fail
          go_ret
          exact ⟨rfl, FIN.out⟩
        exact AllReadyH.nil
      exact AllReadyH.nil
    exact AllReadyH.nil
  exact AllReadyH.nil
end
end Go.Proofs.Ytibmimdlgbhdnaa
