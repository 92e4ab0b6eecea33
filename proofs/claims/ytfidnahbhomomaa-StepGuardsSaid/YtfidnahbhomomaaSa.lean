/-
  Rows of numbers in memory, read from wherever they lie; rows put behind one another.
-/
import Derived.Test.YtfidnahbhomomaaBase
import Derived.RangeFuncRecord
namespace Go.Proofs.Ytfidnahbhomomaa
open Go.ChangeShapes Go.WideShapes Go.ChangeAt Go.RowKit
set_option linter.unusedVariables false
set_option linter.unusedSimpArgs false
/-- A row of numbers. -/
def RowAt (w : World) (v : Value) (l : List Int) : Prop :=
  ∃ (a : Option Addr) (b off cap : Nat), v = .slice a l.length cap ∧ l.length ≤ cap ∧ (l = [] ∨ a = some ⟨b, off, none⟩) ∧ ∀ (j : Nat) (x : Int), l[j]? = some x → w.cell? ⟨b, off + j, none⟩ = some (.int .i64 x)
/-- A row of rows of numbers. -/
def RowsAt (w : World) (v : Value) (L : List (List Int)) : Prop :=
  ∃ (a : Option Addr) (b off cap : Nat), v = .slice a L.length cap ∧ (L = [] ∨ a = some ⟨b, off, none⟩) ∧ ∀ (k : Nat) (l : List Int), L[k]? = some l → ∃ r, w.cell? ⟨b, off + k, none⟩ = some r ∧ RowAt w r l
theorem turn_fresh {w wr wa : World} {v : Value} {e : TypeId} {s m : Nat} {xs : List Value} (T : Turn (fun _ => False) w wr) (hr : wr.ownsRow w.heap.size e s v m xs) (T2 : Turn (fun k => v.ownBlock = some k) wr wa) : Turn (fun _ => False) w wa :=
  ⟨T2.os.trans T.os, T2.tape.trans T.tape, T2.output.trans T.output, Nat.le_trans T.size T2.size, fun k hk _ => (T2.block k (Nat.lt_of_lt_of_le hk T.size) (fun e => by have := (hr.lt k e).1; omega)).trans (T.block k hk id)⟩
theorem RowAt.turn {w w' : World} {v : Value} {l : List Int} (h : RowAt w v l) (t : Turn (fun _ => False) w w') : RowAt w' v l := by
  obtain ⟨a, b, off, cap, e, hc, ha, hx⟩ := h
  exact ⟨a, b, off, cap, e, hc, ha, fun j x hj => t.cell id (hx j x hj)⟩
theorem RowsAt.turn {w w' : World} {v : Value} {L : List (List Int)} (h : RowsAt w v L) (t : Turn (fun _ => False) w w') : RowsAt w' v L := by
  obtain ⟨a, b, off, cap, e, ha, hx⟩ := h
  exact ⟨a, b, off, cap, e, ha, fun k l hl => by
    obtain ⟨r, hc, hr⟩ := hx k l hl
    exact ⟨r, t.cell id hc, hr.turn t⟩⟩
theorem info3t : (Try.prog.info? 3).map (fun i => (i.zero, i.size, i.bytes)) = some (some (.int .i64 0), 1, 8) := by kernel_rfl
def intsV (l : List Int) : List Value := l.map (.int .i64)
theorem rowAt_own {w : World} {base : Nat} {v : Value} {l : List Int} (h : w.ownsRow base 3 1 v l.length (intsV l)) : RowAt w v l := by
  rcases h.2 with ⟨e, e2⟩ | ⟨g, cap, cur, e, hg, hgg, hc, _⟩
  · obtain rfl := List.eq_nil_of_length_eq_zero e2
    exact ⟨none, 0, 0, 0, e, Nat.le_refl _, .inl rfl, fun j x h => by simp at h⟩
  · subst e
    refine ⟨_, g, 0, cap, rfl, hc, .inr rfl, fun j x hj => ?_⟩
    have hl := (List.getElem?_eq_some_iff.1 hj).1
    rw [Nat.zero_add]
    refine (h.cellAt j (by omega)).trans ?_
    unfold intsV
    rw [List.getElem?_map, hj]
    rfl
theorem rl_append_run2 {P : Program} {w w' : World} {ops : Array Oper} {rest : List Oper} {o : Oper} {a : Act} {Q : Exit → Act → World → Prop} (hgd : o.guard = none) (s x : Operand) (t u : TypeId)
    (ho : o.op = .call { callee := .builtin .append, args := #[s, x], argTypes := #[t, u] }) {v v1 v2 : Value} (hs : a.eval s = v1) (hx : a.eval x = v2)
    (hr : (Builtin.append_ #[t, u] o.type #[v1, v2]).run P w = .ok v w') (h : wpList P ops Q rest (a.put o.dst v) w') : wpList P ops Q (o :: rest) a w :=
  wpList_plain hgd fun _ hK => by
    unfold Oper.wp execOp
    simp only [ho, resolve, invoke, builtin, Sem.run_bind, Sem.run_pure, Result.andThen_ok, List.map_toArray, List.map_cons, List.map_nil, hs, hx, hr]
    exact hK _ _ h
theorem grownCap_ge (w : World) (need old : Nat) (e : TypeId) : need ≤ grownCap w need old e := by
  simp only [grownCap, Question.cut]
  omega
theorem under3 : Try.prog.underlying 3 = some (.int .i64) := Try.underlying3
/-- Room made for n numbers. -/
theorem grow_app (w : World) (n : Nat) (h0 : 0 < n) (hn : n ≤ 1000) :
    ∃ cap, (Builtin.append_ #[22, 3] 22 #[.slice none 0 0, .int .i64 (n : Int)]).run Try.prog w = .ok (.slice (some ⟨w.heap.size, 0, none⟩) n cap) (w.drew.alloc (.cells (Builtin.zeroCells #[.int .i64 0] n ++ Builtin.zeroCells #[.int .i64 0] (cap - n)) 3)) ∧ n ≤ cap ∧ cap ≤ maxLen := by
  obtain ⟨i, hi, hz, hs, hb⟩ := info_parts info3t
  refine ⟨grownCap w n 0 3, ?_, grownCap_ge w n 0 3, grownCap_le_maxLen w n 0 3 (by unfold maxLen; omega)⟩
  have hn' : n ≠ 0 := by omega
  have hw : IntKind.i64.wrap (n : Int) = (n : Int) := IntWalk.i64_in _ (by omega)
  have h1 : ¬ ((n : Int) < 0) := by omega
  have h2 : ¬ (281474976710656 < (n : Int) * 8) := by omega
  have h63' : ¬ (9223372036854775807 < (n : Int)) := by omega
  have h48' : ¬ (281474976710656 < Builtin.nextslicecap n 0 * 8) := by rw [nextslicecap_zero h0]; omega
  have ha : ∀ w, (asIntOf (Value.int .i64 (n : Int))).run Try.prog w = .ok (.i64, (n : Int)) w := fun w => rfl
  have hnn : ¬ ((n : Int) ≤ 0) := by omega
  have hmx : ¬ (9223372036854775807 < max (n : Int) 0) := by omega
  simp [Builtin.append_, ha, hnn, hmx, run_underlying Try.underlying22, run_underlying under3, sizeOf, typeInfo, zeroValue, hi, hz, hs, hb, Builtin.lenOf, hn', h63', h48', Question.forced, run_firstCells_none, newRow, grownCap, asInt, hw, h1, h2]
  rfl
set_option maxRecDepth 100000 in
set_option maxHeartbeats 2000000 in
theorem grow_is (w : World) (n : Nat) (hn : n ≤ 1000) :
    Calls Try.prog 70 #[.slice none 0 0, .int .i64 (n : Int)] w fun e w' => ∃ v, e = .returned v ∧ w'.ownsRow w.heap.size 3 1 v 0 [] ∧ Turn (fun _ => False) w w' := by
  rcases Nat.eq_zero_or_pos n with rfl | h0
  · go_enter Try.func70, Try.ntmps70
    go_wp2_with fail
    go_ret
    exact ⟨_, rfl, World.ownsRow_nil _ _ _ _, Turn.refl _ _⟩
  · obtain ⟨cap, hrun, hc1, hc2⟩ := grow_app w n h0 hn
    have RUN := Lib.hid hrun
    have F := Lib.hid (show (w.drew.alloc (.cells (Builtin.zeroCells #[.int .i64 0] n ++ Builtin.zeroCells #[.int .i64 0] (cap - n)) 3)).ownsRow w.heap.size 3 1 (.slice (some ⟨w.heap.size, 0, none⟩) 0 cap) 0 [] ∧ Turn (fun _ => False) w (w.drew.alloc (.cells (Builtin.zeroCells #[.int .i64 0] n ++ Builtin.zeroCells #[.int .i64 0] (cap - n)) 3)) from
      ⟨⟨rfl, .inr ⟨w.heap.size, cap, _, rfl, Nat.le_refl _, World.alloc_heap_new w.drew _, Nat.zero_le _, hc2, by simp [Builtin.zeroCells]; omega, by simp⟩⟩, ((Turn.refl _ w).drewN 1).alloc _⟩)
    have t1 : decide ((n : Int) < 0) = false := by simp
    have t2 : decide ((0 : Int) < (n : Int)) = true := by simp; omega
    have hw : IntKind.i64.wrap (n : Int) = (n : Int) := IntWalk.i64_in _ (by omega)
    clear hrun hc2
    generalize w.drew.alloc (.cells (Builtin.zeroCells #[.int .i64 0] n ++ Builtin.zeroCells #[.int .i64 0] (cap - n)) 3) = W at *
    go_enter Try.func70, Try.ntmps70
    go_wp2_with (refine rl_append_run2 (by rfl) _ _ _ _ (by rfl) (by rfl) (by rfl) RUN.out ?_)
    go_ret
    exact ⟨_, rfl, F.out⟩
theorem append_none {w : World} {base n c : Nat} {v : Value} {xs : List Value} (hown : w.ownsRow base 3 1 v n xs) : (Builtin.append_ #[22, 22] 22 #[v, .slice none 0 c]).run Try.prog w = .ok v w := by
  obtain ⟨i, hi, _⟩ := info_parts info3t
  rcases hown.2 with ⟨rfl, rfl⟩ | ⟨g, cap, cur, rfl, _, _, hnc, _⟩
  · simp [Builtin.append_, run_underlying Try.underlying22, sizeOf, typeInfo, hi, Builtin.lenOf, Builtin.firstCells]
  · simp [Builtin.append_, run_underlying Try.underlying22, sizeOf, typeInfo, hi, Builtin.lenOf, Builtin.firstCells, hnc, storeCells]
/-- A row's numbers put behind a row of one's own. -/
theorem nums_app {W : World} {base n : Nat} {v r : Value} {xs : List Value} {l : List Int} (h : W.ownsRow base 3 1 v n xs) (hB : base ≤ W.heap.size) (hn : n + l.length ≤ 100000) (hr : RowAt W r l) :
    ∃ v' w', (Builtin.append_ #[22, 22] 22 #[v, r]).run Try.prog W = .ok v' w' ∧ w'.ownsRow base 3 1 v' (n + l.length) (xs ++ intsV l) ∧ Turn (fun k => v.ownBlock = some k) W w' := by
  obtain ⟨i3, j1, j2, j3, j4⟩ := info_parts info3t
  obtain ⟨a, b, off, cap, rfl, hc, ha, hx⟩ := hr
  cases a with
  | none =>
    obtain rfl := ha.resolve_right (fun e => by cases e)
    exact ⟨v, W, append_none h, by simpa [intsV] using h, Turn.refl _ _⟩
  | some p =>
    obtain ⟨v', w', hr, ho, hg, _⟩ := run_append_own W base 22 22 3 i3 _ 1 8 Try.underlying22 j1 j2 j3 j4 rfl (by decide) v n xs h p l.length cap (intsV l) (by unfold intsV; simp) (fun j u hu => by
      unfold intsV at hu
      rw [List.getElem?_map] at hu
      obtain ⟨x, hx1, rfl⟩ := Option.map_eq_some_iff.1 hu
      have hp : p = ⟨b, off, none⟩ := by
        rcases ha with e | e
        · rw [e] at hx1
          simp at hx1
        · injection e
      subst hp
      rw [Go.WideShapes.add_plain]
      exact hx j x hx1) (fun u hu => by unfold intsV at hu; simp at hu; obtain ⟨x, _, rfl⟩ := hu; rfl) (by unfold maxLen; omega) (by omega) (by omega)
    exact ⟨v', w', hr, ho, (Turn.refl _ W).grown hg (fun k hk => .inl hk)⟩
/-- The numbers of all rows. -/
def flatI (M : List (List Int)) : List Int := M.flatten
theorem flat_take {M : List (List Int)} {k : Nat} {l : List Int} (h : M[k]? = some l) : flatI (M.take (k + 1)) = flatI (M.take k) ++ l := by
  unfold flatI
  rw [List.take_add_one, h, List.flatten_append]
  simp
theorem flat_len {M : List (List Int)} (h : M.length ≤ 12 ∧ ∀ x ∈ M, x.length ≤ 50) (k : Nat) : (flatI (M.take k)).length ≤ 600 := by
  have h1 : ∀ (L : List (List Int)), (∀ x ∈ L, x.length ≤ 50) → (flatI L).length ≤ 50 * L.length := fun L hL => by
    induction L with
    | nil => simp [flatI]
    | cons a L ih =>
      have := ih fun x hx => hL x (List.mem_cons_of_mem _ hx)
      have h2 := hL a (List.mem_cons_self ..)
      simp only [flatI, List.flatten_cons, List.length_append, List.length_cons] at this ⊢
      omega
  have := h1 (M.take k) fun x hx => h.2 x (List.mem_of_mem_take hx)
  rw [List.length_take] at this
  omega
def Cc1 (w : World) (M : List (List Int)) (gh : Nat) (v3 v11 : Value) (wr : World) : Prop :=
  ∃ k : Nat, v11 = .int .i64 (k : Int) ∧ k ≤ M.length ∧ gh = M.length - k ∧ v3 = .int .i64 (((flatI (M.take k)).length : Nat) : Int) ∧ wr = w
def Cc2 (w : World) (M : List (List Int)) (gh : Nat) (v6 v27 : Value) (wr : World) : Prop :=
  ∃ k : Nat, v27 = .int .i64 (k : Int) ∧ k ≤ M.length ∧ gh = M.length - k ∧ wr.ownsRow w.heap.size 3 1 v6 (flatI (M.take k)).length (intsV (flatI (M.take k))) ∧ Turn (fun _ => False) w wr
def FlatPost (w : World) (M : List (List Int)) (v : Value) (w' : World) : Prop := w'.ownsRow w.heap.size 3 1 v (flatI M).length (intsV (flatI M)) ∧ Turn (fun _ => False) w w'
set_option maxRecDepth 100000 in
set_option maxHeartbeats 4000000 in
theorem concat_is {w : World} {v : Value} {M : List (List Int)} (h : RowsAt w v M) (hM : M.length ≤ 12 ∧ ∀ x ∈ M, x.length ≤ 50) :
    Calls Try.prog 58 #[v] w fun e w' => ∃ v', e = .returned v' ∧ FlatPost w M v' w' := by
  obtain ⟨a, b, off, cap, rfl, ha, hx⟩ := h
  have HX := Lib.hid hx
  have R0 : Cc1 w M M.length (.int .i64 0) (.int .i64 0) w := ⟨0, rfl, Nat.zero_le _, rfl, rfl, rfl⟩
  clear hx
  go_enter Try.func58, Try.ntmps58
  go_wp2_with fail
  go_loopg [3, 11] M.length (fun gh v3 v11 wr => Cc1 w M gh v3 v11 wr)
  case atStart => exact R0
  case round =>
    clear R0
    obtain ⟨k, rfl, hk, hg, rfl, rfl⟩ := hrel
    have hfl := flat_len hM k
    by_cases hkl : k < M.length
    · obtain rfl := ha.resolve_left (fun e => by rw [e] at hkl; simp at hkl)
      obtain ⟨l, hl⟩ : ∃ l, M[k]? = some l := ⟨_, List.getElem?_eq_getElem hkl⟩
      obtain ⟨r, z, p, _, _, c, rfl, _⟩ := HX.out k l hl
      have hl4 := hM.2 l (List.mem_of_getElem? hl)
      have ht : decide ((k : Int) < (M.length : Int)) = true := by simp; omega
      have hk1 : (k : Int) < (M.length : Int) := by omega
      have hk0 : (0 : Int) ≤ (k : Int) := by omega
      have NX := Lib.hid (show Cc1 wr M (M.length - (k + 1)) (.int .i64 (((flatI (M.take k)).length : Int) + (l.length : Int))) (.int .i64 ((k + 1 : Nat) : Int)) wr from ⟨k + 1, rfl, by omega, rfl, by rw [flat_take hl, List.length_append]; rfl, rfl⟩)
      have G := Lib.hid hg
      clear hl hg
      generalize (flatI (M.take k)).length = s at *
      have hs0 : decide (((s : Int) + (l.length : Int)) < 0) = false := by simp; omega
      go_wp2_with fail
      go_roundg (M.length - (k + 1))
      case measure => have := G.out; omega
      case rel => exact NX.out
    · obtain ⟨W0, rfl⟩ : ∃ W0 : World, W0 = wr := ⟨_, rfl⟩
      have e : M.take k = M := List.take_of_length_le (by omega)
      rw [e] at hfl ⊢
      have GR := Lib.hid (grow_is W0 (flatI M).length (by omega))
      have ht : decide ((k : Int) < (M.length : Int)) = false := by simp; omega
      clear e hg
      generalize hs : (flatI M).length = s at *
      go_wp2_with fail
      refine GR.out.mono ?_
      rintro e w1 ⟨v1, rfl, ho, T⟩
      have R1 : Cc2 W0 M M.length v1 (.int .i64 0) w1 := ⟨0, rfl, Nat.zero_le _, rfl, ho, T⟩
      have TT := Lib.hid T
      clear ho T GR
      go_wp2_with fail
      go_loopg [6, 27] M.length (fun gh v6 v27 wr' => Cc2 W0 M gh v6 v27 wr')
      case atStart => exact R1
      case round =>
        clear R1
        obtain ⟨j, rfl, hj, hg, ho, T⟩ := hrel
        have hfl2 := flat_len hM j
        by_cases hjl : j < M.length
        · obtain rfl := ha.resolve_left (fun e => by rw [e] at hjl; simp at hjl)
          obtain ⟨l, hl⟩ : ∃ l, M[j]? = some l := ⟨_, List.getElem?_eq_getElem hjl⟩
          obtain ⟨r, z, hra⟩ := HX.out j l hl
          have hl4 := hM.2 l (List.mem_of_getElem? hl)
          have y := T.cell id z
          obtain ⟨v5, w5, hrun, ho5, T5⟩ := nums_app ho T.size (by omega) (hra.turn T)
          obtain ⟨p, _, _, c, rfl, _⟩ := hra
          have ht : decide ((j : Int) < (M.length : Int)) = true := by simp; omega
          have hk1 : (j : Int) < (M.length : Int) := by omega
          have hk0 : (0 : Int) ≤ (j : Int) := by omega
          have FIN := Lib.hid (show Cc2 W0 M (M.length - (j + 1)) v5 (.int .i64 ((j + 1 : Nat) : Int)) w5 from ⟨j + 1, rfl, by omega, rfl, by
            rw [flat_take hl, List.length_append, show intsV (flatI (M.take j) ++ l) = intsV (flatI (M.take j)) ++ intsV l by simp [intsV]]
            exact ho5, turn_fresh T ho T5⟩)
          obtain ⟨p6, c6, rfl, _⟩ := own_slice ho
          obtain ⟨p5, c5, rfl, _⟩ := own_slice ho5
          have RUN := Lib.hid hrun
          have G := Lib.hid hg
          clear hl hg ho T hrun ho5 T5 z
          generalize (flatI (M.take j)).length = s2 at *
          go_wp2_with (refine rl_append_run (by rfl) _ _ _ (by rfl) (by rfl) (by rfl) RUN.out ?_)
          go_roundg (M.length - (j + 1))
          case measure => have := G.out; omega
          case rel => exact FIN.out
        · have e : M.take j = M := List.take_of_length_le (by omega)
          rw [e] at ho
          have F := Lib.hid (show FlatPost W0 M _ wr from ⟨ho, T⟩)
          obtain ⟨p6, c6, rfl, _⟩ := own_slice ho
          have ht2 : decide ((j : Int) < (M.length : Int)) = false := by simp; omega
          clear e hg ho T
          generalize (flatI M).length = s2 at *
          go_wp2
          go_ret
          exact ⟨_, rfl, F.out⟩
end Go.Proofs.Ytfidnahbhomomaa
