/-
  What Lex holds between two tokens.
-/
import Derived.Test.YtadogobdlcionaaDoorPg
import Derived.Maps.AppendAt
namespace Go.Proofs.YtadogobdlcionaaDoor
open Go.ChangeShapes Go.WideShapes Go.ChangeAt Go.RowKit Go.Shelf
set_option linter.unusedVariables false
attribute [local go_sem] Oper.semAt_some
theorem ri_append_run {F : Fence} {nF : Nat} {P : Program} {w w' : World} {ops : Array Oper} {rest : List Oper} {o : Oper} {a : Act} {Q : Exit → Act → World → Prop} (hgd : o.guard = none) (s x : Operand) (t : TypeId)
    (ho : o.op = .call { callee := .builtin .append, args := #[s, x], argTypes := #[t, t] }) {v v1 v2 : Value} (hs : a.eval s = v1) (hx : a.eval x = v2)
    (hr : (Builtin.append_ #[t, t] o.type #[v1, v2]).run P w = .ok v w') (h : wpListIn F nF P ops Q rest (a.put o.dst v) w') : wpListIn F nF P ops Q (o :: rest) a w := by
  refine wpListIn_plain hgd fun K hK => ?_
  unfold Oper.wpIn
  refine ⟨by simp [Oper.about, ho, resolve, Target.leads, Sem.run_pure], ?_⟩
  rw [Oper.semAt_plain F _ _ (by rw [ho]; intro c hc'; cases hc')]
  simp [execOp, ho, resolve, invoke, builtin, hs, hx, hr, Result.andThen]
  exact hK _ _ h
theorem own_blk {w : World} {base size n : Nat} {e : TypeId} {v : Value} {xs : List Value} (h : w.ownsRow base e size v n xs) {k : Nat} (hk : v.ownBlock = some k) : Blk w k e ∧ base ≤ k := by
  rcases h.2 with ⟨e, _⟩ | ⟨g', cap, cur, e, hb, hgg, _⟩
  · rw [e] at hk; simp [Value.ownBlock] at hk
  · rw [e] at hk
    simp [Value.ownBlock] at hk
    subst hk
    exact ⟨⟨_, hgg⟩, hb⟩
theorem own_weak {w : World} {base base' size n : Nat} {e : TypeId} {v : Value} {xs : List Value} (h : w.ownsRow base e size v n xs) (hb : base' ≤ base) : w.ownsRow base' e size v n xs :=
  ⟨h.1, h.2.imp id (fun ⟨g, cap, cur, e, q, r⟩ => ⟨g, cap, cur, e, Nat.le_trans hb q, r⟩)⟩
def tokC (s : ByteArray) (x : Nat × Tok) : List Value := tokL x.2.kind x.1 x.2.n (s.extract x.1 (x.1 + x.2.len))
def toksC (s : ByteArray) (L : List (Nat × Tok)) : List Value := (L.map (tokC s)).flatten
theorem toksC_snoc (s : ByteArray) (L : List (Nat × Tok)) (x : Nat × Tok) : toksC s (L ++ [x]) = toksC s L ++ tokC s x := by simp [toksC]
theorem info30 : (Tryd.prog.info? 67).map (fun i => (i.zero, i.size, i.bytes)) = some (some (.agg #[.int .i64 0, .int .i64 0, .string ⟨#[]⟩, .int .i64 0]), 4, 40) := by kernel_rfl
theorem tok_add {w : World} {base n : Nat} {v : Value} {xs : List Value} (ho : w.ownsRow base 67 4 v n xs) (hn : n ≤ 1000000) (hb : base ≤ w.heap.size) (k i m : Int) (t : ByteArray) :
    ∃ v' w2, (Builtin.append_ #[33, 33] 33 #[v, .slice (some ⟨w.heap.size, 0, none⟩) 1 1]).run Tryd.prog (w.alloc (.cells #[.int .i64 k, .int .i64 i, .string t, .int .i64 m] 67)) = .ok v' w2 ∧ w2.ownsRow base 67 4 v' (n + 1) (xs ++ tokL k i m t) ∧ Turn (fun k => v.ownBlock = some k) w w2 := by
  have T1 : Turn (fun _ => False) w (w.alloc (.cells #[.int .i64 k, .int .i64 i, .string t, .int .i64 m] 67)) := (Turn.refl _ w).alloc _
  have ho1 := own_turn ho T1 (fun _ _ q => q)
  obtain ⟨i3, j1, j2, j3, j4⟩ := info_parts info30
  obtain ⟨v', w2, hrun, ho2, hg, _, hbl⟩ := run_append_own_at (w.alloc (.cells #[.int .i64 k, .int .i64 i, .string t, .int .i64 m] 67)) base 33 33 67 i3 _ 4 40 Tryd.underlying33 j1 j2 j3 j4 rfl (by decide) _ _ _ ho1 ⟨w.heap.size, 0, none⟩ 1 1 (tokL k i m t) rfl
    (cells_new w (tokL k i m t) 67 _ rfl) (fun u hu => by
      simp only [tokL, List.mem_cons, List.not_mem_nil, or_false] at hu
      rcases hu with rfl | rfl | rfl | rfl <;> rfl) (by unfold maxLen; omega) (by omega) (by rw [World.size_alloc]; omega)
  exact ⟨v', w2, hrun, ho2, (T1.more (fun _ _ q => q.elim)).trans ((Turn.refl _ _).grown hg (fun k hk => .inl hk))⟩
/-- Between two tokens: the results' boxes, what is collected, the place behind the last token. -/
structure LexI (w W : World) (N : Nat) (s : ByteArray) (v : Value) (pre : List (Nat × Tok)) (m : Nat) : Prop where
  r2 : Blk W N 33 ∧ W.cell? ⟨N, 0, none⟩ = some (.slice none 0 0)
  r3 : Blk W (N + 1) 3 ∧ W.cell? ⟨N + 1, 0, none⟩ = some (.int .i64 0)
  r4 : Blk W (N + 2) 28 ∧ W.cell? ⟨N + 2, 0, none⟩ = some (.int .i64 0)
  l : Blk W (N + 3) 33 ∧ W.cell? ⟨N + 3, 0, none⟩ = some v
  a : Blk W (N + 4) 3 ∧ W.cell? ⟨N + 4, 0, none⟩ = some (.int .i64 (endB pre : Int))
  own : W.ownsRow (N + 6) 67 4 v pre.length (toksC s pre)
  low : ∀ k, v.ownBlock = some k → k < m
  le : pre.length ≤ 200
  tn : Turn (fun _ => False) w W
  ge : w.heap.size ≤ N
section
variable {w W W' : World} {N m : Nat} {s : ByteArray} {v : Value} {pre : List (Nat × Tok)}
/-- It bears a turn of blocks that are none of these. -/
theorem LexI.turn {S : Nat → Prop} (h : LexI w W N s v pre m) (T : Turn S W W') (hS : ∀ k, S k → w.heap.size ≤ k) (h0 : ¬ S N ∧ ¬ S (N + 1) ∧ ¬ S (N + 2) ∧ ¬ S (N + 3) ∧ ¬ S (N + 4)) (ho : ∀ k, v.ownBlock = some k → ¬ S k) : LexI w W' N s v pre m :=
  ⟨⟨h.r2.1.turn T h0.1, T.cell h0.1 h.r2.2⟩, ⟨h.r3.1.turn T h0.2.1, T.cell h0.2.1 h.r3.2⟩, ⟨h.r4.1.turn T h0.2.2.1, T.cell h0.2.2.1 h.r4.2⟩, ⟨h.l.1.turn T h0.2.2.2.1, T.cell h0.2.2.2.1 h.l.2⟩, ⟨h.a.1.turn T h0.2.2.2.2, T.cell h0.2.2.2.2 h.a.2⟩, own_turn h.own T ho, h.low, h.le, h.tn.comp T (fun i hi q => by have := hS i q; omega), h.ge⟩
theorem grown_turn' {row : Option Nat} (g : W.grownBy W' row) : Turn (fun k => row = some k) W W' := (Turn.refl _ W).grown g (fun k e => .inl e)
theorem LexI.bears (h : LexI w W N s v pre m) {row : Option Nat} (g : W.grownBy W' row) (hm : N + 5 ≤ m) (hr : ∀ r, row = some r → m ≤ r) : LexI w W' N s v pre m := by
  have hg := h.ge
  refine h.turn (grown_turn' g) (fun k e => by have := hr k e; omega) ⟨?_, ?_, ?_, ?_, ?_⟩ (fun k hk e => by have := hr k e; have := h.low k hk; omega)
  all_goals (intro e; have := hr _ e; omega)
theorem LexI.own' (h : LexI w W N s v pre m) {row : Option Nat} (g : W.grownBy W' row) (hm : N + 5 ≤ W.heap.size) (hr : ∀ r, row = some r → N + 5 ≤ r ∧ ∃ o, W.heap[r]? = some o ∧ o.isCells = false) : LexI w W' N s v pre m := by
  have hg := h.ge
  refine h.turn (grown_turn' g) (fun k e => by have := (hr k e).1; omega) ⟨?_, ?_, ?_, ?_, ?_⟩ (fun k hk e => by
    obtain ⟨_, o, ho, hc⟩ := hr k e
    obtain ⟨⟨cs, hb⟩, _⟩ := own_blk h.own hk
    rw [ho] at hb
    cases hb
    cases hc)
  all_goals (intro e; have := (hr _ e).1; omega)
/-- One more token. -/
theorem LexI.push (h : LexI w W N s v pre m) (h6 : N + 6 ≤ m) (mW : m ≤ W.heap.size) (x : Nat × Tok) (hl : pre.length < 200) :
    ∃ a' c' W2, (Builtin.append_ #[33, 33] 33 #[v, .slice (some ⟨W.heap.size, 0, none⟩) 1 1]).run Tryd.prog (W.alloc (.cells #[.int .i64 (x.2.kind : Int), .int .i64 (x.1 : Int), .string (s.extract x.1 (x.1 + x.2.len)), .int .i64 (x.2.n : Int)] 67)) = .ok (.slice a' (pre.length + 1) c') W2 ∧
      Turn (fun k => v.ownBlock = some k) W W2 ∧
      LexI w ((W2.setCell ⟨N + 3, 0, none⟩ (.slice a' (pre.length + 1) c')).setCell ⟨N + 4, 0, none⟩ (.int .i64 ((x.1 + x.2.len : Nat) : Int))) N s (.slice a' (pre.length + 1) c') (pre ++ [x]) W2.heap.size := by
  obtain ⟨v', W2, hr, ho, T⟩ := tok_add h.own (by omega) (by omega) (x.2.kind : Int) (x.1 : Int) (x.2.n : Int) (s.extract x.1 (x.1 + x.2.len))
  have own6 : ∀ k, v.ownBlock = some k → N + 6 ≤ k := fun k hk => (own_blk h.own hk).2
  obtain ⟨a', c', rfl, -⟩ := own_slice ho
  have nn : ∀ j, j < N + 6 → ¬ v.ownBlock = some j := fun j hj e => by have := own6 j e; omega
  have hg := h.ge
  have T2 : Turn (fun k => k = N + 3 ∨ k = N + 4) W2 ((W2.setCell ⟨N + 3, 0, none⟩ (.slice a' (pre.length + 1) c')).setCell ⟨N + 4, 0, none⟩ (.int .i64 ((x.1 + x.2.len : Nat) : Int))) :=
    ((Turn.put W2 (N + 3) 0 (.slice a' (pre.length + 1) c')).more (fun _ _ q => .inl q)).trans ((Turn.put _ (N + 4) 0 _).more (fun _ _ q => .inr q))
  have b3 := h.l.1.turn T (nn _ (by omega))
  have b4 := h.a.1.turn T (nn _ (by omega))
  have c3 := T.cell (nn _ (by omega)) h.l.2
  have c4 := T.cell (nn _ (by omega)) h.a.2
  refine ⟨a', c', W2, hr, T, ⟨h.r2.1.turn T (nn _ (by omega)) |>.turn T2 (by omega), T2.cell (by omega) (T.cell (nn _ (by omega)) h.r2.2)⟩, ⟨h.r3.1.turn T (nn _ (by omega)) |>.turn T2 (by omega), T2.cell (by omega) (T.cell (nn _ (by omega)) h.r3.2)⟩, ⟨h.r4.1.turn T (nn _ (by omega)) |>.turn T2 (by omega), T2.cell (by omega) (T.cell (nn _ (by omega)) h.r4.2)⟩,
    ⟨(b3.set _ _).set _ _, (cell_far _ _ _ _ _ _ (by omega)).trans (World.cell?_setCell_same _ _ _ c3)⟩, ⟨(b4.set _ _).set _ _, ?_⟩, ?_, fun k hk => ?_, by rw [List.length_append]; simp; omega, ?_, h.ge⟩
  · rw [endB_snoc]
    exact World.cell?_setCell_same _ _ _ ((cell_far _ _ _ _ _ _ (by omega)).trans c4)
  · rw [List.length_append, toksC_snoc]
    exact own_turn ho T2 (fun k hk q => by have := (own_blk ho hk).2; omega)
  · exact (own_blk ho hk).1.lt
  · refine (h.tn.comp T (fun i hi e => by have := own6 i e; omega)).comp T2 (fun i hi e => by omega)
theorem keepsFrom_of {S : Nat → Prop} (T : Turn S W W') (hS : ∀ k, S k → ∃ t, Blk W k t) (B : Nat) : KeepsFrom B W W' :=
  ⟨T.size, fun k o _ hk ho => (T.block k (Array.getElem?_eq_some_iff.1 hk).1 (fun e => by
    obtain ⟨t, cs, hb⟩ := hS k e
    rw [hk] at hb
    cases hb
    cases ho)).trans hk⟩
theorem keepsHi_of {S : Nat → Prop} {m : Nat} (T : Turn S W W') (hS : ∀ k, S k → k < m) : KeepsHi m W W' :=
  fun k o hm hk => (T.block k (Array.getElem?_eq_some_iff.1 hk).1 (fun e => by have := hS k e; omega)).trans hk
end
theorem res_cell3 {fn : Func} {tmps : Array Value} {w : World} {a1 a2 a3 b1 b2 b3 : Nat} {t1 t2 t3 : TypeId} {v1 v2 v3 : Value} (hr : fn.results = #[.cell a1 t1, .cell a2 t2, .cell a3 t3]) (h1 : tmps.getD a1 undef = .pointer (some ⟨b1, 0, none⟩)) (h2 : tmps.getD a2 undef = .pointer (some ⟨b2, 0, none⟩)) (h3 : tmps.getD a3 undef = .pointer (some ⟨b3, 0, none⟩))
    (l1 : (loadVar t1 ⟨b1, 0, none⟩).run Tryd.prog w = .ok v1 w) (l2 : (loadVar t2 ⟨b2, 0, none⟩).run Tryd.prog w = .ok v2 w) (l3 : (loadVar t3 ⟨b3, 0, none⟩).run Tryd.prog w = .ok v3 w) : (results fn tmps).run Tryd.prog w = .ok (.tuple #[v1, v2, v3]) w := by
  unfold results
  rw [hr]
  simp only [List.mapM_toArray, List.mapM_cons, List.mapM_nil, bind_assoc, pure_bind, map_eq_pure_bind, h1, h2, h3, asAddr]
  simp [Sem.run_bind, l1, l2, l3]
theorem each_is (w : World) (s : ByteArray) : Calls Tryd.prog 16 #[.string s] w fun e w' => e = .returned (.func (.func 32) #[] #[.pointer (some ⟨w.heap.size, 0, none⟩)]) ∧ w' = w.alloc (.cells #[.string s] 9) := by
  go_enter Tryd.func16, Tryd.ntmps16
  go_wp2_with fail
  go_ret
  exact ⟨rfl, rfl⟩
theorem eachB_mem : ∀ (f i : Nat) (l : List UInt8) (x : Nat × Tok), x ∈ eachB f i l → x.1 + x.2.len ≤ l.length ∧ findB (l.drop x.1) = some x.2
  | 0, _, _, x, h => by simp [eachB] at h
  | f + 1, i, l, x, h => by
    cases hB : findB (l.drop (skipB i l)) with
    | none => rw [eachB_none hB] at h; simp at h
    | some t =>
      rw [eachB_some hB] at h
      simp only [List.mem_cons] at h
      rcases h with rfl | h
      · have := findB_len hB
        rw [List.length_drop] at this
        refine ⟨?_, hB⟩
        show skipB i l + t.len ≤ l.length
        omega
      · exact eachB_mem f _ l x h
theorem endB_le {l : List UInt8} : ∀ L : List (Nat × Tok), (∀ x ∈ L, x.1 + x.2.len ≤ l.length) → endB L ≤ l.length
  | [], _ => Nat.zero_le _
  | [x], h => h x (by simp)
  | x :: y :: r, h => endB_le (y :: r) (fun z hz => h z (List.mem_cons_of_mem _ hz))
/-- What Lex tells. -/
def LexPost (w : World) (s : ByteArray) (e : Ending) (w' : World) : Prop :=
  Turn (fun _ => False) w w' ∧
  ((∃ x r pre, toksB s.data.toList = pre ++ x :: r ∧ pre.length = 200 ∧ e = .returned (.tuple #[.slice none 0 0, .int .i64 (x.1 : Int), .int .i64 12])) ∨
   ((toksB s.data.toList).length ≤ 200 ∧ skipB (endB (toksB s.data.toList)) s.data.toList < s.size ∧ e = .returned (.tuple #[.slice none 0 0, .int .i64 (skipB (endB (toksB s.data.toList)) s.data.toList : Int), .int .i64 10])) ∨
   ((toksB s.data.toList).length ≤ 200 ∧ skipB (endB (toksB s.data.toList)) s.data.toList = s.size ∧ ∃ v, e = .returned (.tuple #[v, .int .i64 (s.size : Int), .int .i64 0]) ∧ w'.ownsRow w.heap.size 67 4 v (toksB s.data.toList).length (toksC s (toksB s.data.toList))))
end Go.Proofs.YtadogobdlcionaaDoor
