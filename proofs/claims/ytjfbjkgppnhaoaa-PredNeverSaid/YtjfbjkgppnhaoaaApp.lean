/-
  Rows of codes that are put behind one another.
-/
import Derived.Test.YtjfbjkgppnhaoaaPArgs
import Derived.Deep.AppendLies
namespace Go.Proofs.Ytjfbjkgppnhaoaa
open Go.ChangeShapes Go.WideShapes Go.ChangeAt Go.RowKit
set_option linter.unusedVariables false

theorem step_append_run {P : Program} {w w' : World} {ops : Array Oper} {o : Oper} {a : Act} {K : Act → World → Prop} {Q : Exit → Act → World → Prop} {E : Prop} (hgd : o.guard = none) (s x : Operand) (t : TypeId)
    (ho : o.op = .call { callee := .builtin .append, args := #[s, x], argTypes := #[t, t] }) {v v1 v2 : Value} (hs : a.eval s = v1) (hx : a.eval x = v2)
    (hr : (Builtin.append_ #[t, t] o.type #[v1, v2]).run P w = .ok v w') (h : K (a.put o.dst v) w') : if Region.wanted o (yielded ops a.tmps) = true then Oper.wp P o a w K Q else E := by
  have hw : Region.wanted o (yielded ops a.tmps) = true := by simp [Region.wanted, hgd]
  rw [if_pos hw]
  unfold Oper.wp execOp
  simp only [ho, resolve, invoke, builtin, Sem.run_bind, Sem.run_pure, Result.andThen_ok, List.map_toArray, List.map_cons, List.map_nil, hs, hx, hr]
  exact h
theorem wpList_append_run {P : Program} {w w' : World} {ops : Array Oper} {rest : List Oper} {o : Oper} {a : Act} {Q : Exit → Act → World → Prop} (hgd : o.guard = none) (s x : Operand) (t : TypeId)
    (ho : o.op = .call { callee := .builtin .append, args := #[s, x], argTypes := #[t, t] }) {v v1 v2 : Value} (hs : a.eval s = v1) (hx : a.eval x = v2)
    (hr : (Builtin.append_ #[t, t] o.type #[v1, v2]).run P w = .ok v w') (h : wpList P ops Q rest (a.put o.dst v) w') : wpList P ops Q (o :: rest) a w :=
  wpList_plain hgd fun _ hK => by
    unfold Oper.wp execOp
    simp only [ho, resolve, invoke, builtin, Sem.run_bind, Sem.run_pure, Result.andThen_ok, List.map_toArray, List.map_cons, List.map_nil, hs, hx, hr]
    exact hK _ _ h
/-- A row of codes that was made since the world W; nothing older turned. -/
structure CRow (W w : World) (v : Value) (l : List Cd) : Prop where
  row : w.ownsRow W.heap.size 54 5 v l.length (ccells l)
  bel : Below W.heap.size W w
theorem CRow.empty (W : World) : CRow W (W.alloc (.cells #[] 54)) (.slice (some ⟨W.heap.size, 0, none⟩) 0 0) [] :=
  ⟨⟨rfl, .inr ⟨W.heap.size, 0, #[], rfl, Nat.le_refl _, heap_alloc_new W _, Nat.le_refl _, by decide, rfl, rfl⟩⟩, (Below.refl _ W).alloc (Nat.le_refl _) _⟩
theorem CRow.alloc {W w : World} {v : Value} {l : List Cd} (h : CRow W w v l) (o : Obj) : CRow W (w.alloc o) v l := ⟨h.row.alloc _, h.bel.alloc h.bel.size _⟩
theorem CRow.drew {W w : World} {v : Value} {l : List Cd} (h : CRow W w v l) : CRow W w.drew v l := ⟨h.row, h.bel.drew⟩
theorem CRow.more {W w w' : World} {v : Value} {l : List Cd} (h : CRow W w v l) (hb : Below w.heap.size w w') : CRow W w' v l :=
  ⟨prow_keep (e := 0) h.row (fun q hq => hb.block q (prow_lt h.row hq).2), h.bel.trans (hb.mono h.bel.size)⟩
theorem CRow.lit {W w : World} (hb : Below W.heap.size W w) (l : List Cd) (hl : l.length ≤ 1000) : (w.alloc (.cells (ccells l).toArray 54)).ownsRow w.heap.size 54 5 (.slice (some ⟨w.heap.size, 0, none⟩) l.length l.length) l.length (ccells l) :=
  ⟨ccells_len l, .inr ⟨w.heap.size, l.length, (ccells l).toArray, rfl, Nat.le_refl _, heap_alloc_new w _, Nat.le_refl _, by unfold maxLen; omega, by simp [ccells_len], by simpa using List.take_of_length_le (Nat.le_of_eq (ccells_len l))⟩⟩
theorem ccells_one : ∀ (l : List Cd), ∀ v ∈ ccells l, v.oneCell' = true
  | [], v, h => absurd h (by simp [ccells])
  | c :: l, v, h => by
    rw [ccells] at h
    rcases List.mem_append.1 h with h | h
    · simp [ccell] at h
      rcases h with rfl | rfl | rfl | rfl | rfl <;> rfl
    · exact ccells_one l v h
theorem CRow.app {W w : World} {b2 : Nat} {v v2 : Value} {l m : List Cd} (h : CRow W w v l) (h2 : w.ownsRow b2 54 5 v2 m.length (ccells m)) (hl : l.length + m.length ≤ 1000) :
    ∃ v' w', (Builtin.append_ #[39, 39] 39 #[v, v2]).run Try.prog w = .ok v' w' ∧ CRow W w' v' (l ++ m) := by
  obtain ⟨i3, j1, j2, j3, j4⟩ := info_parts info54
  rcases h2.2 with ⟨rfl, hn⟩ | ⟨g, cap, cur, rfl, hg, hgg, hc, hm, hcs, htk⟩
  · have hm0 : m = [] := List.length_eq_zero_iff.1 hn
    subst hm0
    exact ⟨v, w, run_append_owned_none w W.heap.size 39 39 54 i3 5 Try.underlying39 j1 v l.length (ccells l) h.row, by simpa using h⟩
  · obtain ⟨v', w', hr, ho, hg2, _⟩ := run_append_own w W.heap.size 39 39 54 i3 _ 5 48 Try.underlying39 j1 j2 j3 j4 rfl (by decide) v l.length (ccells l) h.row ⟨g, 0, none⟩ m.length cap (ccells m) h2.1 (h2.cells rfl) (ccells_one m) (by unfold maxLen; omega) (by omega) h.bel.size
    exact ⟨v', w', hr, by rw [List.length_append, ccells_app]; exact ho, h.bel.grown hg2 h.bel.size (fun j ej => (prow_lt h.row ej).1)⟩
theorem CRow.app' {W w : World} {b2 : Nat} {v v2 : Value} {l m : List Cd} (h : CRow W w v l) (h2 : w.ownsRow b2 54 5 v2 m.length (ccells m)) (hl : l.length + m.length ≤ 1000) :
    ∃ v' w', (Builtin.append_ #[39, 39] 39 #[v, v2]).run Try.prog w = .ok v' w' ∧ CRow W w' v' (l ++ m) ∧ w.grownBy w' v.ownBlock := by
  obtain ⟨i3, j1, j2, j3, j4⟩ := info_parts info54
  rcases h2.2 with ⟨rfl, hn⟩ | ⟨g, cap, cur, rfl, hg, hgg, hc, hm, hcs, htk⟩
  · have hm0 : m = [] := List.length_eq_zero_iff.1 hn
    subst hm0
    exact ⟨v, w, run_append_owned_none w W.heap.size 39 39 54 i3 5 Try.underlying39 j1 v l.length (ccells l) h.row, by simpa using h, ⟨rfl, rfl, rfl, Nat.le_refl _, fun _ _ _ => rfl⟩⟩
  · obtain ⟨v', w', hr, ho, hg2, _⟩ := run_append_own w W.heap.size 39 39 54 i3 _ 5 48 Try.underlying39 j1 j2 j3 j4 rfl (by decide) v l.length (ccells l) h.row ⟨g, 0, none⟩ m.length cap (ccells m) h2.1 (h2.cells rfl) (ccells_one m) (by unfold maxLen; omega) (by omega) h.bel.size
    exact ⟨v', w', hr, ⟨by rw [List.length_append, ccells_app]; exact ho, h.bel.grown hg2 h.bel.size (fun j ej => (prow_lt h.row ej).1)⟩, hg2⟩
theorem eval_let {w : World} {ad a : Option Addr} {m n : Nat} {v : Env} {l : List Cd} (hE : EnvAt w a m v) (hC : CodesAt w ad l) (hn : l.length = n) (hl : n ≤ 100) (cap cap2 : Nat) :
    ∃ x o, (x = (evalCd v l).getD 0 ∧ o = (evalCd v l).isSome) ∧ Calls Try.prog 23 #[.slice ad n cap, .slice a m cap2] w fun e w' => e = .returned (.tuple #[.int .i64 x, .bool o]) ∧ Below w.heap.size w w' := by
  subst hn
  exact ⟨_, _, ⟨rfl, rfl⟩, eval_any hE hC hl⟩
/-- A row of codes, reckoned. -/
theorem CRow.eval {W w : World} {a : Option Addr} {m : Nat} {v : Env} {l : List Cd} {r : Value} (h : CRow W w r l) (hE : EnvAt W a m v) (hl : l.length ≤ 100) (cap2 : Nat) :
    ∃ ad n cap x o, r = .slice ad n cap ∧ (x = (evalCd v l).getD 0 ∧ o = (evalCd v l).isSome) ∧ Calls Try.prog 23 #[.slice ad n cap, .slice a m cap2] w fun e w' => e = .returned (.tuple #[.int .i64 x, .bool o]) ∧ Below W.heap.size W w' := by
  obtain ⟨ad, cap, rfl, hC⟩ := codes_at h.row
  obtain ⟨x, o, hx, hc⟩ := eval_let (hE.keep h.bel) hC rfl hl cap cap2
  exact ⟨ad, _, cap, x, o, rfl, hx, hc.mono fun e w' h' => ⟨h'.1, h.bel.trans (h'.2.mono h.bel.size)⟩⟩
/-! ### What the signs reckon to -/
section
variable {v : Env} {l : List Cd} {x : Int}
theorem ev_zero (h : evalCd v l = some x) : evalCd v (l ++ l ++ [⟨2, 0, 0, 0⟩]) = some 0 := by
  unfold evalCd
  rw [eval_app, eval_app, eval_one h, Option.bind_some, eval_one h, Option.bind_some]
  show one? (some [wrap64 (x + wrap64 (-x))]) = some 0
  show some (wrap64 (x + wrap64 (-x))) = some 0
  congr 1
  unfold wrap64
  omega
theorem ev_twice (h : evalCd v l = some x) (h1 : -9223372036854775808 ≤ x) (h2 : x ≤ 9223372036854775807) : evalCd v (l ++ [⟨9, 0, 0, 0⟩, ⟨9, 0, 0, 0⟩]) = some x := by
  unfold evalCd
  rw [eval_app, eval_one h, Option.bind_some]
  show some (wrap64 (0 + wrap64 (-wrap64 (0 + wrap64 (-x))))) = some x
  congr 1
  unfold wrap64
  omega
theorem ev_back (h : evalCd v l = some x) (k : Int) (k1 : 1 ≤ k) : ∃ y, evalCd v (l ++ [⟨6, k, 0, 0⟩, ⟨3, 0, 0, 0⟩, ⟨6, k, 0, 0⟩, ⟨4, 0, 0, 0⟩]) = some y ∧ (-1125899906842624 ≤ x → x ≤ 1125899906842624 → k ≤ 1000 → y = x) := by
  refine ⟨wrap64 ((wrap64 (x * k)).tdiv k), ?_, fun a b c => ?_⟩
  · unfold evalCd
    rw [eval_app, eval_one h, Option.bind_some]
    show one? (((if k = 0 then none else some (wrap64 ((wrap64 (x * k)).tdiv k))).map (· :: [])).bind (evalSt v [])) = _
    rw [if_neg (by omega)]
    rfl
  · have h3 : x * k ≤ 1125899906842624 * 1000 := by
      by_cases hx : 0 ≤ x
      · exact Int.mul_le_mul b c (by omega) (by omega)
      · have := Int.mul_nonpos_of_nonpos_of_nonneg (a := x) (b := k) (by omega) (by omega)
        omega
    have h4 : -(1125899906842624 * 1000) ≤ x * k := by
      by_cases hx : 0 ≤ x
      · have := Int.mul_nonneg hx (show 0 ≤ k by omega)
        omega
      · have := Int.mul_le_mul (a := -x) (b := k) (c := 1125899906842624) (d := 1000) (by omega) c (by omega) (by omega)
        rw [Int.neg_mul] at this
        omega
    have h5 : wrap64 (x * k) = x * k := by unfold wrap64; omega
    rw [h5, Int.mul_tdiv_cancel _ (by omega)]
    unfold wrap64
    omega
end
end Go.Proofs.Ytjfbjkgppnhaoaa
