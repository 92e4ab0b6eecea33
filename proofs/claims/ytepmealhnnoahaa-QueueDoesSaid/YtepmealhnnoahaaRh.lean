/-
  What the shards tell is put, one match after the other.
-/
import Derived.Test.YtepmealhnnoahaaRg
namespace Go.Proofs.Ytepmealhnnoahaa
open Go.ChangeShapes Go.WideShapes Go.ChangeAt Go.RowKit Go.Shelf
set_option linter.unusedVariables false
attribute [local go_sem] Oper.semAt_some
theorem ri_append_run {F : Fence} {nF : Nat} {P : Program} {w w' : World} {ops : Array Oper} {rest : List Oper} {o : Oper} {a : Act} {Q : Exit → Act → World → Prop} (hgd : o.guard = none) (s x : Operand) (t : TypeId)
    (ho : o.op = .call { callee := .builtin .append, args := #[s, x], argTypes := #[t, t] }) {v v1 v2 : Value} (hs : a.eval s = v1) (hx : a.eval x = v2)
    (hr : (Builtin.append_ #[t, t] o.type #[v1, v2]).run P w = .ok v w') (h : wpListIn F nF P ops Q rest (a.put o.dst v) w') : wpListIn F nF P ops Q (o :: rest) a w := by
  refine wpListIn_plain hgd fun K hK => ?_
  unfold Oper.wpIn
  refine ⟨by simp [Oper.about, ho, resolve, Target.leads, Sem.run_pure], ?_⟩
  rw [Oper.semAt_plain F _ _ (by rw [ho]; intro c hc'; cases hc')]
  simp [execOp, ho, resolve, invoke, builtin, hs, hx, hr, Result.andThen]
  exact hK _ _ h
theorem HSt.nil (B : Nat) (w : World) : HSt B w (.slice none 0 0) [] := ⟨[], ⟨rfl, .inl ⟨rfl, rfl⟩⟩, fun k l h => by simp at h⟩
theorem HSt.add {B : Nat} {w : World} {v : Value} {S : List (List Ht)} (h : HSt B w v S) (hb : B ≤ w.heap.size) (hn : S.length ≤ 1000000) {r : Value} {l : List Ht} (hr : RowAt w r l) :
    ∃ v' w2, (Builtin.append_ #[97, 97] 97 #[v, .slice (some ⟨w.heap.size, 0, none⟩) 1 1]).run Try.prog (w.alloc (.cells #[r] 66)) = .ok v' w2 ∧ HSt B w2 v' (S ++ [l]) ∧ Turn (fun k => v.ownBlock = some k) w w2 ∧ (∀ k, v'.ownBlock = some k → B ≤ k) := by
  obtain ⟨xs, ho, hall⟩ := h
  have T1 : Turn (fun _ => False) w (w.alloc (.cells #[r] 66)) := (Turn.refl _ w).alloc _
  have ho1 := own_turn ho T1 (fun _ _ q => q)
  obtain ⟨i3, j1, j2, j3, j4⟩ := info_parts info66
  have o1 : r.oneCell' = true := by obtain ⟨_, _, _, _, e, _⟩ := hr; rw [e]; rfl
  obtain ⟨v', w2, hrun, ho2, hg, _, hbl⟩ := run_append_own_at (w.alloc (.cells #[r] 66)) B 97 97 66 i3 _ 1 24 Try.underlying97 j1 j2 j3 j4 rfl (by decide) _ _ _ ho1 ⟨w.heap.size, 0, none⟩ 1 1 [r] rfl
    (cells_new w [r] 66 _ rfl) (fun u hu => by
      simp only [List.mem_cons, List.not_mem_nil, or_false] at hu
      rcases hu with rfl
      exact o1) (by unfold maxLen; omega) (by omega) (by rw [World.size_alloc]; omega)
  have T : Turn (fun k => v.ownBlock = some k) w w2 := (T1.more (fun _ _ q => q.elim)).trans ((Turn.refl _ _).grown hg (fun k hk => .inl hk))
  have keep : ∀ k, Blk w k 73 → ¬ (v.ownBlock = some k) := fun k hk e => (own_blk ho e).1.ne hk (by decide) rfl
  refine ⟨v', w2, hrun, ⟨xs ++ [r], by rw [List.length_append]; exact ho2, fun j l' hl' => ?_⟩, T, fun k hk => (ho2.lt k hk).1⟩
  have hxl := ho.1
  rw [Nat.mul_one] at hxl
  by_cases e : j < S.length
  · rw [List.getElem?_append_left e] at hl'
    obtain ⟨r', q1, q2⟩ := hall j l' hl'
    exact ⟨r', by rw [List.getElem?_append_left (by omega)]; exact q1, q2.next T keep⟩
  · have e2 : j = S.length := by have := (List.getElem?_eq_some_iff.1 hl').1; simp at this; omega
    subst e2
    simp at hl'
    subst hl'
    exact ⟨r, by rw [← hxl]; simp, hr.next T keep⟩
def intOf : Value → Int
  | .int _ i => i
  | _ => 0
theorem putObj_turn (w : World) (l : Nat) (o : Obj) : Turn (fun k => k = l) w (w.putObj l o) := (Turn.refl _ w).grown (grownBy_putObj' w l o) (fun k e => by cases e; exact .inl rfl)
def losesD (S : Int → Option (List Fnd × Bool)) (l : List Int) : Int → Option (List Fnd × Bool) := l.foldl loseD S
theorem losesD_snoc (S : Int → Option (List Fnd × Bool)) (l : List Int) (x : Int) : losesD S (l ++ [x]) = loseD (losesD S l) x := by unfold losesD; rw [List.foldl_append]; rfl
/-- The rows that are gathered. -/
def G1 (W0 : World) (B b3 b5 : Nat) (d gb : Nat) (Os : List OutV) (v6 v16 : Value) (wr : World) : Prop :=
  ∃ j : Nat, v16 = .int .i64 (j : Int) ∧ j ≤ Os.length ∧ Turn (fun _ => False) W0 wr ∧ HSt W0.heap.size wr v6 ((Os.take j).map (·.hits))
section
variable {w : World} {d mb base : Nat} {qu ou : Int} {cnt m : Nat} {S : Int → Option (List Fnd × Bool)} {P : Nat → Prop} {gbase gb : Nat} {l : List (Int × Int)}
/-- What holds between two puts. -/
def PI (w : World) (d mb base : Nat) (qu ou : Int) (cnt m : Nat) (S : Int → Option (List Fnd × Bool)) (P : Nat → Prop) (gbase gb : Nat) (l : List (Int × Int)) (b3 b5 : Nat) (v : Value) (Os : List OutV) (pre : List Ht) (W : World) : Prop :=
  ∃ P', Aft w W d mb base qu ou (cnt + pre.length) m (putsD ou S pre) P P' gbase gb (l ++ putsG ou S pre) ∧ OutsAt W (Own3 P' W gb) v Os ∧ HitsAt W (Own3 P' W gb) Os ∧
    (W.cell? ⟨b3, 0, none⟩ = some (.pointer (some ⟨d, 0, none⟩)) ∧ Blk W b3 25) ∧ W.cell? ⟨b5, 0, none⟩ = some (.func (.func 28) #[] #[.pointer (some ⟨gb, 0, none⟩)]) ∧ Blk W b5 84
theorem PI.turn {b3 b5 : Nat} {v : Value} {Os : List OutV} {pre : List Ht} {W W' : World} {r : Nat} (h : PI w d mb base qu ou cnt m S P gbase gb l b3 b5 v Os pre W) (hmb : mb < w.heap.size) (T : Turn (fun k => k = r) W W') (hr : w.heap.size ≤ r)
    (ht : (∃ o : Obj, W.heap[r]? = some o ∧ o.isCells = false) ∨ ∃ cs q, W.heap[r]? = some (.cells cs 66 q)) : PI w d mb base qu ou cnt m S P gbase gb l b3 b5 v Os pre W' := by
  obtain ⟨P', hA, hO, hH, ⟨c3, B3⟩, c5, B5⟩ := h
  have ne : ∀ {k : Nat} {t : TypeId}, Blk W k t → t ≠ 66 → k ≠ r := fun hb hne e => by
    subst e
    rcases ht with ⟨o, h1, h2⟩ | ⟨cs2, q, h1⟩
    · obtain ⟨cs, hb⟩ := hb
      rw [h1] at hb
      cases hb
      cases h2
    · obtain ⟨cs, hb⟩ := hb
      rw [h1] at hb
      injection hb with hb
      injection hb with _ hb _
      exact hne hb.symm
  have nP : ∀ k, P' k → k ≠ r := fun k p e => by
    rcases hA.desk.cells p with q | ⟨t, hb, ht2⟩
    · omega
    · exact ne hb (by rcases ht2 with q | q | q | q | q <;> rw [q] <;> decide) e
  have ng : gb ≠ r := ne hA.gone.gbl.2 (by decide)
  have gbw : ∀ k, GB W' gb k → GB W gb k := fun k g => g.turn hA.gone T ng
  have hN : ∀ k, Own3 P' W' gb k → Own3 P' W gb k := fun k q => by
    rcases q with q | q | q
    · exact .inl q
    · exact .inr (.inl q)
    · exact .inr (.inr (gbw k q))
  refine ⟨P', hA.quiet T nP ng (fun k g => ne (hA.gone.blk g).1 (by decide)) (fun k hk e => by omega), hO.next T (fun k hb => ne hb (by decide)) (fun k hb => ne hb (by decide)) (fun k hb _ => ne hb (by decide)) (fun k q => .inl (hN k q)), ?_, ⟨T.cell (ne B3 (by decide)) c3, B3.turn T (ne B3 (by decide))⟩, T.cell (ne B5 (by decide)) c5, B5.turn T (ne B5 (by decide))⟩
  have := hH.typ T (fun k t => by
    rcases t with t | t | t
    · exact ne t (by decide)
    · exact ne t (by decide)
    · exact ne t (by decide))
  exact fun o ho x hx => (this o ho x hx).weak hN
theorem PI.none {b3 b5 : Nat} {v : Value} {Os : List OutV} {pre : List Ht} {W W' : World} (h : PI w d mb base qu ou cnt m S P gbase gb l b3 b5 v Os pre W) (T : Turn (fun _ => False) W W') : PI w d mb base qu ou cnt m S P gbase gb l b3 b5 v Os pre W' := by
  obtain ⟨P', hA, hO, hH, ⟨c3, B3⟩, c5, B5⟩ := h
  have hN : ∀ k, Own3 P' W' gb k → Own3 P' W gb k := fun k q => by
    rcases q with q | q | q
    · exact .inl q
    · exact .inr (.inl q)
    · exact .inr (.inr (q.turn hA.gone T id))
  exact ⟨P', hA.none T, hO.next T (fun _ _ q => q) (fun _ _ q => q) (fun _ _ _ q => q) (fun k q => .inl (hN k q)), hH.next T (fun _ _ q => q.elim) (fun k q => .inl (hN k q)), ⟨T.cell id c3, B3.turn T id⟩, T.cell id c5, B5.turn T id⟩
theorem pi_own (hmb : mb < w.heap.size) {b3 b5 : Nat} {v : Value} {Os : List OutV} {B : Nat} (hB : w.heap.size ≤ B) : OwnFrom B (PI w d mb base qu ou cnt m S P gbase gb l b3 b5 v Os) := fun s A A' row h hg hr => by
  cases row with
  | none => exact h.none ⟨hg.os, hg.tape, hg.output, hg.size, fun k hk _ => hg.block k hk (by simp)⟩
  | some r =>
    obtain ⟨h1, o, h2, h3⟩ := hr r rfl
    exact h.turn hmb ((Turn.refl _ A).grown hg (fun k e => by cases e; exact .inl rfl)) (by omega) (.inl ⟨o, h2, h3⟩)
theorem pi_bears (hmb : mb < w.heap.size) {b3 b5 : Nat} {v : Value} {Os : List OutV} {B : Nat} (hB : w.heap.size ≤ B) : BearsT 66 B (PI w d mb base qu ou cnt m S P gbase gb l b3 b5 v Os) := fun s A A' row h hg hr => by
  cases row with
  | none => exact h.none ⟨hg.os, hg.tape, hg.output, hg.size, fun k hk _ => hg.block k hk (by simp)⟩
  | some r =>
    obtain ⟨h1, cs, q, h2⟩ := hr r rfl
    exact h.turn hmb ((Turn.refl _ A).grown hg (fun k e => by cases e; exact .inl rfl)) (by omega) (.inr ⟨cs, q, h2⟩)
end
end Go.Proofs.Ytepmealhnnoahaa
