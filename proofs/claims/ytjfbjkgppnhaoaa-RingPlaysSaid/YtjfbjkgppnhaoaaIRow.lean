/-
  Rows of items that are put behind one another.
-/
import Derived.Test.YtjfbjkgppnhaoaaPlayL
import Derived.Test.YtjfbjkgppnhaoaaPd
import Derived.Deep.AppendLies
namespace Go.Proofs.Ytjfbjkgppnhaoaa
open Go.ChangeShapes Go.WideShapes Go.ChangeAt Go.RowKit
set_option linter.unusedVariables false

theorem step_append_runR {P : Program} {w w' : World} {ops : Array Oper} {o : Oper} {a : Act} {K : Act → World → Prop} {Q : Exit → Act → World → Prop} {E : Prop} (hgd : o.guard = none) (s x : Operand) (t : TypeId)
    (ho : o.op = .call { callee := .builtin .append, args := #[s, x], argTypes := #[t, t] }) {v v1 v2 : Value} (hs : a.eval s = v1) (hx : a.eval x = v2)
    (hr : (Builtin.append_ #[t, t] o.type #[v1, v2]).run P w = .ok v w') (h : K (a.put o.dst v) w') : if Region.wanted o (yielded ops a.tmps) = true then Oper.wp P o a w K Q else E := by
  have hw : Region.wanted o (yielded ops a.tmps) = true := by simp [Region.wanted, hgd]
  rw [if_pos hw]
  unfold Oper.wp execOp
  simp only [ho, resolve, invoke, builtin, Sem.run_bind, Sem.run_pure, Result.andThen_ok, List.map_toArray, List.map_cons, List.map_nil, hs, hx, hr]
  exact h
theorem wpList_append_runR {P : Program} {w w' : World} {ops : Array Oper} {rest : List Oper} {o : Oper} {a : Act} {Q : Exit → Act → World → Prop} (hgd : o.guard = none) (s x : Operand) (t : TypeId)
    (ho : o.op = .call { callee := .builtin .append, args := #[s, x], argTypes := #[t, t] }) {v v1 v2 : Value} (hs : a.eval s = v1) (hx : a.eval x = v2)
    (hr : (Builtin.append_ #[t, t] o.type #[v1, v2]).run P w = .ok v w') (h : wpList P ops Q rest (a.put o.dst v) w') : wpList P ops Q (o :: rest) a w :=
  wpList_plain hgd fun _ hK => by
    unfold Oper.wp execOp
    simp only [ho, resolve, invoke, builtin, Sem.run_bind, Sem.run_pure, Result.andThen_ok, List.map_toArray, List.map_cons, List.map_nil, hs, hx, hr]
    exact hK _ _ h
theorem icells_app : ∀ (l m : List (Int × Int)), icells (l ++ m) = icells l ++ icells m
  | [], m => rfl
  | q :: l, m => by
    show _ :: _ :: icells (l ++ m) = _ :: _ :: (icells l ++ icells m)
    rw [icells_app l m]
theorem icells_one : ∀ (l : List (Int × Int)), ∀ v ∈ icells l, v.oneCell' = true
  | [], v, h => absurd h (by simp [icells])
  | c :: l, v, h => by
    rw [icells] at h
    rcases List.mem_cons.1 h with h | h
    · subst h; rfl
    · rcases List.mem_cons.1 h with h | h
      · subst h; rfl
      · exact icells_one l v h
/-- A row of items that was made since the world W; nothing older turned. -/
structure IRow (W w : World) (v : Value) (l : List (Int × Int)) : Prop where
  row : w.ownsRow W.heap.size 77 2 v l.length (icells l)
  bel : Below W.heap.size W w
theorem IRow.empty (W : World) : IRow W (W.alloc (.cells #[] 77)) (.slice (some ⟨W.heap.size, 0, none⟩) 0 0) [] :=
  ⟨⟨rfl, .inr ⟨W.heap.size, 0, #[], rfl, Nat.le_refl _, heap_alloc_new W _, Nat.le_refl _, by decide, rfl, rfl⟩⟩, (Below.refl _ W).alloc (Nat.le_refl _) _⟩
theorem IRow.alloc {W w : World} {v : Value} {l : List (Int × Int)} (h : IRow W w v l) (o : Obj) : IRow W (w.alloc o) v l := ⟨h.row.alloc _, h.bel.alloc h.bel.size _⟩
theorem IRow.drew {W w : World} {v : Value} {l : List (Int × Int)} (h : IRow W w v l) : IRow W w.drew v l := ⟨h.row, h.bel.drew⟩
/-- What is put behind it, wherever it lies. -/
theorem IRow.app_src {W w : World} {v : Value} {l m : List (Int × Int)} (h : IRow W w v l) (ad : Addr) (n c : Nat) (hn : m.length = n) (hnews : ∀ j u, (icells m)[j]? = some u → w.cell? (ad.add j) = some u) (hl : l.length + m.length ≤ 1000) :
    ∃ v' w', (Builtin.append_ #[62, 62] 62 #[v, .slice (some ad) n c]).run Try.prog w = .ok v' w' ∧ IRow W w' v' (l ++ m) ∧ w.grownBy w' v.ownBlock := by
  subst hn
  obtain ⟨i3, j1, j2, j3, j4⟩ := info_parts info77
  obtain ⟨v', w', hr, ho, hg2, _⟩ := run_append_own w W.heap.size 62 62 77 i3 _ 2 16 Try.underlying62 j1 j2 j3 j4 rfl (by decide) v l.length (icells l) h.row ad m.length c (icells m) (icells_len m) hnews (icells_one m) (by unfold maxLen; omega) (by omega) h.bel.size
  exact ⟨v', w', hr, ⟨by rw [List.length_append, icells_app]; exact ho, h.bel.grown hg2 h.bel.size (fun j ej => (prow_lt h.row ej).1)⟩, hg2⟩
theorem IRow.app_none {W w : World} {v : Value} {l : List (Int × Int)} (h : IRow W w v l) : (Builtin.append_ #[62, 62] 62 #[v, .slice none 0 0]).run Try.prog w = .ok v w := by
  obtain ⟨i3, j1, j2, j3, j4⟩ := info_parts info77
  exact run_append_owned_none w W.heap.size 62 62 77 i3 2 Try.underlying62 j1 v l.length (icells l) h.row
/-- Behind what is cut at its end: a new row. -/
theorem cut_grow {w : World} {g k : Nat} {l m : List (Int × Int)} (hk : l.length = k) (hold : ∀ j u, (icells l)[j]? = some u → w.cell? ((⟨g, 0, none⟩ : Addr).add j) = some u) (ad : Addr) (n c : Nat) (hn : m.length = n) (h1 : 1 ≤ n)
    (hnews : ∀ j u, (icells m)[j]? = some u → w.cell? (ad.add j) = some u) (hl : k + n ≤ 1000) :
    ∃ v' w', (Builtin.append_ #[62, 62] 62 #[.slice (some ⟨g, 0, none⟩) k k, .slice (some ad) n c]).run Try.prog w = .ok v' w' ∧ IRow w w' v' (l ++ m) := by
  subst hn
  obtain ⟨i3, j1, j2, j3, j4⟩ := info_parts info77
  have hr := run_append_grow (P := Try.prog) w 62 62 77 i3 _ Try.underlying62 j1 j2 ⟨g, 0, none⟩ k k (icells l) (by rw [j3, icells_len, hk]) hold ad m.length c (icells m) (by rw [j3, icells_len]) hnews (by omega) (by omega) (by rw [j4]; exact growslice_fits (by omega) (by omega))
  have hge := grownCap_ge w (k + m.length) k 77
  have hcm : grownCap w (k + m.length) k 77 ≤ maxLen := grownCap_le_maxLen w (k + m.length) k 77 (by unfold maxLen; omega)
  refine ⟨_, _, hr, ⟨?_, ?_⟩⟩
  · rw [List.length_append, hk]
    refine ⟨by rw [icells_len, List.length_append, hk], .inr ⟨w.heap.size, _, _, rfl, Nat.le_refl _, heap_alloc_new w.drew _, hge, hcm, ?_, ?_⟩⟩
    · simp only [Array.size_append, List.size_toArray, size_zeroCells, icells_len]
      have hz : (Value.cells (.agg #[.int .i64 0, .int .i64 0])).size = 2 := rfl
      rw [hz, hk]
      omega
    · simp only [Array.toList_append, List.append_assoc]
      rw [icells_app, ← List.append_assoc]
      refine List.take_left' ?_
      rw [List.length_append, icells_len, icells_len, hk]
      omega
  · exact ((Below.refl _ w).drew).alloc (Nat.le_refl _) _
theorem icells_take : ∀ (l : List (Int × Int)) (k : Nat), (icells l).take (k * 2) = icells (l.take k)
  | [], k => by simp [icells]
  | q :: l, 0 => by simp [icells]
  | q :: l, k + 1 => by
    rw [show (k + 1) * 2 = k * 2 + 1 + 1 from by omega]
    show _ :: _ :: (icells l).take (k * 2) = _ :: _ :: icells (l.take k)
    rw [icells_take l k]
theorem icells_drop : ∀ (l : List (Int × Int)) (k : Nat), (icells l).drop (k * 2) = icells (l.drop k)
  | [], k => by simp [icells]
  | q :: l, 0 => by simp
  | q :: l, k + 1 => by
    rw [show (k + 1) * 2 = k * 2 + 1 + 1 from by omega]
    show (icells l).drop (k * 2) = icells (l.drop k)
    exact icells_drop l k
end Go.Proofs.Ytjfbjkgppnhaoaa
