/-
  Rows of elements, one put behind another.
-/
import Derived.Test.YtadogobdlcionaaDoorRu
namespace Go.Proofs.YtadogobdlcionaaDoor
open Go.ChangeShapes Go.WideShapes Go.ChangeAt Go.RowKit Go.Shelf
set_option linter.unusedVariables false
def EL.cells (c : EL) : List Value := elL c.type c.var c.plus c.not
def elsC (l : List EL) : List Value := (l.map EL.cells).flatten
theorem elsC_snoc (l : List EL) (c : EL) : elsC (l ++ [c]) = elsC l ++ c.cells := by simp [elsC]
theorem info50 : (Tryd.prog.info? 50).map (fun i => (i.zero, i.size, i.bytes)) = some (some (.agg #[.int .i64 0, .string ⟨#[]⟩, .bool false, .bool false]), 4, 32) := by kernel_rfl
theorem el_add {w : World} {base : Nat} {v : Value} {l : List EL} (ho : w.ownsRow base 50 4 v l.length (elsC l)) (hn : l.length ≤ 1000) (hb : base ≤ w.heap.size) (c : EL) :
    ∃ v' w2, (Builtin.append_ #[24, 24] 24 #[v, .slice (some ⟨w.heap.size, 0, none⟩) 1 1]).run Tryd.prog (w.alloc (.cells c.cells.toArray 50)) = .ok v' w2 ∧ w2.ownsRow base 50 4 v' (l ++ [c]).length (elsC (l ++ [c])) ∧ Turn (fun k => v.ownBlock = some k) w w2 := by
  have T1 : Turn (fun _ => False) w (w.alloc (.cells c.cells.toArray 50)) := (Turn.refl _ w).alloc _
  have ho1 := own_turn ho T1 (fun _ _ q => q)
  obtain ⟨i3, j1, j2, j3, j4⟩ := info_parts info50
  obtain ⟨v', w2, hrun, ho2, hg, _, hbl⟩ := run_append_own_at (w.alloc (.cells c.cells.toArray 50)) base 24 24 50 i3 _ 4 32 Tryd.underlying24 j1 j2 j3 j4 rfl (by decide) _ _ _ ho1 ⟨w.heap.size, 0, none⟩ 1 1 c.cells rfl
    (cells_new w c.cells 50 _ rfl) (fun u hu => by
      simp only [EL.cells, elL, List.mem_cons, List.not_mem_nil, or_false] at hu
      rcases hu with rfl | rfl | rfl | rfl <;> rfl) (by unfold maxLen; omega) (by omega) (by rw [World.size_alloc]; omega)
  exact ⟨v', w2, hrun, by rw [List.length_append, elsC_snoc]; exact ho2, (T1.more (fun _ _ q => q.elim)).trans ((Turn.refl _ _).grown hg (fun k hk => .inl hk))⟩
end Go.Proofs.YtadogobdlcionaaDoor
