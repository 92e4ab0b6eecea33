/-
  What is ripe: the function that is handed to DeleteFunc, and what DeleteFunc does with it: contracts for the walks of the statements of layer 12.
-/
import Derived.Test.YtgfobgabdafclaaGreatEpoN
namespace Go.Proofs.YtgfobgabdafclaaGreat
open Go.ChangeShapes Go.WideShapes Go.ChangeAt Go.RowKit
set_option linter.unusedVariables false

def cells2 : List (Int × Int) → List Value
  | [] => []
  | x :: l => .int .i64 x.1 :: .int .i64 x.2 :: cells2 l
theorem cells2_snoc : ∀ (l : List (Int × Int)) (q : Int × Int), cells2 (l ++ [q]) = cells2 l ++ [.int .i64 q.1, .int .i64 q.2]
  | [], q => rfl
  | y :: l, q => by simp [cells2, cells2_snoc l q]
theorem cells2_at : ∀ (l : List (Int × Int)) (j : Nat) (q : Int × Int), l[j]? = some q → (cells2 l)[j * 2]? = some (.int .i64 q.1) ∧ (cells2 l)[j * 2 + 1]? = some (.int .i64 q.2)
  | [], j, q, h => by simp at h
  | y :: l, 0, q, h => by
    simp at h
    subst h
    exact ⟨rfl, rfl⟩
  | y :: l, j + 1, q, h => by
    have := cells2_at l j q (by simpa using h)
    rw [show (j + 1) * 2 = j * 2 + 1 + 1 from by omega]
    exact this
theorem cells3_len : ∀ (l : List (Int × Int × Int)), (cells3 l).length = l.length * 3
  | [] => rfl
  | y :: l => by simp [cells3, cells3_len l]; omega

theorem info51 : (Tryz.prog.info? 39).map (fun i => (i.zero, i.size, i.bytes)) = some (some (.agg #[.int .i64 0, .int .i64 0]), 2, 16) := by kernel_rfl

/-- While an actor's limbo is gone through: the refs that were found ripe lie in a row of their own, which a box leads to; of what was there the box and the limbo's row alone have turned. -/
structure Rip (wS : World) (B g base m cap : Nat) (cur : List (Int × Int × Int)) (out : List (Int × Int)) (w : World) : Prop where
  turn : Turn (fun k => k = B ∨ k = g) wS w
  len : cur.length = m
  row : w.ownsRow base 374 3 (.slice (some ⟨g, 0, none⟩) m cap) m (cells3 cur)
  box : ∃ vl, w.cell? ⟨B, 0, none⟩ = some vl ∧ w.ownsRow wS.heap.size 39 2 vl out.length (cells2 out)
  fz : w.frozen? ⟨B, 0, none⟩ = false
  lB : B < wS.heap.size
  lg : g < wS.heap.size
  gB : g ≠ B

/-- What the function reads: the epochs behind a box, and their epoch. -/
structure Reads (wS : World) (B g x bx : Nat) (now : Int) : Prop where
  c0 : wS.cell? ⟨x, 0, none⟩ = some (.int .i64 now)
  cb : wS.cell? ⟨bx, 0, none⟩ = some (.pointer (some ⟨x, 0, none⟩))
  xB : x ≠ B
  xg : x ≠ g
  bB : bx ≠ B
  bg : bx ≠ g
  nn : 0 ≤ now ∧ now ≤ 1000000

section
variable {wS w : World} {B g base m cap x bx : Nat} {now : Int} {cur : List (Int × Int × Int)} {out : List (Int × Int)}

theorem Rip.on (h : Rip wS B g base m cap cur out w) {w' : World} (ht : Turn (fun _ => False) w w') : Rip wS B g base m cap cur out w' := by
  obtain ⟨vl, hv, ho⟩ := h.box
  have lB : B < w.heap.size := Nat.lt_of_lt_of_le h.lB h.turn.size
  exact ⟨h.turn.comp ht (fun _ _ e => e.elim), h.len, own_turn h.row ht (fun _ _ => id), ⟨vl, ht.cell (fun e => e) hv, own_turn ho ht (fun _ _ => id)⟩, (World.frozen?_of_block (w := w) (ht.block B lB (fun e => e))).trans h.fz, h.lB, h.lg, h.gB⟩
theorem Rip.alloc (h : Rip wS B g base m cap cur out w) (o : Obj) : Rip wS B g base m cap cur out (w.alloc o) := h.on ((Turn.refl _ w).alloc o)
theorem Rip.drewN (h : Rip wS B g base m cap cur out w) (d : Nat) : Rip wS B g base m cap cur out (w.drewN d) := h.on ((Turn.refl _ w).drewN d)
theorem Rip.reads (h : Rip wS B g base m cap cur out w) (r : Reads wS B g x bx now) : w.cell? ⟨x, 0, none⟩ = some (.int .i64 now) ∧ w.cell? ⟨bx, 0, none⟩ = some (.pointer (some ⟨x, 0, none⟩)) :=
  ⟨h.turn.cell (fun e => e.elim r.xB r.xg) r.c0, h.turn.cell (fun e => e.elim r.bB r.bg) r.cb⟩

/-- A ref more was found: the row grew, and the box leads to it. -/
theorem Rip.found (h : Rip wS B g base m cap cur out w) {vl v' : Value} {w' : World} {r : Int × Int} (hv : w.cell? ⟨B, 0, none⟩ = some vl) (hvo : w.ownsRow wS.heap.size 39 2 vl out.length (cells2 out)) (ho : w'.ownsRow wS.heap.size 39 2 v' (out.length + 1) (cells2 out ++ [.int .i64 r.1, .int .i64 r.2])) (hg : w.grownBy w' vl.ownBlock) :
    Rip wS B g base m cap cur (out ++ [r]) (w'.setCell ⟨B, 0, none⟩ v') := by
  have lB : B < w.heap.size := Nat.lt_of_lt_of_le h.lB h.turn.size
  have hB := h.lB
  have hbB : w'.heap[B]? = w.heap[B]? := hg.block B lB (fun e => by have := (hvo.lt B e.symm).1; omega)
  refine ⟨(h.turn.grown hg (fun k hk => .inr (hvo.lt k hk).1)).setCell (p := ⟨B, 0, none⟩) (.inl (.inl rfl)) _, h.len, ?_, ⟨v', World.cell?_setCell_same _ _ _ ((World.cell?_of_block (w := w) hbB).trans hv), ?_⟩, by simpa using (World.frozen?_of_block (w := w) hbB).trans h.fz, h.lB, h.lg, h.gB⟩
  · refine own_keep (own_keep h.row (fun k hk => hg.block k (h.row.lt k hk).2 (fun e => ?_))) (fun k hk => Below.heap_setCell _ _ _ _ ?_)
    · have := (hvo.lt k e.symm).1
      have e2 : g = k := by simpa [Value.ownBlock] using hk
      have := h.lg
      omega
    · have e2 : g = k := by simpa [Value.ownBlock] using hk
      rw [← e2]
      exact h.gB
  · rw [cells2_snoc, List.length_append]
    exact own_keep ho (fun k hk => Below.heap_setCell _ _ _ _ (by have := (ho.lt k hk).1; show k ≠ B; omega))

set_option maxHeartbeats 1000000 in
theorem ripe1_no (h : Rip wS B g base m cap cur out w) (r : Reads wS B g x bx now) (r0 r1 e : Int) (he : ¬ e ≤ now - 2) :
    Calls Tryz.prog 292 #[.agg #[.int .i64 r0, .int .i64 r1, .int .i64 e], .pointer (some ⟨bx, 0, none⟩), .pointer (some ⟨B, 0, none⟩)] w fun e' w' => e' = .returned (.bool false) ∧ Rip wS B g base m cap cur out w' ∧ Turn (fun _ => False) w w' := by
  obtain ⟨c0, cb⟩ := h.reads r
  obtain ⟨n0, n1⟩ := r.nn
  have hw : IntKind.i64.wrap (now - 2) = now - 2 := IntWalk.i64_in _ (by omega)
  have hd : decide (e ≤ now - 2) = false := by simpa using he
  have H := Lib.hid h
  clear h r he
  go_enter Tryz.func292, Tryz.ntmps292
  go_wp2_with fail
  have d0 : (w.alloc (.cells #[.int .i64 r0, .int .i64 r1, .int .i64 e] 374)).cell? ⟨x, 0, none⟩ = some (.int .i64 now) := past c0
  have d1 : (w.alloc (.cells #[.int .i64 r0, .int .i64 r1, .int .i64 e] 374)).cell? ⟨bx, 0, none⟩ = some (.pointer (some ⟨x, 0, none⟩)) := past cb
  have d2 : (w.alloc (.cells #[.int .i64 r0, .int .i64 r1, .int .i64 e] 374)).cell? ⟨w.heap.size, 2, none⟩ = some (.int .i64 e) := World.cell?_alloc_new w #[.int .i64 r0, .int .i64 r1, .int .i64 e] 374 2
  go_quiet (fail)
  go_wp2
  go_ret
  exact ⟨rfl, (H.out.alloc _).drewN _, ((Turn.refl _ w).alloc _).drewN _⟩

set_option maxHeartbeats 1000000 in
theorem ripe1_yes (h : Rip wS B g base m cap cur out w) (r : Reads wS B g x bx now) (r0 r1 e : Int) (he : e ≤ now - 2) (hlen : out.length ≤ 1000000) :
    Calls Tryz.prog 292 #[.agg #[.int .i64 r0, .int .i64 r1, .int .i64 e], .pointer (some ⟨bx, 0, none⟩), .pointer (some ⟨B, 0, none⟩)] w fun e' w' => e' = .returned (.bool true) ∧ Rip wS B g base m cap cur (out ++ [(r0, r1)]) w' := by
  obtain ⟨c0, cb⟩ := h.reads r
  obtain ⟨n0, n1⟩ := r.nn
  have hw : IntKind.i64.wrap (now - 2) = now - 2 := IntWalk.i64_in _ (by omega)
  have hd : decide (e ≤ now - 2) = true := by simpa using he
  have ha := h.alloc (.cells #[.int .i64 r0, .int .i64 r1, .int .i64 e] 374)
  obtain ⟨vl, hv, hvo⟩ := ha.box
  have fz := ha.fz
  have lB := h.lB
  have sz := h.turn.size
  obtain ⟨i3, j1, j2, j3, j4⟩ := info_parts info51
  have I3 := Lib.hid (And.intro j1 (And.intro j2 (And.intro j3 (And.intro j4 (And.intro ha hvo)))))
  have lvl : ∀ k, vl.ownBlock = some k → wS.heap.size ≤ k := fun k hk => (hvo.lt k hk).1
  clear h ha r he j1 j2 j3 j4 hvo
  go_enter Tryz.func292, Tryz.ntmps292
  go_wp2_with fail
  have d0 : (w.alloc (.cells #[.int .i64 r0, .int .i64 r1, .int .i64 e] 374)).cell? ⟨x, 0, none⟩ = some (.int .i64 now) := past c0
  have d1 : (w.alloc (.cells #[.int .i64 r0, .int .i64 r1, .int .i64 e] 374)).cell? ⟨bx, 0, none⟩ = some (.pointer (some ⟨x, 0, none⟩)) := past cb
  have d2 : (w.alloc (.cells #[.int .i64 r0, .int .i64 r1, .int .i64 e] 374)).cell? ⟨w.heap.size, 2, none⟩ = some (.int .i64 e) := World.cell?_alloc_new w #[.int .i64 r0, .int .i64 r1, .int .i64 e] 374 2
  have d3 : (w.alloc (.cells #[.int .i64 r0, .int .i64 r1, .int .i64 e] 374)).cell? ⟨w.heap.size, 0, none⟩ = some (.int .i64 r0) := World.cell?_alloc_new w #[.int .i64 r0, .int .i64 r1, .int .i64 e] 374 0
  have d4 : (w.alloc (.cells #[.int .i64 r0, .int .i64 r1, .int .i64 e] 374)).cell? ⟨w.heap.size, 1, none⟩ = some (.int .i64 r1) := World.cell?_alloc_new w #[.int .i64 r0, .int .i64 r1, .int .i64 e] 374 1
  have hz : (w.alloc (.cells #[.int .i64 r0, .int .i64 r1, .int .i64 e] 374)).heap.size = w.heap.size + 1 := by simp
  generalize w.alloc (.cells #[.int .i64 r0, .int .i64 r1, .int .i64 e] 374) = W0 at *
  generalize w.heap.size = bb at *
  go_quiet (fail)
  go_wp2_with (at_builtin; refine wpList_append_lies _ rfl (.tmp 15) (.tmp 18) 34 rfl wS.heap.size 39 i3 (.agg #[.int .i64 0, .int .i64 0]) 2 16 Tryz.underlying34 I3.out.1 I3.out.2.1 I3.out.2.2.1 I3.out.2.2.2.1 rfl (by decide) _ _ _ rfl (World.ownsRow.alloc (own_keep I3.out.2.2.2.2.2 (fun _ _ => rfl)) _) ⟨bb + 1, 0, none⟩ 1 1 [.int .i64 r0, .int .i64 r1] rfl rfl (cells_new _ [.int .i64 r0, .int .i64 r1] _ _ (by simp [hz])) (by simp [Value.oneCell']) (by decide) (by unfold maxLen; omega) (by omega) (by simp; omega) _ rfl ?_; intro gg cap2 w1 hown1 hgrow hat hlt; have f1 : w1.frozen? ⟨B, 0, none⟩ = false := (by rw [hgrow.frozen_far _ (by simp; omega) (fun q => by have := lvl B q.symm; omega)]; exact (frozen?_alloc_cells _ _ _ _).trans fz); have k1 : w1.cell? ⟨B, 0, none⟩ = some vl := (by rw [hgrow.cell_far _ (by simp; omega) (fun q => by have := lvl B q.symm; omega)]; exact past hv))
  go_ret
  exact ⟨rfl, Rip.found ((I3.out.2.2.2.2.1.drewN _).alloc _) (past hv) (World.ownsRow.alloc (own_keep I3.out.2.2.2.2.2 (fun _ _ => rfl)) _) (r := (r0, r1)) hown1 hgrow⟩
end
end Go.Proofs.YtgfobgabdafclaaGreat
