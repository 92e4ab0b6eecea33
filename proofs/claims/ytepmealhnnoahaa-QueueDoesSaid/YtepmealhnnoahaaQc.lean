/-
  Rows that nobody writes to: copied.
-/
import Derived.Test.YtepmealhnnoahaaQn
namespace Go.Proofs.Ytepmealhnnoahaa
open Go.ChangeShapes Go.WideShapes Go.ChangeAt Go.RowKit
set_option linter.unusedVariables false
/-- A row of n things of a type, from its block's beginning on. -/
def RowV (w : World) (e : TypeId) (size n : Nat) (v : Value) (xs : List Value) : Prop := ∃ b cap, v = .slice (some ⟨b, 0, none⟩) n cap ∧ Blk w b e ∧ w.rangeAt b 0 xs ∧ xs.length = n * size
theorem RowV.turn {S : Nat → Prop} {w w' : World} {e : TypeId} {size n : Nat} {v : Value} {xs : List Value} (h : RowV w e size n v xs) (T : Turn S w w') (hs : ∀ k, v.ownBlock = some k → ¬ S k) : RowV w' e size n v xs := by
  obtain ⟨b, cap, rfl, hb, hx, hl⟩ := h
  have := hs b rfl
  exact ⟨b, cap, rfl, hb.turn T this, range_turn hx T this, hl⟩
theorem _root_.Go.World.ownsRow.rowv {w : World} {base n size : Nat} {e : TypeId} {v : Value} {xs : List Value} (h : w.ownsRow base e size v n xs) (hn : 0 < n) : RowV w e size n v xs := by
  rcases h.2 with ⟨_, h0⟩ | ⟨g, cap, cur, e1, hb, hg, _⟩
  · omega
  · have hl := h.1
    rw [e1] at h
    refine ⟨g, cap, e1, ⟨_, hg⟩, fun j u hj => ?_, hl⟩
    have hj2 : j < n * size := by rw [← hl]; exact (List.getElem?_eq_some_iff.1 hj).1
    rw [Nat.zero_add, h.cellAt j hj2]
    exact hj
theorem turn_fresh {w wr wa : World} {v : Value} {e : TypeId} {s m : Nat} {xs : List Value} (T : Turn (fun _ => False) w wr) (hr : wr.ownsRow w.heap.size e s v m xs) (T2 : Turn (fun k => v.ownBlock = some k) wr wa) : Turn (fun _ => False) w wa :=
  ⟨T2.os.trans T.os, T2.tape.trans T.tape, T2.output.trans T.output, Nat.le_trans T.size T2.size, fun k hk _ => (T2.block k (Nat.lt_of_lt_of_le hk T.size) (fun e => by have := (hr.lt k e).1; omega)).trans (T.block k hk id)⟩
theorem info3c : (Try.prog.info? 3).map (fun i => (i.zero, i.size, i.bytes)) = some (some (.int .i64 0), 1, 8) := by kernel_rfl
theorem app_ints {W : World} {b n cap : Nat} {xs : List Value} (hb : Blk W b 3) (hx : W.rangeAt b 0 xs) (hl : xs.length = n * 1) (ho : ∀ u ∈ xs, u.oneCell' = true) (hn : n ≤ 1000000) :
    ∃ v' w', (Builtin.append_ #[46, 46] 46 #[.slice (some ⟨W.heap.size, 0, none⟩) 0 0, .slice (some ⟨b, 0, none⟩) n cap]).run Try.prog (W.alloc (.cells #[] 3)) = .ok v' w' ∧ w'.ownsRow W.heap.size 3 1 v' n xs ∧ Turn (fun _ => False) W w' := by
  obtain ⟨i3, j1, j2, j3, j4⟩ := info_parts info3c
  have h0 := World.ownsRow_lit (base := W.heap.size) (e := 3) (size := 1) W #[] 0 (Nat.le_refl _) (by decide) rfl
  obtain ⟨v', w', hr, ho, hg, _⟩ := run_append_own (W.alloc (.cells #[] 3)) W.heap.size 46 46 3 i3 _ 1 8 Try.underlying46 j1 j2 j3 j4 rfl (by decide) _ 0 [] h0 ⟨b, 0, none⟩ n cap xs (by simpa using hl) (fun j u hu => by
    rw [Go.WideShapes.add_plain, Nat.zero_add]
    have := ((Turn.refl (fun _ => False) W).alloc (.cells #[] 3)).cell (fun f => f) (hx j u hu)
    rw [Nat.zero_add] at this
    exact this) ho (by unfold maxLen; omega) (by omega) (by simp)
  refine ⟨v', w', hr, by simpa using ho, ?_⟩
  have T1 : Turn (fun _ => False) W (W.alloc (.cells #[] 3)) := (Turn.refl _ W).alloc _
  exact turn_fresh T1 h0 ((Turn.refl _ _).grown hg (fun k hk => .inl hk))
set_option maxRecDepth 100000 in
theorem clone_ints {w : World} {v : Value} {n : Nat} {xs : List Value} (h : RowV w 3 1 n v xs) (ho : ∀ u ∈ xs, u.oneCell' = true) (hn : 1 ≤ n ∧ n ≤ 1000000) :
    Calls Try.prog 53 #[v] w fun en w' => ∃ v', en = .returned v' ∧ RowV w' 3 1 n v' xs ∧ (∀ k, v'.ownBlock = some k → w.heap.size ≤ k) ∧ Turn (fun _ => False) w w' := by
  obtain ⟨b, cap, rfl, hb, hx, hl⟩ := h
  obtain ⟨v', w', hr, hown, T⟩ := app_ints (cap := cap) hb hx hl ho hn.2
  have F := Lib.hid (show ∃ v2, v' = v2 ∧ RowV w' 3 1 n v2 xs ∧ (∀ k, v2.ownBlock = some k → w.heap.size ≤ k) ∧ Turn (fun _ => False) w w' from ⟨v', rfl, hown.rowv (by omega), fun k hk => (hown.lt k hk).1, T⟩)
  have RUN := Lib.hid hr
  have HE := fun w => Lib.run_eql_slice_nil (P := Try.prog) w 46 3 (some ⟨b, 0, none⟩) n cap 0 0 Try.underlying46
  clear hb hx hl hr hown T ho hn
  go_enter Try.func53, Try.ntmps53
  go_wp2_with (refine rl_append_run (by rfl) _ _ _ (by rfl) (by rfl) (by rfl) RUN.out ?_)
  go_ret
  obtain ⟨v2, rfl, F2⟩ := F.out
  exact ⟨_, rfl, F2⟩
theorem info38c : (Try.prog.info? 38).map (fun i => (i.zero, i.size, i.bytes)) = some (some (.agg #[.int .i64 0, .int .i64 0]), 2, 16) := by kernel_rfl
theorem app_refs {W : World} {b n cap : Nat} {xs : List Value} (hb : Blk W b 38) (hx : W.rangeAt b 0 xs) (hl : xs.length = n * 2) (ho : ∀ u ∈ xs, u.oneCell' = true) (hn : n ≤ 1000000) :
    ∃ v' w', (Builtin.append_ #[54, 54] 54 #[.slice (some ⟨W.heap.size, 0, none⟩) 0 0, .slice (some ⟨b, 0, none⟩) n cap]).run Try.prog (W.alloc (.cells #[] 38)) = .ok v' w' ∧ w'.ownsRow W.heap.size 38 2 v' n xs ∧ Turn (fun _ => False) W w' := by
  obtain ⟨i3, j1, j2, j3, j4⟩ := info_parts info38c
  have h0 := World.ownsRow_lit (base := W.heap.size) (e := 38) (size := 2) W #[] 0 (Nat.le_refl _) (by decide) rfl
  obtain ⟨v', w', hr, ho, hg, _⟩ := run_append_own (W.alloc (.cells #[] 38)) W.heap.size 54 54 38 i3 _ 2 16 Try.underlying54 j1 j2 j3 j4 rfl (by decide) _ 0 [] h0 ⟨b, 0, none⟩ n cap xs (by simpa using hl) (fun j u hu => by
    rw [Go.WideShapes.add_plain, Nat.zero_add]
    have := ((Turn.refl (fun _ => False) W).alloc (.cells #[] 38)).cell (fun f => f) (hx j u hu)
    rw [Nat.zero_add] at this
    exact this) ho (by unfold maxLen; omega) (by omega) (by simp)
  refine ⟨v', w', hr, by simpa using ho, ?_⟩
  have T1 : Turn (fun _ => False) W (W.alloc (.cells #[] 38)) := (Turn.refl _ W).alloc _
  exact turn_fresh T1 h0 ((Turn.refl _ _).grown hg (fun k hk => .inl hk))
set_option maxRecDepth 100000 in
theorem clone_refs {w : World} {v : Value} {n : Nat} {xs : List Value} (h : RowV w 38 2 n v xs) (ho : ∀ u ∈ xs, u.oneCell' = true) (hn : 1 ≤ n ∧ n ≤ 1000000) :
    Calls Try.prog 51 #[v] w fun en w' => ∃ v', en = .returned v' ∧ RowV w' 38 2 n v' xs ∧ (∀ k, v'.ownBlock = some k → w.heap.size ≤ k) ∧ Turn (fun _ => False) w w' := by
  obtain ⟨b, cap, rfl, hb, hx, hl⟩ := h
  obtain ⟨v', w', hr, hown, T⟩ := app_refs (cap := cap) hb hx hl ho hn.2
  have F := Lib.hid (show ∃ v2, v' = v2 ∧ RowV w' 38 2 n v2 xs ∧ (∀ k, v2.ownBlock = some k → w.heap.size ≤ k) ∧ Turn (fun _ => False) w w' from ⟨v', rfl, hown.rowv (by omega), fun k hk => (hown.lt k hk).1, T⟩)
  have RUN := Lib.hid hr
  have HE := fun w => Lib.run_eql_slice_nil (P := Try.prog) w 54 38 (some ⟨b, 0, none⟩) n cap 0 0 Try.underlying54
  clear hb hx hl hr hown T ho hn
  go_enter Try.func51, Try.ntmps51
  go_wp2_with (refine rl_append_run (by rfl) _ _ _ (by rfl) (by rfl) (by rfl) RUN.out ?_)
  go_ret
  obtain ⟨v2, rfl, F2⟩ := F.out
  exact ⟨_, rfl, F2⟩
end Go.Proofs.Ytepmealhnnoahaa
