/-
  Rows of conditions, one put behind another.
-/
import Derived.Test.YtadogobdlcionaaDoorRv
namespace Go.Proofs.YtadogobdlcionaaDoor
open Go.ChangeShapes Go.WideShapes Go.ChangeAt Go.RowKit Go.Shelf
set_option linter.unusedVariables false
/-- A row of conditions, each with its two rows of codes. -/
def CnsO (base : Nat) (W : World) (v : Value) (C : List CN) : Prop := ∃ xs, W.ownsRow base 59 3 v C.length xs ∧ ∀ k c, C[k]? = some c → ∃ lv rv, xs[k * 3]? = some (.int .i64 c.op) ∧ xs[k * 3 + 1]? = some lv ∧ xs[k * 3 + 2]? = some rv ∧ cdsV base c.left W lv ∧ cdsV base c.right W rv
/-- It bears what turns no block of codes, nor its own. -/
theorem CnsO.turn {base : Nat} {W W' : World} {v : Value} {C : List CN} {S : Nat → Prop} (h : CnsO base W v C) (T : Turn S W W') (hs : ∀ k, base ≤ k → ¬ S k) : CnsO base W' v C := by
  obtain ⟨xs, ho, hx⟩ := h
  refine ⟨xs, own_turn ho T (fun k hk q => hs k (own_above ho hk) q), fun k c hc => ?_⟩
  obtain ⟨lv, rv, a, b, d, e, f⟩ := hx k c hc
  exact ⟨lv, rv, a, b, d, e.turn T hs, f.turn T hs⟩
theorem info59 : (Tryd.prog.info? 59).map (fun i => (i.zero, i.size, i.bytes)) = some (some (.agg #[.int .i64 0, .slice none 0 0, .slice none 0 0]), 3, 56) := by kernel_rfl
theorem cds_one {b : Nat} {l : List CD} {w : World} {x : Value} (h : cdsV b l w x) : x.oneCell' = true := by
  obtain ⟨a, c, rfl, -⟩ := own_slice h
  rfl
theorem cds_apart {b b' n : Nat} {l : List CD} {w w' : World} {x v : Value} {xs : List Value} (h : cdsV b l w x) (ho : w.ownsRow b' 59 3 v n xs) (T : Turn (fun k => v.ownBlock = some k) w w') : cdsV b l w' x :=
  own_turn h T (fun k hk q => by
    rcases own_apart h ho (by decide) with r | r
    · rw [hk] at r; cases r
    · exact r (hk.trans q.symm))
theorem cn_add {w : World} {base : Nat} {v lv rv : Value} {C : List CN} {c : CN} (h : CnsO base w v C) (hn : C.length ≤ 1000) (hb : base ≤ w.heap.size) (hl : cdsV base c.left w lv) (hr : cdsV base c.right w rv) :
    ∃ v' w2, (Builtin.append_ #[25, 25] 25 #[v, .slice (some ⟨w.heap.size, 0, none⟩) 1 1]).run Tryd.prog (w.alloc (.cells #[.int .i64 c.op, lv, rv] 59)) = .ok v' w2 ∧ CnsO base w2 v' (C ++ [c]) ∧ Turn (fun k => v.ownBlock = some k) w w2 := by
  have T1 : Turn (fun _ => False) w (w.alloc (.cells #[.int .i64 c.op, lv, rv] 59)) := (Turn.refl _ w).alloc _
  obtain ⟨xs, ho, hx⟩ := h
  have ho1 := own_turn ho T1 (fun _ _ q => q)
  obtain ⟨i3, j1, j2, j3, j4⟩ := info_parts info59
  obtain ⟨v', w2, hrun, ho2, hg, _, hbl⟩ := run_append_own_at (w.alloc (.cells #[.int .i64 c.op, lv, rv] 59)) base 25 25 59 i3 _ 3 56 Tryd.underlying25 j1 j2 j3 j4 rfl (by decide) _ _ _ ho1 ⟨w.heap.size, 0, none⟩ 1 1 [.int .i64 c.op, lv, rv] rfl
    (cells_new w [.int .i64 c.op, lv, rv] 59 _ rfl) (fun u hu => by
      simp only [List.mem_cons, List.not_mem_nil, or_false] at hu
      rcases hu with h | h | h
      · rw [h]; rfl
      · rw [h]; exact cds_one hl
      · rw [h]; exact cds_one hr) (by unfold maxLen; omega) (by omega) (by rw [World.size_alloc]; omega)
  have T : Turn (fun k => v.ownBlock = some k) w w2 := (T1.more (fun _ _ q => q.elim)).trans ((Turn.refl _ _).grown hg (fun k hk => .inl hk))
  refine ⟨v', w2, hrun, ⟨xs ++ [.int .i64 c.op, lv, rv], by rw [List.length_append]; exact ho2, fun k d hd => ?_⟩, T⟩
  have hxl := ho.1
  by_cases hk : k < C.length
  · rw [List.getElem?_append_left hk] at hd
    obtain ⟨lv2, rv2, x1, x2, x3, x4, x5⟩ := hx k d hd
    exact ⟨lv2, rv2, by rw [List.getElem?_append_left (by omega)]; exact x1, by rw [List.getElem?_append_left (by omega)]; exact x2, by rw [List.getElem?_append_left (by omega)]; exact x3, cds_apart x4 ho T, cds_apart x5 ho T⟩
  · have hk2 := (List.getElem?_eq_some_iff.1 hd).1
    rw [List.length_append] at hk2
    have hk3 : k = C.length := by simp at hk2; omega
    subst hk3
    rw [List.getElem?_append_right (Nat.le_refl _), Nat.sub_self] at hd
    cases hd
    refine ⟨lv, rv, ?_, ?_, ?_, cds_apart hl ho T, cds_apart hr ho T⟩
    · rw [List.getElem?_append_right (by omega), hxl, Nat.sub_self]; rfl
    · rw [List.getElem?_append_right (by omega), hxl, show C.length * 3 + 1 - C.length * 3 = 1 by omega]; rfl
    · rw [List.getElem?_append_right (by omega), hxl, show C.length * 3 + 2 - C.length * 3 = 2 by omega]; rfl
end Go.Proofs.YtadogobdlcionaaDoor
