/-
  Lex, as the document tells it.
-/
import Derived.Test.YtjahjdmabconeaaDoorQg
namespace Go.Proofs.YtjahjdmabconeaaDoor
open Go.ChangeShapes Go.WideShapes Go.ChangeAt Go.RowKit
set_option linter.unusedVariables false
def zlex : List Value := [.slice none 0 0, .int .i64 0, .int .i64 0]
def put3 (w : World) (b : Nat) (v0 v1 v2 : Value) : World := ((w.setCell ⟨b, 0, none⟩ v0).setCell ⟨b, 1, none⟩ v1).setCell ⟨b, 2, none⟩ v2
theorem put3_range {w : World} {b : Nat} {u0 u1 u2 : Value} (h : w.rangeAt b 0 [u0, u1, u2]) (v0 v1 v2 : Value) : (put3 w b v0 v1 v2).rangeAt b 0 [v0, v1, v2] := by
  intro k v hv
  rw [Nat.zero_add]
  have c0 := h 0 u0 rfl
  have c1 := h 1 u1 rfl
  have c2 := h 2 u2 rfl
  rw [Nat.zero_add] at c0 c1 c2
  unfold put3
  match k, hv with
  | 0, hv =>
    obtain rfl : v0 = v := by simpa using hv
    exact (cell_off _ _ _ _ _ (by decide)).trans ((cell_off _ _ _ _ _ (by decide)).trans (World.cell?_setCell_same _ _ _ c0))
  | 1, hv =>
    obtain rfl : v1 = v := by simpa using hv
    exact (cell_off _ _ _ _ _ (by decide)).trans (World.cell?_setCell_same _ _ _ ((cell_off _ _ _ _ _ (by decide)).trans c1))
  | 2, hv =>
    obtain rfl : v2 = v := by simpa using hv
    exact World.cell?_setCell_same _ _ _ ((cell_off _ _ _ _ _ (by decide)).trans ((cell_off _ _ _ _ _ (by decide)).trans c2))
  | k + 3, hv => simp at hv
theorem put3_turn (w : World) (b : Nat) (v0 v1 v2 : Value) : Turn (fun k => k = b) w (put3 w b v0 v1 v2) := ((Turn.put w b 0 v0).trans (Turn.put _ b 1 v1)).trans (Turn.put _ b 2 v2)
theorem size38 : (Tryd.prog.info? 38).map (fun i => i.size) = some 3 := by kernel_rfl
/-- What the document's Lex tells. -/
def RLexPost (w : World) (s : ByteArray) (e : Ending) (w' : World) : Prop :=
  Turn (fun _ => False) w w' ∧
  ((∃ x r pre, toksB s.data.toList = pre ++ x :: r ∧ pre.length = 200 ∧ e = .returned (.agg #[.slice none 0 0, .int .i64 (x.1 : Int), .int .i64 12])) ∨
   ((toksB s.data.toList).length ≤ 200 ∧ skipB (endB (toksB s.data.toList)) s.data.toList < s.size ∧ e = .returned (.agg #[.slice none 0 0, .int .i64 (skipB (endB (toksB s.data.toList)) s.data.toList : Int), .int .i64 10])) ∨
   ((toksB s.data.toList).length ≤ 200 ∧ skipB (endB (toksB s.data.toList)) s.data.toList = s.size ∧ ∃ v, e = .returned (.agg #[v, .int .i64 (s.size : Int), .int .i64 0]) ∧ w'.ownsRow w.heap.size 30 4 v (toksB s.data.toList).length (toksC s (toksB s.data.toList))))
theorem rl_box (w : World) {w1 : World} (T : Turn (fun _ => False) (w.alloc (.cells zlex.toArray 38)) w1) (v : Value) (k : Int) : ∃ W2, W2 = w1.alloc (.cells #[v, .int .i64 k] 42) ∧ (W2.rangeAt w.heap.size 0 zlex ∧ Blk W2 w.heap.size 38 ∧ Turn (fun _ => False) w W2) ∧
    W2.cell? ⟨w1.heap.size, 0, none⟩ = some v ∧ W2.cell? ⟨w1.heap.size, 1, none⟩ = some (.int .i64 k) ∧ w.heap.size ≠ w1.heap.size ∧ Turn (fun _ => False) w1 W2 := by
  have hs := T.size
  rw [World.size_alloc] at hs
  have T2 : Turn (fun _ => False) w1 (w1.alloc (.cells #[v, .int .i64 k] 42)) := (Turn.refl _ _).alloc _
  exact ⟨_, rfl, ⟨range_turn (range_turn (range_new w zlex 38) T id) T2 id, ((Blk.newA rfl).turn T id).turn T2 id, (((Turn.refl _ _).alloc _).trans T).trans T2⟩, cell_new rfl rfl, cell_new rfl rfl, by omega, T2⟩
theorem rlex_put {w W : World} {a : Act} {s : ByteArray} (h : W.rangeAt w.heap.size 0 zlex ∧ Blk W w.heap.size 38 ∧ Turn (fun _ => False) w W) (hd : a.defers = []) (hp : a.tmps.getD 2 undef = .pointer (some ⟨w.heap.size, 0, none⟩)) (v0 v1 v2 : Value)
    (hP : Turn (fun _ => False) w (put3 W w.heap.size v0 v1 v2) → RLexPost w s (.returned (.agg #[v0, v1, v2])) (put3 W w.heap.size v0 v1 v2)) :
    bodyPost Tryd.prog Tryd.f15 (RLexPost w s) Exit.ret a (put3 W w.heap.size v0 v1 v2) :=
  bodyPost_ret (v := .agg #[v0, v1, v2]) (res_cell (a := 2) rfl hp (run_loadVar_mid _ w.heap.size 0 38 _ _ (put3_range h.1 v0 v1 v2) Tryd.underlying38 rfl size38)) hd (hP (h.2.2.comp (put3_turn W _ v0 v1 v2) (fun i hi q => by omega)))
set_option maxRecDepth 100000 in
set_option maxHeartbeats 2000000 in
theorem rlex_is (w : World) (s : ByteArray) (hs : s.size ≤ 1000000) : Calls Tryd.prog 15 #[.string s] w (RLexPost w s) := by
  have EA := Lib.hid (fun w => reach_is w s hs)
  have HS := Lib.hid hs
  clear hs
  go_enter Tryd.func15, Tryd.ntmps15
  go_wp2_with fail
  with_reducible refine (EA.out _).mono ?_
  rintro e w1 ⟨T1, v, rfl, ho⟩
  obtain ⟨a, cap, rfl, hga⟩ := own_slice ho
  obtain ⟨K, hK⟩ : ∃ K, K = skipB (endB (toksB s.data.toList)) s.data.toList := ⟨_, rfl⟩
  rw [← hK]
  obtain ⟨n, hn⟩ : ∃ n, n = (toksB s.data.toList).length := ⟨_, rfl⟩
  rw [← hn] at ho hga ⊢
  obtain ⟨W2, hW2, RB, z0, z1, hne, T2⟩ := rl_box w T1 (.slice a n cap) (K : Int)
  have RR := RB.1
  have y0 : W2.cell? ⟨w.heap.size, 0, none⟩ = some (.slice none 0 0) := RR 0 _ rfl
  have y1 : W2.cell? ⟨w.heap.size, 1, none⟩ = some (.int .i64 0) := RR 1 _ rfl
  have y2 : W2.cell? ⟨w.heap.size, 2, none⟩ = some (.int .i64 0) := RR 2 _ rfl
  have ff := RB.2.1.fz
  have ow := own_weak (own_turn ho T2 (fun _ _ f => f)) (show w.heap.size + 1 ≤ (w.alloc (.cells zlex.toArray 38)).heap.size by rw [World.size_alloc]; omega)
  have HW := Lib.hid hW2
  have HR := Lib.hid (And.intro RB (And.intro ow (And.intro hK hn)))
  by_cases h200 : 200 < n
  · obtain ⟨g, rfl⟩ := hga (by omega)
    obtain ⟨x, hx⟩ : ∃ x, (toksB s.data.toList)[200]? = some x := ⟨_, List.getElem?_eq_getElem (by rw [← hn]; exact h200)⟩
    have cx : W2.cell? ⟨g, 801, none⟩ = some (.int .i64 (x.1 : Int)) := by
      have h1 := toksC_at s (toksB s.data.toList) 200 1 x hx (by omega)
      rw [ow.cellAt 801 (by omega)]
      exact h1.trans rfl
    have u1 : decide ((n : Int) > 200) = true := decide_eq_true (by omega)
    have u2 : decide ((200 : Int) < (n : Int)) = true := decide_eq_true (by omega)
    have u3 : decide (200 < n) = true := decide_eq_true h200
    have i0 : (200 : Int) < (n : Int) := by omega
    have HX := Lib.hid (And.intro hx h200)
    clear T1 T2 ho hga hK hn hW2 RB RR ow hx h200
    go_upto_region 2 with fail
    rw [← HW.out]
    go_wp2_with fail
    refine rlex_put HR.out.1 rfl rfl (.slice none 0 0) (.int .i64 (x.1 : Int)) (.int .i64 12) (fun T => ⟨T, .inl ⟨x, (toksB s.data.toList).drop 201, (toksB s.data.toList).take 200, ?_, ?_, rfl⟩⟩)
    · obtain ⟨h1, h2⟩ := List.getElem?_eq_some_iff.1 HX.out.1
      rw [← h2, List.getElem_cons_drop, List.take_append_drop]
    · rw [List.length_take]
      have := HX.out.2
      have := HR.out.2.2.2
      omega
  · have u1 : decide ((n : Int) > 200) = false := decide_eq_false (by omega)
    have u2 : decide ((200 : Int) < (n : Int)) = false := decide_eq_false (by omega)
    have u3 : decide (200 < n) = false := decide_eq_false h200
    have HX := Lib.hid (show (toksB s.data.toList).length ≤ 200 by omega)
    by_cases hk : K < s.size
    · have v1 := dec_ilt hk
      have v2 : decide (K < s.size) = true := decide_eq_true hk
      have HKK := Lib.hid hk
      clear T1 T2 ho hga hK hn hW2 RB RR ow h200 hk
      go_upto_region 2 with fail
      rw [← HW.out]
      go_wp2_with fail
      exact rlex_put HR.out.1 rfl rfl (.slice none 0 0) (.int .i64 (K : Int)) (.int .i64 10) (fun T => ⟨T, .inr (.inl ⟨HX.out, by rw [← HR.out.2.2.1]; exact HKK.out, by rw [← HR.out.2.2.1]⟩)⟩)
    · have v1 := dec_inlt hk
      have v2 : decide (K < s.size) = false := decide_eq_false hk
      have HKK := Lib.hid (show K = s.size from by
        have h1 := skipB_le (i := endB (toksB s.data.toList)) (l := s.data.toList) (endB_le _ (fun x hx => (eachB_mem _ _ _ _ hx).1))
        rw [← hK, ← str_len] at h1
        omega)
      clear T1 T2 ho hga hK hn hW2 RB RR ow h200 hk
      go_upto_region 2 with fail
      rw [← HW.out]
      go_wp2_with fail
      refine rlex_put HR.out.1 rfl rfl (.slice a n cap) (.int .i64 (s.size : Int)) (.int .i64 0) (fun T => ⟨T, .inr (.inr ⟨HX.out, by rw [← HR.out.2.2.1]; exact HKK.out, _, rfl, ?_⟩)⟩)
      rw [← HR.out.2.2.2]
      exact own_weak (own_turn HR.out.2.1 (put3_turn W2 _ _ _ _) (fun k hk q => by have := (own_blk HR.out.2.1 hk).2; omega)) (Nat.le_succ _)
end Go.Proofs.YtjahjdmabconeaaDoor
