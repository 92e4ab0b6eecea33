/-
  All that a merged row tells, in a row of one's own.
-/
import Derived.Test.YtibmimdlgbhdnaaTupI
namespace Go.Proofs.Ytibmimdlgbhdnaa
open Go.ChangeShapes Go.WideShapes Go.ChangeAt Go.RowKit Go.Shelf
set_option linter.unusedVariables false
attribute [local go_sem] Oper.semAt_some

theorem mergeN_len (lt : Int → Int → Bool) : ∀ n S, (mergeN lt n S).length ≤ n
  | 0, S => Nat.le_refl _
  | n + 1, S => by
    rw [mergeN]
    split
    · exact Nat.zero_le _
    · have := mergeN_len lt n (by assumption)
      simp only [List.length_cons]
      omega
/-- What Merge has made, and what lies there. -/
structure Mgd (w : World) (kb lb : Nat) (L : List (List Int)) : Prop where
  it : ∃ (hb : Nat) (f : Nat → Value), w.cell? ⟨kb, 0, none⟩ = some (.slice (some ⟨hb, 0, none⟩) L.length L.length) ∧ (∀ k, k < L.length → w.cell? ⟨hb, k, none⟩ = some (f k)) ∧ ∀ (k : Nat) (l : List Int), L[k]? = some l → RowLo w.heap.size w (f k) l
  le : w.cell? ⟨lb, 0, none⟩ = some (.func (.func 56) #[] #[])
theorem mgd_of {w w' : World} {lb hb kb : Nat} {L : List (List Int)} {v : Value} (h : MRel w lb hb kb L.length L 0 v w') : Mgd w' kb lb L := by
  obtain ⟨i, f, rfl, hi, hg, c0, c1, cf, fr, ro, T, hz⟩ := h
  exact ⟨⟨hb, f, c1, cf, fun k l hl => rowLo_own (ro k l (by have := (List.getElem?_eq_some_iff.1 hl).1; omega) hl) (Nat.le_refl _)⟩, c0⟩
theorem merge_gives (n : Nat) (hn : 1 ≤ n) {lt : Int → Int → Bool} (HL : Less 56 lt) {w : World} {kb lb : Nat} {L : List (List Int)} (hL : L.length ≤ 1000000) (h : Mgd w kb lb L) {w0 : World} (hw : Below w.heap.size w w0) (hz : w.heap.size < w0.heap.size) :
    GivesT 27 n Try.prog 65 #[.pointer (some ⟨kb, 0, none⟩), .pointer (some ⟨lb, 0, none⟩)] (fun x : Int => #[.int .i64 x]) (KN w.heap.size) (mergeN lt (total L) L) w0 := fun lo J W hW hJ hY h0 => by
  obtain ⟨⟨hb, f, c1, cf, hr⟩, c0⟩ := h
  have hwW : Below w.heap.size w W := hw.trans (hW.mono (by omega))
  have kp : ∀ {k j v}, w.cell? ⟨k, j, none⟩ = some v → W.cell? ⟨k, j, none⟩ = some v := fun h => (World.cell?_of_block (w := w) (hwW.block _ (block_lt_of_cell h))).trans h
  have := hW.size
  exact merge1_in n hn HL lo kb lb hb w.heap.size L.length L f rfl hL J W (by omega) (block_lt_of_cell c0) hJ hY h0 (kp c1) (kp c0) (fun k hk => kp (cf k hk)) (fun k l hl => (hr k l hl).keep fun j hj => hwW.block j hj)
theorem box_t {W W' : World} {B : Nat} {t : TypeId} {v : Value} (h : Boxed W B t v) {row : Option Nat} (hg : W.grownBy W' row) (hr : ∀ r, row = some r → B < r) : Boxed W' B t v :=
  h.kept hg (fun e => by have := hr _ e.symm; omega)
theorem row_t {W W' : World} {base e : Nat} {size n : Nat} {t : TypeId} {v : Value} {xs : List Value} (h : W.ownsRow base t size v n xs) {row : Option Nat} (hg : W.grownBy W' row) (hr : ∀ r, row = some r → ∃ o : Obj, W.heap[r]? = some o ∧ ∀ cs q, o ≠ .cells cs t q) : W'.ownsRow base t size v n xs := by
  refine own_keep h fun k hk => hg.block k (h.lt k hk).2 fun e => ?_
  obtain ⟨o, h1, h2⟩ := hr k e.symm
  rcases h.2 with ⟨e, _⟩ | ⟨g, cap, cur, e, hg, hgg, _⟩
  · rw [e] at hk
    cases hk
  · rw [e] at hk
    obtain rfl : g = k := by simpa [Value.ownBlock] using hk
    rw [h1] at hgg
    injection hgg with hgg
    exact h2 _ _ hgg
theorem row_else {w : World} {base size n : Nat} {t e : TypeId} {v : Value} {xs : List Value} (h : w.ownsRow base t size v n xs) (hne : t ≠ e) {k : Nat} {cs : Array Value} {q : Nat × Nat} (hk : w.heap[k]? = some (.cells cs e q)) : v.ownBlock ≠ some k := fun hk1 => by
  rcases h.2 with ⟨e, _⟩ | ⟨g, cap, cur, e, hg, hgg, _⟩
  · rw [e] at hk1
    cases hk1
  · rw [e] at hk1
    obtain rfl : g = k := by simpa [Value.ownBlock] using hk1
    rw [hk] at hgg
    injection hgg with hgg
    injection hgg with _ h2 _
    exact hne h2.symm
def AllI (w : World) (pre : List Int) (W : World) : Prop :=
  (∃ v, Boxed W w.heap.size 27 v ∧ W.ownsRow w.heap.size 3 1 v pre.length (intsV pre)) ∧ Below w.heap.size w W
theorem all_own (w : World) : OwnFrom (w.heap.size + 1) (AllI w) := fun s A B row ⟨⟨v, hb, ho⟩, hB⟩ hg hr =>
  ⟨⟨v, box_t hb hg (fun r e => by have := (hr r e).1; omega), row_t (e := 0) ho hg (fun r e => by
    obtain ⟨_, o, h1, h2⟩ := hr r e
    exact ⟨o, h1, fun cs q e => by rw [e] at h2; cases h2⟩)⟩, hB.grown hg hB.size (fun r e => by have := (hr r e).1; omega)⟩
theorem all_bears (w : World) : BearsT 27 (w.heap.size + 1) (AllI w) := fun s A B row ⟨⟨v, hb, ho⟩, hB⟩ hg hr =>
  ⟨⟨v, box_t hb hg (fun r e => by have := (hr r e).1; omega), row_t (e := 0) ho hg (fun r e => by
    obtain ⟨_, cs, q, h1⟩ := hr r e
    exact ⟨_, h1, fun cs q e => by injection e with _ h2 _; revert h2; decide⟩)⟩, hB.grown hg hB.size (fun r e => by have := (hr r e).1; omega)⟩
theorem one_at (w : World) (x : Value) (t : TypeId) : ∀ j u, [x][j]? = some u → (w.alloc (.cells #[x] t)).cell? ((⟨w.heap.size, 0, none⟩ : Addr).add j) = some u := cell_one_new w x t

set_option maxRecDepth 100000 in
set_option maxHeartbeats 2000000 in
theorem all_in (n : Nat) (hn : 6 ≤ n) {lt : Int → Int → Bool} (HL : Less 56 lt) {w : World} {kb lb : Nat} {L : List (List Int)} (hL : L.length ≤ 1000000) (hT : total L ≤ 1000000) (h : Mgd w kb lb L) :
    CallsIn Fence.wide n Try.prog 26 #[.func (.func 65) #[] #[.pointer (some ⟨kb, 0, none⟩), .pointer (some ⟨lb, 0, none⟩)]] w fun e W' => ∃ v, e = .returned v ∧ W'.ownsRow w.heap.size 3 1 v (mergeN lt (total L) L).length (intsV (mergeN lt (total L) L)) ∧ Below w.heap.size w W' := by
  have h1 : 1 ≤ n := by omega
  obtain ⟨i0, hi, hz0, hz1, hz2⟩ := info_parts info3t
  have bO := Boxed.new w 27 (.slice none 0 0)
  have hB0 : Below w.heap.size w (w.alloc (.cells #[.slice none 0 0] 27)) := (Below.refl _ w).alloc (Nat.le_refl _) _
  have hz : (w.alloc (.cells #[.slice none 0 0] 27)).heap.size = w.heap.size + 1 := by simp
  have GV := Lib.hid (merge_gives (n - 1) (by omega) HL hL h hB0 (by rw [hz]; omega))
  have ML := mergeN_len lt (total L) L
  generalize mergeN lt (total L) L = out at *
  clear h
  refine callsIn_of_wp_marks Try.func26 rfl trivial ?_ rfl
  simp only [Try.ntmps26, List.size_toArray, List.length_cons, List.length_nil, Nat.reduceAdd, Nat.reduceSub, Array.replicate_succ, Array.replicate_zero, List.push_toArray, List.append_toArray, List.nil_append, List.cons_append]
  gi_wp2_with fail
  refine range_t h1 (gf := 65) (lb := #[.pointer (some ⟨kb, 0, none⟩), .pointer (some ⟨lb, 0, none⟩)]) rfl (enters_of Try.func65 (by kernel_rfl) rfl) GV.out (Below.refl _ _) (fun _ => rfl) kn_t (kn_b (by rw [hz]; omega)) (AllI w) (by rw [hz]; exact all_own w) (by rw [hz]; exact all_bears w) ⟨⟨_, bO, World.ownsRow_nil _ _ _ _⟩, hB0⟩
    (fun x => { tmps := #[.func (.func 65) #[] #[.pointer (some ⟨kb, 0, none⟩), .pointer (some ⟨lb, 0, none⟩)], undef, .slice none 0 0, .pointer (some ⟨w.heap.size, 0, none⟩), .int .i64 x, .func (.func 65) #[] #[.pointer (some ⟨kb, 0, none⟩), .pointer (some ⟨lb, 0, none⟩)], .int .i64 x, undef, undef, undef, undef, undef], defers := [] }) ?assign ?body ?done
  case assign =>
    intro lo x W K hK
    gi_wp2
    exact hK
  case body =>
    rintro lo pre x W ⟨⟨v, hv, hrow⟩, hB⟩ hlt
    have hn0 := hB.size
    have c1 := hv.cell
    gi_wp2_with (gi_at_builtin; refine wpListIn_append_own_at _ rfl (.tmp 7) (.tmp 9) 27 rfl w.heap.size 3 i0 (.int .i64 0) 1 8 Try.underlying27 hi hz0 hz1 hz2 rfl (by decide) _ _ _ rfl (hrow.alloc _) ⟨W.heap.size, 0, none⟩ 1 1 [.int .i64 x] rfl rfl (one_at _ _ _) (by simp [Value.oneCell']) (by unfold maxLen; omega) (by omega) (by simp; omega) ?_; intro v' w1 hown' hgrow _ hat; obtain ⟨g', cap', rfl⟩ := ownsRow_succ hown'; obtain ⟨q1, q2, q3, q4, q5⟩ := hv.appended (by decide) hrow hB.size (Nat.le_refl _) hown' hgrow; have qc := q1.cell; have qf := q1.frozen)
    have key : ∀ k, k < W.heap.size → k ≠ w.heap.size → v.ownBlock ≠ some k → (w1.setCell ⟨w.heap.size, 0, none⟩ (.slice (some ⟨g', 0, none⟩) (pre.length + 1) cap')).heap[k]? = W.heap[k]? := fun k hk h1 h2 => by
      rw [Below.heap_setCell _ _ _ _ (by exact h1), hgrow.block k (by simp; omega) (fun e => h2 e.symm)]
      exact Below.heap_alloc W _ k hk
    refine ⟨q4.from _, ⟨q4.size, fun k hk hc => ?_⟩, ⟨_, q2, by rw [show intsV (pre ++ [x]) = intsV pre ++ [.int .i64 x] by simp [intsV], List.length_append]; exact q3⟩, hB.trans q5⟩
    rcases hc with hc | ⟨cs, q, hc⟩
    · exact key k (by omega) hk (fun e => by have := (hrow.lt k e).1; omega)
    · exact key k (Array.getElem?_eq_some_iff.1 hc).1 hk (row_else hrow (by decide) hc)
  case done =>
    rintro D W hD ⟨⟨v, hv, hrow⟩, hB⟩ hK
    have hc := hv.cell
    gi_wp2
    refine ⟨by simp, .inl ⟨_, _, rfl, run_takeDeferred hK, ?_⟩⟩
    exact ⟨_, results_tmp rfl _ _ _, v, rfl, ownsRow_putObj hrow _ hK rfl, hB.trans (belowK_b (w := w) (Nat.le_refl _) W D _ _ (by omega) hK rfl rfl)⟩
theorem all_any {lt : Int → Int → Bool} (HL : Less 56 lt) {w : World} {kb lb : Nat} {L : List (List Int)} (hL : L.length ≤ 1000000) (hT : total L ≤ 1000000) (h : Mgd w kb lb L) :
    Calls Try.prog 26 #[.func (.func 65) #[] #[.pointer (some ⟨kb, 0, none⟩), .pointer (some ⟨lb, 0, none⟩)]] w fun e W' => ∃ v, e = .returned v ∧ W'.ownsRow w.heap.size 3 1 v (mergeN lt (total L) L).length (intsV (mergeN lt (total L) L)) ∧ Below w.heap.size w W' :=
  callsIn_wide.1 (all_in 6 (Nat.le_refl _) HL hL hT h)
end Go.Proofs.Ytibmimdlgbhdnaa
