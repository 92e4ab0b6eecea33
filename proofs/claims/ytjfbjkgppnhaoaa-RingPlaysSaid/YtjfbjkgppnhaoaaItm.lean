/-
  The items of a ring, as the statements of layer 10 make them.
-/
import Derived.Test.YtjfbjkgppnhaoaaAll1
namespace Go.Proofs.Ytjfbjkgppnhaoaa
open Go.ChangeShapes Go.WideShapes Go.ChangeAt Go.RowKit Go.Shelf
set_option linter.unusedVariables false
attribute [local go_sem] Oper.semAt_some

def icells : List (Int × Int) → List Value
  | [] => []
  | e :: l => .int .i64 e.1 :: .int .i64 e.2 :: icells l
theorem icells_snoc : ∀ (l : List (Int × Int)) (e : Int × Int), icells (l ++ [e]) = icells l ++ [.int .i64 e.1, .int .i64 e.2]
  | [], e => rfl
  | q :: l, e => by simp [icells, icells_snoc l e]
theorem icells_len : ∀ (l : List (Int × Int)), (icells l).length = l.length * 2
  | [] => rfl
  | q :: l => by simp [icells, icells_len l]; omega
theorem icells_at : ∀ (l : List (Int × Int)) (k : Nat) (e : Int × Int), l[k]? = some e → (icells l)[k * 2]? = some (.int .i64 e.1) ∧ (icells l)[k * 2 + 1]? = some (.int .i64 e.2)
  | [], k, e, h => by simp at h
  | q :: l, 0, e, h => by
    simp at h
    subst h
    exact ⟨rfl, rfl⟩
  | q :: l, k + 1, e, h => by
    obtain ⟨h1, h2⟩ := icells_at l k e (by simpa using h)
    rw [show (k + 1) * 2 = k * 2 + 1 + 1 from by omega]
    exact ⟨by simpa [icells] using h1, by simpa [icells] using h2⟩
theorem row_apart {w : World} {base base' size size' n n' : Nat} {t t' : TypeId} {v v' : Value} {xs xs' : List Value} (h : w.ownsRow base t size v n xs) (h' : w.ownsRow base' t' size' v' n' xs') (hne : t ≠ t') (k : Nat) (e : v.ownBlock = some k) : v'.ownBlock ≠ some k := fun e' => by
  rcases h.2 with ⟨rfl, _⟩ | ⟨g, cap, cur, rfl, hg, hgg, _⟩
  · cases e
  · rcases h'.2 with ⟨rfl, _⟩ | ⟨g', cap', cur', rfl, hg', hgg', _⟩
    · cases e'
    · simp [Value.ownBlock] at e e'
      subst e
      subst e'
      rw [hgg] at hgg'
      injection hgg' with h1
      injection h1 with _ h2
      exact hne h2
theorem info77 : (Try.prog.info? 77).map (fun i => (i.zero, i.size, i.bytes)) = some (some (.agg #[.int .i64 0, .int .i64 0]), 2, 16) := by kernel_rfl
theorem two_new (w : World) (x y : Value) (t : TypeId) (b : Nat) (hb : b = w.heap.size) : ∀ j u, [x, y][j]? = some u → (w.alloc (.cells #[x, y] t)).cell? ((⟨b, 0, none⟩ : Addr).add j) = some u := by
  subst hb
  intro j u h
  have : ((⟨w.heap.size, 0, none⟩ : Addr).add j) = ⟨w.heap.size, j, none⟩ := by unfold Addr.add; split <;> simp_all
  rw [this, World.cell?_alloc_new]
  simpa using h

theorem func_nil (a b : Value) (W : World) : (binOp BinOp.eql 138 (.func (.func 89) #[] #[a, b]) .nilFunc).run Try.prog W = .ok (.bool false) W := by kernel_rfl
set_option maxRecDepth 100000 in
set_option maxHeartbeats 2000000 in
theorem items_in (n : Nat) (hn : 6 ≤ n) (p : Option Addr) (l : List (Int × Int)) (S : Nat → Prop) (w : World) (hS : ∀ k, S k → k < w.heap.size) (hR : RingOf S w p l) :
    CallsIn Fence.wide n Try.prog 34 #[.pointer p] w fun e W' => ∃ v, e = .returned v ∧ W'.ownsRow w.heap.size 77 2 v l.length (icells l) ∧ Below w.heap.size w W' := by
  have h1 : 1 ≤ n := by omega
  have hl := hR.len
  obtain ⟨i0, hi, hz0, hz1, hz2⟩ := info_parts info77
  refine callsIn_of_wp_marks Try.func34 rfl trivial ?_ rfl
  simp only [Try.ntmps34, List.size_toArray, List.length_cons, List.length_nil, Nat.reduceAdd, Nat.reduceSub, Array.replicate_succ, Array.replicate_zero, List.push_toArray, List.append_toArray, List.nil_append, List.cons_append]
  have bO := Boxed.new w 62 (.slice none 0 0)
  have hB0 : Below w.heap.size w (w.alloc (.cells #[.slice none 0 0] 62)) := (Below.refl _ w).alloc (Nat.le_refl _) _
  have hR1 : RingOf S (w.alloc (.cells #[.slice none 0 0] 62)) p l := hR.keep (fun k hk => hB0.block k (hS k hk))
  have hz : (w.alloc (.cells #[.slice none 0 0] 62)).heap.size = w.heap.size + 1 := by simp
  have A := Lib.hid (all_in (n - 1) (by omega) p l S (w.alloc (.cells #[.slice none 0 0] 62)) (fun k hk => by rw [hz]; have := hS k hk; omega) hR1)
  rw [hz] at A
  gi_wp2_with fail
  refine ⟨trivial, ?_⟩
  refine A.out.mono ?_
  rintro e Wa ⟨rfl, ⟨v1, v2, hC⟩, hb⟩
  clear A
  have bO' : Boxed Wa w.heap.size 62 (.slice none 0 0) := (hb.block _ (by omega)).trans bO
  have hB1 : Below w.heap.size w Wa := hB0.trans (hb.mono (by omega))
  have hsz : w.heap.size + 1 ≤ Wa.heap.size := by have := hb.size; omega
  clear hb bO hB0 hR1 hz
  have hf := func_nil (.pointer (some ⟨w.heap.size + 1, 0, none⟩)) (.pointer (some ⟨w.heap.size + 1 + 1, 0, none⟩))
  gi_wp2_with fail
  refine wpIn_rangeFunc_ownG rfl h1 (gf := 89) (lb := #[.pointer (some ⟨w.heap.size + 1, 0, none⟩), .pointer (some ⟨w.heap.size + 1 + 1, 0, none⟩)]) rfl trivial (enters_of Try.func89 (by kernel_rfl) rfl)
    (all1_stops (n - 1) (by omega) _ _ _ l hl v1 v2 Wa hC) keepS_t (keepS_b (fun k hk => by
      rcases hk with hk | hk | hk
      · rw [hk]
        exact hC.b2.lt
      · exact (row_cells hC.r1 hk).2.1
      · exact (row_cells hC.r2 hk).2.1)) (Below.refl _ _) (fun _ => rfl)
    (fun pre W => (∃ v, Boxed W w.heap.size 62 v ∧ W.ownsRow w.heap.size 77 2 v pre.length (icells pre)) ∧ Col W (w.heap.size + 1) (w.heap.size + 1 + 1) (w.heap.size + 1) v1 v2 (ats l) (things l) ∧ Below w.heap.size w W)
    (fun _ _ _ => False)
    (fun s A B row hs hg hr => ⟨(hs.1.elim fun v h => ⟨v, box_others h.1 hg (fun r e => (hr r e).2), row_keep (e := 0) h.2 (fun k hk => hg.block k (row_cells h.2 hk).2.1 (fun e => by
      obtain ⟨o, q1, q2⟩ := (hr _ e.symm).2
      obtain ⟨_, _, o', q3, q4⟩ := row_cells h.2 hk
      rw [q1] at q3
      cases q3
      rw [q2] at q4
      cases q4))⟩), hs.2.1.others hg (fun r e => (hr r e).2), (ownFrom_below (β := List (Int × Int)) (Nat.le_refl _) (by omega)) s A B row hs.2.2 hg hr⟩)
    (fun _ _ _ _ _ hs _ _ => hs)
    ⟨⟨_, bO', World.ownsRow_nil _ _ _ _⟩, hC, hB1⟩
    (fun x => { tmps := #[.pointer p, undef, .slice none 0 0, .pointer (some ⟨w.heap.size, 0, none⟩), .func (.func 89) #[] #[.pointer (some ⟨w.heap.size + 1, 0, none⟩), .pointer (some ⟨w.heap.size + 1 + 1, 0, none⟩)], .int .i64 x.1, .int .i64 x.2, .pointer p, .func (.func 89) #[] #[.pointer (some ⟨w.heap.size + 1, 0, none⟩), .pointer (some ⟨w.heap.size + 1 + 1, 0, none⟩)], .func (.func 89) #[] #[.pointer (some ⟨w.heap.size + 1, 0, none⟩), .pointer (some ⟨w.heap.size + 1 + 1, 0, none⟩)], .bool false, .func (.func 89) #[] #[.pointer (some ⟨w.heap.size + 1, 0, none⟩), .pointer (some ⟨w.heap.size + 1 + 1, 0, none⟩)], .int .i64 x.1, .int .i64 x.2, undef, undef, undef, undef, undef, undef, undef], defers := [] }) ?assign ?body ?done ?stop
  case assign =>
    intro lo x W K hK
    dsimp only [encs]
    gi_wp2
    exact hK
  case body =>
    rintro lo pre x W ⟨⟨v, hv, hrow⟩, hC, hB⟩ hlt
    have hn0 := hB.size
    have c1 := hv.cell
    gi_wp2_with (gi_at_builtin; refine wpListIn_append_own_at _ rfl (.tmp 14) (.tmp 18) 62 rfl w.heap.size 77 i0 (.agg #[.int .i64 0, .int .i64 0]) 2 16 Try.underlying62 hi hz0 hz1 hz2 rfl (by decide) _ _ _ rfl (hrow.alloc _) ⟨W.heap.size, 0, none⟩ 1 1 [.int .i64 x.1, .int .i64 x.2] rfl rfl (two_new _ _ _ _ _ rfl) (by simp [Value.oneCell']) (by unfold maxLen; omega) (by omega) (by simp; omega) ?_; intro v' w1 hown' hgrow _ hat; obtain ⟨g', cap', rfl⟩ := ownsRow_succ hown'; obtain ⟨q1, q2, q3, q4, q5⟩ := hv.appended (by decide) hrow hB.size (Nat.le_refl _) hown' hgrow; have qc := q1.cell; have qf := q1.frozen)
    have key : ∀ k, k < W.heap.size → k ≠ w.heap.size → v.ownBlock ≠ some k → (w1.setCell ⟨w.heap.size, 0, none⟩ (.slice (some ⟨g', 0, none⟩) (pre.length + 1) cap')).heap[k]? = W.heap[k]? := fun k hk h1 h2 => by
      rw [Below.heap_setCell _ _ _ _ (by exact h1), hgrow.block k (by simp; omega) (fun e => h2 e.symm)]
      exact Below.heap_alloc W _ k hk
    have k1 := key _ hC.b1.lt (by omega) (fun e => hC.b1.not_row (by decide) hrow e.symm)
    have k2 := key _ hC.b2.lt (by omega) (fun e => hC.b2.not_row (by decide) hrow e.symm)
    have k3 : ∀ k, v1.ownBlock = some k → _ = W.heap[k]? := fun k hk => key k (row_cells hC.r1 hk).2.1 (by have := (row_cells hC.r1 hk).1; omega) (fun e => row_apart hrow hC.r1 (by decide) k e hk)
    have k4 : ∀ k, v2.ownBlock = some k → _ = W.heap[k]? := fun k hk => key k (row_cells hC.r2 hk).2.1 (by have := (row_cells hC.r2 hk).1; omega) (fun e => row_apart hrow hC.r2 (by decide) k e hk)
    exact ⟨q4.from _, fun k hk => by
      rcases hk with hk | hk | hk
      · rw [hk]
        exact k2
      · exact k3 k hk
      · exact k4 k hk, ⟨_, q2, by rw [icells_snoc, List.length_append]; exact q3⟩, hC.keep k1 k2 k3 k4, hB.trans q5⟩
  case done =>
    rintro D ys W hD rfl ⟨⟨v, hv, hrow⟩, hC, hB⟩ hK
    have hc := hv.cell
    gi_wp2
    refine ⟨by simp, .inl ⟨_, _, rfl, run_takeDeferred hK, ?_⟩⟩
    exact ⟨_, results_tmp rfl _ _ _, v, rfl, ownsRow_putObj hrow _ hK rfl, hB.trans (belowK_b (w := w) (Nat.le_refl _) W D _ _ (by omega) hK rfl rfl)⟩
  case stop =>
    rintro D c pre W _ _ h _
    exact h.elim
/-- The items of a ring, or of none: nothing that was there turns. -/
theorem items_any (p : Option Addr) (l : List (Int × Int)) (S : Nat → Prop) (w : World) (hS : ∀ k, S k → k < w.heap.size) (hR : RingOf S w p l) :
    Calls Try.prog 34 #[.pointer p] w fun e W' => ∃ v, e = .returned v ∧ W'.ownsRow w.heap.size 77 2 v l.length (icells l) ∧ Below w.heap.size w W' :=
  callsIn_wide.1 (items_in 6 (Nat.le_refl _) p l S w hS hR)
end Go.Proofs.Ytjfbjkgppnhaoaa
