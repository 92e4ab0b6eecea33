/-
  All of a ring: its places and its things, in two rows of numbers; and these told one by one.
-/
import Derived.Test.YtjfbjkgppnhaoaaEach
namespace Go.Proofs.Ytjfbjkgppnhaoaa
open Go.ChangeShapes Go.WideShapes Go.ChangeAt Go.RowKit Go.Shelf
set_option linter.unusedVariables false
attribute [local go_sem] Oper.semAt_some

/-- Two rows of numbers that grow, each in a box. -/
structure Col (W : World) (B1 B2 n₀ : Nat) (v1 v2 : Value) (l1 l2 : List Value) : Prop where
  b1 : Boxed W B1 22 v1
  b2 : Boxed W B2 22 v2
  r1 : W.ownsRow n₀ 3 1 v1 l1.length l1
  r2 : W.ownsRow n₀ 3 1 v2 l2.length l2
  ap : ∀ k, v1.ownBlock = some k → v2.ownBlock ≠ some k
  ne : B1 ≠ B2
  n1 : n₀ ≤ B1
  n2 : n₀ ≤ B2

section
variable {W W' w1 : World} {B1 B2 n₀ : Nat} {v1 v2 v' : Value} {l1 l2 : List Value}
theorem Col.swap (h : Col W B1 B2 n₀ v1 v2 l1 l2) : Col W B2 B1 n₀ v2 v1 l2 l1 :=
  ⟨h.b2, h.b1, h.r2, h.r1, fun k e1 e2 => h.ap k e2 e1, h.ne.symm, h.n2, h.n1⟩
theorem row_keep {base e size n : Nat} {t : TypeId} {v : Value} {xs : List Value} (h : W.ownsRow base t size v n xs) (hk : ∀ k, v.ownBlock = some k → W'.heap[k]? = W.heap[k]?) : W'.ownsRow base t size v n xs := by
  refine ⟨h.1, ?_⟩
  rcases h.2 with h0 | ⟨g, cap, cur, rfl, hg, hgg, rest⟩
  · exact .inl h0
  · exact .inr ⟨g, cap, cur, rfl, hg, (hk g rfl).trans hgg, rest⟩
theorem row_cells {base size n : Nat} {t : TypeId} {v : Value} {xs : List Value} (h : W.ownsRow base t size v n xs) {k : Nat} (hk : v.ownBlock = some k) : base ≤ k ∧ k < W.heap.size ∧ ∃ o : Obj, W.heap[k]? = some o ∧ o.isCells = true := by
  rcases h.2 with ⟨rfl, _⟩ | ⟨g, cap, cur, rfl, hg, hgg, rest⟩
  · cases hk
  · obtain rfl : g = k := by simpa [Value.ownBlock] using hk
    exact ⟨hg, (Array.getElem?_eq_some_iff.1 hgg).1, _, hgg, rfl⟩
theorem Col.keep (h : Col W B1 B2 n₀ v1 v2 l1 l2) (k1 : W'.heap[B1]? = W.heap[B1]?) (k2 : W'.heap[B2]? = W.heap[B2]?) (q1 : ∀ k, v1.ownBlock = some k → W'.heap[k]? = W.heap[k]?) (q2 : ∀ k, v2.ownBlock = some k → W'.heap[k]? = W.heap[k]?) : Col W' B1 B2 n₀ v1 v2 l1 l2 :=
  ⟨k1.trans h.b1, k2.trans h.b2, row_keep (e := 0) h.r1 q1, row_keep (e := 0) h.r2 q2, h.ap, h.ne, h.n1, h.n2⟩
/-- What turned is no cells: it stays. -/
theorem Col.others (h : Col W B1 B2 n₀ v1 v2 l1 l2) {row : Option Nat} (hg : W.grownBy W' row) (hr : ∀ r, row = some r → ∃ o : Obj, W.heap[r]? = some o ∧ o.isCells = false) : Col W' B1 B2 n₀ v1 v2 l1 l2 := by
  have key : ∀ k (o : Obj), W.heap[k]? = some o → o.isCells = true → W'.heap[k]? = W.heap[k]? := fun k o hk ho => hg.block k (Array.getElem?_eq_some_iff.1 hk).1 (fun e => by
    obtain ⟨o', h1, h2⟩ := hr k e.symm
    rw [hk] at h1
    cases h1
    rw [ho] at h2
    cases h2)
  exact h.keep (key _ _ h.b1 rfl) (key _ _ h.b2 rfl) (fun k hk => by obtain ⟨_, _, o, h1, h2⟩ := row_cells h.r1 hk; exact key k o h1 h2) (fun k hk => by obtain ⟨_, _, o, h1, h2⟩ := row_cells h.r2 hk; exact key k o h1 h2)
/-- A number more in the first row. -/
theorem Col.add (h : Col W B1 B2 n₀ v1 v2 l1 l2) (hn : n₀ ≤ W.heap.size) {tmp : Obj} {u : Value} (hown : w1.ownsRow n₀ 3 1 v' (l1.length + 1) (l1 ++ [u])) (hgrow : (W.alloc tmp).grownBy w1 v1.ownBlock) (hat : v'.ownBlock = v1.ownBlock ∨ v'.ownBlock = some (W.alloc tmp).heap.size) :
    Boxed w1 B1 22 v1 ∧ Boxed w1 B2 22 v2 ∧ Col (w1.setCell ⟨B1, 0, none⟩ v') B1 B2 n₀ v' v2 (l1 ++ [u]) l2 ∧ KeepsOthers W (w1.setCell ⟨B1, 0, none⟩ v') ∧ Below n₀ W (w1.setCell ⟨B1, 0, none⟩ v') ∧
      (∀ k, k < W.heap.size → k ≠ B1 → v1.ownBlock ≠ some k → (w1.setCell ⟨B1, 0, none⟩ v').heap[k]? = W.heap[k]?) := by
  obtain ⟨a1, a2, a3, a4, a5⟩ := h.b1.appended (by decide) h.r1 hn h.n1 hown hgrow
  have a6 : ∀ k, k < W.heap.size → k ≠ B1 → v1.ownBlock ≠ some k → (w1.setCell ⟨B1, 0, none⟩ v').heap[k]? = W.heap[k]? := fun k hk h1 h2 => by
    rw [Below.heap_setCell _ _ _ _ (by exact h1), hgrow.block k (by simp; omega) (fun e => h2 e.symm)]
    exact Below.heap_alloc W tmp k hk
  have lt2 : B2 < W.heap.size := h.b2.lt
  have nb2 : v1.ownBlock ≠ some B2 := fun e => h.b2.not_row (by decide) h.r1 e.symm
  refine ⟨a1, (h.b2.alloc tmp).kept hgrow (fun e => nb2 e.symm), ⟨a2, (a6 B2 lt2 h.ne.symm nb2).trans h.b2, ?_, row_keep (e := 0) h.r2 (fun k hk => a6 k (row_cells h.r2 hk).2.1 (fun e => ?_) (fun e => h.ap k e hk)), fun k e1 e2 => ?_, h.ne, h.n1, h.n2⟩, a4, a5, a6⟩
  · rw [List.length_append]
    exact a3
  · exact h.b1.not_row (by decide) h.r2 (by rw [hk, e])
  · rcases hat with q | q
    · exact h.ap k (by rw [← q]; exact e1) e2
    · have := (row_cells h.r2 e2).2.1
      rw [e1] at q
      injection q with q
      simp at q
      omega
end
theorem box_others {W W' : World} {B : Nat} {t : TypeId} {v : Value} (h : Boxed W B t v) {row : Option Nat} (hg : W.grownBy W' row) (hr : ∀ r, row = some r → ∃ o : Obj, W.heap[r]? = some o ∧ o.isCells = false) : Boxed W' B t v := by
  refine h.kept hg (fun e => ?_)
  obtain ⟨o, q1, q2⟩ := hr _ e.symm
  unfold Boxed at h
  rw [q1] at h
  cases h
  cases q2
theorem one_new (w : World) (x : Value) (t : TypeId) (b : Nat) (hb : b = w.heap.size) : ∀ j u, [x][j]? = some u → (w.alloc (.cells #[x] t)).cell? ((⟨b, 0, none⟩ : Addr).add j) = some u := by
  subst hb
  exact cell_one_new w x t
theorem info3r : (Try.prog.info? 3).map (fun i => (i.zero, i.size, i.bytes)) = some (some (.int .i64 0), 1, 8) := by kernel_rfl
def ats (l : List (Int × Int)) : List Value := l.map (fun e => .int .i64 e.1)
def things (l : List (Int × Int)) : List Value := l.map (fun e => .int .i64 e.2)

set_option maxRecDepth 100000 in
set_option maxHeartbeats 2000000 in
theorem all_in (n : Nat) (hn : 3 ≤ n) (p : Option Addr) (l : List (Int × Int)) (S : Nat → Prop) (w : World) (hS : ∀ k, S k → k < w.heap.size) (hR : RingOf S w p l) :
    CallsIn Fence.wide n Try.prog 66 #[.pointer p] w fun e W' => e = .returned (.func (.func 89) #[] #[.pointer (some ⟨w.heap.size, 0, none⟩), .pointer (some ⟨w.heap.size + 1, 0, none⟩)]) ∧
      (∃ v1 v2, Col W' w.heap.size (w.heap.size + 1) w.heap.size v1 v2 (ats l) (things l)) ∧ Below w.heap.size w W' := by
  have h1 : 1 ≤ n := by omega
  obtain ⟨i0, hi, hz0, hz1, hz2⟩ := info_parts info3r
  refine callsIn_of_wp_marks Try.func66 rfl trivial ?_ rfl
  simp only [Try.ntmps66, List.size_toArray, List.length_cons, List.length_nil, Nat.reduceAdd, Nat.reduceSub, Array.replicate_succ, Array.replicate_zero, List.push_toArray, List.append_toArray, List.nil_append, List.cons_append]
  gi_wp2_with (refine ⟨trivial, ?_⟩; gi_at_call 88; refine (each_in (n - 1) _ _).mono ?_; rintro e w' ⟨rfl, rfl⟩)
  have bO := Boxed.new w 22 (.slice none 0 0)
  have bT := Boxed.new (w.alloc (.cells #[.slice none 0 0] 22)) 22 (.slice none 0 0)
  have bX := Boxed.new ((w.alloc (.cells #[.slice none 0 0] 22)).alloc (.cells #[.slice none 0 0] 22)) 59 (.pointer p)
  simp only [World.size_alloc] at bT bX
  have hB0 : Below w.heap.size w (((w.alloc (.cells #[.slice none 0 0] 22)).alloc (.cells #[.slice none 0 0] 22)).alloc (.cells #[.pointer p] 59)) := (((Below.refl _ w).alloc (Nat.le_refl _) _).alloc (by simp) _).alloc (by simp; omega) _
  have hC0 : Col (((w.alloc (.cells #[.slice none 0 0] 22)).alloc (.cells #[.slice none 0 0] 22)).alloc (.cells #[.pointer p] 59)) w.heap.size (w.heap.size + 1) w.heap.size (.slice none 0 0) (.slice none 0 0) (ats []) (things []) :=
    ⟨(bO.alloc _).alloc _, bT.alloc _, World.ownsRow_nil _ _ _ _, World.ownsRow_nil _ _ _ _, (fun k e => by cases e), by omega, Nat.le_refl _, by omega⟩
  have hz : (((w.alloc (.cells #[.slice none 0 0] 22)).alloc (.cells #[.slice none 0 0] 22)).alloc (.cells #[.pointer p] 59)).heap.size = w.heap.size + 3 := by simp
  have hS' : ∀ k, (S k ∨ k = w.heap.size + 2) → k < w.heap.size + 3 := fun k hk => by
    rcases hk with hk | hk
    · have := hS k hk
      omega
    · omega
  have hR1 : RingOf (fun k => S k ∨ k = w.heap.size + 2) (((w.alloc (.cells #[.slice none 0 0] 22)).alloc (.cells #[.slice none 0 0] 22)).alloc (.cells #[.pointer p] 59)) p l := by
    rcases hR.keep (w' := ((w.alloc (.cells #[.slice none 0 0] 22)).alloc (.cells #[.slice none 0 0] 22)).alloc (.cells #[.pointer p] 59)) (fun k hk => hB0.block k (hS k hk)) with h | ⟨r, pb, N, L, there, x, t, h1, h2, h3, h4⟩
    · exact .inl h
    · exact .inr ⟨r, pb, N, L, there, x, t, h1, .inl h2, .inl h3, h4⟩
  generalize ((w.alloc (.cells #[.slice none 0 0] 22)).alloc (.cells #[.slice none 0 0] 22)).alloc (.cells #[.pointer p] 59) = W0 at *
  refine wpIn_rangeFunc_ownG rfl h1 (gf := 93) (lb := #[.pointer (some ⟨w.heap.size + 2, 0, none⟩)]) rfl trivial (enters_of Try.func93 (by kernel_rfl) rfl)
    (each_stops (n - 1) (by omega) (w.heap.size + 2) (fun k => S k ∨ k = w.heap.size + 2) (.inr rfl) p l W0 (fun k hk => by rw [hz]; exact hS' k hk) bX.cell hR1) keepS_t (keepS_b (fun k hk => by rw [hz]; exact hS' k hk)) (Below.refl _ _) (fun _ => rfl)
    (fun pre W => (∃ v1 v2, Col W w.heap.size (w.heap.size + 1) w.heap.size v1 v2 (ats pre) (things pre)) ∧ Boxed W (w.heap.size + 2) 59 (.pointer p) ∧ Below w.heap.size w W)
    (fun _ _ _ => False)
    (fun s A B row hs hg hr => ⟨(hs.1.elim fun v1 h => h.elim fun v2 hc => ⟨v1, v2, hc.others hg (fun r e => (hr r e).2)⟩), box_others hs.2.1 hg (fun r e => (hr r e).2), (ownFrom_below (β := List (Int × Int)) (Nat.le_refl _) (by omega)) s A B row hs.2.2 hg hr⟩)
    (fun _ _ _ _ _ hs _ _ => hs)
    ⟨⟨_, _, hC0⟩, bX, hB0⟩
    (fun x => { tmps := #[.pointer p, undef, .nilFunc, .pointer (some ⟨w.heap.size, 0, none⟩), .pointer (some ⟨w.heap.size + 1, 0, none⟩), .int .i64 x.1, .int .i64 x.2, .pointer p, .func (.func 93) #[] #[.pointer (some ⟨w.heap.size + 2, 0, none⟩)], .int .i64 x.1, .int .i64 x.2, undef, undef, undef, undef, undef, undef, undef, undef, undef], defers := [] }) ?assign ?body ?done ?stop
  case assign =>
    intro lo x W K hK
    dsimp only [encs]
    gi_wp2
    exact hK
  case body =>
    rintro lo pre x W ⟨⟨v1, v2, hC⟩, hX, hB⟩ hlt
    have hn0 := hB.size
    have c1 := hC.b1.cell
    have r1 := hC.r1
    have la : (ats pre).length < 9 := by simpa [ats] using hlt
    have lt' : (things pre).length < 9 := by simpa [things] using hlt
    gi_wp2_with (first | (gi_at_builtin; refine wpListIn_append_own_at _ rfl (.tmp 11) (.tmp 13) 22 rfl w.heap.size 3 i0 (.int .i64 0) 1 8 Try.underlying22 hi hz0 hz1 hz2 rfl (by decide) _ _ _ rfl (r1.alloc _) ⟨W.heap.size, 0, none⟩ 1 1 [.int .i64 x.1] rfl rfl (cell_one_new _ _ _) (by simp [Value.oneCell']) (by unfold maxLen; omega) (by omega) (by simp; omega) ?_; intro v' w1 hown' hgrow _ hat; obtain ⟨g', cap', rfl⟩ := ownsRow_succ hown'; obtain ⟨q1, q2, q3, q4, q5, q6⟩ := hC.add hn0 hown' hgrow hat; have qc := q1.cell; have qf := q1.frozen; have qd := q2.cell) | (gi_at_builtin; (refine wpListIn_append_own_at _ rfl (.tmp 15) (.tmp 17) 22 rfl w.heap.size 3 i0 (.int .i64 0) 1 8 Try.underlying22 hi hz0 hz1 hz2 rfl (by decide) _ _ _ rfl (q3.r2.alloc _) ⟨w1.heap.size, 0, none⟩ 1 1 [.int .i64 x.2] rfl rfl (one_new _ _ _ _ (by simp)) (by simp [Value.oneCell']) (by unfold maxLen; omega) (by omega) (by have := q5.size; simp at this ⊢; omega) ?_; intro v' w2 hown2 hgrow2 _ hat2; obtain ⟨g2, cap2, rfl⟩ := ownsRow_succ hown2; obtain ⟨s1, s2, s3, s4, s5, s6⟩ := q3.swap.add (Nat.le_trans hn0 q5.size) hown2 hgrow2 hat2; have sc := s1.cell; have sf := s1.frozen)))
    have e1 : ats (pre ++ [x]) = ats pre ++ [.int .i64 x.1] := by simp [ats]
    have e2 : things (pre ++ [x]) = things pre ++ [.int .i64 x.2] := by simp [things]
    have key : ∀ k, k < W.heap.size → k ≠ w.heap.size → k ≠ w.heap.size + 1 → v1.ownBlock ≠ some k → v2.ownBlock ≠ some k → (w2.setCell ⟨w.heap.size + 1, 0, none⟩ (.slice (some ⟨g2, 0, none⟩) ((things pre).length + 1) cap2)).heap[k]? = W.heap[k]? := fun k hk h1 h2 h3 h4 =>
      (s6 k (Nat.lt_of_lt_of_le hk q5.size) h2 h4).trans (q6 k hk h1 h3)
    have hx1 : v1.ownBlock ≠ some (w.heap.size + 2) := fun e => hX.not_row (by decide) hC.r1 e.symm
    have hx2 : v2.ownBlock ≠ some (w.heap.size + 2) := fun e => hX.not_row (by decide) hC.r2 e.symm
    have kx := key _ hX.lt (by omega) (by omega) hx1 hx2
    refine ⟨(q4.trans s4).from _, fun k hk => ?_, ⟨_, _, by rw [e1, e2]; exact s3.swap⟩, kx.trans hX, (hB.trans q5).trans s5⟩
    rcases hk with hk | hk
    · have h0 := hS k hk
      exact key k (by omega) (by omega) (by omega) (fun e => by have := (row_cells hC.r1 e).1; omega) (fun e => by have := (row_cells hC.r2 e).1; omega)
    · rw [hk]
      exact kx
  case done =>
    rintro D ys W hD rfl ⟨⟨v1, v2, hC⟩, hX, hB⟩ hK
    gi_wp2
    refine ⟨by simp, .inl ⟨_, _, rfl, run_takeDeferred hK, ?_⟩⟩
    exact ⟨_, results_tmp rfl _ _ _, rfl, ⟨v1, v2, hC.others (grownBy_putObj' _ D (.deferred none)) (fun r e => by cases e; exact ⟨_, hK, rfl⟩)⟩, hB.trans (belowK_b (w := w) (Nat.le_refl _) W D _ _ (by omega) hK rfl rfl)⟩
  case stop =>
    rintro D c pre W _ _ h _
    exact h.elim
end Go.Proofs.Ytjfbjkgppnhaoaa
