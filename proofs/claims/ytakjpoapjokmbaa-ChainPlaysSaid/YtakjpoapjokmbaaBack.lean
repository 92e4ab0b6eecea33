/-
  Back: the refs of the nodes from one on back, and these one by one.
-/
import Derived.Test.YtakjpoapjokmbaaBk
namespace Go.Proofs.Ytakjpoapjokmbaa
open Go.ChangeShapes Go.WideShapes Go.ChangeAt Go.RowKit Go.Shelf
set_option linter.unusedVariables false
attribute [local go_sem] Oper.semAt_some

set_option maxHeartbeats 1000000 in
theorem back_in (n : Nat) (p : Option Addr) (i : Int) (w : World) :
    CallsIn Fence.wide n Try.prog 31 #[.pointer p, .int .i64 i] w fun e w' => e = .returned (.func (.func 35) #[] #[.pointer (some ⟨w.heap.size, 0, none⟩), .pointer (some ⟨w.heap.size + 1, 0, none⟩)]) ∧ w' = (w.alloc (.cells #[.pointer p] 24)).alloc (.cells #[.int .i64 i] 3) := by
  refine callsIn_of_wp Try.func31 rfl trivial ?_ rfl
  simp only [Try.ntmps31, List.size_toArray, List.length_cons, List.length_nil, Nat.reduceAdd, Nat.reduceSub, Array.replicate_succ, Array.replicate_zero, List.push_toArray, List.append_toArray, List.nil_append, List.cons_append]
  gi_wp2
  go_ret
  simp only []
  exact ⟨rfl, trivial⟩
set_option maxHeartbeats 1000000 in
theorem values_in (n : Nat) (ad : Option Addr) (m cap : Nat) (w : World) :
    CallsIn Fence.wide n Try.prog 36 #[.slice ad m cap] w fun e w' => e = .returned (.func (.func 37) #[] #[.pointer (some ⟨w.heap.size, 0, none⟩)]) ∧ w' = w.alloc (.cells #[.slice ad m cap] 43) := by
  refine callsIn_of_wp Try.func36 rfl trivial ?_ rfl
  simp only [Try.ntmps36, List.size_toArray, List.length_cons, List.length_nil, Nat.reduceAdd, Nat.reduceSub, Array.replicate_succ, Array.replicate_zero, List.push_toArray, List.append_toArray, List.nil_append, List.cons_append]
  gi_wp2
  go_ret
  exact ⟨rfl, rfl⟩
theorem two_new (w : World) (x y : Value) (t : TypeId) (b : Nat) (hb : b = w.heap.size) : ∀ j u, [x, y][j]? = some u → (w.alloc (.cells #[x, y] t)).cell? ((⟨b, 0, none⟩ : Addr).add j) = some u := by
  subst hb
  intro j u h
  have : ((⟨w.heap.size, 0, none⟩ : Addr).add j) = ⟨w.heap.size, j, none⟩ := by unfold Addr.add; split <;> simp_all
  rw [this, World.cell?_alloc_new]
  simpa using h
def refOf (q : Nd) : Int × Int := (q.slot, q.gen)
/-- A row of refs, in a box. -/
def RBox (W : World) (n₀ B : Nat) (l : List (Int × Int)) : Prop := ∃ v, Boxed W B 43 v ∧ W.ownsRow n₀ 39 2 v l.length (rcells l)
theorem rrow_cells {w : World} {base e size n : Nat} {v : Value} {xs : List Value} (h : w.ownsRow base e size v n xs) {k : Nat} (hk : v.ownBlock = some k) : base ≤ k ∧ k < w.heap.size ∧ ∃ vs fr, w.heap[k]? = some (.cells vs e fr) := by
  rcases h.2 with ⟨rfl, _⟩ | ⟨g, cap, cur, rfl, hg, hgg, rest⟩
  · cases hk
  · obtain rfl : g = k := by simpa [Value.ownBlock] using hk
    exact ⟨hg, (Array.getElem?_eq_some_iff.1 hgg).1, _, _, hgg⟩
theorem not_var {W W' : World} {row : Option Nat} (hg : W.grownBy W' row) (hr : ∀ r, row = some r → ∃ o : Obj, W.heap[r]? = some o ∧ (o.isCells = false ∨ NodeVar o)) {k : Nat} {vs : Array Value} {t : TypeId} {fr : Nat × Nat} (h : W.heap[k]? = some (.cells vs t fr)) (ht : t ≠ 61) : W'.heap[k]? = W.heap[k]? :=
  hg.block k (Array.getElem?_eq_some_iff.1 h).1 (fun e => by
    obtain ⟨o, h1, h2⟩ := hr k e.symm
    rw [h] at h1
    injection h1 with h1
    subst h1
    rcases h2 with h2 | ⟨vs', fr', h2⟩
    · cases h2
    · injection h2 with _ h3 _
      exact ht h3)
theorem RBox.stays {W W' : World} {n₀ B : Nat} {l : List (Int × Int)} {row : Option Nat} (h : RBox W n₀ B l) (hg : W.grownBy W' row) (hr : ∀ r, row = some r → ∃ o : Obj, W.heap[r]? = some o ∧ (o.isCells = false ∨ NodeVar o)) : RBox W' n₀ B l := by
  obtain ⟨v, h1, h2⟩ := h
  refine ⟨v, (not_var hg hr h1 (by decide)).trans h1, rrow_keep (e := 39) h2 (fun k hk => ?_)⟩
  obtain ⟨_, _, vs, fr, h3⟩ := rrow_cells h2 hk
  exact not_var hg hr h3 (by decide)
def BkI (w : World) (B : Nat) (S : Nat → Prop) (pre : List Nd) (W : World) : Prop := RBox W B B (pre.map refOf) ∧ Below B w W ∧ (∀ k, S k → W.heap[k]? = w.heap[k]?)
theorem BkI.stays {w : World} {B : Nat} {S : Nat → Prop} {pre : List Nd} {W W' : World} {row : Option Nat} (hS : ∀ k, S k → k < w.heap.size) (h : BkI w B S pre W) (hg : W.grownBy W' row) (hr : ∀ r, row = some r → w.heap.size ≤ r ∧ ∃ o : Obj, W.heap[r]? = some o ∧ (o.isCells = false ∨ NodeVar o)) (hB : B ≤ w.heap.size) : BkI w B S pre W' := by
  have hz := h.2.1.size
  refine ⟨h.1.stays hg (fun r e => (hr r e).2), h.2.1.trans ((Below.refl B W).grown hg (by omega) (fun k e => by have := (hr k e).1; omega)), fun k hk => ?_⟩
  have hlt := hS k hk
  exact (hg.block k (by omega) (fun e => by have := (hr k e.symm).1; omega)).trans (h.2.2 k hk)
def BkMid (w : World) (B : Nat) (S : Nat → Prop) (a : Nat → Nd → Act) (pre : List Nd) (x : Nd) (a' : Act) (W : World) : Prop :=
  ∃ k, a' = a k x ∧ W.heap[k]? = some (.cells #[.int .i64 x.prev, .int .i64 x.cell, .int .i64 x.num, .int .i64 x.slot, .int .i64 x.gen, .int .i64 x.count] 61 (0, 0)) ∧ k < W.heap.size ∧ BkI w B S pre W
theorem pathG_len : ∀ (f : Nat) (G : Int → Option Nd) (i : Int), (pathG f G i).length ≤ f
  | 0, G, i => Nat.le_refl _
  | f + 1, G, i => by
    cases h : G i with
    | none => rw [pathG_none h]; exact Nat.zero_le _
    | some q => rw [pathG_some h]; have := pathG_len f G q.prev; simp; omega
set_option maxRecDepth 100000 in
set_option maxHeartbeats 2000000 in
theorem Back_in (n : Nat) (hn : 6 ≤ n) (p : Option Addr) (S : Nat → Prop) (f : Nat) (G : Int → Option Nd) (i : Int) (hi : (Lit.int .i64 i).wf = true) (hok : PathOk f G i) (hf : f ≤ 1000) (w : World) (hS : ∀ k, S k → k < w.heap.size) (hT : Told S w p G) :
    CallsIn Fence.wide n Try.prog 34 #[.pointer p, .int .i64 i] w fun e W' => ∃ bx, e = .returned (.func (.func 37) #[] #[.pointer (some ⟨bx, 0, none⟩)]) ∧ w.heap.size ≤ bx ∧ RBox W' w.heap.size bx ((pathG f G i).map refOf) ∧ Below w.heap.size w W' := by
  have h1 : 1 ≤ n := by omega
  have hl := pathG_len f G i
  obtain ⟨i0, hj, hz0, hz1, hz2⟩ := info_parts info39
  refine callsIn_of_wp_marks Try.func34 rfl trivial ?_ rfl
  simp only [Try.ntmps34, List.size_toArray, List.length_cons, List.length_nil, Nat.reduceAdd, Nat.reduceSub, Array.replicate_succ, Array.replicate_zero, List.push_toArray, List.append_toArray, List.nil_append, List.cons_append]
  have bO := Boxed.new w 43 (.slice none 0 0)
  have hB0 : Below w.heap.size w (w.alloc (.cells #[.slice none 0 0] 43)) := (Below.refl _ w).alloc (Nat.le_refl _) _
  have hz : (w.alloc (.cells #[.slice none 0 0] 43)).heap.size = w.heap.size + 1 := by simp
  have A := Lib.hid (back_in (n - 1) p i (w.alloc (.cells #[.slice none 0 0] 43)))
  rw [hz] at A
  gi_wp2_with fail
  refine ⟨trivial, ?_⟩
  refine A.out.mono ?_
  rintro e W0 ⟨rfl, hW0⟩
  clear A
  have q0 : W0.heap[w.heap.size]? = some (.cells #[.slice none 0 0] 43 (0, 0)) := by
    rw [hW0, Below.heap_alloc _ _ _ (by simp; omega), Below.heap_alloc _ _ _ (by simp)]
    exact bO
  have b1 : W0.heap[w.heap.size + 1]? = some (.cells #[.pointer p] 24 (0, 0)) := by
    have e : w.heap.size + 1 = (w.alloc (.cells #[.slice none 0 0] 43)).heap.size := hz.symm
    rw [hW0, Below.heap_alloc _ _ _ (by simp), e]
    exact World.alloc_heap_new _ _
  have b2 : W0.heap[w.heap.size + 1 + 1]? = some (.cells #[.int .i64 i] 3 (0, 0)) := by
    have e : w.heap.size + 1 + 1 = ((w.alloc (.cells #[.slice none 0 0] 43)).alloc (.cells #[.pointer p] 24)).heap.size := by simp
    rw [hW0, e]
    exact World.alloc_heap_new _ _
  have q1 := cells_of (vs := [_]) b1 0 _ rfl
  have q2 := cells_of (vs := [_]) b2 0 _ rfl
  have hB1 : Below w.heap.size w W0 := by
    rw [hW0]
    exact (hB0.alloc (by simp) _).alloc (by simp; omega) _
  have hsz : W0.heap.size = w.heap.size + 3 := by rw [hW0]; simp
  clear hW0
  have hS' : ∀ k, (S k ∨ k = w.heap.size + 1 ∨ k = w.heap.size + 1 + 1) → k < W0.heap.size := fun k hk => by
    rcases hk with hk | hk | hk
    · have := hS k hk
      omega
    · omega
    · omega
  have hT0 : Told (fun k => S k ∨ k = w.heap.size + 1 ∨ k = w.heap.size + 1 + 1) W0 p G := fun W hW j hj => hT W (fun k hk => (hW k (.inl hk)).trans (hB1.block k (hS k hk))) j hj
  have hseq := back1_gives (n - 1) (by omega) (w.heap.size + 1) (w.heap.size + 1 + 1) (fun k => S k ∨ k = w.heap.size + 1 ∨ k = w.heap.size + 1 + 1) (.inr (.inl rfl)) (.inr (.inr rfl)) f G i hi hok p W0 hS' q1 q2 hT0
  gi_wp2_with fail
  refine wp_gives (T := NodeVar) (fun o ⟨vs, fr, h⟩ => by rw [h]; rfl) rfl h1 (gf := 35) (lb := #[.pointer (some ⟨w.heap.size + 1, 0, none⟩), .pointer (some ⟨w.heap.size + 1 + 1, 0, none⟩)]) rfl trivial (enters_of Try.func35 (by kernel_rfl) rfl)
    hseq KpS.trans (KpS.put hS') (Below.refl _ _) (fun _ => rfl)
    (BkI W0 w.heap.size (fun k => S k ∨ k = w.heap.size + 1 ∨ k = w.heap.size + 1 + 1)) ?hI ⟨⟨_, q0, World.ownsRow_nil _ _ _ _⟩, Below.refl _ _, fun _ _ => rfl⟩
    (BkMid W0 w.heap.size (fun k => S k ∨ k = w.heap.size + 1 ∨ k = w.heap.size + 1 + 1) (fun k x => { tmps := #[.pointer p, .int .i64 i, undef, undef, .nilFunc, .pointer (some ⟨w.heap.size, 0, none⟩), .pointer (some ⟨k, 0, none⟩), .pointer p, .int .i64 i, .func (.func 35) #[] #[.pointer (some ⟨w.heap.size + 1, 0, none⟩), .pointer (some ⟨w.heap.size + 1 + 1, 0, none⟩)], x.val, undef, undef, undef, undef, undef, undef, undef], defers := [] })) ?hMid ?assign ?body ?done
  case hI => exact fun s A B row hs hg hr => hs.stays hS' hg (fun r e => hr r e) hB1.size
  case hMid =>
    rintro pre x a' s A B row ⟨k, e, hk, hlt, hI⟩ hg hr
    exact ⟨k, e, (grownBy_keeps_cells hg (fun r e => (hr r e).2) hk rfl).trans hk, Nat.lt_of_lt_of_le hlt hg.size, hI.stays hS' hg (fun r e => ⟨(hr r e).1, by obtain ⟨_, o, h1, h2⟩ := hr r e; exact ⟨o, h1, .inl h2⟩⟩) hB1.size⟩
  case assign =>
    rintro lo pre ⟨p1, p2, p3, p4, p5, p6⟩ W hI
    have hz := hI.2.1.size
    dsimp only [encN, Nd.val]
    gi_wp2
    exact ⟨(KeepsOthers.alloc W _).from _, KpS.below (fun k hk => by have := hS' k hk; omega) ((Below.refl _ W).alloc (Nat.le_refl _) _), W.heap.size, rfl, World.alloc_heap_new _ _, by simp, hI.stays hS' (World.grownBy_alloc W _ none) (fun r e => by cases e) hB1.size⟩
  case body =>
    rintro lo pre ⟨p1, p2, p3, p4, p5, p6⟩ a' W ⟨k, rfl, hk, hlt, hI⟩ ⟨post, hpost⟩
    obtain ⟨⟨v, hv, hrow⟩, hB, hSS⟩ := hI
    have hn0 := hB.size
    have c1 := hv.cell
    have hrow : W.ownsRow w.heap.size 39 2 v pre.length (rcells (pre.map refOf)) := by
      have := hrow
      rwa [List.length_map] at this
    have z3 := cells_of (vs := [_, _, _, _, _, _]) hk 3 _ rfl
    have z4 := cells_of (vs := [_, _, _, _, _, _]) hk 4 _ rfl
    have hlen : pre.length ≤ 1000 := by
      rw [hpost] at hl
      simp at hl
      omega
    dsimp only [Nd.val] at *
    gi_wp2_with (gi_at_builtin; refine wpListIn_append_own_at _ rfl (.tmp 11) (.tmp 14) 43 rfl w.heap.size 39 i0 (.agg #[.int .i64 0, .int .i64 0]) 2 16 Try.underlying43 hj hz0 hz1 hz2 rfl (by decide) _ _ _ rfl (hrow.alloc _) ⟨W.heap.size, 0, none⟩ 1 1 [.int .i64 p4, .int .i64 p5] rfl rfl (two_new _ _ _ _ _ rfl) (by simp [Value.oneCell']) (by unfold maxLen; omega) (by omega) (by simp; omega) ?_; intro v' w1 hown' hgrow _ hat; obtain ⟨g', cap', rfl⟩ := ownsRow_succ hown'; obtain ⟨q1, q2, q3, q4, q5⟩ := hv.appended (by decide) hrow (by omega) (Nat.le_refl _) hown' hgrow; have qc := q1.cell; have qf := q1.frozen)
    have key : ∀ k, k < W.heap.size → k ≠ w.heap.size → v.ownBlock ≠ some k → (w1.setCell ⟨w.heap.size, 0, none⟩ (.slice (some ⟨g', 0, none⟩) (pre.length + 1) cap')).heap[k]? = W.heap[k]? := fun k hk h1 h2 => by
      rw [Below.heap_setCell _ _ _ _ (by exact h1), hgrow.block k (by simp; omega) (fun e => h2 e.symm)]
      exact Below.heap_alloc W _ k hk
    have far : ∀ (k : Nat) (vs : Array Value) (ty : TypeId) (fr : Nat × Nat), W.heap[k]? = some (.cells vs ty fr) → ty ≠ 39 → v.ownBlock ≠ some k := fun k vs ty fr hh hne e => by
      obtain ⟨_, _, vs2, fr2, h3⟩ := rrow_cells hrow e
      rw [hh] at h3
      injection h3 with h3
      injection h3 with _ h4 _
      exact hne h4
    have keyS : ∀ k, (S k ∨ k = w.heap.size + 1 ∨ k = w.heap.size + 1 + 1) → (w1.setCell ⟨w.heap.size, 0, none⟩ (.slice (some ⟨g', 0, none⟩) (pre.length + 1) cap')).heap[k]? = W.heap[k]? := fun k hk => by
      have hlt := hS' k hk
      refine key k (by omega) ?_ ?_
      · rcases hk with hk | hk | hk
        · have := hS k hk
          omega
        · omega
        · omega
      · rcases hk with hk | rfl | rfl
        · intro e
          have := (rrow_cells hrow e).1
          have := hS k hk
          omega
        · exact far _ _ _ _ ((hSS _ (.inr (.inl rfl))).trans b1) (by decide)
        · exact far _ _ _ _ ((hSS _ (.inr (.inr rfl))).trans b2) (by decide)
    refine ⟨q4.from _, ⟨keyS, fun k o ho hko => ?_⟩, ⟨_, q2, by simp only [List.map_append, rcells_app, List.length_append, List.length_map]; exact q3⟩, hB.trans q5, fun k hk => (keyS k hk).trans (hSS k hk)⟩
    obtain ⟨vs, fr, rfl⟩ := ho
    refine (key k (Array.getElem?_eq_some_iff.1 hko).1 ?_ (far _ _ _ _ hko (by decide))).trans hko
    rintro rfl
    rw [show W.heap[w.heap.size]? = _ from hv] at hko
    injection hko with hko
    injection hko with _ h4 _
    exact absurd h4 (by decide)
  case done =>
    rintro D W hD ⟨⟨v, hv, hrow⟩, hB, hSS⟩ hK
    obtain ⟨a, cap, rfl, _⟩ := rrow_slice hrow
    have hc := hv.cell
    have V := Lib.hid (values_in (n - 1) a (pathG f G i).length cap W)
    have hn0 := hB.size
    gi_wp2_with fail
    refine ⟨trivial, ?_⟩
    refine V.out.mono ?_
    rintro e w3 ⟨rfl, rfl⟩
    have hDl := (Array.getElem?_eq_some_iff.1 hK).1
    have hK2 := (Below.heap_alloc W (.cells #[.slice a (pathG f G i).length cap] 43) D hDl).trans hK
    have hn1 := hv.alloc (.cells #[.slice a (pathG f G i).length cap] 43)
    gi_wp2
    refine ⟨by simp, .inl ⟨_, _, rfl, run_takeDeferred hK2, ?_⟩⟩
    rw [List.length_map] at hrow
    refine ⟨_, results_tmp rfl _ _ _, W.heap.size, rfl, by have := hB1.size; omega, ⟨.slice a (pathG f G i).length cap, ?_, by rw [List.length_map]; exact ownsRow_putObj (hrow.alloc _) _ hK2 rfl⟩, ?_⟩
    · exact (World.putObj_heap_other (by omega)).trans (World.alloc_heap_new _ _)
    · exact (hB1.trans (hB.alloc (by omega) _)).trans ((Below.refl _ _).grown (grownBy_putObj' _ D _) (by simp; omega) (fun k e => by cases e; omega))
end Go.Proofs.Ytakjpoapjokmbaa
