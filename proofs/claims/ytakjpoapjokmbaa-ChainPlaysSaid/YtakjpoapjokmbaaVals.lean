/-
  The refs of a row, one by one; what the statements make of Back.
-/
import Derived.Test.YtakjpoapjokmbaaBack
namespace Go.Proofs.Ytakjpoapjokmbaa
open Go.ChangeShapes Go.WideShapes Go.ChangeAt Go.RowKit Go.Shelf
set_option linter.unusedVariables false
attribute [local go_sem] Oper.semAt_some

theorem rcells_at : ∀ (l : List (Int × Int)) (k : Nat) (e : Int × Int), l[k]? = some e → (rcells l)[k * 2]? = some (.int .i64 e.1) ∧ (rcells l)[k * 2 + 1]? = some (.int .i64 e.2)
  | [], k, e, h => by simp at h
  | q :: l, 0, e, h => by
    simp at h
    subst h
    exact ⟨rfl, rfl⟩
  | q :: l, k + 1, e, h => by
    obtain ⟨h1, h2⟩ := rcells_at l k e (by simpa using h)
    rw [show (k + 1) * 2 = k * 2 + 1 + 1 from by omega]
    exact ⟨by simpa [rcells] using h1, by simpa [rcells] using h2⟩
def encR (e : Int × Int) : Array Value := #[.agg #[.int .i64 e.1, .int .i64 e.2]]
def VRel (W : World) (S : Nat → Prop) (l : List (Int × Int)) (J : List (Int × Int) → World → Prop) (v : Value) (wr : World) : Prop :=
  ∃ k : Nat, v = .int .i64 (k : Int) ∧ k ≤ l.length ∧ J (l.take k) wr ∧ (∀ k, S k → wr.heap[k]? = W.heap[k]?)

set_option maxRecDepth 100000 in
set_option maxHeartbeats 2000000 in
theorem vals_in (n : Nat) (hn : 1 ≤ n) (lo bx n₀ : Nat) (S : Nat → Prop) (l : List (Int × Int)) (hl : l.length ≤ 1000) (v : Value) (J : List (Int × Int) → World → Prop) (W : World) (hS : ∀ k, S k → k < W.heap.size) (hvS : ∀ k, v.ownBlock = some k → S k)
    (hJ : Stays NodeVar W.heap.size J) (hb : Boxed W bx 43 v) (hr : W.ownsRow n₀ 39 2 v l.length (rcells l))
    (hY : ∀ pre x W1, J pre W1 → (∃ post, l = pre ++ x :: post) → YieldAt Fence.wide (n - 1) Try.prog lo (encR x) W1 fun e W' => e = .returned (.bool true) ∧ J (pre ++ [x]) W' ∧ KpS S W1 W') (h0 : J [] W) :
    CallsIn Fence.wide n Try.prog 37 #[.func (.yield lo) #[] #[], .pointer (some ⟨bx, 0, none⟩)] W fun e W' => (∃ v, e = .returned v) ∧ J l W' := by
  refine callsIn_of_wp Try.func37 rfl trivial ?_ rfl
  simp only [Try.ntmps37, List.size_toArray, List.length_cons, List.length_nil, Nat.reduceAdd, Nat.reduceSub, Array.replicate_succ, Array.replicate_zero, List.push_toArray, List.append_toArray, List.nil_append, List.cons_append]
  obtain ⟨a1, c1, e1, s1⟩ := rrow_slice hr
  have b1 := hb.cell
  rw [e1] at b1
  have I0 : VRel W S l J (.int .i64 0) W := ⟨0, rfl, Nat.zero_le _, h0, fun _ _ => rfl⟩
  have E := Lib.hid e1
  clear e1
  gi_wp2
  gi_loopw [7] (fun v wr => VRel W S l J v wr) (fun v _ => l.length - (intOf v).toNat)
  case atStart => exact I0
  case round =>
    clear I0
    obtain ⟨k, rfl, hk, hJs, hnx⟩ := hrel
    by_cases hkl : k < l.length
    · obtain ⟨⟨x, y⟩, hx⟩ : ∃ q, l[k]? = some q := ⟨_, List.getElem?_eq_getElem hkl⟩
      obtain ⟨g1, h1⟩ := s1 (by omega)
      subst h1
      have hcell : ∀ j, j < l.length * 2 → wr.cell? ⟨g1, j, none⟩ = (rcells l)[j]? := fun j hj => by
        have := hr
        rw [E.out] at this
        rw [← this.cellAt j (by omega)]
        exact World.cell?_of_block (a := ⟨g1, j, none⟩) (hnx g1 (hvS _ (by rw [E.out]; rfl)))
      have z1 := (hcell (k * 2) (by omega)).trans (rcells_at l k _ hx).1
      have z2 := (hcell (k * 2 + 1) (by omega)).trans (rcells_at l k _ hx).2
      have ht : l.take (k + 1) = l.take k ++ [(x, y)] := by
        rw [List.take_add_one, hx]
        rfl
      have hsp : l = l.take k ++ (x, y) :: l.drop (k + 1) := by
        obtain ⟨h1, e2⟩ := List.getElem?_eq_some_iff.1 hx
        have h2 := List.drop_eq_getElem_cons h1
        rw [e2] at h2
        exact (List.take_append_drop k l).symm.trans (by rw [h2])
      have bb := (Below.refl wr.heap.size wr).alloc (Nat.le_refl _) (.cells #[.int .i64 x, .int .i64 y] 39)
      obtain ⟨fn, tmps, assign, body, hy, hRd⟩ := hY _ (x, y) _ (hJ.below hJs bb) ⟨_, hsp⟩
      dsimp only [encR] at hy
      have X := Lib.hid (And.intro hnx (And.intro ht bb))
      clear hx ht hnx hJs hcell hsp bb
      gi_wp2_with fail
      refine hRd.mono ?_
      rintro e W3 ⟨rfl, hJ3, hk3⟩
      gi_wp2
      go_roundw
      case rel => exact ⟨k + 1, by go_num, by omega, by rw [X.out.2.1]; exact hJ3, fun j hj => by
        have e := X.out.1 j hj
        rw [Array.getElem?_eq_getElem (hS j hj)] at e
        exact (hk3.s j hj).trans ((X.out.2.2.block j (Array.getElem?_eq_some_iff.1 e).1).trans (X.out.1 j hj))⟩
      case measure => simp [intOf]; omega
    · have e : l.take k = l := List.take_of_length_le (by omega)
      have X := Lib.hid (And.intro hJs e)
      clear hJs e
      gi_wp2
      go_end0
      exact ⟨⟨_, rfl⟩, by rw [← X.out.2]; exact X.out.1⟩
theorem vals_gives (n : Nat) (hn : 1 ≤ n) (bx n₀ : Nat) (l : List (Int × Int)) (hl : l.length ≤ 1000) (v : Value) (w : World) (hb : Boxed w bx 43 v) (hr : w.ownsRow n₀ 39 2 v l.length (rcells l)) :
    Gives NodeVar Fence.wide n Try.prog 37 #[.pointer (some ⟨bx, 0, none⟩)] encR (KpS (fun k => v.ownBlock = some k)) l w := fun lo J W hW hJ hY h0 =>
  vals_in n hn lo bx n₀ _ l hl v J W (fun k hk => Nat.lt_of_lt_of_le (rrow_cells hr hk).2.1 hW.size) (fun k hk => hk) hJ ((hW.block bx hb.lt).trans hb) (rrow_keep (e := 39) hr (fun k hk => hW.block k (rrow_cells hr hk).2.1)) hY h0
theorem row_weaken {w : World} {base base' e size n : Nat} {v : Value} {xs : List Value} (h : w.ownsRow base e size v n xs) (hb : base' ≤ base) : w.ownsRow base' e size v n xs := by
  refine ⟨h.1, ?_⟩
  rcases h.2 with h0 | ⟨g, cap, cur, rfl, hg, rest⟩
  · exact .inl h0
  · exact .inr ⟨g, cap, cur, rfl, Nat.le_trans hb hg, rest⟩
def RI (w : World) (B : Nat) (S : Nat → Prop) (pre : List (Int × Int)) (W : World) : Prop := RBox W w.heap.size B pre ∧ Below B w W ∧ (∀ k, S k → W.heap[k]? = w.heap[k]?)
theorem RI.stays {w : World} {B : Nat} {S : Nat → Prop} {pre : List (Int × Int)} {W W' : World} {row : Option Nat} (hS : ∀ k, S k → k < w.heap.size) (h : RI w B S pre W) (hg : W.grownBy W' row) (hr : ∀ r, row = some r → w.heap.size ≤ r ∧ ∃ o : Obj, W.heap[r]? = some o ∧ (o.isCells = false ∨ NodeVar o)) (hB : B ≤ w.heap.size) : RI w B S pre W' := by
  have hz := h.2.1.size
  refine ⟨h.1.stays hg (fun r e => (hr r e).2), h.2.1.trans ((Below.refl B W).grown hg (by omega) (fun k e => by have := (hr k e).1; omega)), fun k hk => ?_⟩
  have hlt := hS k hk
  exact (hg.block k (by omega) (fun e => by have := (hr k e.symm).1; omega)).trans (h.2.2 k hk)
def RMid (w : World) (B : Nat) (S : Nat → Prop) (a : Nat → Int × Int → Act) (pre : List (Int × Int)) (x : Int × Int) (a' : Act) (W : World) : Prop :=
  ∃ k, a' = a k x ∧ W.heap[k]? = some (.cells #[.int .i64 x.1, .int .i64 x.2] 39 (0, 0)) ∧ k < W.heap.size ∧ RI w B S pre W
theorem func_nil (a : Value) (W : World) : (binOp BinOp.eql 71 (.func (.func 37) #[] #[a]) .nilFunc).run Try.prog W = .ok (.bool false) W := by kernel_rfl
set_option maxRecDepth 100000 in
set_option maxHeartbeats 2000000 in
theorem backs_in (n : Nat) (hn : 9 ≤ n) (p : Option Addr) (S : Nat → Prop) (f : Nat) (G : Int → Option Nd) (i : Int) (hi : (Lit.int .i64 i).wf = true) (hok : PathOk f G i) (hf : f ≤ 1000) (w : World) (hS : ∀ k, S k → k < w.heap.size) (hT : Told S w p G) :
    CallsIn Fence.wide n Try.prog 21 #[.pointer p, .int .i64 i] w fun e W' => ∃ v, e = .returned v ∧ W'.ownsRow w.heap.size 39 2 v ((pathG f G i).map refOf).length (rcells ((pathG f G i).map refOf)) ∧ Below w.heap.size w W' := by
  have h1 : 1 ≤ n := by omega
  have hl : ((pathG f G i).map refOf).length ≤ 1000 := by have := pathG_len f G i; rw [List.length_map]; omega
  obtain ⟨i0, hj, hz0, hz1, hz2⟩ := info_parts info39
  refine callsIn_of_wp_marks Try.func21 rfl trivial ?_ rfl
  simp only [Try.ntmps21, List.size_toArray, List.length_cons, List.length_nil, Nat.reduceAdd, Nat.reduceSub, Array.replicate_succ, Array.replicate_zero, List.push_toArray, List.append_toArray, List.nil_append, List.cons_append]
  have bO := Boxed.new w 43 (.slice none 0 0)
  have hB0 : Below w.heap.size w (w.alloc (.cells #[.slice none 0 0] 43)) := (Below.refl _ w).alloc (Nat.le_refl _) _
  have hz : (w.alloc (.cells #[.slice none 0 0] 43)).heap.size = w.heap.size + 1 := by simp
  have A := Back_in (n - 1) (by omega) p S f G i hi hok hf (w.alloc (.cells #[.slice none 0 0] 43)) (fun k hk => by have := hS k hk; omega) (hT.keep (fun k hk => hB0.block k (hS k hk)))
  rw [hz] at A
  generalize (pathG f G i).map refOf = l at *
  have A := Lib.hid A
  gi_wp2_with fail
  refine ⟨trivial, ?_⟩
  refine A.out.mono ?_
  rintro e W0 ⟨bx, rfl, hbx, ⟨v, hv, hrow⟩, hb⟩
  clear A
  have q0 := (hb.block _ (by omega)).trans bO
  have hB1 := hB0.trans (hb.mono (by omega))
  have hsz := hb.size
  rw [hz] at hsz
  have hfn := func_nil (.pointer (some ⟨bx, 0, none⟩))
  have hseq := vals_gives (n - 1) (by omega) bx _ l hl v W0 hv hrow
  have hS' : ∀ k, v.ownBlock = some k → k < W0.heap.size := fun k hk => (rrow_cells hrow hk).2.1
  have hB : w.heap.size ≤ W0.heap.size := by omega
  clear bO hB0 hb
  gi_wp2_with fail
  refine wp_gives (T := NodeVar) (fun o ⟨vs, fr, h⟩ => by rw [h]; rfl) rfl h1 (gf := 37) (lb := #[.pointer (some ⟨bx, 0, none⟩)]) rfl trivial (enters_of Try.func37 (by kernel_rfl) rfl)
    hseq KpS.trans (KpS.put hS') (Below.refl _ _) (fun _ => rfl)
    (RI W0 w.heap.size (fun k => v.ownBlock = some k)) ?hI ⟨⟨_, q0, World.ownsRow_nil _ _ _ _⟩, Below.refl _ _, fun _ _ => rfl⟩
    (RMid W0 w.heap.size (fun k => v.ownBlock = some k) (fun k x => { tmps := #[.pointer p, .int .i64 i, undef, undef, .slice none 0 0, .pointer (some ⟨w.heap.size, 0, none⟩), .func (.func 37) #[] #[.pointer (some ⟨bx, 0, none⟩)], .pointer (some ⟨k, 0, none⟩), .pointer p, .int .i64 i, .func (.func 37) #[] #[.pointer (some ⟨bx, 0, none⟩)], .func (.func 37) #[] #[.pointer (some ⟨bx, 0, none⟩)], .bool false, .func (.func 37) #[] #[.pointer (some ⟨bx, 0, none⟩)], .agg #[.int .i64 x.1, .int .i64 x.2], undef, undef, undef, undef, undef], defers := [] })) ?hMid ?assign ?body ?done
  case hI => exact fun s A B row hs hg hr => hs.stays hS' hg (fun r e => hr r e) hB
  case hMid =>
    rintro pre x a' s A B row ⟨k, e, hk, hlt, hI⟩ hg hr
    exact ⟨k, e, (grownBy_keeps_cells hg (fun r e => (hr r e).2) hk rfl).trans hk, Nat.lt_of_lt_of_le hlt hg.size, hI.stays hS' hg (fun r e => ⟨(hr r e).1, by obtain ⟨_, o, h1, h2⟩ := hr r e; exact ⟨o, h1, .inl h2⟩⟩) hB⟩
  case assign =>
    rintro lo pre ⟨x, y⟩ W hI
    have hz := hI.2.1.size
    dsimp only [encR]
    gi_wp2
    exact ⟨(KeepsOthers.alloc W _).from _, KpS.below (fun k hk => by have := hS' k hk; omega) ((Below.refl _ W).alloc (Nat.le_refl _) _), W.heap.size, rfl, World.alloc_heap_new _ _, by simp, hI.stays hS' (World.grownBy_alloc W _ none) (fun r e => by cases e) hB⟩
  case body =>
    rintro lo pre ⟨x, y⟩ a' W ⟨k, rfl, hk, hlt, hI⟩ ⟨post, hpost⟩
    obtain ⟨⟨u, hu, hrowu⟩, hBl, hSS⟩ := hI
    have hn0 := hBl.size
    have c1 := hu.cell
    have z0 := cells_of (vs := [_, _]) hk 0 _ rfl
    have z1 := cells_of (vs := [_, _]) hk 1 _ rfl
    have hlen : pre.length ≤ 1000 := by
      rw [hpost] at hl
      simp at hl
      omega
    gi_wp2_with (gi_at_builtin; refine wpListIn_append_own_at _ rfl (.tmp 15) (.tmp 17) 43 rfl W0.heap.size 39 i0 (.agg #[.int .i64 0, .int .i64 0]) 2 16 Try.underlying43 hj hz0 hz1 hz2 rfl (by decide) _ _ _ rfl (hrowu.alloc _) ⟨W.heap.size, 0, none⟩ 1 1 [.int .i64 x, .int .i64 y] rfl rfl (two_new _ _ _ _ _ rfl) (by simp [Value.oneCell']) (by unfold maxLen; omega) (by omega) (by simp; omega) ?_; intro v' w1 hown' hgrow _ hat; obtain ⟨g', cap', rfl⟩ := ownsRow_succ hown'; obtain ⟨q1, q2, q3, q4, q5⟩ := hu.appended (by decide) (row_weaken hrowu hB) (by omega) (Nat.le_refl _) (row_weaken hown' hB) hgrow; have qc := q1.cell; have qf := q1.frozen)
    have q6 := hown'.kept (grownBy_setCell' w1 w.heap.size (.slice (some ⟨g', 0, none⟩) (pre.length + 1) cap')) (.inr (q1.not_row (by decide) hown').symm)
    have key : ∀ k, k < W.heap.size → k ≠ w.heap.size → u.ownBlock ≠ some k → (w1.setCell ⟨w.heap.size, 0, none⟩ (.slice (some ⟨g', 0, none⟩) (pre.length + 1) cap')).heap[k]? = W.heap[k]? := fun k hk h1 h2 => by
      rw [Below.heap_setCell _ _ _ _ (by exact h1), hgrow.block k (by simp; omega) (fun e => h2 e.symm)]
      exact Below.heap_alloc W _ k hk
    have keyS : ∀ k, v.ownBlock = some k → (w1.setCell ⟨w.heap.size, 0, none⟩ (.slice (some ⟨g', 0, none⟩) (pre.length + 1) cap')).heap[k]? = W.heap[k]? := fun k hk => by
      have h1 := rrow_cells hrow hk
      refine key k (by omega) (by omega) (fun e => ?_)
      have := (rrow_cells hrowu e).1
      omega
    refine ⟨q4.from _, ⟨keyS, fun k o ho hko => ?_⟩, ⟨_, q2, by rw [rcells_app, List.length_append]; exact q6⟩, hBl.trans q5, fun k hk => (keyS k hk).trans (hSS k hk)⟩
    obtain ⟨vs, fr, rfl⟩ := ho
    refine (key k (Array.getElem?_eq_some_iff.1 hko).1 ?_ ?_).trans hko
    · rintro rfl
      rw [show W.heap[w.heap.size]? = _ from hu] at hko
      injection hko with hko
      injection hko with _ h4 _
      exact absurd h4 (by decide)
    · intro e
      obtain ⟨_, _, vs2, fr2, h3⟩ := rrow_cells hrowu e
      rw [hko] at h3
      injection h3 with h3
      injection h3 with _ h4 _
      exact absurd h4 (by decide)
  case done =>
    rintro D W hD ⟨⟨u, hu, hrowu⟩, hBl, hSS⟩ hK
    have hc := hu.cell
    gi_wp2
    refine ⟨by simp, .inl ⟨_, _, rfl, run_takeDeferred hK, ?_⟩⟩
    exact ⟨_, results_tmp rfl _ _ _, u, rfl, ownsRow_putObj (row_weaken hrowu hB) _ hK rfl, (hB1.trans hBl).trans ((Below.refl _ _).grown (grownBy_putObj' _ D _) (by have := hBl.size; omega) (fun k e => by cases e; omega))⟩
end Go.Proofs.Ytakjpoapjokmbaa
