/-
  Sets: the numbers of the nodes up to one, cell by cell.
-/
import Derived.Test.YtakjpoapjokmbaaSts
import Derived.Test.YtakjpoapjokmbaaDoc4
namespace Go.Proofs.Ytakjpoapjokmbaa
open Go.ChangeShapes Go.WideShapes Go.ChangeAt Go.RowKit Go.Shelf
set_option linter.unusedVariables false
attribute [local go_sem] Oper.semAt_some

theorem info46 : (Try.prog.info? 46).map (fun i => (i.zero, i.size, i.bytes)) = some (some (.slice none 0 0), 1, 24) := by kernel_rfl
theorem info3 : (Try.prog.info? 3).map (fun i => (i.zero, i.size, i.bytes)) = some (some (.int .i64 0), 1, 8) := by kernel_rfl
theorem one_new (w : World) (x : Value) (t : TypeId) (b : Nat) (hb : b = w.heap.size) : ∀ j u, [x][j]? = some u → (w.alloc (.cells #[x] t)).cell? ((⟨b, 0, none⟩ : Addr).add j) = some u := by
  subst hb
  intro j u h
  have hj : j = 0 := by have := (List.getElem?_eq_some_iff.1 h).1; simp at this; omega
  subst hj
  simp at h
  subst h
  exact World.cell?_alloc_new _ #[x] t 0
/-- What a piece of the body leaves as it was. -/
structure Pass (S : Nat → Prop) (B : Nat) (W W' : World) : Prop where
  o : KeepsOthers W W'
  k : KpS S W W'
  b : Below B W W'
theorem Pass.refl (S : Nat → Prop) (B : Nat) (W : World) : Pass S B W W := ⟨KeepsOthers.refl W, ⟨fun _ _ => rfl, fun _ _ _ h => h⟩, Below.refl B W⟩
theorem Pass.trans {S : Nat → Prop} {B : Nat} {X Y Z : World} (h : Pass S B X Y) (g : Pass S B Y Z) : Pass S B X Z := ⟨h.o.trans g.o, h.k.trans g.k, h.b.trans g.b⟩
/-- What turns are cells, of types of their own, and none of S. -/
theorem Pass.of {S : Nat → Prop} {B : Nat} {W W' : World} (hs : W.heap.size ≤ W'.heap.size) (he : W'.os = W.os ∧ W'.tape = W.tape ∧ W'.output = W.output)
    (hk : ∀ (k : Nat) (o : Obj), W.heap[k]? = some o → (S k ∨ o.isCells = false ∨ NodeVar o ∨ k < B) → W'.heap[k]? = W.heap[k]?) (hS : ∀ k, S k → k < W.heap.size) (hB : B ≤ W.heap.size) : Pass S B W W' := by
  refine ⟨⟨hs, fun k o h ho => (hk k o h (.inr (.inl ho))).trans h⟩, ⟨fun k h => ?_, fun k o ho h => (hk k o h (.inr (.inr (.inl ho)))).trans h⟩, ⟨he.1, he.2.1, he.2.2, hs, fun k h => ?_⟩⟩
  · exact hk k _ (Array.getElem?_eq_getElem (hS k h)) (.inl h)
  · exact hk k _ (Array.getElem?_eq_getElem (show k < W.heap.size by omega)) (.inr (.inr (.inr h)))
theorem Pass.write {S : Nat → Prop} {B n₀ e s m : Nat} {wr w1 : World} {u : Value} {ys : List Value} (hu : wr.ownsRow n₀ e s u m ys) (he : e ≠ 61) (hSn : ∀ k, S k → k < n₀) (hBn : B ≤ n₀) (hnw : n₀ ≤ wr.heap.size) {tmp : Obj} (hg : (wr.alloc tmp).grownBy w1 u.ownBlock)
    {b : Nat} (j : Nat) (x : Value) {vs : Array Value} {ty : TypeId} {fr : Nat × Nat} (hb : wr.heap[b]? = some (.cells vs ty fr)) (ht : ty ≠ 61) (hbS : ¬ S b) (hbB : B ≤ b) : Pass S B wr (w1.setCell ⟨b, j, none⟩ x) := by
  have hs := hg.size
  rw [World.size_alloc] at hs
  refine Pass.of (by simp [World.setCell]; omega) ⟨hg.os, hg.tape, hg.output⟩ (fun k o ho hor => ?_) (fun k hk => by have := hSn k hk; omega) (by omega)
  have hlt := (Array.getElem?_eq_some_iff.1 ho).1
  have hkb : k ≠ b := by
    rintro rfl
    rw [hb] at ho
    injection ho with ho
    subst ho
    rcases hor with h | h | ⟨_, _, h⟩ | h
    · exact hbS h
    · cases h
    · injection h with _ h _
      exact ht h
    · omega
  have hku : u.ownBlock ≠ some k := fun h => by
    obtain ⟨h1, _, vs2, fr2, h3⟩ := rrow_cells hu h
    rw [h3] at ho
    injection ho with ho
    subst ho
    rcases hor with h | h | ⟨_, _, h⟩ | h
    · have := hSn k h
      omega
    · cases h
    · injection h with _ h _
      exact he h
    · omega
  rw [Below.heap_setCell _ _ _ _ (by exact hkb), hg.block k (by simp; omega) (fun e => hku e.symm)]
  exact Below.heap_alloc wr tmp k hlt
theorem padL_rows {L : List (List Int)} {c m : Nat} (h : ∀ (j : Nat) (l : List Int), L[j]? = some l → l.length ≤ m) : ∀ (j : Nat) (l : List Int), (padL L c)[j]? = some l → l.length ≤ m := by
  intro j l hj
  unfold padL at hj
  by_cases hlt : j < L.length
  · rw [List.getElem?_append_left hlt] at hj
    exact h j l hj
  · rw [List.getElem?_append_right (by omega), List.getElem?_replicate] at hj
    split at hj
    · injection hj with hj
      subst hj
      exact Nat.zero_le _
    · cases hj
theorem Sts.weaken {W : World} {n₀ n : Nat} {v : Value} {L : List (List Int)} (h : Sts W n₀ v L) (hn : n ≤ n₀) : Sts W n v L := by
  obtain ⟨us, hO, hI⟩ := h
  exact ⟨us, row_weaken hO hn, ⟨fun j l u h1 h2 => row_weaken (hI.at_ j l u h1 h2) hn, hI.ap⟩⟩
/-- The first j rows the other way round. -/
def revL (L : List (List Int)) (j : Nat) : List (List Int) := (L.take j).map List.reverse ++ L.drop j
theorem revL_len (L : List (List Int)) (j : Nat) (hj : j ≤ L.length) : (revL L j).length = L.length := by
  unfold revL
  simp
  omega
theorem revL_at {L : List (List Int)} {j : Nat} {l : List Int} (hl : L[j]? = some l) : (revL L j)[j]? = some l := by
  have h := (List.getElem?_eq_some_iff.1 hl).1
  unfold revL
  rw [List.getElem?_append_right (by simp; omega)]
  simp
  rw [show j - min j L.length = 0 from by omega]
  simpa using hl
theorem revL_step {L : List (List Int)} {j : Nat} {l : List Int} (hl : L[j]? = some l) : (revL L j).set j l.reverse = revL L (j + 1) := by
  obtain ⟨h, e⟩ := List.getElem?_eq_some_iff.1 hl
  unfold revL
  rw [List.set_append_right _ _ (by simp; omega), List.drop_eq_getElem_cons h, e, List.take_add_one, hl]
  simp
  rw [show j - min j L.length = 0 from by omega]
  simp
theorem revL_all (L : List (List Int)) : revL L L.length = L.map List.reverse := by
  unfold revL
  simp
def RvL (w : World) (n₀ B D : Nat) (L : List (List Int)) (v : Value) (v36 : Value) (wr : World) : Prop :=
  ∃ j : Nat, v36 = .int .i64 (j : Int) ∧ j ≤ L.length ∧ Boxed wr B 49 v ∧ Sts wr n₀ v (revL L j) ∧ Below B w wr ∧ wr.heap[D]? = some (.deferred (some []))
def PadRel (W : World) (n₀ B c : Nat) (S : Nat → Prop) (L0 : List (List Int)) (gh : Nat) (wr : World) : Prop :=
  ∃ L v, gh = c + 1 - L.length ∧ padL L c = padL L0 c ∧ L.length ≤ 6 ∧ Boxed wr B 49 v ∧ Sts wr n₀ v L ∧ Pass S B W wr
def SI (w : World) (B : Nat) (S : Nat → Prop) (pre : List Nd) (W : World) : Prop := (∃ v, Boxed W B 49 v ∧ Sts W w.heap.size v (setsL pre)) ∧ Below B w W ∧ (∀ k, S k → W.heap[k]? = w.heap[k]?)
theorem SI.stays {w : World} {B : Nat} {S : Nat → Prop} {pre : List Nd} {W W' : World} {row : Option Nat} (hS : ∀ k, S k → k < w.heap.size) (h : SI w B S pre W) (hg : W.grownBy W' row) (hr : ∀ r, row = some r → w.heap.size ≤ r ∧ ∃ o : Obj, W.heap[r]? = some o ∧ (o.isCells = false ∨ NodeVar o)) (hB : B ≤ w.heap.size) : SI w B S pre W' := by
  have hz := h.2.1.size
  obtain ⟨⟨v, hv, hs⟩, hb, hk⟩ := h
  have hr2 := fun r e => (hr r e).2
  refine ⟨⟨v, (not_var hg hr2 hv (by decide)).trans hv, hs.keep (fun k vs ty fr _ h3 ht => not_var hg hr2 h3 (by rintro rfl; simp at ht))⟩, hb.trans ((Below.refl B W).grown hg (by omega) (fun k e => by have := (hr k e).1; omega)), fun k h => ?_⟩
  have hlt := hS k h
  exact (hg.block k (by omega) (fun e => by have := (hr k e.symm).1; omega)).trans (hk k h)
def SMid (w : World) (B : Nat) (S : Nat → Prop) (a : Nat → Nd → Act) (pre : List Nd) (x : Nd) (a' : Act) (W : World) : Prop :=
  ∃ k, a' = a k x ∧ W.heap[k]? = some (.cells #[.int .i64 x.prev, .int .i64 x.cell, .int .i64 x.num, .int .i64 x.slot, .int .i64 x.gen, .int .i64 x.count] 61 (0, 0)) ∧ k < W.heap.size ∧ SI w B S pre W

set_option maxRecDepth 100000 in
set_option maxHeartbeats 4000000 in
theorem sets_in (n : Nat) (hn : 6 ≤ n) (p : Option Addr) (S : Nat → Prop) (f : Nat) (G : Int → Option Nd) (i : Int) (hi : (Lit.int .i64 i).wf = true) (hok : PathOk f G i) (hf : f ≤ 900) (hcl : ∀ q ∈ pathG f G i, 0 ≤ q.cell ∧ q.cell ≤ 5) (w : World) (hS : ∀ k, S k → k < w.heap.size) (hT : Told S w p G) :
    CallsIn Fence.wide n Try.prog 19 #[.pointer p, .int .i64 i] w fun e W' => ∃ v, e = .returned v ∧ Sts W' w.heap.size v (setsG (pathG f G i)) ∧ Below w.heap.size w W' := by
  have h1 : 1 ≤ n := by omega
  have hl := pathG_len f G i
  obtain ⟨i0, hj, hz0, hz1, hz2⟩ := info_parts info46
  obtain ⟨i3, hj3, hy0, hy1, hy2⟩ := info_parts info3
  refine callsIn_of_wp_marks Try.func19 rfl trivial ?_ rfl
  simp only [Try.ntmps19, List.size_toArray, List.length_cons, List.length_nil, Nat.reduceAdd, Nat.reduceSub, Array.replicate_succ, Array.replicate_zero, List.push_toArray, List.append_toArray, List.nil_append, List.cons_append]
  have bO := Boxed.new w 49 (.slice none 0 0)
  have hB0 : Below w.heap.size w (w.alloc (.cells #[.slice none 0 0] 49)) := (Below.refl _ w).alloc (Nat.le_refl _) _
  have hz : (w.alloc (.cells #[.slice none 0 0] 49)).heap.size = w.heap.size + 1 := by simp
  have A := Lib.hid (back_in (n - 1) p i (w.alloc (.cells #[.slice none 0 0] 49)))
  rw [hz] at A
  gi_wp2_with fail
  refine ⟨trivial, ?_⟩
  refine A.out.mono ?_
  rintro e W0 ⟨rfl, hW0⟩
  clear A
  have q0 : W0.heap[w.heap.size]? = some (.cells #[.slice none 0 0] 49 (0, 0)) := by
    rw [hW0, Below.heap_alloc _ _ _ (by simp; omega), Below.heap_alloc _ _ _ (by simp)]
    exact bO
  have b1 : W0.heap[w.heap.size + 1]? = some (.cells #[.pointer p] 24 (0, 0)) := by
    have e : w.heap.size + 1 = (w.alloc (.cells #[.slice none 0 0] 49)).heap.size := hz.symm
    rw [hW0, Below.heap_alloc _ _ _ (by simp), e]
    exact World.alloc_heap_new _ _
  have b2 : W0.heap[w.heap.size + 1 + 1]? = some (.cells #[.int .i64 i] 3 (0, 0)) := by
    have e : w.heap.size + 1 + 1 = ((w.alloc (.cells #[.slice none 0 0] 49)).alloc (.cells #[.pointer p] 24)).heap.size := by simp
    rw [hW0, e]
    exact World.alloc_heap_new _ _
  have q1 := cells_of (vs := [_]) b1 0 _ rfl
  have q2 := cells_of (vs := [_]) b2 0 _ rfl
  have hB1 : Below w.heap.size w W0 := by
    rw [hW0]
    exact (hB0.alloc (by simp) _).alloc (by simp; omega) _
  have hsz : W0.heap.size = w.heap.size + 3 := by rw [hW0]; simp
  clear hW0
  have hS' : ∀ k, (S k ∨ k = w.heap.size + 1 ∨ k = w.heap.size + 1 + 1) → k < W0.heap.size ∧ k ≠ w.heap.size := fun k hk => by
    rcases hk with hk | hk | hk
    · have := hS k hk
      omega
    · omega
    · omega
  have hT0 : Told (fun k => S k ∨ k = w.heap.size + 1 ∨ k = w.heap.size + 1 + 1) W0 p G := fun W hW j hj => hT W (fun k hk => (hW k (.inl hk)).trans (hB1.block k (hS k hk))) j hj
  have hseq := back1_gives (n - 1) (by omega) (w.heap.size + 1) (w.heap.size + 1 + 1) (fun k => S k ∨ k = w.heap.size + 1 ∨ k = w.heap.size + 1 + 1) (.inr (.inl rfl)) (.inr (.inr rfl)) f G i hi hok p W0 (fun k hk => (hS' k hk).1) q1 q2 hT0
  have hB : w.heap.size ≤ W0.heap.size := by omega
  clear q1 q2 hT0 hB0 bO
  gi_wp2_with fail
  refine wp_gives (T := NodeVar) (fun o ⟨vs, fr, h⟩ => by rw [h]; rfl) rfl h1 (gf := 35) (lb := #[.pointer (some ⟨w.heap.size + 1, 0, none⟩), .pointer (some ⟨w.heap.size + 1 + 1, 0, none⟩)]) rfl trivial (enters_of Try.func35 (by kernel_rfl) rfl)
    hseq KpS.trans (KpS.put (fun k hk => (hS' k hk).1)) (Below.refl _ _) (fun _ => rfl)
    (SI W0 w.heap.size (fun k => S k ∨ k = w.heap.size + 1 ∨ k = w.heap.size + 1 + 1)) ?hI ⟨⟨_, q0, Sts.nil _ _⟩, Below.refl _ _, fun _ _ => rfl⟩
    (SMid W0 w.heap.size (fun k => S k ∨ k = w.heap.size + 1 ∨ k = w.heap.size + 1 + 1) (fun k x => { tmps := #[.pointer p, .int .i64 i, undef, undef, .slice none 0 0, .pointer (some ⟨w.heap.size, 0, none⟩), .pointer (some ⟨k, 0, none⟩), undef, undef, .pointer p, .int .i64 i, .func (.func 35) #[] #[.pointer (some ⟨w.heap.size + 1, 0, none⟩), .pointer (some ⟨w.heap.size + 1 + 1, 0, none⟩)], x.val, undef, undef, undef, undef, undef, undef, undef, undef, undef, undef, undef, undef, undef, undef, undef, undef, undef, undef, undef, undef, undef, undef, undef, undef, undef, undef, undef, undef, undef, undef, undef], defers := [] })) ?hMid ?assign ?body ?done
  case hI => exact fun s A B row hs hg hr => hs.stays (fun k hk => (hS' k hk).1) hg (fun r e => hr r e) hB
  case hMid =>
    rintro pre x a' s A B row ⟨k, e, hk, hlt, hI⟩ hg hr
    exact ⟨k, e, (grownBy_keeps_cells hg (fun r e => (hr r e).2) hk rfl).trans hk, Nat.lt_of_lt_of_le hlt hg.size, hI.stays (fun k hk => (hS' k hk).1) hg (fun r e => ⟨(hr r e).1, by obtain ⟨_, o, h1, h2⟩ := hr r e; exact ⟨o, h1, .inl h2⟩⟩) hB⟩
  case assign =>
    rintro lo pre ⟨p1, p2, p3, p4, p5, p6⟩ W hI
    have hz := hI.2.1.size
    dsimp only [encN, Nd.val]
    gi_wp2
    exact ⟨(KeepsOthers.alloc W _).from _, KpS.below (fun k hk => by have := (hS' k hk).1; omega) ((Below.refl _ W).alloc (Nat.le_refl _) _), W.heap.size, rfl, World.alloc_heap_new _ _, by simp, hI.stays (fun k hk => (hS' k hk).1) (World.grownBy_alloc W _ none) (fun r e => by cases e) hB⟩
  case body =>
    rintro lo pre ⟨p1, p2, p3, p4, p5, p6⟩ a' W ⟨k, rfl, hk, hlt, hI⟩ ⟨post, hpost⟩
    obtain ⟨⟨v, hv, hs⟩, hBl, hSS⟩ := hI
    have hn0 := hBl.size
    have hcc := hcl ⟨p1, p2, p3, p4, p5, p6⟩ (by rw [hpost]; simp)
    simp only at hcc
    obtain ⟨c, rfl⟩ : ∃ c : Nat, p2 = (c : Int) := ⟨p2.toNat, by omega⟩
    have hc5 : c ≤ 5 := by omega
    have hpre : (setsL pre).length ≤ 6 := setsL_len pre (fun q hq => (hcl q (by rw [hpost]; simp [hq])).2)
    have hrows : ∀ (j : Nat) (l : List Int), (setsL pre)[j]? = some l → l.length ≤ 900 := fun j l hj => by
      have h1 := setsL_rows pre j l hj
      rw [hpost] at hl
      simp at hl
      omega
    dsimp only [Nd.val] at *
    have R0 : PadRel W W0.heap.size w.heap.size c (fun k => S k ∨ k = w.heap.size + 1 ∨ k = w.heap.size + 1 + 1) (setsL pre) (c + 1 - (setsL pre).length) W := ⟨setsL pre, v, rfl, rfl, hpre, hv, hs, Pass.refl _ _ _⟩
    have HK := Lib.hid hk
    have HP := Lib.hid hpost
    have HB := Lib.hid hBl
    clear hv hs hpost hk
    gi_wp2_with fail
    gi_loopw [13] (fun _ wr => ∃ gh, PadRel W W0.heap.size w.heap.size c (fun k => S k ∨ k = w.heap.size + 1 ∨ k = w.heap.size + 1 + 1) (setsL pre) gh wr) (fun _ wr => least (fun gh => PadRel W W0.heap.size w.heap.size c (fun k => S k ∨ k = w.heap.size + 1 ∨ k = w.heap.size + 1 + 1) (setsL pre) gh wr))
    case atStart => exact ⟨_, R0⟩
    case round =>
      clear R0
      obtain ⟨gh, hgh⟩ : ∃ gh, least (fun gh => PadRel W W0.heap.size w.heap.size c (fun k => S k ∨ k = w.heap.size + 1 ∨ k = w.heap.size + 1 + 1) (setsL pre) gh wr) = gh := ⟨_, rfl⟩
      have hrel := least_is hrel
      rw [hgh] at hrel
      obtain ⟨L, v, hg, hpad, hL6, hv, ⟨us, hO, hIn⟩, hP⟩ := hrel
      have hk := hP.k.n k _ ⟨_, _, rfl⟩ HK.out
      have z1 := cells_of (vs := [_, _, _, _, _, _]) hk 1 _ rfl
      have z2 := cells_of (vs := [_, _, _, _, _, _]) hk 2 _ rfl
      obtain ⟨ad, cap, rfl, had⟩ := rrow_slice hO
      have c1 := hv.cell
      have hwr := hP.b.size
      by_cases hc : L.length ≤ c
      · have t1 : decide ((L.length : Int) ≤ (c : Int)) = true := by simp; omega
        have X := Lib.hid (And.intro hIn (And.intro hP (And.intro hpad (And.intro hg hgh))))
        clear hIn hP hpad hg hgh hk
        gi_wp2_with (gi_at_builtin; refine wpListIn_append_own_at _ rfl (.tmp 18) (.tmp 19) 49 rfl W0.heap.size 46 i0 (.slice none 0 0) 1 24 Try.underlying49 hj hz0 hz1 hz2 rfl (by decide) _ _ _ rfl (hO.alloc _) ⟨wr.heap.size, 0, none⟩ 1 1 [.slice none 0 0] rfl rfl (one_new _ _ _ _ rfl) (by simp [Value.oneCell']) (by unfold maxLen; omega) (by omega) (by simp; omega) ?_; intro v' w1 hown' hgrow _ hat; obtain ⟨g', cap', rfl⟩ := ownsRow_succ hown'; obtain ⟨q1, q2, q3, q4, q5⟩ := hv.appended (by decide) (row_weaken hO hB) (by omega) (Nat.le_refl _) (row_weaken hown' hB) hgrow; have qc := q1.cell; have qf := q1.frozen)
        have hPw := Pass.write (S := fun k => S k ∨ k = w.heap.size + 1 ∨ k = w.heap.size + 1 + 1) (B := w.heap.size) hO (by decide) (fun k hk => (hS' k hk).1) hB (by omega) hgrow 0 (.slice (some ⟨g', 0, none⟩) (L.length + 1) cap') hv (by decide) (fun hk => (hS' _ hk).2 rfl) (Nat.le_refl _)
        have hst := (Sts.more hO X.out.1 hown' hgrow).keep (W' := w1.setCell ⟨w.heap.size, 0, none⟩ (.slice (some ⟨g', 0, none⟩) (L.length + 1) cap')) (fun k vs ty fr hk _ _ => Below.heap_setCell _ _ _ _ (show k ≠ w.heap.size by omega))
        have R' : PadRel W W0.heap.size w.heap.size c (fun k => S k ∨ k = w.heap.size + 1 ∨ k = w.heap.size + 1 + 1) (setsL pre) (c + 1 - (L.length + 1)) _ := ⟨L ++ [[]], _, by simp, by rw [padL_more hc, X.out.2.2.1], by simp; omega, q2, hst, X.out.2.1.trans hPw⟩
        go_roundw
        case rel => exact ⟨_, R'⟩
        case measure =>
          have := least_le (R := fun gh => PadRel W W0.heap.size w.heap.size c (fun k => S k ∨ k = w.heap.size + 1 ∨ k = w.heap.size + 1 + 1) (setsL pre) gh _) R'
          have e2 := X.out.2.2.2
          show least _ < least _
          exact Nat.lt_of_le_of_lt this (by rw [e2.2, e2.1]; omega)
      · have t1 : decide ((L.length : Int) ≤ (c : Int)) = false := by simp; omega
        have X := Lib.hid (And.intro hIn (And.intro hP hpad))
        clear hIn hP hpad hg hgh hk
        gi_wp2_with fail
        have hlc : c < L.length := by omega
        have hLp : L = padL (setsL pre) c := (padL_of hlc).symm.trans X.out.2.2
        obtain ⟨l, hl⟩ : ∃ l, L[c]? = some l := ⟨_, List.getElem?_eq_getElem hlc⟩
        obtain ⟨u, hu⟩ : ∃ u, us[c]? = some u := ⟨_, List.getElem?_eq_getElem (by have := hO.1; omega)⟩
        have hru := X.out.1.at_ c l u hl hu
        have hl9 : l.length ≤ 900 := padL_rows hrows c l (by rw [← hLp]; exact hl)
        obtain ⟨g, rfl⟩ := had (by omega)
        obtain ⟨ad2, cap2, rfl, _⟩ := rrow_slice hru
        have cg : wr.cell? ⟨g, c, none⟩ = some (.slice ad2 l.length cap2) := (hO.cellAt c (by omega)).trans hu
        have fg := hO.frozenAt c
        have hgb : W0.heap.size ≤ g ∧ g < wr.heap.size ∧ ∃ vs fr, wr.heap[g]? = some (.cells vs 46 fr) := rrow_cells hO rfl
        have hkl := (Array.getElem?_eq_some_iff.1 (X.out.2.1.k.n k _ ⟨_, _, rfl⟩ HK.out)).1
        have hsz1 : (wr.drew.alloc (.cells #[.int .i64 p3] 3)).heap.size = wr.heap.size + 1 := by rw [World.size_alloc]; rfl
        obtain ⟨u', w1, hrun, hown', hgrow, hnil, hat⟩ := run_append_own_at (P := Try.prog) (wr.drew.alloc (.cells #[.int .i64 p3] 3)) W0.heap.size 46 46 3 i3 (.int .i64 0) 1 8 Try.underlying46 hj3 hy0 hy1 hy2 rfl (by decide) _ _ _ (hru.drew.alloc _) ⟨wr.heap.size, 0, none⟩ 1 1 [.int .i64 p3] rfl (one_new wr.drew (.int .i64 p3) 3 wr.heap.size rfl) (by simp [Value.oneCell']) (by unfold maxLen; omega) (by omega) (by omega)
        obtain ⟨g2, cap3, rfl⟩ := ownsRow_succ hown'
        have hown2 : w1.ownsRow W0.heap.size 3 1 (.slice (some ⟨g2, 0, none⟩) (l.length + 1) cap3) (l ++ [p3]).length (icells (l ++ [p3])) := by
          rw [List.length_append]
          have : icells (l ++ [p3]) = icells l ++ [.int .i64 p3] := by simp [icells]
          rw [this]
          exact hown'
        have hoth : ∀ k, k < wr.heap.size → (Value.slice ad2 l.length cap2).ownBlock ≠ some k → w1.heap[k]? = wr.heap[k]? := fun k hk hne =>
          (hgrow.block k (by omega) (fun e => hne e.symm)).trans (Below.heap_alloc wr.drew (.cells #[.int .i64 p3] 3) k hk)
        have hO1 : w1.ownsRow W0.heap.size 46 1 (.slice (some ⟨g, 0, none⟩) L.length cap) L.length us := rrow_keep (e := 46) hO (fun k hk => hoth k (rrow_cells hO hk).2.1 (row_types hO hru (by decide) hk))
        have hst := Sts.change hO X.out.1 hl hu hO1 hown2 hoth (fun k hk => by
          rcases hat with h | h
          · exact .inl (by rw [← h]; exact hk)
          · refine .inr ?_
            rw [h] at hk
            injection hk with hk
            omega)
        have hPw := Pass.write (S := fun k => S k ∨ k = w.heap.size + 1 ∨ k = w.heap.size + 1 + 1) (B := w.heap.size) (tmp := .cells #[.int .i64 p3] 3) hru (by decide) (fun k hk => (hS' k hk).1) hB (by omega) ⟨hgrow.os, hgrow.tape, hgrow.output, hgrow.size, hgrow.block⟩ c (.slice (some ⟨g2, 0, none⟩) (l.length + 1) cap3) hgb.2.2.choose_spec.choose_spec (by decide) (fun hk => by have := (hS' _ hk).1; omega) (by omega)
        have hv1 : Boxed w1 w.heap.size 49 (.slice (some ⟨g, 0, none⟩) L.length cap) := (hoth _ hv.lt (fun e => (hv.not_row (by decide) hru) e.symm)).trans hv
        have hv2 : Boxed (w1.setCell ⟨g, c, none⟩ (.slice (some ⟨g2, 0, none⟩) (l.length + 1) cap3)) w.heap.size 49 (.slice (some ⟨g, 0, none⟩) L.length cap) := (Below.heap_setCell _ _ _ _ (show w.heap.size ≠ g by omega)).trans hv1
        have hkw := X.out.2.1.k.n k _ ⟨_, _, rfl⟩ HK.out
        have hk1 : w1.heap[k]? = _ := (hoth k hkl (fun e => by
          obtain ⟨_, _, vs2, fr2, h3⟩ := rrow_cells hru e
          rw [hkw] at h3
          injection h3 with h3
          injection h3 with _ h3 _
          exact absurd h3 (by decide))).trans hkw
        have hk2 : (w1.setCell ⟨g, c, none⟩ (.slice (some ⟨g2, 0, none⟩) (l.length + 1) cap3)).heap[k]? = _ := hPw.k.n k _ ⟨_, _, rfl⟩ hkw
        have z1b := cells_of (vs := [_, _, _, _, _, _]) hk1 1 _ rfl
        have z2b := cells_of (vs := [_, _, _, _, _, _]) hk1 2 _ rfl
        have z1c := cells_of (vs := [_, _, _, _, _, _]) hk2 1 _ rfl
        have z2c := cells_of (vs := [_, _, _, _, _, _]) hk2 2 _ rfl
        have c1b := hv1.cell
        have c1c := hv2.cell
        have cg1 : w1.cell? ⟨g, c, none⟩ = some (.slice ad2 l.length cap2) := (hO1.cellAt c (by omega)).trans hu
        have fg1 := hO1.frozenAt c
        have past : ∀ a, a.block < wr.heap.size → (wr.drew.alloc (.cells #[.int .i64 p3] 3)).cell? a = wr.cell? a := fun a ha => World.cell?_alloc_lt wr.drew _ a ha
        have z1a := (past ⟨k, 1, none⟩ hkl).trans z1
        have z2a := (past ⟨k, 2, none⟩ hkl).trans z2
        have c1a := (past ⟨w.heap.size, 0, none⟩ hv.lt).trans c1
        have cga := (past ⟨g, c, none⟩ hgb.2.1).trans cg
        have KD : wr.drew.cell? ⟨w.heap.size, 0, none⟩ = some (.slice (some ⟨g, 0, none⟩) L.length cap) ∧ wr.drew.cell? ⟨k, 1, none⟩ = some (.int .i64 (c : Int)) ∧ wr.drew.cell? ⟨k, 2, none⟩ = some (.int .i64 p3) := ⟨c1, z1, z2⟩
        have cgd : wr.drew.cell? ⟨g, c, none⟩ = some (.slice ad2 l.length cap2) := cg
        have KA := And.intro c1a (And.intro z1a z2a)
        have K1 := And.intro c1b (And.intro z1b z2b)
        have K2 := And.intro c1c (And.intro z1c z2c)
        have RUN := Lib.hid hrun
        have FIN : SI W0 w.heap.size (fun k => S k ∨ k = w.heap.size + 1 ∨ k = w.heap.size + 1 + 1) (pre ++ [⟨p1, (c : Int), p3, p4, p5, p6⟩]) (w1.setCell ⟨g, c, none⟩ (.slice (some ⟨g2, 0, none⟩) (l.length + 1) cap3)) ∧ Pass (fun k => S k ∨ k = w.heap.size + 1 ∨ k = w.heap.size + 1 + 1) w.heap.size W (w1.setCell ⟨g, c, none⟩ (.slice (some ⟨g2, 0, none⟩) (l.length + 1) cap3)) := by
          have hP2 := X.out.2.1.trans hPw
          refine ⟨⟨⟨_, hv2, ?_⟩, HB.out.trans hP2.b, fun k hk => (hP2.k.s k hk).trans (hSS k hk)⟩, hP2⟩
          rw [setsL_snoc]
          have e : addL (setsL pre) ⟨p1, (c : Int), p3, p4, p5, p6⟩ = L.set c (l ++ [p3]) := by
            unfold addL
            simp only [Int.toNat_natCast]
            rw [← hLp, hl]
            rfl
          rw [e]
          have : L.length = (L.set c (l ++ [p3])).length := by simp
          exact hst
        have FIN := Lib.hid FIN
        clear hst hPw hv1 hv2 hk1 hk2 hkw hoth hO1 hown2 hown' hgrow hnil hat hrun hru hLp past hl hu c1b c1c z1b z1c z2b z2c c1a z1a z2a X
        refine region_round (S := (fun w' => w'.cell? ⟨w.heap.size, 0, none⟩ = some (.slice (some ⟨g, 0, none⟩) L.length cap) ∧ w'.cell? ⟨k, 1, none⟩ = some (.int .i64 (c : Int)) ∧ w'.cell? ⟨k, 2, none⟩ = some (.int .i64 p3))) lo (n - 1 - 1) (by kernel_rfl) (by rfl) ?hs0 (fun hS0 => ?_) (fun a w h => h)
        case hs0 => ((try dsimp only); first | with_reducible exact KD | with_reducible exact KA | with_reducible exact K1 | with_reducible exact K2 | exact KD | exact KA | exact K1 | exact K2)
        refine wpAnyH_take (i := 0) (oi := { dst := some 21, op := Op.load 49 (Operand.tmp 5), type := 49, pos := "chain.go:107", after := #[], guard := none }) (v := ?_) rfl (by kernel_rfl) (by kernel_rfl) (by kernel_rfl) (fun _ _ _ h => h) (Or.inl ⟨by rfl, ?hy1⟩) hS0 ?_
        case hy1 => (intro w hSw; (try dsimp only at hSw); go_simp; try with_reducible rfl)
        try simp only [Act.put, List.setIfInBounds_toArray, List.set_cons_zero, List.set_cons_succ]
        refine wpAnyH_take (i := 1) (oi := { dst := some 22, op := Op.fieldAddr 61 (Operand.tmp 6) 1, type := 0, pos := "chain.go:107", after := #[], guard := none }) (v := ?_) rfl (by kernel_rfl) (by kernel_rfl) (by kernel_rfl) (fun _ _ _ h => h) (Or.inl ⟨by rfl, ?hy2⟩) hS0 ?_
        case hy2 => (intro w hSw; (try dsimp only at hSw); go_simp; try with_reducible rfl)
        try simp only [Act.put, List.setIfInBounds_toArray, List.set_cons_zero, List.set_cons_succ]
        refine wpAnyH_take (i := 2) (oi := { dst := some 23, op := Op.load 3 (Operand.tmp 22), type := 3, pos := "chain.go:107", after := #[{ on := 1, ground := Ground.data }], guard := none }) (v := ?_) rfl (by kernel_rfl) (by kernel_rfl) (by kernel_rfl) (fun _ _ _ h => h) (Or.inl ⟨by rfl, ?hy3⟩) hS0 ?_
        case hy3 => (intro w hSw; (try dsimp only at hSw); go_simp; try with_reducible rfl)
        try simp only [Act.put, List.setIfInBounds_toArray, List.set_cons_zero, List.set_cons_succ]
        refine wpAnyH_take (i := 3) (oi := { dst := some 24, op := Op.load 49 (Operand.tmp 5), type := 49, pos := "chain.go:107", after := #[], guard := none }) (v := ?_) rfl (by kernel_rfl) (by kernel_rfl) (by kernel_rfl) (fun _ _ _ h => h) (Or.inl ⟨by rfl, ?hy4⟩) hS0 ?_
        case hy4 => (intro w hSw; (try dsimp only at hSw); go_simp; try with_reducible rfl)
        try simp only [Act.put, List.setIfInBounds_toArray, List.set_cons_zero, List.set_cons_succ]
        refine wpAnyH_take (i := 4) (oi := { dst := some 25, op := Op.fieldAddr 61 (Operand.tmp 6) 1, type := 0, pos := "chain.go:107", after := #[], guard := none }) (v := ?_) rfl (by kernel_rfl) (by kernel_rfl) (by kernel_rfl) (fun _ _ _ h => h) (Or.inl ⟨by rfl, ?hy5⟩) hS0 ?_
        case hy5 => (intro w hSw; (try dsimp only at hSw); go_simp; try with_reducible rfl)
        try simp only [Act.put, List.setIfInBounds_toArray, List.set_cons_zero, List.set_cons_succ]
        refine wpAnyH_take (i := 5) (oi := { dst := some 26, op := Op.load 3 (Operand.tmp 25), type := 3, pos := "chain.go:107", after := #[{ on := 4, ground := Ground.data }], guard := none }) (v := ?_) rfl (by kernel_rfl) (by kernel_rfl) (by kernel_rfl) (fun _ _ _ h => h) (Or.inl ⟨by rfl, ?hy6⟩) hS0 ?_
        case hy6 => (intro w hSw; (try dsimp only at hSw); go_simp; try with_reducible rfl)
        try simp only [Act.put, List.setIfInBounds_toArray, List.set_cons_zero, List.set_cons_succ]
        refine wpAnyH_take (i := 6) (oi := { dst := some 27, op := Op.indexAddr 49 (Operand.tmp 24) (Operand.tmp 26), type := 0, pos := "chain.go:107", after := #[{ on := 3, ground := Ground.data }, { on := 5, ground := Ground.data }], guard := none }) (v := ?_) rfl (by kernel_rfl) (by kernel_rfl) (by kernel_rfl) (fun _ _ _ h => h) (Or.inl ⟨by rfl, ?hy7⟩) hS0 ?_
        case hy7 => (intro w hSw; (try dsimp only at hSw); go_simp; try with_reducible rfl)
        try simp only [Act.put, List.setIfInBounds_toArray, List.set_cons_zero, List.set_cons_succ]
        refine wpAnyH_take (i := 8) (oi := { dst := some 29, op := Op.fieldAddr 61 (Operand.tmp 6) 2, type := 0, pos := "chain.go:107", after := #[], guard := none }) (v := ?_) rfl (by kernel_rfl) (by kernel_rfl) (by kernel_rfl) (fun _ _ _ h => h) (Or.inl ⟨by rfl, ?hy8⟩) hS0 ?_
        case hy8 => (intro w hSw; (try dsimp only at hSw); go_simp; try with_reducible rfl)
        try simp only [Act.put, List.setIfInBounds_toArray, List.set_cons_zero, List.set_cons_succ]
        refine wpAnyH_take (i := 9) (oi := { dst := some 30, op := Op.load 3 (Operand.tmp 29), type := 3, pos := "chain.go:107", after := #[{ on := 8, ground := Ground.data }], guard := none }) (v := ?_) rfl (by kernel_rfl) (by kernel_rfl) (by kernel_rfl) (fun _ _ _ h => h) (Or.inl ⟨by rfl, ?hy9⟩) hS0 ?_
        case hy9 => (intro w hSw; (try dsimp only at hSw); go_simp; try with_reducible rfl)
        try simp only [Act.put, List.setIfInBounds_toArray, List.set_cons_zero, List.set_cons_succ]
        refine wpAnyH_ready (rs := [7, 10]) (by kernel_rfl) (by simp) ?_
        refine AllReadyH.cons (o := { dst := some 28, op := Op.load 46 (Operand.tmp 27), type := 46, pos := "chain.go:107", after := #[{ on := 6, ground := Ground.data }], guard := none }) rfl (fun K hK => ?_) ?_
        · go_simp
          refine hK.out _ _ ?hs10 (fun hS10 => ?_)
          case hs10 => ((try dsimp only); first | with_reducible exact KD | with_reducible exact KA | with_reducible exact K1 | with_reducible exact K2 | exact KD | exact KA | exact K1 | exact K2)
          clear hK K hS0
          refine wpAnyH_ready (rs := [10]) (by kernel_rfl) (by simp) ?_
          refine AllReadyH.cons (o := { dst := some 31, op := Op.buildSlice 46 1 #[(0, Operand.tmp 30)], type := 46, pos := "chain.go:107", after := #[{ on := 9, ground := Ground.data }], guard := none }) rfl (fun K hK => ?_) ?_
          · go_simp
            refine hK.out _ _ ?hs11 (fun hS11 => ?_)
            case hs11 => ((try dsimp only); first | with_reducible exact KD | with_reducible exact KA | with_reducible exact K1 | with_reducible exact K2 | exact KD | exact KA | exact K1 | exact K2)
            clear hK K hS10
            refine wpAnyH_ready (rs := [11]) (by kernel_rfl) (by simp) ?_
            refine AllReadyH.cons (o := { dst := some 32, op := Op.call { callee := Callee.builtin Builtin.append, args := #[Operand.tmp 28, Operand.tmp 31], argTypes := #[46, 46] }, type := 46, pos := "chain.go:107", after := #[{ on := 7, ground := Ground.data }, { on := 10, ground := Ground.data }], guard := none }) rfl (fun K hK => ?_) ?_
            · refine step_append_runC (by rfl) _ _ _ (by rfl) (by rfl) (by rfl) RUN.out ?_
              refine hK.out _ _ ?hs12 (fun hS12 => ?_)
              case hs12 => ((try dsimp only); first | with_reducible exact KD | with_reducible exact KA | with_reducible exact K1 | with_reducible exact K2 | exact KD | exact KA | exact K1 | exact K2)
              clear hK K hS11
              refine wpAnyH_take (i := 12) (oi := { dst := some 33, op := Op.indexAddr 49 (Operand.tmp 21) (Operand.tmp 23), type := 0, pos := "chain.go:107", after := #[{ on := 0, ground := Ground.data }, { on := 2, ground := Ground.data }, { on := 0, ground := Ground.phase }, { on := 1, ground := Ground.phase }, { on := 2, ground := Ground.phase }, { on := 3, ground := Ground.phase }, { on := 4, ground := Ground.phase }, { on := 5, ground := Ground.phase }, { on := 6, ground := Ground.phase }, { on := 7, ground := Ground.phase }, { on := 8, ground := Ground.phase }, { on := 9, ground := Ground.phase }, { on := 10, ground := Ground.phase }, { on := 11, ground := Ground.phase }], guard := none }) (v := ?_) rfl (by kernel_rfl) (by kernel_rfl) (by kernel_rfl) (fun _ _ _ h => h) (Or.inl ⟨by rfl, ?hy13⟩) hS12 ?_
              case hy13 => (intro w hSw; (try dsimp only at hSw); go_simp; try with_reducible rfl)
              try simp only [Act.put, List.setIfInBounds_toArray, List.set_cons_zero, List.set_cons_succ]
              refine wpAnyH_ready (rs := [13]) (by kernel_rfl) (by simp) ?_
              refine AllReadyH.cons (o := { dst := none, op := Op.store 46 (Operand.tmp 33) (Operand.tmp 32), type := 0, pos := "chain.go:107", after := #[{ on := 12, ground := Ground.data }, { on := 11, ground := Ground.data }, { on := 11, ground := Ground.chain }, { on := 0, ground := Ground.phase }, { on := 1, ground := Ground.phase }, { on := 2, ground := Ground.phase }, { on := 3, ground := Ground.phase }, { on := 4, ground := Ground.phase }, { on := 5, ground := Ground.phase }, { on := 6, ground := Ground.phase }, { on := 7, ground := Ground.phase }, { on := 8, ground := Ground.phase }, { on := 9, ground := Ground.phase }, { on := 10, ground := Ground.phase }, { on := 11, ground := Ground.phase }], guard := none }) rfl (fun K hK => ?_) ?_
              · go_simp
                refine hK.out _ _ ?hs14 (fun hS14 => ?_)
                case hs14 => ((try dsimp only); first | with_reducible exact KD | with_reducible exact KA | with_reducible exact K1 | with_reducible exact K2 | exact KD | exact KA | exact K1 | exact K2)
                clear hK K hS12
                refine wpAnyH_done (by kernel_rfl) ?_ _
                exact ⟨FIN.out.2.o.from _, FIN.out.2.k, FIN.out.1⟩
              exact AllReadyH.nil
            exact AllReadyH.nil
          exact AllReadyH.nil
        refine AllReadyH.cons (o := { dst := some 31, op := Op.buildSlice 46 1 #[(0, Operand.tmp 30)], type := 46, pos := "chain.go:107", after := #[{ on := 9, ground := Ground.data }], guard := none }) rfl (fun K hK => ?_) ?_
        · go_simp
          refine hK.out _ _ ?hs15 (fun hS15 => ?_)
          case hs15 => ((try dsimp only); first | with_reducible exact KD | with_reducible exact KA | with_reducible exact K1 | with_reducible exact K2 | exact KD | exact KA | exact K1 | exact K2)
          clear hK K hS0
          refine wpAnyH_ready (rs := [7]) (by kernel_rfl) (by simp) ?_
          refine AllReadyH.cons (o := { dst := some 28, op := Op.load 46 (Operand.tmp 27), type := 46, pos := "chain.go:107", after := #[{ on := 6, ground := Ground.data }], guard := none }) rfl (fun K hK => ?_) ?_
          · go_simp
            refine hK.out _ _ ?hs16 (fun hS16 => ?_)
            case hs16 => ((try dsimp only); first | with_reducible exact KD | with_reducible exact KA | with_reducible exact K1 | with_reducible exact K2 | exact KD | exact KA | exact K1 | exact K2)
            clear hK K hS15
            refine wpAnyH_ready (rs := [11]) (by kernel_rfl) (by simp) ?_
            refine AllReadyH.cons (o := { dst := some 32, op := Op.call { callee := Callee.builtin Builtin.append, args := #[Operand.tmp 28, Operand.tmp 31], argTypes := #[46, 46] }, type := 46, pos := "chain.go:107", after := #[{ on := 7, ground := Ground.data }, { on := 10, ground := Ground.data }], guard := none }) rfl (fun K hK => ?_) ?_
            · refine step_append_runC (by rfl) _ _ _ (by rfl) (by rfl) (by rfl) RUN.out ?_
              refine hK.out _ _ ?hs17 (fun hS17 => ?_)
              case hs17 => ((try dsimp only); first | with_reducible exact KD | with_reducible exact KA | with_reducible exact K1 | with_reducible exact K2 | exact KD | exact KA | exact K1 | exact K2)
              clear hK K hS16
              refine wpAnyH_take (i := 12) (oi := { dst := some 33, op := Op.indexAddr 49 (Operand.tmp 21) (Operand.tmp 23), type := 0, pos := "chain.go:107", after := #[{ on := 0, ground := Ground.data }, { on := 2, ground := Ground.data }, { on := 0, ground := Ground.phase }, { on := 1, ground := Ground.phase }, { on := 2, ground := Ground.phase }, { on := 3, ground := Ground.phase }, { on := 4, ground := Ground.phase }, { on := 5, ground := Ground.phase }, { on := 6, ground := Ground.phase }, { on := 7, ground := Ground.phase }, { on := 8, ground := Ground.phase }, { on := 9, ground := Ground.phase }, { on := 10, ground := Ground.phase }, { on := 11, ground := Ground.phase }], guard := none }) (v := ?_) rfl (by kernel_rfl) (by kernel_rfl) (by kernel_rfl) (fun _ _ _ h => h) (Or.inl ⟨by rfl, ?hy18⟩) hS17 ?_
              case hy18 => (intro w hSw; (try dsimp only at hSw); go_simp; try with_reducible rfl)
              try simp only [Act.put, List.setIfInBounds_toArray, List.set_cons_zero, List.set_cons_succ]
              refine wpAnyH_ready (rs := [13]) (by kernel_rfl) (by simp) ?_
              refine AllReadyH.cons (o := { dst := none, op := Op.store 46 (Operand.tmp 33) (Operand.tmp 32), type := 0, pos := "chain.go:107", after := #[{ on := 12, ground := Ground.data }, { on := 11, ground := Ground.data }, { on := 11, ground := Ground.chain }, { on := 0, ground := Ground.phase }, { on := 1, ground := Ground.phase }, { on := 2, ground := Ground.phase }, { on := 3, ground := Ground.phase }, { on := 4, ground := Ground.phase }, { on := 5, ground := Ground.phase }, { on := 6, ground := Ground.phase }, { on := 7, ground := Ground.phase }, { on := 8, ground := Ground.phase }, { on := 9, ground := Ground.phase }, { on := 10, ground := Ground.phase }, { on := 11, ground := Ground.phase }], guard := none }) rfl (fun K hK => ?_) ?_
              · go_simp
                refine hK.out _ _ ?hs19 (fun hS19 => ?_)
                case hs19 => ((try dsimp only); first | with_reducible exact KD | with_reducible exact KA | with_reducible exact K1 | with_reducible exact K2 | exact KD | exact KA | exact K1 | exact K2)
                clear hK K hS17
                refine wpAnyH_done (by kernel_rfl) ?_ _
                exact ⟨FIN.out.2.o.from _, FIN.out.2.k, FIN.out.1⟩
              exact AllReadyH.nil
            exact AllReadyH.nil
          exact AllReadyH.nil
        exact AllReadyH.nil
  case done =>
    rintro D W hD ⟨⟨v, hv, hs⟩, hBl, hSS⟩ hK
    have hL6 := setsL_len (pathG f G i) (fun q hq => (hcl q hq).2)
    have hrows : ∀ (j : Nat) (l : List Int), (setsL (pathG f G i))[j]? = some l → l.length ≤ 900 := fun j l hj => by
      have h1 := setsL_rows _ j l hj
      omega
    obtain ⟨L, hL⟩ : ∃ L, setsL (pathG f G i) = L := ⟨_, rfl⟩
    rw [hL] at hs hrows hL6
    have HL := Lib.hid hL
    clear hL
    obtain ⟨ad, cap, rfl, had⟩ : ∃ ad cap, v = .slice ad L.length cap ∧ (0 < L.length → ∃ g, ad = some ⟨g, 0, none⟩) := by
      obtain ⟨us, hO, _⟩ := hs
      exact rrow_slice hO
    have c1 := hv.cell
    have R0 : RvL w W0.heap.size w.heap.size D L (.slice ad L.length cap) (.int .i64 0) W := ⟨0, rfl, Nat.zero_le _, hv, hs, hB1.trans hBl, hK⟩
    clear hv hs hBl hSS hK hseq hT hok
    gi_wp2_with fail
    gi_loopw [36] (fun v36 wr => RvL w W0.heap.size w.heap.size D L (.slice ad L.length cap) v36 wr) (fun v36 _ => L.length - (intOf v36).toNat)
    case atStart => exact R0
    case round =>
      clear R0
      obtain ⟨j, rfl, hjL, hv, hs, hBl, hK⟩ := hrel
      have c1 := hv.cell
      by_cases hlt : j < L.length
      · obtain ⟨l, hl⟩ : ∃ l, L[j]? = some l := ⟨_, List.getElem?_eq_getElem hlt⟩
        obtain ⟨us, hO, hIn⟩ := hs
        rw [revL_len L j hjL] at hO
        obtain ⟨u, hu⟩ : ∃ u, us[j]? = some u := ⟨_, List.getElem?_eq_getElem (by have := hO.1; omega)⟩
        have hru := hIn.at_ j l u (revL_at hl) hu
        obtain ⟨g, rfl⟩ := had (by omega)
        obtain ⟨ad2, cap2, rfl, _⟩ := rrow_slice hru
        have cg : wr.cell? ⟨g, j, none⟩ = some (.slice ad2 l.length cap2) := (hO.cellAt j (by omega)).trans hu
        have RV := Lib.hid (rev_any hru (by have := hrows j l hl; omega))
        have X := Lib.hid (And.intro hl (And.intro hO (And.intro hIn (And.intro hu (And.intro hv (And.intro hBl (And.intro hK hru)))))))
        clear hl hO hIn hu hBl hK hru
        gi_wp2_with fail
        refine ⟨trivial, ?_⟩
        refine (callsIn_wide.2 RV.out).mono ?_
        rintro e w2 ⟨⟨rv, rfl⟩, hown, hg⟩
        obtain ⟨hl, hO, hIn, hu, hv, hBl, hK, hru⟩ := X.out
        have hst := Sts.inplace (by rw [revL_len L j hjL]; exact hO) hIn (revL_at hl) hu (by rw [List.length_reverse]; exact hown) hg
        rw [revL_step hl] at hst
        have R' : RvL w W0.heap.size w.heap.size D L (.slice (some ⟨g, 0, none⟩) L.length cap) (.int .i64 ((j : Int) + 1)) w2 := ⟨j + 1, by go_num, by omega, hv.kept hg (fun e => (hv.not_row (by decide) hru) e), hst,
          hBl.trans ((Below.refl _ _).grown hg hBl.size (fun k hk => by have := (rrow_cells hru hk).1; omega)), (hg.block D (Array.getElem?_eq_some_iff.1 hK).1 (fun e => by
            obtain ⟨_, _, vs, fr, h3⟩ := rrow_cells hru e.symm
            rw [hK] at h3
            injection h3 with h3
            cases h3)).trans hK⟩
        clear hl hO hIn hu hv hBl hK hru hst hown hg X RV
        gi_wp2_with fail
        go_roundw
        case rel => exact R'
        case measure => simp [intOf]; omega
      · obtain rfl : j = L.length := by omega
        rw [revL_all] at hs
        have X := Lib.hid (And.intro hs hBl)
        clear hs hBl
        gi_wp2_with fail
        refine ⟨by simp, .inl ⟨_, _, rfl, run_takeDeferred hK, ?_⟩⟩
        exact ⟨_, results_tmp rfl _ _ _, _, rfl, by unfold setsG; rw [HL.out]; exact (X.out.1.weaken hB).keep (fun k vs ty fr _ h3 _ => World.putObj_heap_other (fun e => by
          subst e
          rw [hK] at h3
          injection h3 with h3
          cases h3)), X.out.2.trans ((Below.refl _ _).grown (grownBy_putObj' _ D _) X.out.2.size (fun k e => by cases e; omega))⟩
end Go.Proofs.Ytakjpoapjokmbaa
