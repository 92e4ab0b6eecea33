/-
  Rows merged by another order: the iterator, and all that it tells.
-/
import Derived.Test.YtibmimdlgbhdnaaTupM8
namespace Go.Proofs.Ytibmimdlgbhdnaa
open Go.ChangeShapes Go.WideShapes Go.ChangeAt Go.RowKit Go.Shelf
set_option linter.unusedVariables false
attribute [local go_sem] Oper.semAt_some

def IRel8 (lt : Int → Int → Bool) (n0 lb B m : Nat) (hv : Value) (out : List Int) (J : List Int → World → Prop) (v : Value) (wr : World) : Prop :=
  ∃ pre S, v = .int .i64 (firstAt lt S) ∧ S.length = m ∧ pre ++ mergeN lt (total S) S = out ∧ J pre wr ∧ HSt n0 B wr hv S ∧ wr.cell? ⟨lb, 0, none⟩ = some (.func (.func 28) #[] #[])


set_option maxRecDepth 100000 in
set_option maxHeartbeats 2000000 in
theorem merge1_in8 (n : Nat) (hn : 1 ≤ n) {lt : Int → Int → Bool} (HL : Less 28 lt) (lo kb lb hb n0 m : Nat) (L : List (List Int)) (f : Nat → Value) (hm : m = L.length) (hL : L.length ≤ 1000000) (J : List Int → World → Prop) (W : World) (hn0 : n0 < W.heap.size) (hlb : lb < n0)
    (hJ : BearsT 27 W.heap.size J)
    (hY : ∀ pre x W1, J pre W1 → pre.length < (mergeN lt (total L) L).length → YieldAt Fence.wide (n - 1) Try.prog lo #[.int .i64 x] W1 fun en W' => en = .returned (.bool true) ∧ J (pre ++ [x]) W' ∧ KN n0 W1 W')
    (h0 : J [] W) (ck : W.cell? ⟨kb, 0, none⟩ = some (.slice (some ⟨hb, 0, none⟩) m m)) (cl : W.cell? ⟨lb, 0, none⟩ = some (.func (.func 28) #[] #[])) (ch : ∀ k, k < m → W.cell? ⟨hb, k, none⟩ = some (f k)) (hR : ∀ k l, L[k]? = some l → RowLo n0 W (f k) l) :
    CallsIn Fence.wide n Try.prog 65 #[.func (.yield lo) #[] #[], .pointer (some ⟨kb, 0, none⟩), .pointer (some ⟨lb, 0, none⟩)] W fun en W' => (∃ v, en = .returned v) ∧ J (mergeN lt (total L) L) W' := by
  have CH := Lib.hid (clone_heads (cap := m) (by omega) ch (fun k hk => by
    obtain ⟨a, b, off, cap, e, _⟩ := hR k _ (List.getElem?_eq_getElem (by omega))
    rw [e]
    rfl))
  have IN := Lib.hid (And.intro hR (And.intro h0 (And.intro hJ hY)))
  have FI := Lib.hid (fun (w : World) (v : Value) (S : List (List Int)) (h : RowsAt w v S) (hS : S.length = m) => first_is8 HL h (by omega))
  have HM := Lib.hid hm
  have HLL := Lib.hid hL
  clear hR ch h0 hJ hY hL hm
  refine callsIn_of_wp Try.func65 rfl trivial ?_ rfl
  simp only [Try.ntmps65, List.size_toArray, List.length_cons, List.length_nil, Nat.reduceAdd, Nat.reduceSub, Array.replicate_succ, Array.replicate_zero, List.push_toArray, List.append_toArray, List.nil_append, List.cons_append]
  gi_wp2_with fail
  refine ⟨trivial, ?_⟩
  refine (callsIn_wide.2 CH.out).mono ?_
  rintro e w1 ⟨hv, rfl, ho, T⟩
  have HS0 : HSt n0 W.heap.size w1 hv L := by
    refine ⟨_, by rw [← HM.out]; exact ho, fun k l hl => ⟨f k, ?_, ?_⟩⟩
    · have hk := (List.getElem?_eq_some_iff.1 hl).1
      rw [List.getElem?_map, List.getElem?_range (by have := HM.out; omega)]
      rfl
    · exact (IN.out.1 k l hl).keep fun j hj => T.block j (by omega) id
  have J0 : J [] w1 := IN.out.2.2.1 _ W w1 none IN.out.2.1 ⟨T.os, T.tape, T.output, T.size, fun k hk _ => T.block k hk id⟩ (fun r e => by cases e)
  have cl1 := T.cell id cl
  have TZ := T.size
  have X1 := Lib.hid (And.intro HS0 (And.intro J0 TZ))
  have F1 := Lib.hid (FI.out w1 hv L HS0.rows HM.out.symm)
  clear ho T HS0 J0 CH ck cl TZ
  gi_wp2_with fail
  refine ⟨trivial, ?_⟩
  refine (callsIn_wide.2 F1.out).mono ?_
  rintro e w2 ⟨rfl, d, rfl⟩
  have R0 : IRel8 lt n0 lb W.heap.size m hv (mergeN lt (total L) L) J (.int .i64 (firstAt lt L)) (w1.drewN d) :=
    ⟨[], L, rfl, HM.out.symm, rfl, IN.out.2.2.1 _ w1 _ none X1.out.2.1 ⟨rfl, rfl, rfl, Nat.le_refl _, fun _ _ _ => rfl⟩ (fun r e => by cases e), X1.out.1, cl1⟩
  clear F1 X1 cl1
  gi_wp2_with fail
  gi_loopw [5] (fun v wr => IRel8 lt n0 lb W.heap.size m hv (mergeN lt (total L) L) J v wr) (fun _ wr => headsLen hv m wr)
  case atStart => exact R0
  case round =>
    clear R0
    obtain ⟨pre, S, rfl, hSm, hpre, hj, hs, cl⟩ := hrel
    rcases firstAt_or lt S with hf | ⟨i, x, l, hf, hx⟩
    · have F := Lib.hid (show J (mergeN lt (total L) L) wr from by
        rw [mergeN_none hf, List.append_nil] at hpre
        rw [← hpre]
        exact hj)
      rw [hf]
      clear hpre hj hs hf
      gi_wp2
      go_end0
      exact ⟨⟨_, rfl⟩, F.out⟩
    · have hil : i < S.length := (List.getElem?_eq_some_iff.1 hx).1
      obtain ⟨xs, ho, hr⟩ := id hs
      obtain ⟨a, cap, e1, e2⟩ := own_slice ho
      obtain ⟨g, rfl⟩ := e2 (by omega)
      obtain ⟨r, q1, q2⟩ := hr i _ hx
      obtain ⟨ra, b, off, rc, rfl, hrc, hra, hrx⟩ := id q2
      obtain ⟨rfl, hb0⟩ := hra.resolve_left (by simp)
      have z1 : wr.cell? ⟨g, i, none⟩ = some (.slice (some ⟨b, off, none⟩) (l.length + 1) rc) := by
        have h := ho
        rw [e1] at h
        exact (h.cellAt i (by omega)).trans q1
      have z2 : wr.cell? ⟨b, off, none⟩ = some (.int .i64 x) := hrx 0 x rfl
      have fr : wr.frozen? ⟨g, i, none⟩ = false := by
        have h := ho
        rw [e1] at h
        exact h.frozenAt i
      have hgB := (ho.lt g (by rw [e1]; rfl)).1
      have ST := hs
      rw [e1] at ST
      have S2 := ST.set hn0 hil (rowLo_tail q2)
      rw [List.length_set, hSm] at S2
      have G2 := grown_set wr ⟨g, i, none⟩ (.slice (some (if rc = 1 then ⟨b, off, none⟩ else ⟨b, off + 1, none⟩)) l.length (rc - 1))
      have J2 := IN.out.2.2.1 _ _ _ _ hj G2 (fun r e => by
        cases e
        rcases ho.2 with ⟨e, _⟩ | ⟨g', cap', cur, e, hg, hgg, _⟩
        · rw [e1] at e
          cases e
        · rw [e1] at e
          injection e with e _ _
          injection e with e
          injection e with e _ _
          subst e
          exact ⟨hg, _, _, hgg⟩)
      have cl2 : (wr.setCell ⟨g, i, none⟩ (.slice (some (if rc = 1 then ⟨b, off, none⟩ else ⟨b, off + 1, none⟩)) l.length (rc - 1))).cell? ⟨lb, 0, none⟩ = some (.func (.func 28) #[] #[]) := by
        rw [cell_far _ _ _ _ _ _ (by omega)]
        exact cl
      have ht := total_set hx
      have hM := headsLen_is hs
      rw [hSm] at hM
      have hstep : mergeN lt (total S) S = x :: mergeN lt (total (S.set i l)) (S.set i l) := by
        rw [← ht]
        exact mergeN_step hf hx
      rw [hstep] at hpre
      have hpl : pre.length < (mergeN lt (total L) L).length := by
        rw [← hpre, List.length_append, List.length_cons]
        omega
      obtain ⟨fn, tmps, assign, body, hy, hRd⟩ := IN.out.2.2.2 pre x _ J2 hpl
      have h1l : (l.length + 1 : Nat) = (x :: l).length := rfl
      have hi1 : (i : Int) < (S.length : Int) := by omega
      have hi0 : (0 : Int) ≤ (i : Int) := by omega
      simp only [List.length_cons] at hrc
      have X := Lib.hid (And.intro hpre (And.intro S2 (And.intro ht (And.intro hM cl2))))
      have SL : (S.set i l).length = S.length := List.length_set
      have t1 : decide ((0 : Int) ≤ (i : Int)) = true := by simp
      rw [hf]
      rw [hSm] at e1
      subst e1
      have HY := Lib.hid hy
      have HR := Lib.hid hRd
      clear hpre hj hs ho hr q1 q2 hrx ST S2 G2 J2 cl2 ht hM hstep hpl hx cl h1l SL hy hRd
      by_cases h1 : rc = 1
      case pos =>
        subst h1
        obtain rfl : l = [] := List.eq_nil_of_length_eq_zero (by omega)
        simp only [↓reduceIte, Nat.reduceSub, List.length_nil] at X HY HR
        simp only [List.length_nil, Nat.reduceAdd] at z1
        have hy := HY.out
        gi_wp2_with fail
        refine HR.out.mono ?_
        rintro e W3 ⟨rfl, hJ3, hk3⟩
        have HS3 := X.out.2.1.keep hn0 hk3
        have cl3 := (World.cell?_of_block (w := _) (w' := W3) (a := ⟨lb, 0, none⟩) (hk3.2 lb (by omega) (.inl hlb))).trans X.out.2.2.2.2
        have F3 := Lib.hid (FI.out W3 _ _ HS3.rows (List.length_set.trans hSm))
        have Y := Lib.hid (And.intro hJ3 HS3)
        clear hk3 hJ3 HS3
        gi_wp2_with fail
        refine ⟨trivial, ?_⟩
        with_reducible refine (callsIn_wide.2 F3.out).mono ?_
        rintro e w4 ⟨rfl, d4, rfl⟩
        gi_wp2_with fail
        go_roundw
        case rel => exact ⟨pre ++ [x], S.set i [], rfl, List.length_set.trans hSm, by rw [List.append_assoc]; exact X.out.1, IN.out.2.2.1 _ W3 _ none Y.out.1 ⟨rfl, rfl, rfl, Nat.le_refl _, fun _ _ _ => rfl⟩ (fun r e => by cases e), Y.out.2, cl3⟩
        case measure =>
          have h1 := headsLen_is (Y.out.2.drewN d4)
          rw [List.length_set, hSm] at h1
          rw [h1, X.out.2.2.2.1]
          have := X.out.2.2.1
          omega
      case neg =>
        simp only [if_neg h1] at X HY HR
        have hy := HY.out
        gi_wp2_with fail
        refine HR.out.mono ?_
        rintro e W3 ⟨rfl, hJ3, hk3⟩
        have HS3 := X.out.2.1.keep hn0 hk3
        have cl3 := (World.cell?_of_block (w := _) (w' := W3) (a := ⟨lb, 0, none⟩) (hk3.2 lb (by omega) (.inl hlb))).trans X.out.2.2.2.2
        have F3 := Lib.hid (FI.out W3 _ _ HS3.rows (List.length_set.trans hSm))
        have Y := Lib.hid (And.intro hJ3 HS3)
        clear hk3 hJ3 HS3
        gi_wp2_with fail
        refine ⟨trivial, ?_⟩
        with_reducible refine (callsIn_wide.2 F3.out).mono ?_
        rintro e w4 ⟨rfl, d4, rfl⟩
        gi_wp2_with fail
        go_roundw
        case rel => exact ⟨pre ++ [x], S.set i l, rfl, List.length_set.trans hSm, by rw [List.append_assoc]; exact X.out.1, IN.out.2.2.1 _ W3 _ none Y.out.1 ⟨rfl, rfl, rfl, Nat.le_refl _, fun _ _ _ => rfl⟩ (fun r e => by cases e), Y.out.2, cl3⟩
        case measure =>
          have h1 := headsLen_is (Y.out.2.drewN d4)
          rw [List.length_set, hSm] at h1
          rw [h1, X.out.2.2.2.1]
          have := X.out.2.2.1
          omega

/-- What Merge has made, and what lies there. -/
structure Mgd8 (w : World) (kb lb : Nat) (L : List (List Int)) : Prop where
  it : ∃ (hb : Nat) (f : Nat → Value), w.cell? ⟨kb, 0, none⟩ = some (.slice (some ⟨hb, 0, none⟩) L.length L.length) ∧ (∀ k, k < L.length → w.cell? ⟨hb, k, none⟩ = some (f k)) ∧ ∀ (k : Nat) (l : List Int), L[k]? = some l → RowLo w.heap.size w (f k) l
  le : w.cell? ⟨lb, 0, none⟩ = some (.func (.func 28) #[] #[])

theorem mgd_of8 {w w' : World} {lb hb kb : Nat} {L : List (List Int)} {v : Value} (h : MRel8 w lb hb kb L.length L 0 v w') : Mgd8 w' kb lb L := by
  obtain ⟨i, f, rfl, hi, hg, c0, c1, cf, fr, ro, T, hz⟩ := h
  exact ⟨⟨hb, f, c1, cf, fun k l hl => rowLo_own (ro k l (by have := (List.getElem?_eq_some_iff.1 hl).1; omega) hl) (Nat.le_refl _)⟩, c0⟩
theorem merge_gives8 (n : Nat) (hn : 1 ≤ n) {lt : Int → Int → Bool} (HL : Less 28 lt) {w : World} {kb lb : Nat} {L : List (List Int)} (hL : L.length ≤ 1000000) (h : Mgd8 w kb lb L) {w0 : World} (hw : Below w.heap.size w w0) (hz : w.heap.size < w0.heap.size) :
    GivesT 27 n Try.prog 65 #[.pointer (some ⟨kb, 0, none⟩), .pointer (some ⟨lb, 0, none⟩)] (fun x : Int => #[.int .i64 x]) (KN w.heap.size) (mergeN lt (total L) L) w0 := fun lo J W hW hJ hY h0 => by
  obtain ⟨⟨hb, f, c1, cf, hr⟩, c0⟩ := h
  have hwW : Below w.heap.size w W := hw.trans (hW.mono (by omega))
  have kp : ∀ {k j v}, w.cell? ⟨k, j, none⟩ = some v → W.cell? ⟨k, j, none⟩ = some v := fun h => (World.cell?_of_block (w := w) (hwW.block _ (block_lt_of_cell h))).trans h
  have := hW.size
  exact merge1_in8 n hn HL lo kb lb hb w.heap.size L.length L f rfl hL J W (by omega) (block_lt_of_cell c0) hJ hY h0 (kp c1) (kp c0) (fun k hk => kp (cf k hk)) (fun k l hl => (hr k l hl).keep fun j hj => hwW.block j hj)

set_option maxRecDepth 100000 in
set_option maxHeartbeats 2000000 in
theorem all_in8 (n : Nat) (hn : 6 ≤ n) {lt : Int → Int → Bool} (HL : Less 28 lt) {w : World} {kb lb : Nat} {L : List (List Int)} (hL : L.length ≤ 1000000) (hT : total L ≤ 1000000) (h : Mgd8 w kb lb L) :
    CallsIn Fence.wide n Try.prog 26 #[.func (.func 65) #[] #[.pointer (some ⟨kb, 0, none⟩), .pointer (some ⟨lb, 0, none⟩)]] w fun e W' => ∃ v, e = .returned v ∧ W'.ownsRow w.heap.size 3 1 v (mergeN lt (total L) L).length (intsV (mergeN lt (total L) L)) ∧ Below w.heap.size w W' := by
  have h1 : 1 ≤ n := by omega
  obtain ⟨i0, hi, hz0, hz1, hz2⟩ := info_parts info3t
  have bO := Boxed.new w 27 (.slice none 0 0)
  have hB0 : Below w.heap.size w (w.alloc (.cells #[.slice none 0 0] 27)) := (Below.refl _ w).alloc (Nat.le_refl _) _
  have hz : (w.alloc (.cells #[.slice none 0 0] 27)).heap.size = w.heap.size + 1 := by simp
  have GV := Lib.hid (merge_gives8 (n - 1) (by omega) HL hL h hB0 (by rw [hz]; omega))
  have ML := mergeN_len lt (total L) L
  generalize mergeN lt (total L) L = out at *
  clear h
  refine callsIn_of_wp_marks Try.func26 rfl trivial ?_ rfl
  simp only [Try.ntmps26, List.size_toArray, List.length_cons, List.length_nil, Nat.reduceAdd, Nat.reduceSub, Array.replicate_succ, Array.replicate_zero, List.push_toArray, List.append_toArray, List.nil_append, List.cons_append]
  gi_wp2_with fail
  refine range_t h1 (gf := 65) (lb := #[.pointer (some ⟨kb, 0, none⟩), .pointer (some ⟨lb, 0, none⟩)]) rfl (enters_of Try.func65 (by kernel_rfl) rfl) GV.out (Below.refl _ _) (fun _ => rfl) kn_t (kn_b (by rw [hz]; omega)) (AllI w) (by rw [hz]; exact all_own w) (by rw [hz]; exact all_bears w) ⟨⟨_, bO, World.ownsRow_nil _ _ _ _⟩, hB0⟩
    (fun x => { tmps := #[.func (.func 65) #[] #[.pointer (some ⟨kb, 0, none⟩), .pointer (some ⟨lb, 0, none⟩)], undef, .slice none 0 0, .pointer (some ⟨w.heap.size, 0, none⟩), .int .i64 x, .func (.func 65) #[] #[.pointer (some ⟨kb, 0, none⟩), .pointer (some ⟨lb, 0, none⟩)], .int .i64 x, undef, undef, undef, undef, undef], defers := [] }) ?assign ?body ?done
  case assign =>
    intro lo x W K hK
    gi_wp2
    exact hK
  case body =>
    rintro lo pre x W ⟨⟨v, hv, hrow⟩, hB⟩ hlt
    have hn0 := hB.size
    have c1 := hv.cell
    gi_wp2_with (gi_at_builtin; refine wpListIn_append_own_at _ rfl (.tmp 7) (.tmp 9) 27 rfl w.heap.size 3 i0 (.int .i64 0) 1 8 Try.underlying27 hi hz0 hz1 hz2 rfl (by decide) _ _ _ rfl (hrow.alloc _) ⟨W.heap.size, 0, none⟩ 1 1 [.int .i64 x] rfl rfl (one_at _ _ _) (by simp [Value.oneCell']) (by unfold maxLen; omega) (by omega) (by simp; omega) ?_; intro v' w1 hown' hgrow _ hat; obtain ⟨g', cap', rfl⟩ := ownsRow_succ hown'; obtain ⟨q1, q2, q3, q4, q5⟩ := hv.appended (by decide) hrow hB.size (Nat.le_refl _) hown' hgrow; have qc := q1.cell; have qf := q1.frozen)
    have key : ∀ k, k < W.heap.size → k ≠ w.heap.size → v.ownBlock ≠ some k → (w1.setCell ⟨w.heap.size, 0, none⟩ (.slice (some ⟨g', 0, none⟩) (pre.length + 1) cap')).heap[k]? = W.heap[k]? := fun k hk h1 h2 => by
      rw [Below.heap_setCell _ _ _ _ (by exact h1), hgrow.block k (by simp; omega) (fun e => h2 e.symm)]
      exact Below.heap_alloc W _ k hk
    refine ⟨q4.from _, ⟨q4.size, fun k hk hc => ?_⟩, ⟨_, q2, by rw [show intsV (pre ++ [x]) = intsV pre ++ [.int .i64 x] by simp [intsV], List.length_append]; exact q3⟩, hB.trans q5⟩
    rcases hc with hc | ⟨cs, q, hc⟩
    · exact key k (by omega) hk (fun e => by have := (hrow.lt k e).1; omega)
    · exact key k (Array.getElem?_eq_some_iff.1 hc).1 hk (row_else hrow (by decide) hc)
  case done =>
    rintro D W hD ⟨⟨v, hv, hrow⟩, hB⟩ hK
    have hc := hv.cell
    gi_wp2
    refine ⟨by simp, .inl ⟨_, _, rfl, run_takeDeferred hK, ?_⟩⟩
    exact ⟨_, results_tmp rfl _ _ _, v, rfl, ownsRow_putObj hrow _ hK rfl, hB.trans (belowK_b (w := w) (Nat.le_refl _) W D _ _ (by omega) hK rfl rfl)⟩
theorem all_any8 {lt : Int → Int → Bool} (HL : Less 28 lt) {w : World} {kb lb : Nat} {L : List (List Int)} (hL : L.length ≤ 1000000) (hT : total L ≤ 1000000) (h : Mgd8 w kb lb L) :
    Calls Try.prog 26 #[.func (.func 65) #[] #[.pointer (some ⟨kb, 0, none⟩), .pointer (some ⟨lb, 0, none⟩)]] w fun e W' => ∃ v, e = .returned v ∧ W'.ownsRow w.heap.size 3 1 v (mergeN lt (total L) L).length (intsV (mergeN lt (total L) L)) ∧ Below w.heap.size w W' :=
  callsIn_wide.1 (all_in8 6 (Nat.le_refl _) HL hL hT h)

end Go.Proofs.Ytibmimdlgbhdnaa
