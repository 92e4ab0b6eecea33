/-
  What the shards tell: the walk of publish.
-/
import Derived.Test.YtepmealhnnoahaaRh
import Derived.Test.YtepmealhnnoahaaRangeA
namespace Go.Proofs.Ytepmealhnnoahaa
set_option linter.unusedSimpArgs false
open Go.ChangeShapes Go.WideShapes Go.ChangeAt Go.RowKit Go.Shelf
set_option linter.unusedVariables false
attribute [local go_sem] Oper.semAt_some
def hitsL (Os : List OutV) : List (List Ht) := Os.map (·.hits)
def mergedH (Os : List OutV) : List Ht := mergeN ltH (total (hitsL Os)) (hitsL Os)
def lostL (Os : List OutV) : List Int := (Os.map (·.lost)).flatten
/-- What a desk has behind an event. -/
def pubD (ou : Int) (S : Int → Option (List Fnd × Bool)) (Os : List OutV) : Int → Option (List Fnd × Bool) := losesD (putsD ou S (mergedH Os)) (lostL Os)
def pubG (ou : Int) (S : Int → Option (List Fnd × Bool)) (Os : List OutV) : List (Int × Int) := putsG ou S (mergedH Os)
structure OutsOk (Os : List OutV) (g : Nat) : Prop where
  n : Os.length ≤ 1000
  h : ∀ o ∈ Os, o.hits.length ≤ 1000
  l : ∀ o ∈ Os, o.lost.length ≤ 1000
  hw : ∀ o ∈ Os, ∀ x ∈ o.hits, (Lit.int .i64 x.id).wf = true
  lw : ∀ o ∈ Os, ∀ i ∈ o.lost, (Lit.int .i64 i).wf = true
  r : g + refSum (mergedH Os) ≤ 1000000
section
variable {Os : List OutV} {w : World} {d mb base : Nat} {qu ou : Int} {cnt m : Nat} {S : Int → Option (List Fnd × Bool)} {P : Nat → Prop} {gbase gb : Nat} {l : List (Int × Int)}
/-- One put more. -/
theorem pi_step (ok : OutsOk Os l.length) (hcnt : cnt + (mergedH Os).length + (lostL Os).length < maxLen) (hmb : mb < w.heap.size) {b3 b5 : Nat} {v : Value} {pre : List Ht} {x : Ht} (hx : ∃ r, pre ++ x :: r = mergedH Os) {W : World} (h : PI w d mb base qu ou cnt m S P gbase gb l b3 b5 v Os pre W) :
    Calls Try.prog 39 #[.pointer (some ⟨d, 0, none⟩), x.val, .func (.func 28) #[] #[.pointer (some ⟨gb, 0, none⟩)]] W fun e W' => e = .returned (.tuple #[]) ∧ PI w d mb base qu ou cnt m S P gbase gb l b3 b5 v Os (pre ++ [x]) W' ∧ KH W W' ∧ KeepsFrom w.heap.size W W' := by
  obtain ⟨r, hr⟩ := hx
  obtain ⟨P', hA, hO, hH, ⟨c3, B3⟩, c5, B5⟩ := h
  have hmem : x ∈ mergedH Os := by rw [← hr]; simp
  obtain ⟨hl, h1, h2⟩ := mergeN_mem _ _ _ _ hmem
  unfold hitsL at h1
  obtain ⟨o, ho, rfl⟩ := List.mem_map.1 h1
  have hlen : (mergedH Os).length = pre.length + 1 + r.length := by rw [← hr]; simp; omega
  have hrs : refSum (mergedH Os) = refSum pre + (x.f.refs.length + refSum r) := by rw [← hr, refSum_app]; rfl
  have h0 := Aft.refl hA.desk hA.gone hA.apart
  have hb := putsG_le ou pre S
  have hok := ok.r
  refine (hA.desk.put (ok.hw o ho x h2) (by omega) hA.gone hA.apart (hH o ho x h2) (by rw [List.length_append]; omega)).mono ?_
  rintro e W' ⟨rfl, P2, A1⟩
  have no : ∀ {b : Nat} {t : TypeId}, Blk W b t → (t ≠ 82 ∧ t ≠ 71 ∧ t ≠ 46 ∧ t ≠ 3 ∧ t ≠ 38 ∧ t ≠ 54) → ¬ (P' b ∨ b = gb ∨ GB W gb b) := fun hb ht => h0.no hb ht
  have A2 := hA.step A1
  rw [List.append_assoc, ← putsG_snoc, ← putsD_snoc] at A2
  refine ⟨rfl, ⟨P2, ?_, hO.aft h0 A1, hH.aft A1, ⟨A1.turn.cell (no B3 (by decide)) c3, B3.turn A1.turn (no B3 (by decide))⟩, A1.turn.cell (no B5 (by decide)) c5, B5.turn A1.turn (no B5 (by decide))⟩, kh_turn A1.turn (fun k t hb ht => no hb (by rcases ht with q | q | q | q <;> rw [q] <;> decide)), A1.turn.size, fun k o hk hko hoc => ?_⟩
  · rw [show cnt + (pre ++ [x]).length = cnt + pre.length + 1 by simp; omega]
    exact A2
  · refine (A1.turn.block k (Array.getElem?_eq_some_iff.1 hko).1 (fun q => ?_)).trans hko
    rcases q with q | q | q
    · rcases hA.desk.cells q with q | ⟨t, ⟨cs, hb⟩, _⟩
      · omega
      · rw [hko] at hb
        cases hb
        cases hoc
    · obtain ⟨cs, hb⟩ := hA.gone.gbl.2
      rw [← q, hko] at hb
      cases hb
      cases hoc
    · obtain ⟨cs, hb⟩ := (hA.gone.blk q).1
      rw [hko] at hb
      cases hb
      cases hoc
/-- What holds while queries are lost. -/
def PJ (w : World) (d mb base : Nat) (qu ou : Int) (cnt m : Nat) (S : Int → Option (List Fnd × Bool)) (P : Nat → Prop) (gbase gb : Nat) (l : List (Int × Int)) (b3 D : Nat) (v : Value) (Os : List OutV) (vl : Value) (lo lst : List Int) (W : World) : Prop :=
  ∃ P', Aft w W d mb base qu ou (cnt + lst.length) m (losesD S lst) P P' gbase gb l ∧ OutsAt W (Own3 P' W gb) v Os ∧ IntsAt W (Own3 P' W gb) vl lo ∧ (W.cell? ⟨b3, 0, none⟩ = some (.pointer (some ⟨d, 0, none⟩)) ∧ Blk W b3 25) ∧ W.heap[D]? = some (.deferred (some []))
theorem own3_none {P' : Nat → Prop} {W W' : World} {l' : List (Int × Int)} (hg : GoneAt W gbase gb l') (T : Turn (fun _ => False) W W') : ∀ k, Own3 P' W' gb k → Own3 P' W gb k := fun k q => by
  rcases q with q | q | q
  · exact .inl q
  · exact .inr (.inl q)
  · exact .inr (.inr (q.turn hg T id))
theorem pj_none {b3 D : Nat} {v : Value} {vl : Value} {lo lst : List Int} {W W' : World} (h : PJ w d mb base qu ou cnt m S P gbase gb l b3 D v Os vl lo lst W) (T : Turn (fun _ => False) W W') : PJ w d mb base qu ou cnt m S P gbase gb l b3 D v Os vl lo lst W' := by
  obtain ⟨P', hA, hO, hI, ⟨c3, B3⟩, hD⟩ := h
  have hN := own3_none (P' := P') hA.gone T
  exact ⟨P', hA.none T, hO.next T (fun _ _ q => q) (fun _ _ q => q) (fun _ _ _ q => q) (fun k q => .inl (hN k q)), hI.next T (fun _ _ _ q => q) (fun k q => .inl (hN k q)), ⟨T.cell id c3, B3.turn T id⟩, (T.block D (Array.getElem?_eq_some_iff.1 hD).1 id).trans hD⟩
theorem pj_step {b3 D : Nat} {v : Value} {vl : Value} {lo lst : List Int} {W : World} (h : PJ w d mb base qu ou cnt m S P gbase gb l b3 D v Os vl lo lst W) (hmb : mb < w.heap.size) (hwD : w.heap.size ≤ D) {i : Int} (hi : (Lit.int .i64 i).wf = true) (hc : cnt + lst.length < maxLen) :
    Calls Try.prog 40 #[.pointer (some ⟨d, 0, none⟩), .int .i64 i] W fun e W' => e = .returned (.tuple #[]) ∧ PJ w d mb base qu ou cnt m S P gbase gb l b3 D v Os vl lo (lst ++ [i]) W' := by
  obtain ⟨P', hA, hO, hI, ⟨c3, B3⟩, hD⟩ := h
  refine (hA.desk.lose hi hc).mono ?_
  rintro e W' ⟨rfl, hd, T⟩
  have pm := hA.desk.pm
  have nm := hA.apart mb pm
  obtain ⟨g1, g2⟩ := gone_same hA.gone T (fun q => nm.1 q.symm) (fun k g q => nm.2 (q ▸ g))
  have A1 : Aft W W' d mb base qu ou (cnt + lst.length + 1) m (loseD (losesD S lst) i) P' P' gbase gb l := ⟨hd, g1, T.more (fun k _ q => .inl (by rw [q]; exact pm)), fun k p => .inl p, fun k g => .inl (g2 k g), fun k p => ⟨(hA.apart k p).1, fun g => (hA.apart k p).2 (g2 k g)⟩, fun k p t => T.block k t.lt (fun q => by
    obtain ⟨⟨Q, F, M, c, _, h2, _⟩, _, _⟩ := hA.desk
    exact t.nmb h2 q), hA.apart⟩
  have h0 := Aft.refl hA.desk hA.gone hA.apart
  have no : ∀ {b : Nat} {t : TypeId}, Blk W b t → (t ≠ 82 ∧ t ≠ 71 ∧ t ≠ 46 ∧ t ≠ 3 ∧ t ≠ 38 ∧ t ≠ 54) → ¬ (P' b ∨ b = gb ∨ GB W gb b) := fun hb ht => h0.no hb ht
  have A2 := hA.step A1
  rw [← losesD_snoc] at A2
  refine ⟨rfl, P', ?_, hO.aft h0 A1, hI.next A1.turn (fun k _ n => n) A1.own3, ⟨A1.turn.cell (no B3 (by decide)) c3, B3.turn A1.turn (no B3 (by decide))⟩, (T.block D (Array.getElem?_eq_some_iff.1 hD).1 (by omega)).trans hD⟩
  rw [show cnt + (lst ++ [i]).length = cnt + lst.length + 1 by simp; omega]
  exact A2
theorem pj_swap {b3 D : Nat} {v : Value} {vl vl' : Value} {lo lo' lst : List Int} {W : World} (h : PJ w d mb base qu ou cnt m S P gbase gb l b3 D v Os vl lo lst W) (h2 : ∀ P', OutsAt W (Own3 P' W gb) v Os → IntsAt W (Own3 P' W gb) vl' lo') : PJ w d mb base qu ou cnt m S P gbase gb l b3 D v Os vl' lo' lst W := by
  obtain ⟨P', hA, hO, hI, hc, hD⟩ := h
  exact ⟨P', hA, hO, h2 P' hO, hc, hD⟩
theorem lostL_step {j : Nat} {o : OutV} (h : Os[j]? = some o) : lostL (Os.take (j + 1)) = lostL (Os.take j) ++ o.lost := by
  unfold lostL
  rw [List.take_add_one, h]
  simp
theorem lostL_take (j : Nat) : (lostL (Os.take j)).length ≤ (lostL Os).length := by
  have : lostL Os = lostL (Os.take j) ++ lostL (Os.drop j) := by
    unfold lostL
    rw [← List.flatten_append, ← List.map_append, List.take_append_drop]
  rw [this]
  simp
theorem int_step {L : List Int} {i : Nat} {x : Int} (h : L[i]? = some x) (l : List Int) : (l ++ L.take i) ++ [x] = l ++ L.take (i + 1) := by
  rw [List.take_add_one, h, List.append_assoc]
  rfl
set_option maxRecDepth 100000 in
set_option maxHeartbeats 4000000 in
theorem DAt.publish_in (n : Nat) (hn : 6 ≤ n) (h : DAt w d mb base qu ou cnt m S P) (hg : GoneAt w gbase gb l) (hgp : ∀ k, P k → k ≠ gb ∧ ¬ GB w gb k) {v : Value} (ho : OutsAt w (Own3 P w gb) v Os) (hf : HitsAt w (Own3 P w gb) Os)
    (ok : OutsOk Os l.length) (hcnt : cnt + (mergedH Os).length + (lostL Os).length < maxLen) :
    CallsIn Fence.wide n Try.prog 31 #[.pointer (some ⟨d, 0, none⟩), v, .func (.func 28) #[] #[.pointer (some ⟨gb, 0, none⟩)]] w fun e w' => e = .returned (.tuple #[]) ∧ ∃ P', Aft w w' d mb base qu ou (cnt + (mergedH Os).length + (lostL Os).length) m (pubD ou S Os) P P' gbase gb (l ++ pubG ou S Os) := by
  have hmb := h.lt h.pm
  have A0 := Aft.refl h hg hgp
  obtain ⟨W0, hW0⟩ : ∃ W0, W0 = (w.alloc (.cells #[.pointer (some ⟨d, 0, none⟩)] 25)).alloc (.cells #[.func (.func 28) #[] #[.pointer (some ⟨gb, 0, none⟩)]] 84) := ⟨_, rfl⟩
  have T0 : Turn (fun _ => False) w W0 := by rw [hW0]; exact ((Turn.refl _ w).alloc _).alloc _
  have B3 : Blk W0 w.heap.size 25 := by rw [hW0]; exact (Blk.new w [.pointer (some ⟨d, 0, none⟩)] 25).turn ((Turn.refl (fun _ => False) _).alloc _) id
  have B5 : Blk W0 (w.heap.size + 1) 84 := by
    rw [hW0]
    have := Blk.new (w.alloc (.cells #[.pointer (some ⟨d, 0, none⟩)] 25)) [.func (.func 28) #[] #[.pointer (some ⟨gb, 0, none⟩)]] 84
    simpa using this
  have c3 : W0.cell? ⟨w.heap.size, 0, none⟩ = some (.pointer (some ⟨d, 0, none⟩)) := by rw [hW0]; exact past (range_new w [.pointer (some ⟨d, 0, none⟩)] 25 0 _ rfl)
  have c5 : W0.cell? ⟨w.heap.size + 1, 0, none⟩ = some (.func (.func 28) #[] #[.pointer (some ⟨gb, 0, none⟩)]) := by
    rw [hW0]
    simp
  have hb3 := B3.lt
  have hb5 := B5.lt
  have PI0 : PI w d mb base qu ou cnt m S P gbase gb l w.heap.size (w.heap.size + 1) v Os [] W0 := by
    refine ⟨P, ?_, (ho.aft A0 (A0.none T0)), hf.aft (A0.none T0), ⟨c3, B3⟩, c5, B5⟩
    have := A0.none T0
    simpa [putsD, putsG] using this
  have R0 : G1 W0 0 0 0 0 0 Os (.slice none 0 0) (.int .i64 0) W0 := ⟨0, rfl, Nat.zero_le _, Turn.refl _ _, HSt.nil _ _⟩
  have K := Lib.hid (And.intro PI0 (And.intro ok (And.intro hcnt hmb)))
  have KO := Lib.hid (ho.aft A0 (A0.none T0))
  obtain ⟨oa, ob, off, ocap, rfl, o1, _⟩ := ho
  clear PI0 ok hcnt hmb A0 T0 B3 B5 c3 c5 h hg hgp hf
  refine callsIn_of_wp_marks Try.func31 rfl trivial ?_ rfl
  simp only [Try.ntmps31, List.size_toArray, List.length_cons, List.length_nil, Nat.reduceAdd, Nat.reduceSub, Array.replicate_succ, Array.replicate_zero, List.push_toArray, List.append_toArray, List.nil_append, List.cons_append]
  gi_wp2_with fail
  rw [← hW0]
  clear hW0
  gi_loopw [6, 16] (fun v6 v16 wr => G1 W0 0 0 0 0 0 Os v6 v16 wr) (fun _ v16 _ => Os.length - (intOf v16).toNat)
  case atStart => exact R0
  case round =>
    clear R0
    obtain ⟨j, rfl, hj, T, hs⟩ := hrel
    by_cases hjl : j < Os.length
    · have u1 : decide ((j : Int) < (Os.length : Int)) = true := decide_eq_true (by omega)
      have u2 : decide (j < Os.length) = true := decide_eq_true hjl
      obtain ⟨a, b, of, cap, e, h1, h2⟩ := KO.out
      simp only [Value.slice.injEq, true_and] at e
      obtain ⟨rfl, rfl⟩ := e
      obtain ⟨rfl, hb68⟩ := h1.resolve_left (fun e => by rw [e] at hjl; simp at hjl)
      obtain ⟨o, hoj⟩ : ∃ o, Os[j]? = some o := ⟨_, List.getElem?_eq_getElem hjl⟩
      obtain ⟨vh, vl, ua, un, uc, da, dn, dc, hr, hrow, hints⟩ := h2 j o hoj
      have y0 : wr.cell? ⟨b, of + j * 4, none⟩ = some vh := T.cell id (hr 0 _ rfl)
      have y1 : wr.cell? ⟨b, of + j * 4 + 1, none⟩ = some vl := T.cell id (hr 1 _ rfl)
      have y2 : wr.cell? ⟨b, of + j * 4 + 2, none⟩ = some (.slice ua un uc) := T.cell id (hr 2 _ rfl)
      have y3 : wr.cell? ⟨b, of + j * 4 + 3, none⟩ = some (.slice da dn dc) := T.cell id (hr 3 _ rfl)
      have hrow := hrow.turn T
      obtain ⟨ha, hn, hc, rfl⟩ : ∃ ha hn hc, vh = .slice ha hn hc := by obtain ⟨a, _, _, c, e, _⟩ := hrow; exact ⟨a, _, c, e⟩
      obtain ⟨la, ln, lc, rfl⟩ : ∃ la ln lc, vl = .slice la ln lc := by obtain ⟨a, _, _, c, e, _⟩ := hints; exact ⟨a, _, c, e⟩
      have TA : Turn (fun _ => False) wr (wr.alloc (.cells #[.slice ha hn hc, .slice la ln lc, .slice ua un uc, .slice da dn dc] 68)) := (Turn.refl _ wr).alloc _
      have p0 : (wr.alloc (.cells #[.slice ha hn hc, .slice la ln lc, .slice ua un uc, .slice da dn dc] 68)).cell? ⟨wr.heap.size, 0, none⟩ = some (.slice ha hn hc) := range_new wr [.slice ha hn hc, .slice la ln lc, .slice ua un uc, .slice da dn dc] 68 0 _ rfl
      have hs4 : HSt W0.heap.size (wr.alloc (.cells #[.slice ha hn hc, .slice la ln lc, .slice ua un uc, .slice da dn dc] 68)) _ _ := hs.turn TA
      have hsz : ((List.take j Os).map (·.hits)).length ≤ 1000000 := by have := K.out.2.1.n; simp; omega
      obtain ⟨v', W2, RUN, hs5, T5, hv5⟩ := hs4.add (Nat.le_trans T.size TA.size) hsz (hrow.turn TA)
      rw [World.size_alloc] at RUN
      have RUN := Lib.hid RUN
      have TT : Turn (fun _ => False) W0 W2 := (T.trans TA).comp T5 (fun k hk e => by
        obtain ⟨xs, ho, _⟩ := hs4
        have := (ho.lt k e).1
        omega)
      have R' : G1 W0 0 0 0 0 0 Os v' (.int .i64 ((j : Int) + 1)) W2 := ⟨j + 1, by go_num, by omega, TT, by
        rw [List.take_add_one, hoj, List.map_append]
        exact hs5⟩
      have j0 : (0 : Int) ≤ (j : Int) := by omega
      have j1 : (j : Int) < (Os.length : Int) := by omega
      have jn : j ≤ 1000 := by have := K.out.2.1.n; omega
      have GJ := Lib.hid hjl
      clear h2 hoj hr hrow hints TA hs4 hsz hs5 T5 hv5 TT hs T hj o1 hjl
      gi_wp2_with (gi_at_builtin; refine ri_append_run (by rfl) _ _ _ (by rfl) (by rfl) (by rfl) RUN.out ?_)
      go_roundw
      case rel => exact R'
      case measure => have := GJ.out; simp [intOf]; omega
    · obtain rfl : j = Os.length := by omega
      have u1 : decide ((Os.length : Int) < (Os.length : Int)) = false := decide_eq_false (by omega)
      have u2 : decide (Os.length < Os.length) = false := decide_eq_false (by omega)
      rw [List.take_length] at hs
      have hL : (hitsL Os).length ≤ 1000000 := by unfold hitsL; rw [List.length_map]; have := K.out.2.1.n; omega
      have MC := Lib.hid (merge_is (L := hitsL Os) hs.rows hL (fun x hx => by
        unfold hitsL at hx
        obtain ⟨o, ho, rfl⟩ := List.mem_map.1 hx
        have := K.out.2.1.h o ho
        omega))
      have HT := Lib.hid (And.intro T hL)
      clear hs hj hjl T hL
      gi_wp2_with fail
      refine ⟨trivial, fun _ => by omega, ?_⟩
      refine (callsIn_wide.2 MC.out).mono ?_
      clear MC
      rintro en W1 ⟨rfl, hM⟩
      have MG := Lib.hid (mgd_of hM)
      have T1 : Turn (fun _ => False) wr W1 := by obtain ⟨_, _, _, _, _, _, _, _, _, _, T, _⟩ := hM; exact T
      have PI1 := K.out.1.none (HT.out.1.trans T1)
      have hB : w.heap.size ≤ W1.heap.size := by obtain ⟨_, hA, _⟩ := PI1; exact hA.turn.size
      clear hM
      generalize wr.heap.size + 2 = kb at *
      generalize wr.heap.size = lb at *
      gi_wp2_with fail
      have GV := merge_gives (n - 1) (by omega) HT.out.2 MG.out
      obtain ⟨AS, hAS⟩ : ∃ AS : Ht → Act → World → Prop, AS = fun x a' W => ∃ b, a' = Act.mk #[Value.pointer (some ⟨d, 0, none⟩), Value.slice oa Os.length ocap,
          Value.func (Fn.func 28) #[] #[Value.pointer (some ⟨gb, 0, none⟩)],
          Value.pointer (some ⟨w.heap.size, 0, none⟩), undef,
          Value.pointer (some ⟨w.heap.size + 1, 0, none⟩), u6, undef, u8, Value.pointer (some ⟨b, 0, none⟩), undef, undef, undef, undef,
          Value.slice oa Os.length ocap, Value.int IntKind.i64 ↑Os.length, Value.int IntKind.i64 ↑Os.length,
          Value.bool false, u18, u19, u20, u21, u22, u23, u24, u25, u6,
          Value.func (Fn.func 45) #[]
            #[Value.pointer (some ⟨kb, 0, none⟩), Value.pointer (some ⟨lb, 0, none⟩)],
          x.val, undef, undef, undef, undef, undef, undef, undef, undef, undef, undef, undef, undef, undef, undef,
          undef, undef, undef, undef, undef, undef, undef, undef] [] ∧ Blk W b 73 ∧ W.rangeAt b 0 x.cells := ⟨_, rfl⟩
      refine range_a (n := n) (e := 66) (by omega) (gf := 45) (lb := #[.pointer (some ⟨kb, 0, none⟩), .pointer (some ⟨lb, 0, none⟩)]) rfl (enters_of Try.func45 (by kernel_rfl) rfl) GV (Below.refl _ _) (fun _ => rfl) kh_t (fun W l o o' _ h1 h2 => kh_b W l o o' h1 h2) (fun hg => kh_turn (S := fun _ => False) ⟨hg.os, hg.tape, hg.output, hg.size, fun k hk _ => hg.block k hk (by simp)⟩ (fun _ _ _ _ q => q)) AS ?has (fun pre W => PI w d mb base qu ou cnt m S P gbase gb l w.heap.size (w.heap.size + 1) (.slice oa Os.length ocap) Os pre W) (pi_own K.out.2.2.2 hB) (pi_bears K.out.2.2.2 hB) PI1 ?assign ?body ?done
      case has =>
        rw [hAS]
        rintro x a' W l' o o' ⟨b, rfl, hb, hr⟩ h1 h2
        have hne : b ≠ l' := fun e => by
          subst e
          obtain ⟨cs, hb⟩ := hb
          rw [h1] at hb
          cases hb
          cases h2
        have T := putObj_turn W l' o'
        exact ⟨b, rfl, hb.turn T hne, range_turn hr T hne⟩
      case assign =>
        intro lo x W K' hK
        have hK := Lib.hid hK
        have TA : Turn (fun _ => False) W (W.alloc (.cells #[.int .i64 x.id, .slice x.sa x.sn x.sc, .slice x.ra x.rn x.rc] 73)) := (Turn.refl _ W).alloc _
        unfold Ht.val
        gi_wp2
        refine hK.out _ _ (World.grownBy_alloc W _ none) ?_
        rw [hAS]
        exact ⟨W.heap.size, rfl, Blk.new W [.int .i64 x.id, .slice x.sa x.sn x.sc, .slice x.ra x.rn x.rc] 73, range_new W [.int .i64 x.id, .slice x.sa x.sn x.sc, .slice x.ra x.rn x.rc] 73⟩
      case body =>
        rw [hAS]
        rintro lo pre x a' W hPI ⟨b, rfl, hb, hr⟩ hx
        have PUT := Lib.hid (pi_step K.out.2.1 K.out.2.2.1 K.out.2.2.2 hx hPI)
        obtain ⟨P', hA, hO, hH, ⟨c3, B3⟩, c5, B5⟩ := hPI
        have z0 : W.cell? ⟨b, 0, none⟩ = some (.int .i64 x.id) := hr 0 _ rfl
        have z1 : W.cell? ⟨b, 1, none⟩ = some (.slice x.sa x.sn x.sc) := hr 1 _ rfl
        have z2 : W.cell? ⟨b, 2, none⟩ = some (.slice x.ra x.rn x.rc) := hr 2 _ rfl
        clear hA hO hH B3 B5 hr hx
        gi_wp2_with fail
        refine ⟨trivial, fun _ => by omega, (CallsIn.inRound lo (callsIn_wide.2 PUT.out)).mono ?_⟩
        rintro en W2 ⟨rfl, hPI2, hKH, hKF⟩
        gi_wp2_with fail
        exact ⟨⟨hKF.size, fun k o hk => hKF.same k o (by omega)⟩, hKH, hPI2⟩
      case done =>
        rintro D W hD hPI hK
        clear hAS GV AS PI1
        have J0 : PJ w d mb base qu ou (cnt + (mergedH Os).length) m (putsD ou S (mergedH Os)) P gbase gb (l ++ putsG ou S (mergedH Os)) w.heap.size D (.slice oa Os.length ocap) Os (.slice none 0 0) [] [] W := by
          obtain ⟨P', hA, hO, hH, hc3, c5, B5⟩ := hPI
          exact ⟨P', hA, hO, ⟨none, 0, 0, 0, rfl, .inl rfl, fun j x h => by simp at h⟩, hc3, hK⟩
        have hwD : w.heap.size ≤ D := by omega
        clear hPI hK
        gi_wp2_with fail
        gi_loopw [35] (fun v35 wr => ∃ j : Nat, v35 = .int .i64 (j : Int) ∧ j ≤ Os.length ∧ PJ w d mb base qu ou (cnt + (mergedH Os).length) m (putsD ou S (mergedH Os)) P gbase gb (l ++ putsG ou S (mergedH Os)) w.heap.size D (.slice oa Os.length ocap) Os (.slice none 0 0) [] (lostL (Os.take j)) wr) (fun v35 _ => Os.length - (intOf v35).toNat)
        case atStart => exact ⟨0, rfl, Nat.zero_le _, J0⟩
        case round =>
          clear J0
          obtain ⟨j, rfl, hj, hJ⟩ := hrel
          by_cases hjl : j < Os.length
          · have u1 : decide ((j : Int) < (Os.length : Int)) = true := decide_eq_true (by omega)
            have u2 : decide (j < Os.length) = true := decide_eq_true hjl
            obtain ⟨o, hoj⟩ : ∃ o, Os[j]? = some o := ⟨_, List.getElem?_eq_getElem hjl⟩
            have hJ2 := hJ
            obtain ⟨P', hA, ⟨a, b, of, cap, e, h1, h2⟩, hI, hc3, hDD⟩ := hJ2
            simp only [Value.slice.injEq, true_and] at e
            obtain ⟨rfl, rfl⟩ := e
            obtain ⟨rfl, hb68⟩ := h1.resolve_left (fun e => by rw [e] at hjl; simp at hjl)
            obtain ⟨vh, vl, ua, un, uc, da, dn, dc, hr, hrow, hints⟩ := h2 j o hoj
            have y0 : wr.cell? ⟨b, of + j * 4, none⟩ = some vh := hr 0 _ rfl
            have y1 : wr.cell? ⟨b, of + j * 4 + 1, none⟩ = some vl := hr 1 _ rfl
            have y2 : wr.cell? ⟨b, of + j * 4 + 2, none⟩ = some (.slice ua un uc) := hr 2 _ rfl
            have y3 : wr.cell? ⟨b, of + j * 4 + 3, none⟩ = some (.slice da dn dc) := hr 3 _ rfl
            obtain ⟨ha, hn, hc, rfl⟩ : ∃ ha hn hc, vh = .slice ha hn hc := by obtain ⟨a, _, _, c, e, _⟩ := hrow; exact ⟨a, _, c, e⟩
            obtain ⟨la, lc, rfl⟩ : ∃ la lc, vl = .slice la o.lost.length lc := by obtain ⟨a, _, _, c, e, _⟩ := hints; exact ⟨a, c, e⟩
            have TA : Turn (fun _ => False) wr (wr.alloc (.cells #[.slice ha hn hc, .slice la o.lost.length lc, .slice ua un uc, .slice da dn dc] 68)) := (Turn.refl _ wr).alloc _
            have p1 : (wr.alloc (.cells #[.slice ha hn hc, .slice la o.lost.length lc, .slice ua un uc, .slice da dn dc] 68)).cell? ⟨wr.heap.size, 1, none⟩ = some (.slice la o.lost.length lc) := by
              have := range_new wr [.slice ha hn hc, .slice la o.lost.length lc, .slice ua un uc, .slice da dn dc] 68 1 _ rfl
              rw [Nat.zero_add] at this
              exact this
            have hJ3 : PJ w d mb base qu ou (cnt + (mergedH Os).length) m (putsD ou S (mergedH Os)) P gbase gb (l ++ putsG ou S (mergedH Os)) w.heap.size D (.slice (some ⟨b, of, none⟩) Os.length ocap) Os (.slice la o.lost.length lc) o.lost (lostL (List.take j Os) ++ o.lost.take 0) (wr.alloc (.cells #[.slice ha hn hc, .slice la o.lost.length lc, .slice ua un uc, .slice da dn dc] 68)) := by
              rw [List.take_zero, List.append_nil]
              refine pj_none ?_ TA
              exact ⟨P', hA, ⟨_, b, of, ocap, rfl, h1, h2⟩, hints, hc3, hDD⟩
            have j0 : (0 : Int) ≤ (j : Int) := by omega
            have j1 : (j : Int) < (Os.length : Int) := by omega
            have jn : j ≤ 1000 := by have := K.out.2.1.n; omega
            have hll := K.out.2.1.l o (List.mem_of_getElem? hoj)
            have LW := Lib.hid (K.out.2.1.lw o (List.mem_of_getElem? hoj))
            have LEN := Lib.hid (show (lostL (List.take j Os)).length + o.lost.length ≤ (lostL Os).length from by
              have := lostL_take (Os := Os) (j + 1)
              rw [lostL_step hoj, List.length_append] at this
              exact this)
            have GO := Lib.hid (And.intro hoj hjl)
            clear hJ hA hI h1 h2 hr hrow hints hc3 hDD hoj hb68 hj hjl TA
            gi_wp2_with fail
            gi_loopw [42] (fun v42 wr => ∃ i : Nat, v42 = .int .i64 (i : Int) ∧ i ≤ o.lost.length ∧ PJ w d mb base qu ou (cnt + (mergedH Os).length) m (putsD ou S (mergedH Os)) P gbase gb (l ++ putsG ou S (mergedH Os)) w.heap.size D (.slice (some ⟨b, of, none⟩) Os.length ocap) Os (.slice la o.lost.length lc) o.lost (lostL (List.take j Os) ++ o.lost.take i) wr) (fun v42 _ => o.lost.length - (intOf v42).toNat)
            case atStart => exact ⟨0, rfl, Nat.zero_le _, hJ3⟩
            case round =>
              clear hJ3 y0 y1 y2 y3 p1
              obtain ⟨i, rfl, hi, hJ⟩ := hrel
              by_cases hil : i < o.lost.length
              · have v1 : decide ((i : Int) < (o.lost.length : Int)) = true := decide_eq_true (by omega)
                have v2 : decide (i < o.lost.length) = true := decide_eq_true hil
                obtain ⟨x, hx⟩ : ∃ x, o.lost[i]? = some x := ⟨_, List.getElem?_eq_getElem hil⟩
                have ST := pj_step hJ K.out.2.2.2 hwD (i := x) (LW.out x (List.mem_of_getElem? hx)) (by
                  have := K.out.2.2.1
                  have := LEN.out
                  simp only [List.length_append, List.length_take]
                  omega)
                rw [int_step hx] at ST
                have ST := Lib.hid ST
                obtain ⟨P2, hA, hO, ⟨a, b2, of2, cap, e, h1, h2⟩, ⟨c3, B3⟩, hDD⟩ := hJ
                simp only [Value.slice.injEq, true_and] at e
                obtain ⟨rfl, rfl⟩ := e
                obtain ⟨rfl, -⟩ := h1.resolve_left (fun e => by rw [e] at hil; simp at hil)
                have z0 := h2 i x hx
                have i0 : (0 : Int) ≤ (i : Int) := by omega
                have i1 : (i : Int) < (o.lost.length : Int) := by omega
                have iN : i ≤ 1000 := by omega
                have HI := Lib.hid hil
                clear hA hO h1 h2 B3 hDD hx hi hil
                gi_wp2_with fail
                refine ⟨trivial, fun _ => by omega, (callsIn_wide.2 ST.out).mono ?_⟩
                clear ST
                rintro en W2 ⟨rfl, hJ2⟩
                gi_wp2_with fail
                go_roundw
                case rel => exact ⟨i + 1, by go_num, by have := HI.out; omega, hJ2⟩
                case measure => have := HI.out; simp [intOf]; omega
              · obtain rfl : i = o.lost.length := by omega
                have v1 : decide ((o.lost.length : Int) < (o.lost.length : Int)) = false := decide_eq_false (by omega)
                have v2 : decide (o.lost.length < o.lost.length) = false := decide_eq_false (by omega)
                rw [List.take_length, ← lostL_step GO.out.1] at hJ
                have hJ := Lib.hid (pj_swap hJ (vl' := .slice none 0 0) (lo' := []) (fun P' _ => ⟨none, 0, 0, 0, rfl, .inl rfl, fun j x h => by simp at h⟩))
                clear hi hil
                gi_wp2_with fail
                go_roundw
                case rel => exact ⟨j + 1, by go_num, by have := GO.out.2; omega, hJ.out⟩
                case measure => have := GO.out.2; simp [intOf]; omega
          · obtain rfl : j = Os.length := by omega
            have u1 : decide ((Os.length : Int) < (Os.length : Int)) = false := decide_eq_false (by omega)
            have u2 : decide (Os.length < Os.length) = false := decide_eq_false (by omega)
            rw [List.take_length] at hJ
            obtain ⟨P', hA, _, _, _, hDD⟩ := hJ
            have F := Lib.hid (And.intro hA hDD)
            clear hA hDD hj hjl
            gi_wp2_with fail
            refine ⟨by simp, .inl ⟨_, _, rfl, run_takeDeferred F.out.2, ?_⟩⟩
            refine ⟨_, results_none rfl _ _ _, rfl, P', ?_⟩
            obtain ⟨hA, hDD⟩ := F.out
            have nD : ∀ {k : Nat} {t : TypeId}, Blk wr k t → k ≠ D := fun hb e => by
              subst e
              obtain ⟨cs, hb⟩ := hb
              rw [hDD] at hb
              cases hb
            have hmb := K.out.2.2.2
            exact hA.quiet (putObj_turn _ D _) (fun k p e => by
              rcases hA.desk.cells p with q | ⟨t, hb, _⟩
              · omega
              · exact nD hb e) (nD hA.gone.gbl.2) (fun k g => nD (hA.gone.blk g).1) (fun k hk e => by omega)
theorem DAt.publish (h : DAt w d mb base qu ou cnt m S P) (hg : GoneAt w gbase gb l) (hgp : ∀ k, P k → k ≠ gb ∧ ¬ GB w gb k) {v : Value} (ho : OutsAt w (Own3 P w gb) v Os) (hf : HitsAt w (Own3 P w gb) Os)
    (ok : OutsOk Os l.length) (hcnt : cnt + (mergedH Os).length + (lostL Os).length < maxLen) :
    Calls Try.prog 31 #[.pointer (some ⟨d, 0, none⟩), v, .func (.func 28) #[] #[.pointer (some ⟨gb, 0, none⟩)]] w fun e w' => e = .returned (.tuple #[]) ∧ ∃ P', Aft w w' d mb base qu ou (cnt + (mergedH Os).length + (lostL Os).length) m (pubD ou S Os) P P' gbase gb (l ++ pubG ou S Os) :=
  callsIn_wide.1 (DAt.publish_in 6 (Nat.le_refl _) h hg hgp ho hf ok hcnt)
end
end Go.Proofs.Ytepmealhnnoahaa
