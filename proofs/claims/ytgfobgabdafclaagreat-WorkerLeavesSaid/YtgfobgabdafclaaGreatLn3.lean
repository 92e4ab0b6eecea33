/-
  A new log.
-/
import Derived.Test.YtgfobgabdafclaaGreatLn2
namespace Go.Proofs.YtgfobgabdafclaaGreat
open Go.ChangeShapes Go.WideShapes Go.ChangeAt Go.RowKit
set_option linter.unusedVariables false
def wcells : List Nat → List Value
  | [] => []
  | r :: l => [.int .i64 0, .bool false, .pointer (some ⟨r, 0, none⟩)] ++ wcells l
theorem wcells_len : ∀ l : List Nat, (wcells l).length = l.length * 3
  | [] => rfl
  | v :: l => by simp [wcells, wcells_len l]; omega
theorem wcells_app : ∀ (l m : List Nat), wcells (l ++ m) = wcells l ++ wcells m
  | [], m => rfl
  | v :: l, m => by simp [wcells, wcells_app l m]
theorem wcells_at : ∀ (l : List Nat) (k r : Nat), l[k]? = some r → (wcells l)[k * 3]? = some (.int .i64 0) ∧ (wcells l)[k * 3 + 1]? = some (.bool false) ∧ (wcells l)[k * 3 + 2]? = some (.pointer (some ⟨r, 0, none⟩))
  | [], k, r, h => by simp at h
  | x :: l, 0, r, h => by
    simp at h
    subst h
    exact ⟨rfl, rfl, rfl⟩
  | x :: l, k + 1, r, h => by
    have ih := wcells_at l k r (by simpa using h)
    have e1 : ∀ j, (wcells (x :: l))[(k + 1) * 3 + j]? = (wcells l)[k * 3 + j]? := fun j => by
      show ([_, _, _] ++ wcells l)[(k + 1) * 3 + j]? = _
      rw [List.getElem?_append_right (by simp; omega)]
      congr 1
      simp
      omega
    exact ⟨(e1 0).trans ih.1, (e1 1).trans ih.2.1, (e1 2).trans ih.2.2⟩
/-- A log that is being made: k workers are there. -/
structure NewSt (w wr : World) (c : Cf) (lb rc pc mb k : Nat) (v : Value) (rs ps : List Nat) : Prop where
  bl : Blk wr lb 133
  k0 : wr.cell? ⟨lb, 0, none⟩ = some (.int .i64 (c.sh : Int))
  k1 : wr.cell? ⟨lb, 1, none⟩ = some (.int .i64 (c.ib : Int))
  k2 : wr.cell? ⟨lb, 2, none⟩ = some (.int .i64 c.sl)
  k3 : wr.cell? ⟨lb, 3, none⟩ = some (.int .i64 c.qu)
  k4 : wr.cell? ⟨lb, 4, none⟩ = some (.int .i64 c.ru)
  k5 : wr.cell? ⟨lb, 5, none⟩ = some (.int .i64 c.ou)
  k6 : wr.cell? ⟨lb, 6, none⟩ = some (.int .i64 c.st)
  ke : ∃ p0 ex el, wr.cell? ⟨lb, 7, none⟩ = some (.pointer (some p0)) ∧ wr.cell? ⟨lb, 8, none⟩ = some (.pointer (some ⟨ex, 0, none⟩)) ∧ EpA wr ex el (c.sh + 1) 0 (fun _ => -1) ∧ w.heap.size ≤ ex ∧ w.heap.size ≤ el
  k9 : wr.cell? ⟨lb, 9, none⟩ = some (.int .i64 0)
  k10 : wr.cell? ⟨lb, 10, none⟩ = some (.bool false)
  k11 : wr.cell? ⟨lb, 11, none⟩ = some (.pointer (some ⟨rc, 0, none⟩))
  k12 : wr.cell? ⟨lb, 12, none⟩ = some v
  k13 : wr.cell? ⟨lb, 13, none⟩ = some (.map (some mb))
  com : CR wr rc pc c.ib 0 (fun _ => none)
  ans : Nds Tryz.prog 3 wr mb 0 0 (fun _ => none)
  row : wr.ownsRow w.heap.size 137 3 v k (wcells rs)
  lr : rs.length = k
  lp : ps.length = k
  outs : ∀ (i r p : Nat), rs[i]? = some r → ps[i]? = some p → OR wr r p c.ib 0 (fun _ => none) ∧ w.heap.size ≤ r ∧ w.heap.size ≤ p
  ap : rs.Nodup ∧ ps.Nodup
  lo : w.heap.size ≤ lb ∧ w.heap.size ≤ rc ∧ w.heap.size ≤ pc ∧ w.heap.size ≤ mb
  tn : Turn (fun _ => False) w wr
theorem wp_makemap {P : Program} {op : Oper} {a : Act} {w : World} {K : Act → World → Prop} {Q : Exit → Act → World → Prop} (t : TypeId) (ho : op.op = .makeMap t none) (h : K (a.put op.dst (.map (some w.heap.size))) (w.alloc (.map #[] 0))) : op.wp P a w K Q := by
  have hr : (Instr.makeMap t none).run P w = .ok (.map (some w.heap.size)) (w.alloc (.map #[] 0)) := rfl
  unfold Oper.wp execOp
  simp only [ho, Option.map_none, Sem.run_bind, Sem.run_pure, Result.andThen_ok, hr]
  exact h
theorem NewSt.turn {w wr w' : World} {c : Cf} {lb rc pc mb k : Nat} {v : Value} {rs ps : List Nat} (h : NewSt w wr c lb rc pc mb k v rs ps) (T : Turn (fun _ => False) wr w') : NewSt w w' c lb rc pc mb k v rs ps := by
  have n := fun (_ : Nat) (f : False) => f
  exact ⟨h.bl.turn T (fun f => f), T.cell (fun f => f) h.k0, T.cell (fun f => f) h.k1, T.cell (fun f => f) h.k2, T.cell (fun f => f) h.k3, T.cell (fun f => f) h.k4, T.cell (fun f => f) h.k5, T.cell (fun f => f) h.k6, (by obtain ⟨p0, ex, el, e7, e8, EA, hx, hl⟩ := h.ke; exact ⟨p0, ex, el, T.cell (fun f => f) e7, T.cell (fun f => f) e8, EA.same T, hx, hl⟩), T.cell (fun f => f) h.k9, T.cell (fun f => f) h.k10, T.cell (fun f => f) h.k11, T.cell (fun f => f) h.k12, T.cell (fun f => f) h.k13,
    h.com.turn T (fun f => f) (fun f => f), h.ans.block (T.block _ h.ans.lt (fun f => f)), own_turn h.row T (fun _ _ f => f), h.lr, h.lp, fun i r p h1 h2 => ⟨(h.outs i r p h1 h2).1.turn T (fun f => f) (fun f => f), (h.outs i r p h1 h2).2⟩, h.ap, h.lo, h.tn.trans T⟩
theorem newst_made {w wr : World} {c : Cf} {rc pc mb ex el : Nat} {p0 : Addr} (T : Turn (fun _ => False) w wr) (EA : EpA wr ex el (c.sh + 1) 0 (fun _ => -1)) (hex : w.heap.size ≤ ex) (hel : w.heap.size ≤ el) (RC : CR wr rc pc c.ib 0 (fun _ => none)) (ND : Nds Tryz.prog 3 wr mb 0 0 (fun _ => none)) (hrc : w.heap.size ≤ rc) (hpc : w.heap.size ≤ pc) (hmb : w.heap.size ≤ mb) :
    NewSt w (wr.alloc (.cells #[.int .i64 (c.sh : Int), .int .i64 (c.ib : Int), .int .i64 c.sl, .int .i64 c.qu, .int .i64 c.ru, .int .i64 c.ou, .int .i64 c.st, .pointer (some p0), .pointer (some ⟨ex, 0, none⟩), .int .i64 0, .bool false, .pointer (some ⟨rc, 0, none⟩), .slice none 0 0, .map (some mb)] 133)) c wr.heap.size rc pc mb 0 (.slice none 0 0) [] [] := by
  have T2 : Turn (fun _ => False) wr (wr.alloc (.cells #[.int .i64 (c.sh : Int), .int .i64 (c.ib : Int), .int .i64 c.sl, .int .i64 c.qu, .int .i64 c.ru, .int .i64 c.ou, .int .i64 c.st, .pointer (some p0), .pointer (some ⟨ex, 0, none⟩), .int .i64 0, .bool false, .pointer (some ⟨rc, 0, none⟩), .slice none 0 0, .map (some mb)] 133)) := (Turn.refl _ wr).alloc _
  have C := World.cell?_alloc_new wr #[.int .i64 (c.sh : Int), .int .i64 (c.ib : Int), .int .i64 c.sl, .int .i64 c.qu, .int .i64 c.ru, .int .i64 c.ou, .int .i64 c.st, .pointer (some p0), .pointer (some ⟨ex, 0, none⟩), .int .i64 0, .bool false, .pointer (some ⟨rc, 0, none⟩), .slice none 0 0, .map (some mb)] 133
  exact ⟨Blk.new wr [.int .i64 (c.sh : Int), .int .i64 (c.ib : Int), .int .i64 c.sl, .int .i64 c.qu, .int .i64 c.ru, .int .i64 c.ou, .int .i64 c.st, .pointer (some p0), .pointer (some ⟨ex, 0, none⟩), .int .i64 0, .bool false, .pointer (some ⟨rc, 0, none⟩), .slice none 0 0, .map (some mb)] 133, C 0, C 1, C 2, C 3, C 4, C 5, C 6, ⟨p0, ex, el, C 7, C 8, EA.same T2, hex, hel⟩, C 9, C 10, C 11, C 12, C 13, RC.turn T2 (fun f => f) (fun f => f), ND.block (T2.block _ ND.lt (fun f => f)), World.ownsRow_nil _ _ _ _, rfl, rfl, fun i r p h1 h2 => by simp at h1, ⟨List.nodup_nil, List.nodup_nil⟩, ⟨T.size, hrc, hpc, hmb⟩, T.trans T2⟩
theorem info97 : (Tryz.prog.info? 137).map (fun i => (i.zero, i.size, i.bytes)) = some (some (.agg #[.int .i64 0, .bool false, .pointer none]), 3, 24) := by kernel_rfl
theorem new_app {W : World} {base k r : Nat} {v : Value} {xs : List Value} (h : W.ownsRow base 137 3 v k xs) (hB : base ≤ W.heap.size) (hk : k ≤ 1000) :
    ∃ v' w', (Builtin.append_ #[131, 131] 131 #[v, .slice (some ⟨W.heap.size, 0, none⟩) 1 1]).run Tryz.prog (W.alloc (.cells #[.int .i64 0, .bool false, .pointer (some ⟨r, 0, none⟩)] 137)) = .ok v' w' ∧ w'.ownsRow base 137 3 v' (k + 1) (xs ++ [.int .i64 0, .bool false, .pointer (some ⟨r, 0, none⟩)]) ∧ Turn (fun b => v.ownBlock = some b) W w' := by
  obtain ⟨i3, j1, j2, j3, j4⟩ := info_parts info97
  have T1 : Turn (fun b => v.ownBlock = some b) W (W.alloc (.cells #[.int .i64 0, .bool false, .pointer (some ⟨r, 0, none⟩)] 137)) := (Turn.refl _ W).alloc _
  have hA : (W.alloc (.cells #[.int .i64 0, .bool false, .pointer (some ⟨r, 0, none⟩)] 137)).ownsRow base 137 3 v k xs := own_turn h ((Turn.refl (fun _ => False) W).alloc _) (fun _ _ f => f)
  have R := range_new W [.int .i64 0, .bool false, .pointer (some ⟨r, 0, none⟩)] 137
  obtain ⟨v', w', hr, ho, hg, _⟩ := run_append_own (W.alloc (.cells #[.int .i64 0, .bool false, .pointer (some ⟨r, 0, none⟩)] 137)) base 131 131 137 i3 _ 3 24 Tryz.underlying131 j1 j2 j3 j4 rfl (by decide) v k xs hA ⟨W.heap.size, 0, none⟩ 1 1 [.int .i64 0, .bool false, .pointer (some ⟨r, 0, none⟩)] rfl (fun j u hu => by
    rw [Go.WideShapes.add_plain]
    exact R j u hu) (fun u hu => by simp at hu; rcases hu with rfl | rfl | rfl <;> rfl) (by unfold maxLen; omega) (by omega) (by simp; omega)
  exact ⟨v', w', hr, ho, T1.trans ((Turn.refl _ _).grown hg (fun k hk => .inl hk))⟩
theorem newst_step {w wr WC W13 : World} {c : Cf} {lb rc pc mb k rk pk : Nat} {v v' : Value} {rs ps : List Nat} (h0 : NewSt w wr c lb rc pc mb k v rs ps) (TC : Turn (fun _ => False) wr WC) (OC : OR WC rk pk c.ib 0 (fun _ => none)) (hpk : wr.heap.size ≤ pk) (hrk : wr.heap.size ≤ rk)
    (ho : W13.ownsRow w.heap.size 137 3 v' (k + 1) (wcells rs ++ [.int .i64 0, .bool false, .pointer (some ⟨rk, 0, none⟩)])) (TA : Turn (fun b => v.ownBlock = some b) WC W13) : NewSt w (W13.setCell ⟨lb, 12, none⟩ v') c lb rc pc mb (k + 1) v' (rs ++ [rk]) (ps ++ [pk]) := by
  have h := h0.turn TC
  have hrow : ∀ {b : Nat} {t : TypeId}, Blk WC b t → t ≠ 137 → ¬ v.ownBlock = some b := fun hb ht e => (own_blk h.row e).ne hb (Ne.symm ht) rfl
  have hl := hrow h.bl (by decide)
  have TP : Turn (fun b => b = lb) W13 (W13.setCell ⟨lb, 12, none⟩ v') := Turn.put _ _ _ _
  have B13 := h.bl.turn TA hl
  have nm : ∀ b, v.ownBlock = some b → b ≠ mb := fun b e => h.ans.ne (own_blk h.row e)
  have hsz := h0.tn.size
  have keepO : ∀ {r p : Nat}, OR WC r p c.ib 0 (fun _ => none) → OR (W13.setCell ⟨lb, 12, none⟩ v') r p c.ib 0 (fun _ => none) := fun {r p} hO =>
    ((hO.turn TA (hrow hO.br (by decide)) (hrow hO.bp (by decide)))).turn TP ((hO.turn TA (hrow hO.br (by decide)) (hrow hO.bp (by decide))).br.ne B13 (by decide)) ((hO.turn TA (hrow hO.br (by decide)) (hrow hO.bp (by decide))).bp.ne B13 (by decide))
  have hc := h.com.turn TA (hrow h.com.br (by decide)) (hrow h.com.bp (by decide))
  have hnd := h.ans.block (TA.block _ h.ans.lt (fun e => nm _ e rfl))
  have cc : ∀ {j : Nat} {u : Value}, WC.cell? ⟨lb, j, none⟩ = some u → 12 ≠ j → (W13.setCell ⟨lb, 12, none⟩ v').cell? ⟨lb, j, none⟩ = some u := fun hj hne => (cell_off _ _ _ _ _ hne).trans (TA.cell hl hj)
  refine ⟨B13.set _ _, cc h.k0 (by decide), cc h.k1 (by decide), cc h.k2 (by decide), cc h.k3 (by decide), cc h.k4 (by decide), cc h.k5 (by decide), cc h.k6 (by decide), ?_, cc h.k9 (by decide), cc h.k10 (by decide), cc h.k11 (by decide),
    World.cell?_setCell_same _ _ _ (TA.cell hl h.k12), cc h.k13 (by decide), hc.turn TP (hc.br.ne B13 (by decide)) (hc.bp.ne B13 (by decide)), hnd.block (TP.block _ hnd.lt (fun e => hnd.ne B13 e.symm)), ?_, by simp [h.lr], by simp [h.lp], ?_, ⟨?_, ?_⟩, h.lo, ?_⟩
  · obtain ⟨p0, ex, el, e7, e8, EA, hx, hl'⟩ := h.ke
    refine ⟨p0, ex, el, cc e7 (by decide), cc e8 (by decide), ?_, hx, hl'⟩
    have E13 := EA.turn TA (hrow EA.b1 (by decide)) (hrow EA.b2 (by decide))
    exact E13.turn TP (E13.b1.ne B13 (by decide)) (E13.b2.ne B13 (by decide))
  · rw [wcells_app]
    exact own_turn ho TP (fun b hb e => (own_blk ho hb).ne B13 (by decide) e)
  · intro i r p hr hp
    by_cases hi : i < k
    · rw [List.getElem?_append_left (by rw [h.lr]; exact hi)] at hr
      rw [List.getElem?_append_left (by rw [h.lp]; exact hi)] at hp
      obtain ⟨q1, q2, q3⟩ := h.outs i r p hr hp
      exact ⟨keepO q1, q2, q3⟩
    · rw [List.getElem?_append_right (by rw [h.lr]; omega), h.lr] at hr
      rw [List.getElem?_append_right (by rw [h.lp]; omega), h.lp] at hp
      have hik : i - k = 0 := by
        have := (List.getElem?_eq_some_iff.1 hr).1
        simp at this
        omega
      rw [hik] at hr hp
      simp at hr hp
      subst hr hp
      exact ⟨keepO OC, by omega, by omega⟩
  · refine List.nodup_append.2 ⟨h.ap.1, (by simp), fun a ha b hb => ?_⟩
    rw [List.mem_singleton.1 hb]
    intro e
    subst e
    obtain ⟨i, hi⟩ := List.getElem?_of_mem ha
    obtain ⟨p, hp⟩ : ∃ p, ps[i]? = some p := ⟨_, List.getElem?_eq_getElem (by rw [h.lp, ← h.lr]; exact (List.getElem?_eq_some_iff.1 hi).1)⟩
    have := (h0.outs i _ p hi hp).1.br.lt
    omega
  · refine List.nodup_append.2 ⟨h.ap.2, (by simp), fun a ha b hb => ?_⟩
    rw [List.mem_singleton.1 hb]
    intro e
    subst e
    obtain ⟨i, hi⟩ := List.getElem?_of_mem ha
    obtain ⟨r, hr⟩ : ∃ r, rs[i]? = some r := ⟨_, List.getElem?_eq_getElem (by rw [h.lr, ← h.lp]; exact (List.getElem?_eq_some_iff.1 hi).1)⟩
    have := (h0.outs i r _ hr hi).1.bp.lt
    omega
  · exact ((h.tn.comp TA (fun j hj e => by have := (h.row.lt j e).1; omega)).comp TP (fun j hj e => by have := h.lo.1; omega))
def LSt.zero : LSt := ⟨0, 0, false, fun _ => none, fun _ => 0, fun _ => false, fun _ => 0, fun _ _ => none, fun _ => none, 0⟩
def NewPost (w w' : World) (c : Cf) (e : Ending) : Prop := ∃ (B : LB) (el : Nat), e = .returned (.pointer (some ⟨B.l, 0, none⟩)) ∧ LogAt w' B c LSt.zero ∧ (∀ b, B.foot c.sh b → w.heap.size ≤ b) ∧ EpA w' B.ep el (c.sh + 1) 0 (fun _ => -1) ∧ (w.heap.size ≤ B.ep ∧ w.heap.size ≤ el) ∧ Turn (fun _ => False) w w'
def NewRel (w : World) (c : Cf) (lb rc pc mb b1 n : Nat) (gh : Nat) (v23 : Value) (wr : World) : Prop :=
  ∃ (k : Nat) (v : Value) (rs ps : List Nat), v23 = .int .i64 (k : Int) ∧ k ≤ n ∧ gh = n - k ∧ NewSt w wr c lb rc pc mb k v rs ps ∧ Blk wr b1 47 ∧ wr.cell? ⟨b1, 1, none⟩ = some (.int .i64 (c.ib : Int))
theorem newst_done {w wr : World} {c : Cf} {lb rc pc mb : Nat} {v : Value} {rs ps : List Nat} (h : NewSt w wr c lb rc pc mb c.sh v rs ps) (h1 : 1 ≤ c.sh) (h2 : c.sh ≤ 15) (h3 : 1 ≤ c.st) : NewPost w wr c (.returned (.pointer (some ⟨lb, 0, none⟩))) := by
  obtain ⟨va, vc, rfl, hg⟩ := own_slice h.row
  obtain ⟨g, rfl⟩ := hg (by omega)
  have hgl : w.heap.size ≤ g := (h.row.lt g rfl).1
  have hr : ∀ i, i < c.sh → rs[i]? = some (rs.getD i 0) := fun i hi => by rw [List.getD_eq_getElem?_getD, List.getElem?_eq_getElem (by rw [h.lr]; exact hi)]; rfl
  have hp : ∀ i, i < c.sh → ps[i]? = some (ps.getD i 0) := fun i hi => by rw [List.getD_eq_getElem?_getD, List.getElem?_eq_getElem (by rw [h.lp]; exact hi)]; rfl
  obtain ⟨p0, ex, el, e7, e8, EA, hx, hl'⟩ := h.ke
  refine ⟨⟨lb, rc, pc, g, mb, fun i => rs.getD i 0, fun i => ps.getD i 0, p0, ex⟩, el, rfl, ?_, ?_, EA, ⟨hx, hl'⟩, h.tn⟩
  · refine ⟨h.bl, h.k0, h.k1, h.k2, h.k3, h.k4, h.k5, h.k6, e7, e8, h.k9, h.k10, h.k11, ⟨vc, h.k12⟩, h.k13, h1, h2, Nat.zero_le _, h.com, own_blk h.row rfl, fun i hi => ?_, fun i hi => ?_, fun i hi => ?_,
      ⟨fun _ _ => none, fun i hi => (h.outs i _ _ (hr i hi) (hp i hi)).1, fun i hi j => trivial⟩, fun i j hi hj hne => ⟨fun e => ?_, fun e => ?_⟩, ⟨0, 0, h.ans, Nat.le_refl _⟩⟩
    · exact (h.row.cellAt (i * 3) (by omega)).trans (wcells_at rs i _ (hr i hi)).1
    · exact (h.row.cellAt (i * 3 + 1) (by omega)).trans (wcells_at rs i _ (hr i hi)).2.1
    · exact (h.row.cellAt (i * 3 + 2) (by omega)).trans (wcells_at rs i _ (hr i hi)).2.2
    · refine hne ((List.getElem?_inj (by rw [h.lr]; exact hi) h.ap.1).1 ?_)
      rw [hr i hi, hr j hj]
      exact congrArg some e
    · refine hne ((List.getElem?_inj (by rw [h.lp]; exact hi) h.ap.2).1 ?_)
      rw [hp i hi, hp j hj]
      exact congrArg some e
  · intro b hb
    rcases hb with e | e | e | e | e | ⟨i, hi, e | e⟩
    · rw [e]; exact h.lo.1
    · rw [e]; exact h.lo.2.1
    · rw [e]; exact h.lo.2.2.1
    · rw [e]; exact hgl
    · rw [e]; exact h.lo.2.2.2
    · rw [e]; exact (h.outs i _ _ (hr i hi) (hp i hi)).2.1
    · rw [e]; exact (h.outs i _ _ (hr i hi) (hp i hi)).2.2
set_option maxRecDepth 100000 in
set_option maxHeartbeats 4000000 in
theorem new_yes (w : World) {c : Cf} (h : c.Ok) : Calls Tryz.prog 24 #[.agg #[.int .i64 (c.sh : Int), .int .i64 (c.ib : Int), .int .i64 c.sl, .int .i64 c.qu, .int .i64 c.ru, .int .i64 c.ou, .int .i64 c.st]] w fun e w' => NewPost w w' c e := by
  obtain ⟨W, hW⟩ : ∃ W, W = w.alloc (.cells #[.int .i64 (c.sh : Int), .int .i64 (c.ib : Int), .int .i64 c.sl, .int .i64 c.qu, .int .i64 c.ru, .int .i64 c.ou, .int .i64 c.st] 47) := ⟨_, rfl⟩
  have T1 : Turn (fun _ => False) w W := by rw [hW]; exact (Turn.refl _ w).alloc _
  have C := World.cell?_alloc_new w #[.int .i64 (c.sh : Int), .int .i64 (c.ib : Int), .int .i64 c.sl, .int .i64 c.qu, .int .i64 c.ru, .int .i64 c.ou, .int .i64 c.st] 47
  rw [← hW] at C
  have x0 : W.cell? ⟨w.heap.size, 0, none⟩ = some (.int .i64 (c.sh : Int)) := C 0
  have x1 : W.cell? ⟨w.heap.size, 1, none⟩ = some (.int .i64 (c.ib : Int)) := C 1
  have x2 : W.cell? ⟨w.heap.size, 2, none⟩ = some (.int .i64 c.sl) := C 2
  have x3 : W.cell? ⟨w.heap.size, 3, none⟩ = some (.int .i64 c.qu) := C 3
  have x4 : W.cell? ⟨w.heap.size, 4, none⟩ = some (.int .i64 c.ru) := C 4
  have x5 : W.cell? ⟨w.heap.size, 5, none⟩ = some (.int .i64 c.ou) := C 5
  have x6 : W.cell? ⟨w.heap.size, 6, none⟩ = some (.int .i64 c.st) := C 6
  have RY := Lib.hid (right_yes W h)
  have TW := Lib.hid T1
  have BB0 : Blk W w.heap.size 47 := by rw [hW]; exact Blk.new w [.int .i64 (c.sh : Int), .int .i64 (c.ib : Int), .int .i64 c.sl, .int .i64 c.qu, .int .i64 c.ru, .int .i64 c.ou, .int .i64 c.st] 47
  have BB0 := Lib.hid BB0
  have SL := Lib.hid (And.intro h.c0 h.c1)
  have IL := Lib.hid (And.intro h.b0 h.b1)
  have EL : Hid ((1 : Int) ≤ (c.sh : Int) + 1 ∧ (c.sh : Int) + 1 ≤ 16) := Lib.hid (by have := h.a1; omega)
  have HO := Lib.hid h
  have hw1 := h.a1
  have hw : wrap64 ((c.sh : Int) + 1) = (c.sh : Int) + 1 := by unfold wrap64; omega
  have hw2 : IntKind.i64.wrap ((c.sh : Int) + 1) = (c.sh : Int) + 1 := by rw [IntKind.wrap_i64]; omega
  clear C T1 h
  go_enter Tryz.func24, Tryz.ntmps24
  go_upto_region 1 with fail
  rw [← hW]
  clear hW
  generalize hb1 : w.heap.size = b1 at *
  have HB1 := Lib.hid hb1
  clear hb1
  go_wp2_with fail
  with_reducible refine RY.out.mono ?_
  rintro e W4 ⟨rfl, T4⟩
  have TD : Turn (fun _ => False) W4 W4.drew := (Turn.refl _ W4).drewN 1
  have T04 := (TW.out.trans T4).trans TD
  have TB := Lib.hid T04
  have BB := Lib.hid (BB0.out.turn (T4.trans TD) (fun f => f))
  have SK : Hid (∀ W', Turn (fun _ => False) W4.drew W' → W'.cell? ⟨b1, 0, none⟩ = some (.int .i64 (c.sh : Int)) ∧ W'.cell? ⟨b1, 1, none⟩ = some (.int .i64 (c.ib : Int)) ∧ W'.cell? ⟨b1, 2, none⟩ = some (.int .i64 c.sl) ∧ W'.cell? ⟨b1, 3, none⟩ = some (.int .i64 c.qu) ∧ W'.cell? ⟨b1, 4, none⟩ = some (.int .i64 c.ru) ∧ W'.cell? ⟨b1, 5, none⟩ = some (.int .i64 c.ou) ∧ W'.cell? ⟨b1, 6, none⟩ = some (.int .i64 c.st)) := Lib.hid fun W' T' => by
    have T5 := (T4.trans TD).trans T'
    exact ⟨T5.cell (fun f => f) x0, T5.cell (fun f => f) x1, T5.cell (fun f => f) x2, T5.cell (fun f => f) x3, T5.cell (fun f => f) x4, T5.cell (fun f => f) x5, T5.cell (fun f => f) x6⟩
  obtain ⟨VS, hVS⟩ : ∃ n, W4.drew.heap.size = n := ⟨_, rfl⟩
  have VE : Hid (∀ W', Turn (fun _ => False) W4.drew W' → VS ≤ W'.heap.size) := Lib.hid fun W' T' => by rw [← hVS]; exact T'.size
  have HB := Lib.hid (show w.heap.size ≤ VS by rw [← hVS]; exact T04.size)
  have T : Turn (fun _ => False) W4.drew W4.drew := Turn.refl _ _
  have y0 := T4.cell (fun f => f) x0
  have y1 := T4.cell (fun f => f) x1
  have SK2 := Lib.hid (And.intro y0 y1)
  clear x0 x1 x2 x3 x4 x5 x6 y0 y1 T04 TD T4 hVS RY
  go_upto_region 3 with fail
  go_cut [3] from 4 to 20 (fun v3 wx => ∃ lb rc pc mb, v3 = .pointer (some ⟨lb, 0, none⟩) ∧ NewSt w wx c lb rc pc mb 0 (.slice none 0 0) [] [] ∧ Turn (fun _ => False) W4.drew wx)
  case first =>
    refine wp_region_held_drew (S := (fun w' => w'.cell? ⟨b1, 0, none⟩ = some (.int .i64 (c.sh : Int)) ∧ w'.cell? ⟨b1, 1, none⟩ = some (.int .i64 (c.ib : Int)) ∧ w'.cell? ⟨b1, 2, none⟩ = some (.int .i64 c.sl) ∧ w'.cell? ⟨b1, 3, none⟩ = some (.int .i64 c.qu) ∧ w'.cell? ⟨b1, 4, none⟩ = some (.int .i64 c.ru) ∧ w'.cell? ⟨b1, 5, none⟩ = some (.int .i64 c.ou) ∧ w'.cell? ⟨b1, 6, none⟩ = some (.int .i64 c.st))) (by kernel_rfl) ?hs0 (fun hS0 => ?_)
    case hs0 => ((try dsimp only); first | with_reducible exact SK.out _ T | exact SK.out _ TU | exact SK.out _ T)
    generalize W4.drew = V at *
    refine wpAnyH_take (i := 0) (oi := { dst := some 7, op := Op.load 47 (Operand.tmp 1), type := 47, pos := "log.go:45", after := #[], guard := none }) (v := ?_) rfl (by kernel_rfl) (by kernel_rfl) (by kernel_rfl) (fun _ _ _ h => h) (Or.inl ⟨by rfl, ?hy1⟩) hS0 ?_
    case hy1 => (intro w hSw; (try dsimp only at hSw); go_simp; try with_reducible rfl)
    try simp only [Act.put, List.setIfInBounds_toArray, List.set_cons_zero, List.set_cons_succ]
    refine wpAnyH_take (i := 1) (oi := { dst := some 8, op := Op.fieldAddr 47 (Operand.tmp 1) 2, type := 0, pos := "log.go:45", after := #[], guard := none }) (v := ?_) rfl (by kernel_rfl) (by kernel_rfl) (by kernel_rfl) (fun _ _ _ h => h) (Or.inl ⟨by rfl, ?hy2⟩) hS0 ?_
    case hy2 => (intro w hSw; (try dsimp only at hSw); go_simp; try with_reducible rfl)
    try simp only [Act.put, List.setIfInBounds_toArray, List.set_cons_zero, List.set_cons_succ]
    refine wpAnyH_take (i := 2) (oi := { dst := some 9, op := Op.load 3 (Operand.tmp 8), type := 3, pos := "log.go:45", after := #[{ on := 1, ground := Ground.data }], guard := none }) (v := ?_) rfl (by kernel_rfl) (by kernel_rfl) (by kernel_rfl) (fun _ _ _ h => h) (Or.inl ⟨by rfl, ?hy3⟩) hS0 ?_
    case hy3 => (intro w hSw; (try dsimp only at hSw); go_simp; try with_reducible rfl)
    try simp only [Act.put, List.setIfInBounds_toArray, List.set_cons_zero, List.set_cons_succ]
    refine wpAnyH_take (i := 4) (oi := { dst := some 11, op := Op.fieldAddr 47 (Operand.tmp 1) 0, type := 0, pos := "log.go:45", after := #[], guard := none }) (v := ?_) rfl (by kernel_rfl) (by kernel_rfl) (by kernel_rfl) (fun _ _ _ h => h) (Or.inl ⟨by rfl, ?hy4⟩) hS0 ?_
    case hy4 => (intro w hSw; (try dsimp only at hSw); go_simp; try with_reducible rfl)
    try simp only [Act.put, List.setIfInBounds_toArray, List.set_cons_zero, List.set_cons_succ]
    refine wpAnyH_take (i := 5) (oi := { dst := some 12, op := Op.load 3 (Operand.tmp 11), type := 3, pos := "log.go:45", after := #[{ on := 4, ground := Ground.data }], guard := none }) (v := ?_) rfl (by kernel_rfl) (by kernel_rfl) (by kernel_rfl) (fun _ _ _ h => h) (Or.inl ⟨by rfl, ?hy5⟩) hS0 ?_
    case hy5 => (intro w hSw; (try dsimp only at hSw); go_simp; try with_reducible rfl)
    try simp only [Act.put, List.setIfInBounds_toArray, List.set_cons_zero, List.set_cons_succ]
    refine wpAnyH_take (i := 6) (oi := { dst := some 13, op := Op.binOp BinOp.add 3 (Operand.tmp 12) (Operand.const (Value.int IntKind.i64 1)) 3, type := 3, pos := "log.go:45", after := #[{ on := 5, ground := Ground.data }], guard := none }) (v := ?_) rfl (by kernel_rfl) (by kernel_rfl) (by kernel_rfl) (fun _ _ _ h => h) (Or.inl ⟨by rfl, ?hy6⟩) hS0 ?_
    case hy6 => (intro w hSw; (try dsimp only at hSw); go_simp; try with_reducible rfl)
    try simp only [Act.put, List.setIfInBounds_toArray, List.set_cons_zero, List.set_cons_succ]
    refine wpAnyH_take (i := 8) (oi := { dst := some 15, op := Op.fieldAddr 47 (Operand.tmp 1) 1, type := 0, pos := "log.go:45", after := #[], guard := none }) (v := ?_) rfl (by kernel_rfl) (by kernel_rfl) (by kernel_rfl) (fun _ _ _ h => h) (Or.inl ⟨by rfl, ?hy7⟩) hS0 ?_
    case hy7 => (intro w hSw; (try dsimp only at hSw); go_simp; try with_reducible rfl)
    try simp only [Act.put, List.setIfInBounds_toArray, List.set_cons_zero, List.set_cons_succ]
    refine wpAnyH_take (i := 9) (oi := { dst := some 16, op := Op.load 3 (Operand.tmp 15), type := 3, pos := "log.go:45", after := #[{ on := 8, ground := Ground.data }], guard := none }) (v := ?_) rfl (by kernel_rfl) (by kernel_rfl) (by kernel_rfl) (fun _ _ _ h => h) (Or.inl ⟨by rfl, ?hy8⟩) hS0 ?_
    case hy8 => (intro w hSw; (try dsimp only at hSw); go_simp; try with_reducible rfl)
    try simp only [Act.put, List.setIfInBounds_toArray, List.set_cons_zero, List.set_cons_succ]
    refine wpAnyH_ready (rs := [3, 11]) (by kernel_rfl) (by simp) ?_
    refine AllReadyH.cons (o := { dst := some 10, op := Op.call { callee := Callee.value (Operand.func 59), args := #[Operand.tmp 9], argTypes := #[3] }, type := 124, pos := "log.go:47", after := #[{ on := 2, ground := Ground.data }], guard := none }) rfl (fun K hK => ?_) ?_
    · go_simp; with_reducible refine (store_new V SL.out.1 SL.out.2).mono ?_; rintro en U1 ⟨⟨p0, rfl⟩, TU1⟩; (try have EA := EA.same TU1); have T := T.trans TU1; clear TU1; go_simp
      refine hK.out _ _ ?hs9 (fun hS9 => ?_)
      case hs9 => ((try dsimp only); first | with_reducible exact SK.out _ T | exact SK.out _ TU | exact SK.out _ T)
      clear hK K hS0
      refine wpAnyH_ready (rs := [7, 11]) (by kernel_rfl) (by simp) ?_
      refine AllReadyH.cons (o := { dst := some 14, op := Op.call { callee := Callee.value (Operand.func 60), args := #[Operand.tmp 13], argTypes := #[3] }, type := 126, pos := "log.go:48", after := #[{ on := 6, ground := Ground.data }, { on := 3, ground := Ground.chain }], guard := none }) rfl (fun K hK => ?_) ?_
      · go_simp; with_reducible refine (epochs_new U1 c.sh EL.out.1 EL.out.2).mono ?_; rintro en U2 ⟨ex, el, rfl, EA, hex, TU2⟩; have hex : VS ≤ ex ∧ VS ≤ el := ⟨Nat.le_trans (VE.out U1 T) hex.1, Nat.le_trans (VE.out U1 T) hex.2⟩; have T := T.trans TU2; clear TU2; go_simp
        refine hK.out _ _ ?hs10 (fun hS10 => ?_)
        case hs10 => ((try dsimp only); first | with_reducible exact SK.out _ T | exact SK.out _ TU | exact SK.out _ T)
        clear hK K hS9
        refine wpAnyH_ready (rs := [10, 11]) (by kernel_rfl) (by simp) ?_
        refine AllReadyH.cons (o := { dst := some 17, op := Op.call { callee := Callee.value (Operand.func 61), args := #[Operand.tmp 16], argTypes := #[3] }, type := 128, pos := "log.go:49", after := #[{ on := 9, ground := Ground.data }, { on := 7, ground := Ground.chain }], guard := none }) rfl (fun K hK => ?_) ?_
        · go_simp; with_reducible refine (cring_new U2 IL.out.1 IL.out.2).mono ?_; rintro en U3 ⟨rfl, RC, TU3⟩; have hrc : VS ≤ U2.heap.size + 1 := Nat.le_succ_of_le (VE.out U2 T); have hpc : VS ≤ U2.heap.size := VE.out U2 T; generalize U2.heap.size + 1 = rc at *; generalize U2.heap.size = pc at *; (try have EA := EA.same TU3); have T := T.trans TU3; clear TU3; go_simp
          refine hK.out _ _ ?hs11 (fun hS11 => ?_)
          case hs11 => ((try dsimp only); first | with_reducible exact SK.out _ T | exact SK.out _ TU | exact SK.out _ T)
          clear hK K hS10
          refine wpAnyH_ready (rs := [11]) (by kernel_rfl) (by simp) ?_
          refine AllReadyH.cons (o := { dst := some 18, op := Op.makeMap 130 none, type := 130, pos := "log.go:45", after := #[], guard := none }) rfl (fun K hK => ?_) ?_
          · rw [if_pos (by rfl)]; refine wp_makemap 130 rfl ?_; have ND := Nds.made (P := Tryz.prog) (k := 3) U3; have TU4 : Turn (fun _ => False) U3 (U3.alloc (.map #[] 0)) := (Turn.refl _ U3).alloc _; have hmb : VS ≤ U3.heap.size := VE.out U3 T; generalize U3.alloc (.map #[] 0) = U4 at *; generalize U3.heap.size = mb at *; (try have EA := EA.same TU4); have T := T.trans TU4; have RC := RC.turn TU4 (fun f => f) (fun f => f); clear TU4
            refine hK.out _ _ ?hs12 (fun hS12 => ?_)
            case hs12 => ((try dsimp only); first | with_reducible exact SK.out _ T | exact SK.out _ TU | exact SK.out _ T)
            clear hK K hS11
            refine wpAnyH_take (i := 12) (oi := { dst := some 19, op := Op.build 133 #[(0, Operand.tmp 7), (1, Operand.tmp 10), (2, Operand.tmp 14), (5, Operand.tmp 17), (7, Operand.tmp 18)], type := 133, pos := "log.go:45", after := #[{ on := 0, ground := Ground.data }, { on := 3, ground := Ground.data }, { on := 7, ground := Ground.data }, { on := 10, ground := Ground.data }, { on := 11, ground := Ground.data }], guard := none }) (v := ?_) rfl (by kernel_rfl) (by kernel_rfl) (by kernel_rfl) (fun _ _ _ h => h) (Or.inl ⟨by rfl, ?hy13⟩) hS12 ?_
            case hy13 => (intro w hSw; (try dsimp only at hSw); go_simp; try with_reducible rfl)
            try simp only [Act.put, List.setIfInBounds_toArray, List.set_cons_zero, List.set_cons_succ]
            refine wpAnyH_ready (rs := [13]) (by kernel_rfl) (by simp) ?_
            refine AllReadyH.cons (o := { dst := some 20, op := Op.box 133 (Operand.tmp 19), type := 65, pos := "log.go:45", after := #[{ on := 12, ground := Ground.data }], guard := none }) rfl (fun K hK => ?_) ?_
            · go_simp; have N3 := newst_made (c := c) (p0 := p0) (ex := ex) (el := el) (TB.out.trans T) EA (Nat.le_trans HB.out hex.1) (Nat.le_trans HB.out hex.2) RC ND (Nat.le_trans HB.out hrc) (Nat.le_trans HB.out hpc) (Nat.le_trans HB.out hmb); have TU : Turn (fun _ => False) V (U4.alloc (.cells #[.int .i64 (c.sh : Int), .int .i64 (c.ib : Int), .int .i64 c.sl, .int .i64 c.qu, .int .i64 c.ru, .int .i64 c.ou, .int .i64 c.st, .pointer (some p0), .pointer (some ⟨ex, 0, none⟩), .int .i64 0, .bool false, .pointer (some ⟨rc, 0, none⟩), .slice none 0 0, .map (some mb)] 133)) := T.alloc _; generalize U4.alloc (.cells #[.int .i64 (c.sh : Int), .int .i64 (c.ib : Int), .int .i64 c.sl, .int .i64 c.qu, .int .i64 c.ru, .int .i64 c.ou, .int .i64 c.st, .pointer (some p0), .pointer (some ⟨ex, 0, none⟩), .int .i64 0, .bool false, .pointer (some ⟨rc, 0, none⟩), .slice none 0 0, .map (some mb)] 133) = UU at *; generalize U4.heap.size = lb at *
              refine hK.out _ _ ?hs14 (fun hS14 => ?_)
              case hs14 => ((try dsimp only); first | with_reducible exact SK.out _ T | exact SK.out _ TU | exact SK.out _ T)
              clear hK K hS12
              refine wpAnyH_take (i := 14) (oi := { dst := some 3, op := Op.assign (Operand.tmp 20), type := 65, pos := "log.go:45", after := #[{ on := 13, ground := Ground.data }, { on := 10, ground := Ground.chain }, { on := 0, ground := Ground.phase }, { on := 1, ground := Ground.phase }, { on := 2, ground := Ground.phase }, { on := 3, ground := Ground.phase }, { on := 4, ground := Ground.phase }, { on := 5, ground := Ground.phase }, { on := 6, ground := Ground.phase }, { on := 7, ground := Ground.phase }, { on := 8, ground := Ground.phase }, { on := 9, ground := Ground.phase }, { on := 10, ground := Ground.phase }, { on := 11, ground := Ground.phase }, { on := 12, ground := Ground.phase }, { on := 13, ground := Ground.phase }], guard := none }) (v := ?_) rfl (by kernel_rfl) (by kernel_rfl) (by kernel_rfl) (fun _ _ _ h => h) (Or.inl ⟨by rfl, ?hy15⟩) hS14 ?_
              case hy15 => (intro w hSw; (try dsimp only at hSw); go_simp; try with_reducible rfl)
              try simp only [Act.put, List.setIfInBounds_toArray, List.set_cons_zero, List.set_cons_succ]
              refine wpAnyH_done (by kernel_rfl) ?_ _
              go_wp2_with fail
              go_meet
              case rel => exact ⟨_, _, _, _, rfl, N3, TU⟩
            exact AllReadyH.nil
          exact AllReadyH.nil
        refine AllReadyH.cons (o := { dst := some 18, op := Op.makeMap 130 none, type := 130, pos := "log.go:45", after := #[], guard := none }) rfl (fun K hK => ?_) ?_
        · rw [if_pos (by rfl)]; refine wp_makemap 130 rfl ?_; have ND := Nds.made (P := Tryz.prog) (k := 3) U2; have TU5 : Turn (fun _ => False) U2 (U2.alloc (.map #[] 0)) := (Turn.refl _ U2).alloc _; have hmb : VS ≤ U2.heap.size := VE.out U2 T; generalize U2.alloc (.map #[] 0) = U5 at *; generalize U2.heap.size = mb at *; (try have EA := EA.same TU5); have T := T.trans TU5; clear TU5
          refine hK.out _ _ ?hs16 (fun hS16 => ?_)
          case hs16 => ((try dsimp only); first | with_reducible exact SK.out _ T | exact SK.out _ TU | exact SK.out _ T)
          clear hK K hS10
          refine wpAnyH_ready (rs := [10]) (by kernel_rfl) (by simp) ?_
          refine AllReadyH.cons (o := { dst := some 17, op := Op.call { callee := Callee.value (Operand.func 61), args := #[Operand.tmp 16], argTypes := #[3] }, type := 128, pos := "log.go:49", after := #[{ on := 9, ground := Ground.data }, { on := 7, ground := Ground.chain }], guard := none }) rfl (fun K hK => ?_) ?_
          · go_simp; with_reducible refine (cring_new U5 IL.out.1 IL.out.2).mono ?_; rintro en U6 ⟨rfl, RC, TU6⟩; have hrc : VS ≤ U5.heap.size + 1 := Nat.le_succ_of_le (VE.out U5 T); have hpc : VS ≤ U5.heap.size := VE.out U5 T; generalize U5.heap.size + 1 = rc at *; generalize U5.heap.size = pc at *; (try have EA := EA.same TU6); have T := T.trans TU6; have ND := ND.block (TU6.block _ ND.lt (fun f => f)); clear TU6; go_simp
            refine hK.out _ _ ?hs17 (fun hS17 => ?_)
            case hs17 => ((try dsimp only); first | with_reducible exact SK.out _ T | exact SK.out _ TU | exact SK.out _ T)
            clear hK K hS16
            refine wpAnyH_take (i := 12) (oi := { dst := some 19, op := Op.build 133 #[(0, Operand.tmp 7), (1, Operand.tmp 10), (2, Operand.tmp 14), (5, Operand.tmp 17), (7, Operand.tmp 18)], type := 133, pos := "log.go:45", after := #[{ on := 0, ground := Ground.data }, { on := 3, ground := Ground.data }, { on := 7, ground := Ground.data }, { on := 10, ground := Ground.data }, { on := 11, ground := Ground.data }], guard := none }) (v := ?_) rfl (by kernel_rfl) (by kernel_rfl) (by kernel_rfl) (fun _ _ _ h => h) (Or.inl ⟨by rfl, ?hy18⟩) hS17 ?_
            case hy18 => (intro w hSw; (try dsimp only at hSw); go_simp; try with_reducible rfl)
            try simp only [Act.put, List.setIfInBounds_toArray, List.set_cons_zero, List.set_cons_succ]
            refine wpAnyH_ready (rs := [13]) (by kernel_rfl) (by simp) ?_
            refine AllReadyH.cons (o := { dst := some 20, op := Op.box 133 (Operand.tmp 19), type := 65, pos := "log.go:45", after := #[{ on := 12, ground := Ground.data }], guard := none }) rfl (fun K hK => ?_) ?_
            · go_simp; have N3 := newst_made (c := c) (p0 := p0) (ex := ex) (el := el) (TB.out.trans T) EA (Nat.le_trans HB.out hex.1) (Nat.le_trans HB.out hex.2) RC ND (Nat.le_trans HB.out hrc) (Nat.le_trans HB.out hpc) (Nat.le_trans HB.out hmb); have TU : Turn (fun _ => False) V (U6.alloc (.cells #[.int .i64 (c.sh : Int), .int .i64 (c.ib : Int), .int .i64 c.sl, .int .i64 c.qu, .int .i64 c.ru, .int .i64 c.ou, .int .i64 c.st, .pointer (some p0), .pointer (some ⟨ex, 0, none⟩), .int .i64 0, .bool false, .pointer (some ⟨rc, 0, none⟩), .slice none 0 0, .map (some mb)] 133)) := T.alloc _; generalize U6.alloc (.cells #[.int .i64 (c.sh : Int), .int .i64 (c.ib : Int), .int .i64 c.sl, .int .i64 c.qu, .int .i64 c.ru, .int .i64 c.ou, .int .i64 c.st, .pointer (some p0), .pointer (some ⟨ex, 0, none⟩), .int .i64 0, .bool false, .pointer (some ⟨rc, 0, none⟩), .slice none 0 0, .map (some mb)] 133) = UU at *; generalize U6.heap.size = lb at *
              refine hK.out _ _ ?hs19 (fun hS19 => ?_)
              case hs19 => ((try dsimp only); first | with_reducible exact SK.out _ T | exact SK.out _ TU | exact SK.out _ T)
              clear hK K hS17
              refine wpAnyH_take (i := 14) (oi := { dst := some 3, op := Op.assign (Operand.tmp 20), type := 65, pos := "log.go:45", after := #[{ on := 13, ground := Ground.data }, { on := 10, ground := Ground.chain }, { on := 0, ground := Ground.phase }, { on := 1, ground := Ground.phase }, { on := 2, ground := Ground.phase }, { on := 3, ground := Ground.phase }, { on := 4, ground := Ground.phase }, { on := 5, ground := Ground.phase }, { on := 6, ground := Ground.phase }, { on := 7, ground := Ground.phase }, { on := 8, ground := Ground.phase }, { on := 9, ground := Ground.phase }, { on := 10, ground := Ground.phase }, { on := 11, ground := Ground.phase }, { on := 12, ground := Ground.phase }, { on := 13, ground := Ground.phase }], guard := none }) (v := ?_) rfl (by kernel_rfl) (by kernel_rfl) (by kernel_rfl) (fun _ _ _ h => h) (Or.inl ⟨by rfl, ?hy20⟩) hS19 ?_
              case hy20 => (intro w hSw; (try dsimp only at hSw); go_simp; try with_reducible rfl)
              try simp only [Act.put, List.setIfInBounds_toArray, List.set_cons_zero, List.set_cons_succ]
              refine wpAnyH_done (by kernel_rfl) ?_ _
              go_wp2_with fail
              go_meet
              case rel => exact ⟨_, _, _, _, rfl, N3, TU⟩
            exact AllReadyH.nil
          exact AllReadyH.nil
        exact AllReadyH.nil
      refine AllReadyH.cons (o := { dst := some 18, op := Op.makeMap 130 none, type := 130, pos := "log.go:45", after := #[], guard := none }) rfl (fun K hK => ?_) ?_
      · rw [if_pos (by rfl)]; refine wp_makemap 130 rfl ?_; have ND := Nds.made (P := Tryz.prog) (k := 3) U1; have TU7 : Turn (fun _ => False) U1 (U1.alloc (.map #[] 0)) := (Turn.refl _ U1).alloc _; have hmb : VS ≤ U1.heap.size := VE.out U1 T; generalize U1.alloc (.map #[] 0) = U7 at *; generalize U1.heap.size = mb at *; (try have EA := EA.same TU7); have T := T.trans TU7; clear TU7
        refine hK.out _ _ ?hs21 (fun hS21 => ?_)
        case hs21 => ((try dsimp only); first | with_reducible exact SK.out _ T | exact SK.out _ TU | exact SK.out _ T)
        clear hK K hS9
        refine wpAnyH_ready (rs := [7]) (by kernel_rfl) (by simp) ?_
        refine AllReadyH.cons (o := { dst := some 14, op := Op.call { callee := Callee.value (Operand.func 60), args := #[Operand.tmp 13], argTypes := #[3] }, type := 126, pos := "log.go:48", after := #[{ on := 6, ground := Ground.data }, { on := 3, ground := Ground.chain }], guard := none }) rfl (fun K hK => ?_) ?_
        · go_simp; with_reducible refine (epochs_new U7 c.sh EL.out.1 EL.out.2).mono ?_; rintro en U8 ⟨ex, el, rfl, EA, hex, TU8⟩; have hex : VS ≤ ex ∧ VS ≤ el := ⟨Nat.le_trans (VE.out U7 T) hex.1, Nat.le_trans (VE.out U7 T) hex.2⟩; have T := T.trans TU8; have ND := ND.block (TU8.block _ ND.lt (fun f => f)); clear TU8; go_simp
          refine hK.out _ _ ?hs22 (fun hS22 => ?_)
          case hs22 => ((try dsimp only); first | with_reducible exact SK.out _ T | exact SK.out _ TU | exact SK.out _ T)
          clear hK K hS21
          refine wpAnyH_ready (rs := [10]) (by kernel_rfl) (by simp) ?_
          refine AllReadyH.cons (o := { dst := some 17, op := Op.call { callee := Callee.value (Operand.func 61), args := #[Operand.tmp 16], argTypes := #[3] }, type := 128, pos := "log.go:49", after := #[{ on := 9, ground := Ground.data }, { on := 7, ground := Ground.chain }], guard := none }) rfl (fun K hK => ?_) ?_
          · go_simp; with_reducible refine (cring_new U8 IL.out.1 IL.out.2).mono ?_; rintro en U9 ⟨rfl, RC, TU9⟩; have hrc : VS ≤ U8.heap.size + 1 := Nat.le_succ_of_le (VE.out U8 T); have hpc : VS ≤ U8.heap.size := VE.out U8 T; generalize U8.heap.size + 1 = rc at *; generalize U8.heap.size = pc at *; (try have EA := EA.same TU9); have T := T.trans TU9; have ND := ND.block (TU9.block _ ND.lt (fun f => f)); clear TU9; go_simp
            refine hK.out _ _ ?hs23 (fun hS23 => ?_)
            case hs23 => ((try dsimp only); first | with_reducible exact SK.out _ T | exact SK.out _ TU | exact SK.out _ T)
            clear hK K hS22
            refine wpAnyH_take (i := 12) (oi := { dst := some 19, op := Op.build 133 #[(0, Operand.tmp 7), (1, Operand.tmp 10), (2, Operand.tmp 14), (5, Operand.tmp 17), (7, Operand.tmp 18)], type := 133, pos := "log.go:45", after := #[{ on := 0, ground := Ground.data }, { on := 3, ground := Ground.data }, { on := 7, ground := Ground.data }, { on := 10, ground := Ground.data }, { on := 11, ground := Ground.data }], guard := none }) (v := ?_) rfl (by kernel_rfl) (by kernel_rfl) (by kernel_rfl) (fun _ _ _ h => h) (Or.inl ⟨by rfl, ?hy24⟩) hS23 ?_
            case hy24 => (intro w hSw; (try dsimp only at hSw); go_simp; try with_reducible rfl)
            try simp only [Act.put, List.setIfInBounds_toArray, List.set_cons_zero, List.set_cons_succ]
            refine wpAnyH_ready (rs := [13]) (by kernel_rfl) (by simp) ?_
            refine AllReadyH.cons (o := { dst := some 20, op := Op.box 133 (Operand.tmp 19), type := 65, pos := "log.go:45", after := #[{ on := 12, ground := Ground.data }], guard := none }) rfl (fun K hK => ?_) ?_
            · go_simp; have N3 := newst_made (c := c) (p0 := p0) (ex := ex) (el := el) (TB.out.trans T) EA (Nat.le_trans HB.out hex.1) (Nat.le_trans HB.out hex.2) RC ND (Nat.le_trans HB.out hrc) (Nat.le_trans HB.out hpc) (Nat.le_trans HB.out hmb); have TU : Turn (fun _ => False) V (U9.alloc (.cells #[.int .i64 (c.sh : Int), .int .i64 (c.ib : Int), .int .i64 c.sl, .int .i64 c.qu, .int .i64 c.ru, .int .i64 c.ou, .int .i64 c.st, .pointer (some p0), .pointer (some ⟨ex, 0, none⟩), .int .i64 0, .bool false, .pointer (some ⟨rc, 0, none⟩), .slice none 0 0, .map (some mb)] 133)) := T.alloc _; generalize U9.alloc (.cells #[.int .i64 (c.sh : Int), .int .i64 (c.ib : Int), .int .i64 c.sl, .int .i64 c.qu, .int .i64 c.ru, .int .i64 c.ou, .int .i64 c.st, .pointer (some p0), .pointer (some ⟨ex, 0, none⟩), .int .i64 0, .bool false, .pointer (some ⟨rc, 0, none⟩), .slice none 0 0, .map (some mb)] 133) = UU at *; generalize U9.heap.size = lb at *
              refine hK.out _ _ ?hs25 (fun hS25 => ?_)
              case hs25 => ((try dsimp only); first | with_reducible exact SK.out _ T | exact SK.out _ TU | exact SK.out _ T)
              clear hK K hS23
              refine wpAnyH_take (i := 14) (oi := { dst := some 3, op := Op.assign (Operand.tmp 20), type := 65, pos := "log.go:45", after := #[{ on := 13, ground := Ground.data }, { on := 10, ground := Ground.chain }, { on := 0, ground := Ground.phase }, { on := 1, ground := Ground.phase }, { on := 2, ground := Ground.phase }, { on := 3, ground := Ground.phase }, { on := 4, ground := Ground.phase }, { on := 5, ground := Ground.phase }, { on := 6, ground := Ground.phase }, { on := 7, ground := Ground.phase }, { on := 8, ground := Ground.phase }, { on := 9, ground := Ground.phase }, { on := 10, ground := Ground.phase }, { on := 11, ground := Ground.phase }, { on := 12, ground := Ground.phase }, { on := 13, ground := Ground.phase }], guard := none }) (v := ?_) rfl (by kernel_rfl) (by kernel_rfl) (by kernel_rfl) (fun _ _ _ h => h) (Or.inl ⟨by rfl, ?hy26⟩) hS25 ?_
              case hy26 => (intro w hSw; (try dsimp only at hSw); go_simp; try with_reducible rfl)
              try simp only [Act.put, List.setIfInBounds_toArray, List.set_cons_zero, List.set_cons_succ]
              refine wpAnyH_done (by kernel_rfl) ?_ _
              go_wp2_with fail
              go_meet
              case rel => exact ⟨_, _, _, _, rfl, N3, TU⟩
            exact AllReadyH.nil
          exact AllReadyH.nil
        exact AllReadyH.nil
      exact AllReadyH.nil
    refine AllReadyH.cons (o := { dst := some 18, op := Op.makeMap 130 none, type := 130, pos := "log.go:45", after := #[], guard := none }) rfl (fun K hK => ?_) ?_
    · rw [if_pos (by rfl)]; refine wp_makemap 130 rfl ?_; have ND := Nds.made (P := Tryz.prog) (k := 3) V; have TU10 : Turn (fun _ => False) V (V.alloc (.map #[] 0)) := (Turn.refl _ V).alloc _; have hmb : VS ≤ V.heap.size := VE.out V T; generalize V.alloc (.map #[] 0) = U10 at *; generalize V.heap.size = mb at *; (try have EA := EA.same TU10); have T := T.trans TU10; clear TU10
      refine hK.out _ _ ?hs27 (fun hS27 => ?_)
      case hs27 => ((try dsimp only); first | with_reducible exact SK.out _ T | exact SK.out _ TU | exact SK.out _ T)
      clear hK K hS0
      refine wpAnyH_ready (rs := [3]) (by kernel_rfl) (by simp) ?_
      refine AllReadyH.cons (o := { dst := some 10, op := Op.call { callee := Callee.value (Operand.func 59), args := #[Operand.tmp 9], argTypes := #[3] }, type := 124, pos := "log.go:47", after := #[{ on := 2, ground := Ground.data }], guard := none }) rfl (fun K hK => ?_) ?_
      · go_simp; with_reducible refine (store_new U10 SL.out.1 SL.out.2).mono ?_; rintro en U11 ⟨⟨p0, rfl⟩, TU11⟩; (try have EA := EA.same TU11); have T := T.trans TU11; have ND := ND.block (TU11.block _ ND.lt (fun f => f)); clear TU11; go_simp
        refine hK.out _ _ ?hs28 (fun hS28 => ?_)
        case hs28 => ((try dsimp only); first | with_reducible exact SK.out _ T | exact SK.out _ TU | exact SK.out _ T)
        clear hK K hS27
        refine wpAnyH_ready (rs := [7]) (by kernel_rfl) (by simp) ?_
        refine AllReadyH.cons (o := { dst := some 14, op := Op.call { callee := Callee.value (Operand.func 60), args := #[Operand.tmp 13], argTypes := #[3] }, type := 126, pos := "log.go:48", after := #[{ on := 6, ground := Ground.data }, { on := 3, ground := Ground.chain }], guard := none }) rfl (fun K hK => ?_) ?_
        · go_simp; with_reducible refine (epochs_new U11 c.sh EL.out.1 EL.out.2).mono ?_; rintro en U12 ⟨ex, el, rfl, EA, hex, TU12⟩; have hex : VS ≤ ex ∧ VS ≤ el := ⟨Nat.le_trans (VE.out U11 T) hex.1, Nat.le_trans (VE.out U11 T) hex.2⟩; have T := T.trans TU12; have ND := ND.block (TU12.block _ ND.lt (fun f => f)); clear TU12; go_simp
          refine hK.out _ _ ?hs29 (fun hS29 => ?_)
          case hs29 => ((try dsimp only); first | with_reducible exact SK.out _ T | exact SK.out _ TU | exact SK.out _ T)
          clear hK K hS28
          refine wpAnyH_ready (rs := [10]) (by kernel_rfl) (by simp) ?_
          refine AllReadyH.cons (o := { dst := some 17, op := Op.call { callee := Callee.value (Operand.func 61), args := #[Operand.tmp 16], argTypes := #[3] }, type := 128, pos := "log.go:49", after := #[{ on := 9, ground := Ground.data }, { on := 7, ground := Ground.chain }], guard := none }) rfl (fun K hK => ?_) ?_
          · go_simp; with_reducible refine (cring_new U12 IL.out.1 IL.out.2).mono ?_; rintro en U13 ⟨rfl, RC, TU13⟩; have hrc : VS ≤ U12.heap.size + 1 := Nat.le_succ_of_le (VE.out U12 T); have hpc : VS ≤ U12.heap.size := VE.out U12 T; generalize U12.heap.size + 1 = rc at *; generalize U12.heap.size = pc at *; (try have EA := EA.same TU13); have T := T.trans TU13; have ND := ND.block (TU13.block _ ND.lt (fun f => f)); clear TU13; go_simp
            refine hK.out _ _ ?hs30 (fun hS30 => ?_)
            case hs30 => ((try dsimp only); first | with_reducible exact SK.out _ T | exact SK.out _ TU | exact SK.out _ T)
            clear hK K hS29
            refine wpAnyH_take (i := 12) (oi := { dst := some 19, op := Op.build 133 #[(0, Operand.tmp 7), (1, Operand.tmp 10), (2, Operand.tmp 14), (5, Operand.tmp 17), (7, Operand.tmp 18)], type := 133, pos := "log.go:45", after := #[{ on := 0, ground := Ground.data }, { on := 3, ground := Ground.data }, { on := 7, ground := Ground.data }, { on := 10, ground := Ground.data }, { on := 11, ground := Ground.data }], guard := none }) (v := ?_) rfl (by kernel_rfl) (by kernel_rfl) (by kernel_rfl) (fun _ _ _ h => h) (Or.inl ⟨by rfl, ?hy31⟩) hS30 ?_
            case hy31 => (intro w hSw; (try dsimp only at hSw); go_simp; try with_reducible rfl)
            try simp only [Act.put, List.setIfInBounds_toArray, List.set_cons_zero, List.set_cons_succ]
            refine wpAnyH_ready (rs := [13]) (by kernel_rfl) (by simp) ?_
            refine AllReadyH.cons (o := { dst := some 20, op := Op.box 133 (Operand.tmp 19), type := 65, pos := "log.go:45", after := #[{ on := 12, ground := Ground.data }], guard := none }) rfl (fun K hK => ?_) ?_
            · go_simp; have N3 := newst_made (c := c) (p0 := p0) (ex := ex) (el := el) (TB.out.trans T) EA (Nat.le_trans HB.out hex.1) (Nat.le_trans HB.out hex.2) RC ND (Nat.le_trans HB.out hrc) (Nat.le_trans HB.out hpc) (Nat.le_trans HB.out hmb); have TU : Turn (fun _ => False) V (U13.alloc (.cells #[.int .i64 (c.sh : Int), .int .i64 (c.ib : Int), .int .i64 c.sl, .int .i64 c.qu, .int .i64 c.ru, .int .i64 c.ou, .int .i64 c.st, .pointer (some p0), .pointer (some ⟨ex, 0, none⟩), .int .i64 0, .bool false, .pointer (some ⟨rc, 0, none⟩), .slice none 0 0, .map (some mb)] 133)) := T.alloc _; generalize U13.alloc (.cells #[.int .i64 (c.sh : Int), .int .i64 (c.ib : Int), .int .i64 c.sl, .int .i64 c.qu, .int .i64 c.ru, .int .i64 c.ou, .int .i64 c.st, .pointer (some p0), .pointer (some ⟨ex, 0, none⟩), .int .i64 0, .bool false, .pointer (some ⟨rc, 0, none⟩), .slice none 0 0, .map (some mb)] 133) = UU at *; generalize U13.heap.size = lb at *
              refine hK.out _ _ ?hs32 (fun hS32 => ?_)
              case hs32 => ((try dsimp only); first | with_reducible exact SK.out _ T | exact SK.out _ TU | exact SK.out _ T)
              clear hK K hS30
              refine wpAnyH_take (i := 14) (oi := { dst := some 3, op := Op.assign (Operand.tmp 20), type := 65, pos := "log.go:45", after := #[{ on := 13, ground := Ground.data }, { on := 10, ground := Ground.chain }, { on := 0, ground := Ground.phase }, { on := 1, ground := Ground.phase }, { on := 2, ground := Ground.phase }, { on := 3, ground := Ground.phase }, { on := 4, ground := Ground.phase }, { on := 5, ground := Ground.phase }, { on := 6, ground := Ground.phase }, { on := 7, ground := Ground.phase }, { on := 8, ground := Ground.phase }, { on := 9, ground := Ground.phase }, { on := 10, ground := Ground.phase }, { on := 11, ground := Ground.phase }, { on := 12, ground := Ground.phase }, { on := 13, ground := Ground.phase }], guard := none }) (v := ?_) rfl (by kernel_rfl) (by kernel_rfl) (by kernel_rfl) (fun _ _ _ h => h) (Or.inl ⟨by rfl, ?hy33⟩) hS32 ?_
              case hy33 => (intro w hSw; (try dsimp only at hSw); go_simp; try with_reducible rfl)
              try simp only [Act.put, List.setIfInBounds_toArray, List.set_cons_zero, List.set_cons_succ]
              refine wpAnyH_done (by kernel_rfl) ?_ _
              go_wp2_with fail
              go_meet
              case rel => exact ⟨_, _, _, _, rfl, N3, TU⟩
            exact AllReadyH.nil
          exact AllReadyH.nil
        exact AllReadyH.nil
      exact AllReadyH.nil
    exact AllReadyH.nil
  case rest =>
  obtain ⟨lb, rc, pc, mb, rfl, N0, T5⟩ := hcut
  have XK := SK.out wc T5
  have x0 := XK.1
  have x1 := XK.2.1
  have BX := (BB.out.turn T5 (fun f => f))
  have R0 : NewRel w c lb rc pc mb b1 c.sh c.sh (.int .i64 0) wc := ⟨0, _, [], [], rfl, Nat.zero_le _, rfl, N0, BX, x1⟩
  have hsh := HO.out.a1
  have hsh0 := Lib.hid HO.out.a0
  clear XK N0 T5 BX x1 T SK SK2 VE HB TB hw hw1 hw2
  obtain ⟨n, hn⟩ : ∃ n, c.sh = n := ⟨_, rfl⟩
  have HN := Lib.hid hn
  rw [hn] at x0 R0 hsh
  clear hn
  go_wp2_with fail
  go_loopg [23] n (fun gh v23 wr => NewRel w c lb rc pc mb b1 n gh v23 wr)
  case atStart => exact R0
  case round =>
    clear R0 x0
    obtain ⟨k, v, rs, ps, rfl, hk, hg, hN, hB, x1⟩ := hrel
    obtain ⟨va, vcap, rfl, _⟩ := own_slice hN.row
    by_cases hkn : k < n
    · have u1 : decide ((k : Int) < (n : Int)) = true := decide_eq_true (by omega)
      have u2 : decide (k < n) = true := decide_eq_true hkn
      have GG := Lib.hid (And.intro hg hkn)
      have TD : Turn (fun _ => False) wr wr.drew := (Turn.refl _ wr).drewN 1
      have NN := Lib.hid (hN.turn TD)
      have BN := Lib.hid (hB.turn TD (fun f => f))
      have x1 : wr.drew.cell? ⟨b1, 1, none⟩ = some (.int .i64 (c.ib : Int)) := x1
      have y12 : wr.drew.cell? ⟨lb, 12, none⟩ = some (.slice va k vcap) := hN.k12
      have fl := (hN.turn TD).bl.fz
      clear hg hkn hN hB TD
      go_upto_region 6 with fail
      refine wp_region_held_drew (S := (fun w' => w'.cell? ⟨b1, 1, none⟩ = some (.int .i64 (c.ib : Int)))) (by kernel_rfl) ?hs0 (fun hS0 => ?_)
      case hs0 => ((try dsimp only); first | with_reducible exact x1 | with_reducible exact x1c | with_reducible exact x1d | with_reducible exact x1e | with_reducible exact x1f | exact x1 | exact x1c | exact x1d | exact x1e | exact x1f)
      obtain ⟨VS, hVS⟩ : ∃ x, wr.drew.heap.size = x := ⟨_, rfl⟩; have hVS := Lib.hid hVS; generalize wr.drew = V at *
      refine wpAnyH_take (i := 0) (oi := { dst := some 25, op := Op.move (Operand.tmp 3), type := 65, pos := "log.go:53", after := #[], guard := none }) (v := ?_) rfl (by kernel_rfl) (by kernel_rfl) (by kernel_rfl) (fun _ _ _ h => h) (Or.inl ⟨by rfl, ?hy1⟩) hS0 ?_
      case hy1 => (intro w hSw; (try dsimp only at hSw); go_simp; try with_reducible rfl)
      try simp only [Act.put, List.setIfInBounds_toArray, List.set_cons_zero, List.set_cons_succ]
      refine wpAnyH_take (i := 1) (oi := { dst := some 26, op := Op.move (Operand.tmp 3), type := 65, pos := "log.go:53", after := #[], guard := none }) (v := ?_) rfl (by kernel_rfl) (by kernel_rfl) (by kernel_rfl) (fun _ _ _ h => h) (Or.inl ⟨by rfl, ?hy2⟩) hS0 ?_
      case hy2 => (intro w hSw; (try dsimp only at hSw); go_simp; try with_reducible rfl)
      try simp only [Act.put, List.setIfInBounds_toArray, List.set_cons_zero, List.set_cons_succ]
      refine wpAnyH_take (i := 2) (oi := { dst := some 27, op := Op.nilCheck (Operand.tmp 26), type := 0, pos := "log.go:53", after := #[{ on := 1, ground := Ground.data }], guard := none }) (v := ?_) rfl (by kernel_rfl) (by kernel_rfl) (by kernel_rfl) (fun _ _ _ h => h) (Or.inl ⟨by rfl, ?hy3⟩) hS0 ?_
      case hy3 => (intro w hSw; (try dsimp only at hSw); go_simp; try with_reducible rfl)
      try simp only [Act.put, List.setIfInBounds_toArray, List.set_cons_zero, List.set_cons_succ]
      refine wpAnyH_take (i := 3) (oi := { dst := some 28, op := Op.fieldAddr 133 (Operand.tmp 27) 6, type := 0, pos := "log.go:53", after := #[{ on := 2, ground := Ground.data }], guard := none }) (v := ?_) rfl (by kernel_rfl) (by kernel_rfl) (by kernel_rfl) (fun _ _ _ h => h) (Or.inl ⟨by rfl, ?hy4⟩) hS0 ?_
      case hy4 => (intro w hSw; (try dsimp only at hSw); go_simp; try with_reducible rfl)
      try simp only [Act.put, List.setIfInBounds_toArray, List.set_cons_zero, List.set_cons_succ]
      refine wpAnyH_take (i := 5) (oi := { dst := some 30, op := Op.fieldAddr 47 (Operand.tmp 1) 1, type := 0, pos := "log.go:53", after := #[], guard := none }) (v := ?_) rfl (by kernel_rfl) (by kernel_rfl) (by kernel_rfl) (fun _ _ _ h => h) (Or.inl ⟨by rfl, ?hy5⟩) hS0 ?_
      case hy5 => (intro w hSw; (try dsimp only at hSw); go_simp; try with_reducible rfl)
      try simp only [Act.put, List.setIfInBounds_toArray, List.set_cons_zero, List.set_cons_succ]
      refine wpAnyH_take (i := 6) (oi := { dst := some 31, op := Op.load 3 (Operand.tmp 30), type := 3, pos := "log.go:53", after := #[{ on := 5, ground := Ground.data }], guard := none }) (v := ?_) rfl (by kernel_rfl) (by kernel_rfl) (by kernel_rfl) (fun _ _ _ h => h) (Or.inl ⟨by rfl, ?hy6⟩) hS0 ?_
      case hy6 => (intro w hSw; (try dsimp only at hSw); go_simp; try with_reducible rfl)
      try simp only [Act.put, List.setIfInBounds_toArray, List.set_cons_zero, List.set_cons_succ]
      refine wpAnyH_ready (rs := [4, 7]) (by kernel_rfl) (by simp) ?_
      refine AllReadyH.cons (o := { dst := some 29, op := Op.load 131 (Operand.tmp 28), type := 131, pos := "log.go:53", after := #[{ on := 3, ground := Ground.data }], guard := none }) rfl (fun K hK => ?_) ?_
      · go_simp
        refine hK.out _ _ ?hs7 (fun hS7 => ?_)
        case hs7 => ((try dsimp only); first | with_reducible exact x1 | with_reducible exact x1c | with_reducible exact x1d | with_reducible exact x1e | with_reducible exact x1f | exact x1 | exact x1c | exact x1d | exact x1e | exact x1f)
        clear hK K hS0
        refine wpAnyH_ready (rs := [7]) (by kernel_rfl) (by simp) ?_
        refine AllReadyH.cons (o := { dst := some 32, op := Op.call { callee := Callee.value (Operand.func 62), args := #[Operand.tmp 31], argTypes := #[3] }, type := 134, pos := "log.go:53", after := #[{ on := 6, ground := Ground.data }], guard := none }) rfl (fun K hK => ?_) ?_
        · go_simp; with_reducible refine (oring_new V IL.out.1 IL.out.2).mono ?_; rintro en WC ⟨rfl, OC, TC⟩; have hrk : V.heap.size ≤ V.heap.size + 1 := Nat.le_succ _; have hpk : V.heap.size ≤ V.heap.size := Nat.le_refl _; have hV : V.heap.size = VS := hVS.out; rw [hV] at OC hrk hpk; obtain ⟨v13, W13, hrun, hown13, TA⟩ := new_app (r := VS + 1) (own_turn NN.out.row TC (fun _ _ f => f)) (NN.out.tn.trans TC).size (by have := GG.out.2; omega); obtain ⟨va13, vc13, rfl, _⟩ := own_slice hown13; have NST := Lib.hid (newst_step NN.out TC OC (Nat.le_of_eq hV) (Nat.le_trans (Nat.le_of_eq hV) (Nat.le_succ _)) hown13 TA); have y12c := TC.cell (fun f => f) y12; have x1c := TC.cell (fun f => f) x1; have BC := BN.out.turn TC (fun f => f); have rowc := own_turn NN.out.row TC (fun _ _ f => f); have nrb : ¬ (Value.slice va k vcap).ownBlock = some b1 := fun e => absurd rfl (show b1 ≠ b1 from (own_blk rowc e).ne BC (by decide)); have nlb : b1 ≠ lb := BC.ne (NN.out.turn TC).bl (by decide); have nrl : ¬ (Value.slice va k vcap).ownBlock = some lb := fun e => absurd rfl (show lb ≠ lb from (own_blk rowc e).ne (NN.out.turn TC).bl (by decide)); have x1e := TA.cell nrb x1c; have y12e := TA.cell nrl y12c; have fle : ∀ i, W13.frozen? ⟨lb, i, none⟩ = false := ((NN.out.turn TC).bl.turn TA nrl).fz; have x1f := (cell_far W13 lb b1 12 1 (.slice va13 (k + 1) vc13) (Ne.symm nlb)).trans x1e; have BE := Lib.hid ((BC.turn TA nrb).set ⟨lb, 12, none⟩ (.slice va13 (k + 1) vc13)); have RUN := Lib.hid hrun; rw [hV]; clear hown13 TA OC hrk hpk rowc nrb nrl nlb BC hrun; go_simp
          refine hK.out _ _ ?hs8 (fun hS8 => ?_)
          case hs8 => ((try dsimp only); first | with_reducible exact x1 | with_reducible exact x1c | with_reducible exact x1d | with_reducible exact x1e | with_reducible exact x1f | exact x1 | exact x1c | exact x1d | exact x1e | exact x1f)
          clear hK K hS7
          refine wpAnyH_take (i := 8) (oi := { dst := some 33, op := Op.build 137 #[(2, Operand.tmp 32)], type := 137, pos := "log.go:53", after := #[{ on := 7, ground := Ground.data }], guard := none }) (v := ?_) rfl (by kernel_rfl) (by kernel_rfl) (by kernel_rfl) (fun _ _ _ h => h) (Or.inl ⟨by rfl, ?hy9⟩) hS8 ?_
          case hy9 => (intro w hSw; (try dsimp only at hSw); go_simp; try with_reducible rfl)
          try simp only [Act.put, List.setIfInBounds_toArray, List.set_cons_zero, List.set_cons_succ]
          refine wpAnyH_ready (rs := [9]) (by kernel_rfl) (by simp) ?_
          refine AllReadyH.cons (o := { dst := some 34, op := Op.buildSlice 131 1 #[(0, Operand.tmp 33)], type := 131, pos := "log.go:53", after := #[{ on := 8, ground := Ground.data }], guard := none }) rfl (fun K hK => ?_) ?_
          · go_simp; have y12d := (Turn.alloc (Turn.refl (fun _ => False) WC) (.cells #[.int .i64 0, .bool false, .pointer (some ⟨VS + 1, 0, none⟩)] 137)).cell (fun f => f) y12c; have x1d := (Turn.alloc (Turn.refl (fun _ => False) WC) (.cells #[.int .i64 0, .bool false, .pointer (some ⟨VS + 1, 0, none⟩)] 137)).cell (fun f => f) x1c; generalize WC.alloc (.cells #[.int .i64 0, .bool false, .pointer (some ⟨VS + 1, 0, none⟩)] 137) = WB at *; generalize WC.heap.size = tb at *
            refine hK.out _ _ ?hs10 (fun hS10 => ?_)
            case hs10 => ((try dsimp only); first | with_reducible exact x1 | with_reducible exact x1c | with_reducible exact x1d | with_reducible exact x1e | with_reducible exact x1f | exact x1 | exact x1c | exact x1d | exact x1e | exact x1f)
            clear hK K hS8
            refine wpAnyH_ready (rs := [10]) (by kernel_rfl) (by simp) ?_
            refine AllReadyH.cons (o := { dst := some 35, op := Op.call { callee := Callee.builtin Builtin.append, args := #[Operand.tmp 29, Operand.tmp 34], argTypes := #[131, 131] }, type := 131, pos := "log.go:53", after := #[{ on := 4, ground := Ground.data }, { on := 9, ground := Ground.data }, { on := 7, ground := Ground.chain }], guard := none }) rfl (fun K hK => ?_) ?_
            · refine rs_append_run (by rfl) _ _ _ (by rfl) (by rfl) (by rfl) RUN.out ?_; go_simp
              refine hK.out _ _ ?hs11 (fun hS11 => ?_)
              case hs11 => ((try dsimp only); first | with_reducible exact x1 | with_reducible exact x1c | with_reducible exact x1d | with_reducible exact x1e | with_reducible exact x1f | exact x1 | exact x1c | exact x1d | exact x1e | exact x1f)
              clear hK K hS10
              refine wpAnyH_take (i := 11) (oi := { dst := some 36, op := Op.nilCheck (Operand.tmp 25), type := 0, pos := "log.go:53", after := #[{ on := 0, ground := Ground.data }, { on := 0, ground := Ground.phase }, { on := 1, ground := Ground.phase }, { on := 2, ground := Ground.phase }, { on := 3, ground := Ground.phase }, { on := 4, ground := Ground.phase }, { on := 5, ground := Ground.phase }, { on := 6, ground := Ground.phase }, { on := 7, ground := Ground.phase }, { on := 8, ground := Ground.phase }, { on := 9, ground := Ground.phase }, { on := 10, ground := Ground.phase }], guard := none }) (v := ?_) rfl (by kernel_rfl) (by kernel_rfl) (by kernel_rfl) (fun _ _ _ h => h) (Or.inl ⟨by rfl, ?hy12⟩) hS11 ?_
              case hy12 => (intro w hSw; (try dsimp only at hSw); go_simp; try with_reducible rfl)
              try simp only [Act.put, List.setIfInBounds_toArray, List.set_cons_zero, List.set_cons_succ]
              refine wpAnyH_take (i := 12) (oi := { dst := some 37, op := Op.fieldAddr 133 (Operand.tmp 36) 6, type := 0, pos := "log.go:53", after := #[{ on := 11, ground := Ground.data }, { on := 0, ground := Ground.phase }, { on := 1, ground := Ground.phase }, { on := 2, ground := Ground.phase }, { on := 3, ground := Ground.phase }, { on := 4, ground := Ground.phase }, { on := 5, ground := Ground.phase }, { on := 6, ground := Ground.phase }, { on := 7, ground := Ground.phase }, { on := 8, ground := Ground.phase }, { on := 9, ground := Ground.phase }, { on := 10, ground := Ground.phase }], guard := none }) (v := ?_) rfl (by kernel_rfl) (by kernel_rfl) (by kernel_rfl) (fun _ _ _ h => h) (Or.inl ⟨by rfl, ?hy13⟩) hS11 ?_
              case hy13 => (intro w hSw; (try dsimp only at hSw); go_simp; try with_reducible rfl)
              try simp only [Act.put, List.setIfInBounds_toArray, List.set_cons_zero, List.set_cons_succ]
              refine wpAnyH_ready (rs := [13]) (by kernel_rfl) (by simp) ?_
              refine AllReadyH.cons (o := { dst := none, op := Op.store 131 (Operand.tmp 37) (Operand.tmp 35), type := 0, pos := "log.go:53", after := #[{ on := 12, ground := Ground.data }, { on := 10, ground := Ground.data }, { on := 10, ground := Ground.chain }, { on := 0, ground := Ground.phase }, { on := 1, ground := Ground.phase }, { on := 2, ground := Ground.phase }, { on := 3, ground := Ground.phase }, { on := 4, ground := Ground.phase }, { on := 5, ground := Ground.phase }, { on := 6, ground := Ground.phase }, { on := 7, ground := Ground.phase }, { on := 8, ground := Ground.phase }, { on := 9, ground := Ground.phase }, { on := 10, ground := Ground.phase }], guard := none }) rfl (fun K hK => ?_) ?_
              · go_simp
                refine hK.out _ _ ?hs14 (fun hS14 => ?_)
                case hs14 => ((try dsimp only); first | with_reducible exact x1 | with_reducible exact x1c | with_reducible exact x1d | with_reducible exact x1e | with_reducible exact x1f | exact x1 | exact x1c | exact x1d | exact x1e | exact x1f)
                clear hK K hS11
                refine wpAnyH_done (by kernel_rfl) ?_ _
                go_wp2_with fail
                go_roundg (n - (k + 1))
                case measure => have := GG.out.1; have := GG.out.2; omega
                case rel => exact ⟨k + 1, _, _, _, by go_num, by have := GG.out.2; omega, rfl, NST.out, BE.out, x1f⟩
              exact AllReadyH.nil
            exact AllReadyH.nil
          exact AllReadyH.nil
        exact AllReadyH.nil
      refine AllReadyH.cons (o := { dst := some 32, op := Op.call { callee := Callee.value (Operand.func 62), args := #[Operand.tmp 31], argTypes := #[3] }, type := 134, pos := "log.go:53", after := #[{ on := 6, ground := Ground.data }], guard := none }) rfl (fun K hK => ?_) ?_
      · go_simp; with_reducible refine (oring_new V IL.out.1 IL.out.2).mono ?_; rintro en WC ⟨rfl, OC, TC⟩; have hrk : V.heap.size ≤ V.heap.size + 1 := Nat.le_succ _; have hpk : V.heap.size ≤ V.heap.size := Nat.le_refl _; have hV : V.heap.size = VS := hVS.out; rw [hV] at OC hrk hpk; obtain ⟨v13, W13, hrun, hown13, TA⟩ := new_app (r := VS + 1) (own_turn NN.out.row TC (fun _ _ f => f)) (NN.out.tn.trans TC).size (by have := GG.out.2; omega); obtain ⟨va13, vc13, rfl, _⟩ := own_slice hown13; have NST := Lib.hid (newst_step NN.out TC OC (Nat.le_of_eq hV) (Nat.le_trans (Nat.le_of_eq hV) (Nat.le_succ _)) hown13 TA); have y12c := TC.cell (fun f => f) y12; have x1c := TC.cell (fun f => f) x1; have BC := BN.out.turn TC (fun f => f); have rowc := own_turn NN.out.row TC (fun _ _ f => f); have nrb : ¬ (Value.slice va k vcap).ownBlock = some b1 := fun e => absurd rfl (show b1 ≠ b1 from (own_blk rowc e).ne BC (by decide)); have nlb : b1 ≠ lb := BC.ne (NN.out.turn TC).bl (by decide); have nrl : ¬ (Value.slice va k vcap).ownBlock = some lb := fun e => absurd rfl (show lb ≠ lb from (own_blk rowc e).ne (NN.out.turn TC).bl (by decide)); have x1e := TA.cell nrb x1c; have y12e := TA.cell nrl y12c; have fle : ∀ i, W13.frozen? ⟨lb, i, none⟩ = false := ((NN.out.turn TC).bl.turn TA nrl).fz; have x1f := (cell_far W13 lb b1 12 1 (.slice va13 (k + 1) vc13) (Ne.symm nlb)).trans x1e; have BE := Lib.hid ((BC.turn TA nrb).set ⟨lb, 12, none⟩ (.slice va13 (k + 1) vc13)); have RUN := Lib.hid hrun; rw [hV]; clear hown13 TA OC hrk hpk rowc nrb nrl nlb BC hrun; go_simp
        refine hK.out _ _ ?hs15 (fun hS15 => ?_)
        case hs15 => ((try dsimp only); first | with_reducible exact x1 | with_reducible exact x1c | with_reducible exact x1d | with_reducible exact x1e | with_reducible exact x1f | exact x1 | exact x1c | exact x1d | exact x1e | exact x1f)
        clear hK K hS0
        refine wpAnyH_take (i := 8) (oi := { dst := some 33, op := Op.build 137 #[(2, Operand.tmp 32)], type := 137, pos := "log.go:53", after := #[{ on := 7, ground := Ground.data }], guard := none }) (v := ?_) rfl (by kernel_rfl) (by kernel_rfl) (by kernel_rfl) (fun _ _ _ h => h) (Or.inl ⟨by rfl, ?hy16⟩) hS15 ?_
        case hy16 => (intro w hSw; (try dsimp only at hSw); go_simp; try with_reducible rfl)
        try simp only [Act.put, List.setIfInBounds_toArray, List.set_cons_zero, List.set_cons_succ]
        refine wpAnyH_ready (rs := [4, 9]) (by kernel_rfl) (by simp) ?_
        refine AllReadyH.cons (o := { dst := some 29, op := Op.load 131 (Operand.tmp 28), type := 131, pos := "log.go:53", after := #[{ on := 3, ground := Ground.data }], guard := none }) rfl (fun K hK => ?_) ?_
        · go_simp
          refine hK.out _ _ ?hs17 (fun hS17 => ?_)
          case hs17 => ((try dsimp only); first | with_reducible exact x1 | with_reducible exact x1c | with_reducible exact x1d | with_reducible exact x1e | with_reducible exact x1f | exact x1 | exact x1c | exact x1d | exact x1e | exact x1f)
          clear hK K hS15
          refine wpAnyH_ready (rs := [9]) (by kernel_rfl) (by simp) ?_
          refine AllReadyH.cons (o := { dst := some 34, op := Op.buildSlice 131 1 #[(0, Operand.tmp 33)], type := 131, pos := "log.go:53", after := #[{ on := 8, ground := Ground.data }], guard := none }) rfl (fun K hK => ?_) ?_
          · go_simp; have y12d := (Turn.alloc (Turn.refl (fun _ => False) WC) (.cells #[.int .i64 0, .bool false, .pointer (some ⟨VS + 1, 0, none⟩)] 137)).cell (fun f => f) y12c; have x1d := (Turn.alloc (Turn.refl (fun _ => False) WC) (.cells #[.int .i64 0, .bool false, .pointer (some ⟨VS + 1, 0, none⟩)] 137)).cell (fun f => f) x1c; generalize WC.alloc (.cells #[.int .i64 0, .bool false, .pointer (some ⟨VS + 1, 0, none⟩)] 137) = WB at *; generalize WC.heap.size = tb at *
            refine hK.out _ _ ?hs18 (fun hS18 => ?_)
            case hs18 => ((try dsimp only); first | with_reducible exact x1 | with_reducible exact x1c | with_reducible exact x1d | with_reducible exact x1e | with_reducible exact x1f | exact x1 | exact x1c | exact x1d | exact x1e | exact x1f)
            clear hK K hS17
            refine wpAnyH_ready (rs := [10]) (by kernel_rfl) (by simp) ?_
            refine AllReadyH.cons (o := { dst := some 35, op := Op.call { callee := Callee.builtin Builtin.append, args := #[Operand.tmp 29, Operand.tmp 34], argTypes := #[131, 131] }, type := 131, pos := "log.go:53", after := #[{ on := 4, ground := Ground.data }, { on := 9, ground := Ground.data }, { on := 7, ground := Ground.chain }], guard := none }) rfl (fun K hK => ?_) ?_
            · refine rs_append_run (by rfl) _ _ _ (by rfl) (by rfl) (by rfl) RUN.out ?_; go_simp
              refine hK.out _ _ ?hs19 (fun hS19 => ?_)
              case hs19 => ((try dsimp only); first | with_reducible exact x1 | with_reducible exact x1c | with_reducible exact x1d | with_reducible exact x1e | with_reducible exact x1f | exact x1 | exact x1c | exact x1d | exact x1e | exact x1f)
              clear hK K hS18
              refine wpAnyH_take (i := 11) (oi := { dst := some 36, op := Op.nilCheck (Operand.tmp 25), type := 0, pos := "log.go:53", after := #[{ on := 0, ground := Ground.data }, { on := 0, ground := Ground.phase }, { on := 1, ground := Ground.phase }, { on := 2, ground := Ground.phase }, { on := 3, ground := Ground.phase }, { on := 4, ground := Ground.phase }, { on := 5, ground := Ground.phase }, { on := 6, ground := Ground.phase }, { on := 7, ground := Ground.phase }, { on := 8, ground := Ground.phase }, { on := 9, ground := Ground.phase }, { on := 10, ground := Ground.phase }], guard := none }) (v := ?_) rfl (by kernel_rfl) (by kernel_rfl) (by kernel_rfl) (fun _ _ _ h => h) (Or.inl ⟨by rfl, ?hy20⟩) hS19 ?_
              case hy20 => (intro w hSw; (try dsimp only at hSw); go_simp; try with_reducible rfl)
              try simp only [Act.put, List.setIfInBounds_toArray, List.set_cons_zero, List.set_cons_succ]
              refine wpAnyH_take (i := 12) (oi := { dst := some 37, op := Op.fieldAddr 133 (Operand.tmp 36) 6, type := 0, pos := "log.go:53", after := #[{ on := 11, ground := Ground.data }, { on := 0, ground := Ground.phase }, { on := 1, ground := Ground.phase }, { on := 2, ground := Ground.phase }, { on := 3, ground := Ground.phase }, { on := 4, ground := Ground.phase }, { on := 5, ground := Ground.phase }, { on := 6, ground := Ground.phase }, { on := 7, ground := Ground.phase }, { on := 8, ground := Ground.phase }, { on := 9, ground := Ground.phase }, { on := 10, ground := Ground.phase }], guard := none }) (v := ?_) rfl (by kernel_rfl) (by kernel_rfl) (by kernel_rfl) (fun _ _ _ h => h) (Or.inl ⟨by rfl, ?hy21⟩) hS19 ?_
              case hy21 => (intro w hSw; (try dsimp only at hSw); go_simp; try with_reducible rfl)
              try simp only [Act.put, List.setIfInBounds_toArray, List.set_cons_zero, List.set_cons_succ]
              refine wpAnyH_ready (rs := [13]) (by kernel_rfl) (by simp) ?_
              refine AllReadyH.cons (o := { dst := none, op := Op.store 131 (Operand.tmp 37) (Operand.tmp 35), type := 0, pos := "log.go:53", after := #[{ on := 12, ground := Ground.data }, { on := 10, ground := Ground.data }, { on := 10, ground := Ground.chain }, { on := 0, ground := Ground.phase }, { on := 1, ground := Ground.phase }, { on := 2, ground := Ground.phase }, { on := 3, ground := Ground.phase }, { on := 4, ground := Ground.phase }, { on := 5, ground := Ground.phase }, { on := 6, ground := Ground.phase }, { on := 7, ground := Ground.phase }, { on := 8, ground := Ground.phase }, { on := 9, ground := Ground.phase }, { on := 10, ground := Ground.phase }], guard := none }) rfl (fun K hK => ?_) ?_
              · go_simp
                refine hK.out _ _ ?hs22 (fun hS22 => ?_)
                case hs22 => ((try dsimp only); first | with_reducible exact x1 | with_reducible exact x1c | with_reducible exact x1d | with_reducible exact x1e | with_reducible exact x1f | exact x1 | exact x1c | exact x1d | exact x1e | exact x1f)
                clear hK K hS19
                refine wpAnyH_done (by kernel_rfl) ?_ _
                go_wp2_with fail
                go_roundg (n - (k + 1))
                case measure => have := GG.out.1; have := GG.out.2; omega
                case rel => exact ⟨k + 1, _, _, _, by go_num, by have := GG.out.2; omega, rfl, NST.out, BE.out, x1f⟩
              exact AllReadyH.nil
            exact AllReadyH.nil
          exact AllReadyH.nil
        refine AllReadyH.cons (o := { dst := some 34, op := Op.buildSlice 131 1 #[(0, Operand.tmp 33)], type := 131, pos := "log.go:53", after := #[{ on := 8, ground := Ground.data }], guard := none }) rfl (fun K hK => ?_) ?_
        · go_simp; have y12d := (Turn.alloc (Turn.refl (fun _ => False) WC) (.cells #[.int .i64 0, .bool false, .pointer (some ⟨VS + 1, 0, none⟩)] 137)).cell (fun f => f) y12c; have x1d := (Turn.alloc (Turn.refl (fun _ => False) WC) (.cells #[.int .i64 0, .bool false, .pointer (some ⟨VS + 1, 0, none⟩)] 137)).cell (fun f => f) x1c; generalize WC.alloc (.cells #[.int .i64 0, .bool false, .pointer (some ⟨VS + 1, 0, none⟩)] 137) = WB at *; generalize WC.heap.size = tb at *
          refine hK.out _ _ ?hs23 (fun hS23 => ?_)
          case hs23 => ((try dsimp only); first | with_reducible exact x1 | with_reducible exact x1c | with_reducible exact x1d | with_reducible exact x1e | with_reducible exact x1f | exact x1 | exact x1c | exact x1d | exact x1e | exact x1f)
          clear hK K hS15
          refine wpAnyH_ready (rs := [4]) (by kernel_rfl) (by simp) ?_
          refine AllReadyH.cons (o := { dst := some 29, op := Op.load 131 (Operand.tmp 28), type := 131, pos := "log.go:53", after := #[{ on := 3, ground := Ground.data }], guard := none }) rfl (fun K hK => ?_) ?_
          · go_simp
            refine hK.out _ _ ?hs24 (fun hS24 => ?_)
            case hs24 => ((try dsimp only); first | with_reducible exact x1 | with_reducible exact x1c | with_reducible exact x1d | with_reducible exact x1e | with_reducible exact x1f | exact x1 | exact x1c | exact x1d | exact x1e | exact x1f)
            clear hK K hS23
            refine wpAnyH_ready (rs := [10]) (by kernel_rfl) (by simp) ?_
            refine AllReadyH.cons (o := { dst := some 35, op := Op.call { callee := Callee.builtin Builtin.append, args := #[Operand.tmp 29, Operand.tmp 34], argTypes := #[131, 131] }, type := 131, pos := "log.go:53", after := #[{ on := 4, ground := Ground.data }, { on := 9, ground := Ground.data }, { on := 7, ground := Ground.chain }], guard := none }) rfl (fun K hK => ?_) ?_
            · refine rs_append_run (by rfl) _ _ _ (by rfl) (by rfl) (by rfl) RUN.out ?_; go_simp
              refine hK.out _ _ ?hs25 (fun hS25 => ?_)
              case hs25 => ((try dsimp only); first | with_reducible exact x1 | with_reducible exact x1c | with_reducible exact x1d | with_reducible exact x1e | with_reducible exact x1f | exact x1 | exact x1c | exact x1d | exact x1e | exact x1f)
              clear hK K hS24
              refine wpAnyH_take (i := 11) (oi := { dst := some 36, op := Op.nilCheck (Operand.tmp 25), type := 0, pos := "log.go:53", after := #[{ on := 0, ground := Ground.data }, { on := 0, ground := Ground.phase }, { on := 1, ground := Ground.phase }, { on := 2, ground := Ground.phase }, { on := 3, ground := Ground.phase }, { on := 4, ground := Ground.phase }, { on := 5, ground := Ground.phase }, { on := 6, ground := Ground.phase }, { on := 7, ground := Ground.phase }, { on := 8, ground := Ground.phase }, { on := 9, ground := Ground.phase }, { on := 10, ground := Ground.phase }], guard := none }) (v := ?_) rfl (by kernel_rfl) (by kernel_rfl) (by kernel_rfl) (fun _ _ _ h => h) (Or.inl ⟨by rfl, ?hy26⟩) hS25 ?_
              case hy26 => (intro w hSw; (try dsimp only at hSw); go_simp; try with_reducible rfl)
              try simp only [Act.put, List.setIfInBounds_toArray, List.set_cons_zero, List.set_cons_succ]
              refine wpAnyH_take (i := 12) (oi := { dst := some 37, op := Op.fieldAddr 133 (Operand.tmp 36) 6, type := 0, pos := "log.go:53", after := #[{ on := 11, ground := Ground.data }, { on := 0, ground := Ground.phase }, { on := 1, ground := Ground.phase }, { on := 2, ground := Ground.phase }, { on := 3, ground := Ground.phase }, { on := 4, ground := Ground.phase }, { on := 5, ground := Ground.phase }, { on := 6, ground := Ground.phase }, { on := 7, ground := Ground.phase }, { on := 8, ground := Ground.phase }, { on := 9, ground := Ground.phase }, { on := 10, ground := Ground.phase }], guard := none }) (v := ?_) rfl (by kernel_rfl) (by kernel_rfl) (by kernel_rfl) (fun _ _ _ h => h) (Or.inl ⟨by rfl, ?hy27⟩) hS25 ?_
              case hy27 => (intro w hSw; (try dsimp only at hSw); go_simp; try with_reducible rfl)
              try simp only [Act.put, List.setIfInBounds_toArray, List.set_cons_zero, List.set_cons_succ]
              refine wpAnyH_ready (rs := [13]) (by kernel_rfl) (by simp) ?_
              refine AllReadyH.cons (o := { dst := none, op := Op.store 131 (Operand.tmp 37) (Operand.tmp 35), type := 0, pos := "log.go:53", after := #[{ on := 12, ground := Ground.data }, { on := 10, ground := Ground.data }, { on := 10, ground := Ground.chain }, { on := 0, ground := Ground.phase }, { on := 1, ground := Ground.phase }, { on := 2, ground := Ground.phase }, { on := 3, ground := Ground.phase }, { on := 4, ground := Ground.phase }, { on := 5, ground := Ground.phase }, { on := 6, ground := Ground.phase }, { on := 7, ground := Ground.phase }, { on := 8, ground := Ground.phase }, { on := 9, ground := Ground.phase }, { on := 10, ground := Ground.phase }], guard := none }) rfl (fun K hK => ?_) ?_
              · go_simp
                refine hK.out _ _ ?hs28 (fun hS28 => ?_)
                case hs28 => ((try dsimp only); first | with_reducible exact x1 | with_reducible exact x1c | with_reducible exact x1d | with_reducible exact x1e | with_reducible exact x1f | exact x1 | exact x1c | exact x1d | exact x1e | exact x1f)
                clear hK K hS25
                refine wpAnyH_done (by kernel_rfl) ?_ _
                go_wp2_with fail
                go_roundg (n - (k + 1))
                case measure => have := GG.out.1; have := GG.out.2; omega
                case rel => exact ⟨k + 1, _, _, _, by go_num, by have := GG.out.2; omega, rfl, NST.out, BE.out, x1f⟩
              exact AllReadyH.nil
            exact AllReadyH.nil
          exact AllReadyH.nil
        exact AllReadyH.nil
      exact AllReadyH.nil
    · obtain rfl : k = n := by omega
      have u1 : decide ((k : Int) < (k : Int)) = false := decide_eq_false (by omega)
      have u2 : decide (k < k) = false := decide_eq_false (by omega)
      have F := Lib.hid hN
      clear hN hB x1 hg
      go_wp2_with fail
      go_ret
      have hF := F.out
      rw [← HN.out] at hF
      exact newst_done hF hsh0.out (by rw [HN.out]; exact hsh) HO.out.g0
end Go.Proofs.YtgfobgabdafclaaGreat
