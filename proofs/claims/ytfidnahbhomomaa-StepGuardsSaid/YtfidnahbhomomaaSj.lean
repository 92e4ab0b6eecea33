/-
  The closure that tells whether the newest event is taken; rows of runs.
-/
import Derived.Test.YtfidnahbhomomaaSi
import Derived.Maps.AppendAt
namespace Go.Proofs.Ytfidnahbhomomaa
open Go.ChangeShapes Go.WideShapes Go.ChangeAt Go.RowKit
set_option linter.unusedVariables false
set_option linter.unusedSimpArgs false
/-- Is an event taken at a cell? -/
def takesB (X : List (List Ev)) (at_ : Nat) (e : Ev) (c : Cel) : Bool := e.typ == c.typ && allR (withE X at_ e) c.rules
theorem size26 : (Try.prog.info? 26).map (·.size) = some 3 := by kernel_rfl
set_option maxRecDepth 100000 in
set_option maxHeartbeats 4000000 in
theorem takes_is {w : World} {tb hb nb eb : Nat} {cv hv ev : Value} {T : Tab} {H : List Ev} {EL : List (List Ev)} {at_ n : Nat} {e : Ev} {c : Cel} {P : Int → Prop}
    (ht : w.rangeAt tb 0 [cv, .int .i64 T.win, .bool T.key]) (hh : w.cell? ⟨hb, 0, none⟩ = some hv) (hn : w.cell? ⟨nb, 0, none⟩ = some (.int .i64 (n : Int))) (he : w.cell? ⟨eb, 0, none⟩ = some ev)
    (h : CellsAt w cv T.cells) (hH : EvsAt w hv H) (hs : ESetsAt w ev EL) (ok : ESOk EL) (hc : T.cells[at_]? = some c) (hro : RulesOk P c.rules) (ha : at_ ≤ 100) (hHn : H[n]? = some e) :
    Calls Try.prog 35 #[.int .i64 (at_ : Int), .pointer (some ⟨tb, 0, none⟩), .pointer (some ⟨hb, 0, none⟩), .pointer (some ⟨nb, 0, none⟩), .pointer (some ⟨eb, 0, none⟩)] w fun en w' => en = .returned (.bool (takesB EL at_ e c)) ∧ Turn (fun _ => False) w w' := by
  have CON := Lib.hid (show ∀ U, Turn (fun _ => False) w U → Calls Try.prog 31 #[.agg #[cv, .int .i64 T.win, .bool T.key], .agg e.cells.toArray, .int .i64 (at_ : Int), ev] U fun en w' => en = .returned (.bool (takesB EL at_ e c)) ∧ Turn (fun _ => False) U w' from fun U TU => taken_is (h.turn TU) hc hro ha (hs.turn TU) ok)
  generalize takesB EL at_ e c = tkb at *
  obtain ⟨p, hvb, hvo, hvc, rfl, -, hp, hx⟩ := hH
  have hlt := (List.getElem?_eq_some_iff.1 hHn).1
  obtain ⟨rfl, -⟩ := hp.resolve_left (fun e => by rw [e] at hlt; exact absurd hlt (Nat.not_lt_zero n))
  have hr := hx n e hHn
  have a0 : (0 : Int) ≤ (n : Int) := Int.natCast_nonneg n
  have a1 : (n : Int) < (H.length : Int) := Int.ofNat_lt.2 hlt
  have FF := Lib.hid (show ∀ U, Turn (fun _ => False) w U → U.rangeAt tb 0 [cv, .int .i64 T.win, .bool T.key] ∧ U.rangeAt hvb (hvo + n * 6) e.cells ∧ U.cell? ⟨hb, 0, none⟩ = some (.slice (some ⟨hvb, hvo, none⟩) H.length hvc) ∧ U.cell? ⟨nb, 0, none⟩ = some (.int .i64 (n : Int)) ∧ U.cell? ⟨eb, 0, none⟩ = some ev ∧ Turn (fun _ => False) w U from fun U TU => ⟨range_turn ht TU id, range_turn hr TU id, TU.cell id hh, TU.cell id hn, TU.cell id he, TU⟩)
  have sD := FF.out w.drew ((Turn.refl _ w).drewN 1)
  obtain ⟨et, ek, eaa, ebb, ec, ed⟩ := e
  obtain ⟨ct, cp, cr, cn⟩ := c
  unfold Ev.cells at *
  dsimp only at *
  clear ht hh hn he h hs ok hc hro ha hHn hx hp hlt hr
  go_enter Try.func35, Try.ntmps35
  go_upto_region 1 with fail
  refine wp_region_held_drew (S := fun w' => w'.rangeAt tb 0 [cv, .int .i64 T.win, .bool T.key] ∧ w'.rangeAt hvb (hvo + n * 6) [.int .i64 et, .int .i64 ek, .int .i64 eaa, .int .i64 ebb, .int .i64 ec, .int .i64 ed] ∧ w'.cell? ⟨hb, 0, none⟩ = some (.slice (some ⟨hvb, hvo, none⟩) H.length hvc) ∧ w'.cell? ⟨nb, 0, none⟩ = some (.int .i64 (n : Int)) ∧ w'.cell? ⟨eb, 0, none⟩ = some ev ∧ Turn (fun _ => False) w w') (by kernel_rfl) ?hs0 (fun hS0 => ?_)
  case hs0 => exact sD
  refine wpAnyH_take (i := 0) (oi := { dst := some 7, op := Op.load 26 (Operand.tmp 1), type := 26, pos := "step.go:28", after := #[], guard := none }) (v := .agg #[cv, .int .i64 T.win, .bool T.key]) rfl (by kernel_rfl) (by kernel_rfl) (by kernel_rfl) (fun _ _ _ h => h) (yieldsIf_load_mid rfl 26 _ rfl tb 0 rfl [cv, .int .i64 T.win, .bool T.key] _ (fun _ hSw => hSw.1) Try.underlying26 rfl size26) hS0 ?_
  try simp only [Act.put, List.setIfInBounds_toArray, List.set_cons_zero, List.set_cons_succ]
  refine wpAnyH_take (i := 1) (oi := { dst := some 8, op := Op.load 36 (Operand.tmp 2), type := 36, pos := "step.go:28", after := #[], guard := none }) (v := ?_) rfl (by kernel_rfl) (by kernel_rfl) (by kernel_rfl) (fun _ _ _ h => h) (Or.inl ⟨by rfl, ?hy2⟩) hS0 ?_
  case hy2 => (intro w hSw; (try dsimp only at hSw); go_simp; try with_reducible rfl)
  try simp only [Act.put, List.setIfInBounds_toArray, List.set_cons_zero, List.set_cons_succ]
  refine wpAnyH_take (i := 2) (oi := { dst := some 9, op := Op.load 3 (Operand.tmp 3), type := 3, pos := "step.go:28", after := #[], guard := none }) (v := ?_) rfl (by kernel_rfl) (by kernel_rfl) (by kernel_rfl) (fun _ _ _ h => h) (Or.inl ⟨by rfl, ?hy3⟩) hS0 ?_
  case hy3 => (intro w hSw; (try dsimp only at hSw); go_simp; try with_reducible rfl)
  try simp only [Act.put, List.setIfInBounds_toArray, List.set_cons_zero, List.set_cons_succ]
  refine wpAnyH_take (i := 3) (oi := { dst := some 10, op := Op.indexAddr 36 (Operand.tmp 8) (Operand.tmp 9), type := 0, pos := "step.go:28", after := #[{ on := 1, ground := Ground.data }, { on := 2, ground := Ground.data }], guard := none }) (v := ?_) rfl (by kernel_rfl) (by kernel_rfl) (by kernel_rfl) (fun _ _ _ h => h) (Or.inl ⟨by rfl, ?hy4⟩) hS0 ?_
  case hy4 => (intro w hSw; (try dsimp only at hSw); go_simp; try with_reducible rfl)
  try simp only [Act.put, List.setIfInBounds_toArray, List.set_cons_zero, List.set_cons_succ]
  refine wpAnyH_take (i := 4) (oi := { dst := some 11, op := Op.load 62 (Operand.tmp 10), type := 62, pos := "step.go:28", after := #[{ on := 3, ground := Ground.data }], guard := none }) (v := .agg #[.int .i64 et, .int .i64 ek, .int .i64 eaa, .int .i64 ebb, .int .i64 ec, .int .i64 ed]) rfl (by kernel_rfl) (by kernel_rfl) (by kernel_rfl) (fun _ _ _ h => h) (yieldsIf_load_mid rfl 62 _ rfl hvb (hvo + n * 6) rfl [.int .i64 et, .int .i64 ek, .int .i64 eaa, .int .i64 ebb, .int .i64 ec, .int .i64 ed] _ (fun _ hSw => hSw.2.1) Try.underlying62 rfl size62) hS0 ?_
  try simp only [Act.put, List.setIfInBounds_toArray, List.set_cons_zero, List.set_cons_succ]
  refine wpAnyH_take (i := 5) (oi := { dst := some 12, op := Op.move (Operand.tmp 0), type := 3, pos := "step.go:28", after := #[], guard := none }) (v := ?_) rfl (by kernel_rfl) (by kernel_rfl) (by kernel_rfl) (fun _ _ _ h => h) (Or.inl ⟨by rfl, ?hy6⟩) hS0 ?_
  case hy6 => (intro w hSw; (try dsimp only at hSw); go_simp; try with_reducible rfl)
  try simp only [Act.put, List.setIfInBounds_toArray, List.set_cons_zero, List.set_cons_succ]
  refine wpAnyH_take (i := 6) (oi := { dst := some 13, op := Op.load 72 (Operand.tmp 4), type := 72, pos := "step.go:28", after := #[], guard := none }) (v := ?_) rfl (by kernel_rfl) (by kernel_rfl) (by kernel_rfl) (fun _ _ _ h => h) (Or.inl ⟨by rfl, ?hy7⟩) hS0 ?_
  case hy7 => (intro w hSw; (try dsimp only at hSw); go_simp; try with_reducible rfl)
  try simp only [Act.put, List.setIfInBounds_toArray, List.set_cons_zero, List.set_cons_succ]
  refine wpAnyH_ready (rs := [7]) (by kernel_rfl) (by simp) ?_
  refine AllReadyH.cons (o := { dst := some 14, op := Op.call { callee := Callee.value (Operand.func 31), args := #[Operand.tmp 7, Operand.tmp 11, Operand.tmp 12, Operand.tmp 13], argTypes := #[26, 62, 3, 72] }, type := 4, pos := "step.go:28", after := #[{ on := 0, ground := Ground.data }, { on := 4, ground := Ground.data }, { on := 5, ground := Ground.data }, { on := 6, ground := Ground.data }], guard := none }) rfl (fun K hK => ?_) AllReadyH.nil
  go_simp
  with_reducible refine (CON.out _ sD.2.2.2.2.2).mono ?_
  rintro en Wa ⟨rfl, Ta⟩
  have sA := FF.out _ (sD.2.2.2.2.2.trans Ta)
  go_simp
  refine hK.out _ _ ?hs8 (fun hS8 => ?_)
  case hs8 => exact sA
  clear hK K hS0
  refine wpAnyH_take (i := 8) (oi := { dst := some 6, op := Op.assign (Operand.tmp 14), type := 4, pos := "step.go:28", after := #[{ on := 7, ground := Ground.data }, { on := 7, ground := Ground.chain }, { on := 0, ground := Ground.phase }, { on := 1, ground := Ground.phase }, { on := 2, ground := Ground.phase }, { on := 3, ground := Ground.phase }, { on := 4, ground := Ground.phase }, { on := 5, ground := Ground.phase }, { on := 6, ground := Ground.phase }, { on := 7, ground := Ground.phase }], guard := none }) (v := ?_) rfl (by kernel_rfl) (by kernel_rfl) (by kernel_rfl) (fun _ _ _ h => h) (Or.inl ⟨by rfl, ?hy9⟩) hS8 ?_
  case hy9 => (intro w hSw; (try dsimp only at hSw); go_simp; try with_reducible rfl)
  try simp only [Act.put, List.setIfInBounds_toArray, List.set_cons_zero, List.set_cons_succ]
  refine wpAnyH_done (by kernel_rfl) ?_ _
  have FIN := Lib.hid sA.2.2.2.2.2
  clear sA sD
  go_wp2_with fail
  go_ret
  exact ⟨rfl, FIN.out⟩
/-- A run, as Step answers it. -/
structure Rn where
  at_ : Nat
  sets : List (List Int)
  bl : Bool
def RunsO (base : Nat) (W : World) (v : Value) (l : List Rn) : Prop :=
  ∃ xs, W.ownsRow base 40 3 v l.length xs ∧ ∀ (k : Nat) (r : Rn), l[k]? = some r → ∃ sv, xs[k * 3]? = some (.int .i64 (r.at_ : Int)) ∧ xs[k * 3 + 1]? = some sv ∧ xs[k * 3 + 2]? = some (.bool r.bl) ∧ ∀ W2, Turn (fun q => v.ownBlock = some q) W W2 → RowsAt W2 sv r.sets
theorem RunsO.turn {base : Nat} {W W' : World} {v : Value} {l : List Rn} (h : RunsO base W v l) (T : Turn (fun _ => False) W W') : RunsO base W' v l := by
  obtain ⟨xs, ho, hx⟩ := h
  refine ⟨xs, own_turn ho T (fun _ _ f => f), fun k r hr => ?_⟩
  obtain ⟨sv, h1, h2, h3, h4⟩ := hx k r hr
  exact ⟨sv, h1, h2, h3, fun W2 T2 => h4 W2 ((T.more (fun _ _ f => f.elim)).trans T2)⟩
theorem RunsO.nil (base : Nat) (W : World) : RunsO base W (.slice none 0 0) [] := ⟨[], World.ownsRow_nil _ _ _ _, fun k r h => by simp at h⟩
theorem info40 : (Try.prog.info? 40).map (fun i => (i.zero, i.size, i.bytes)) = some (some (.agg #[.int .i64 0, .slice none 0 0, .bool false]), 3, 40) := by kernel_rfl
theorem size40 : (Try.prog.info? 40).map (·.size) = some 3 := by kernel_rfl
theorem RunsO.len {base : Nat} {W : World} {v : Value} {l : List Rn} (h : RunsO base W v l) : ∃ a cap, v = .slice a l.length cap := by
  obtain ⟨xs, ho, _⟩ := h
  obtain ⟨a, c, e, _⟩ := own_slice ho
  exact ⟨a, c, e⟩
theorem one3 {b : Value} {x : Int} {y : Bool} (h : b.oneCell' = true) : ∀ u ∈ [Value.int .i64 x, b, Value.bool y], u.oneCell' = true := fun u hu => by
  simp only [List.mem_cons, List.not_mem_nil, or_false] at hu
  rcases hu with e | e | e
  · rw [e]; rfl
  · rw [e]; exact h
  · rw [e]; rfl
/-- A run put behind the runs. -/
theorem runs_app {base : Nat} {W : World} {v sv : Value} {l : List Rn} {r : Rn} (h : RunsO base W v l) (hB : base ≤ W.heap.size) (hl : l.length ≤ 100) (hsv : sv.oneCell' = true)
    (hr : ∀ W2, Turn (fun q => v.ownBlock = some q) W W2 → RowsAt W2 sv r.sets) :
    ∃ v' W', (Builtin.append_ #[47, 47] 47 #[v, .slice (some ⟨W.heap.size, 0, none⟩) 1 1]).run Try.prog (W.alloc (.cells #[.int .i64 (r.at_ : Int), sv, .bool r.bl] 40)) = .ok v' W' ∧ RunsO base W' v' (l ++ [r]) ∧ Turn (fun q => base ≤ q) W W' := by
  obtain ⟨i3, j1, j2, j3, j4⟩ := info_parts info40
  obtain ⟨xs, ho, hx⟩ := h
  obtain ⟨A, hA⟩ : ∃ A, A = W.alloc (.cells #[.int .i64 (r.at_ : Int), sv, .bool r.bl] 40) := ⟨_, rfl⟩
  have TA : Turn (fun _ => False) W A := by rw [hA]; exact (Turn.refl _ W).alloc _
  have hsz : A.heap.size = W.heap.size + 1 := by rw [hA, World.size_alloc]
  have RA : A.rangeAt W.heap.size 0 [.int .i64 (r.at_ : Int), sv, .bool r.bl] := by rw [hA]; exact range_new W [.int .i64 (r.at_ : Int), sv, .bool r.bl] 40
  rw [← hA]
  obtain ⟨v', W', hrun, ho', hg, -, hob⟩ := run_append_own_at (P := Try.prog) (w := A) base 47 47 40 i3 _ 3 40 Try.underlying47 j1 j2 j3 j4 rfl (by decide) v l.length xs (own_turn ho TA (fun _ _ f => f)) ⟨W.heap.size, 0, none⟩ 1 1 [.int .i64 (r.at_ : Int), sv, .bool r.bl] rfl (fun j u hu => by
    rw [Go.WideShapes.add_plain]
    exact RA j u hu) (one3 hsv) (by unfold maxLen; omega) (by omega) (by omega)
  have TG : Turn (fun q => v.ownBlock = some q) A W' := (Turn.refl _ A).grown hg (fun k hk => .inl hk)
  have keep : ∀ (s : Value) (L : List (List Int)), (∀ W2, Turn (fun q => v.ownBlock = some q) W W2 → RowsAt W2 s L) → ∀ W2, Turn (fun q => v'.ownBlock = some q) W' W2 → RowsAt W2 s L := fun s L hh W2 T2 => by
    have T1 : Turn (fun q => v.ownBlock = some q) W W' := (TA.more (fun _ _ f => f.elim)).trans TG
    refine hh W2 (T1.comp T2 (fun q hq e => ?_))
    have e : v'.ownBlock = some q := e
    rcases hob with o | o
    · exact o.symm.trans e
    · have e2 := Option.some.inj (o.symm.trans e)
      exact absurd hq (by rw [← e2, hsz]; exact Nat.not_lt.2 (Nat.le_succ _))
  have hlx : xs.length = l.length * 3 := ho.1
  refine ⟨v', W', hrun, ⟨xs ++ [.int .i64 (r.at_ : Int), sv, .bool r.bl], by rw [List.length_append]; exact ho', fun k s hs => ?_⟩, (TA.more (fun _ _ f => f.elim)).trans (TG.more (fun q hq e => (ho.lt q e).1))⟩
  rw [List.getElem?_append] at hs
  split at hs
  · rename_i hk
    obtain ⟨sv2, h1, h2, h3, h4⟩ := hx k s hs
    exact ⟨sv2, by rw [List.getElem?_append_left (by omega)]; exact h1, by rw [List.getElem?_append_left (by omega)]; exact h2, by rw [List.getElem?_append_left (by omega)]; exact h3, keep _ _ h4⟩
  · rename_i hk
    have hk2 := (List.getElem?_eq_some_iff.1 hs).1
    have e0 : k = l.length := by simp at hk2; omega
    subst e0
    simp at hs
    subst hs
    refine ⟨sv, ?_, ?_, ?_, keep _ _ hr⟩
    · rw [List.getElem?_append_right (by omega), hlx, Nat.sub_self]; rfl
    · rw [List.getElem?_append_right (by omega), hlx, Nat.add_sub_cancel_left]; rfl
    · rw [List.getElem?_append_right (by omega), hlx, Nat.add_sub_cancel_left]; rfl
end Go.Proofs.Ytfidnahbhomomaa
