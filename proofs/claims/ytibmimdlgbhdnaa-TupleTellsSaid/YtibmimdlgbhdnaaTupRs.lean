/-
  The document's own sort of matches: an insertion into a row that is made anew.
-/
import Derived.Deep.RegionHeld3
import Derived.Test.YtibmimdlgbhdnaaTupRf
namespace Go.Proofs.Ytibmimdlgbhdnaa
open Go.ChangeShapes Go.WideShapes Go.ChangeAt Go.RowKit
set_option linter.unusedVariables false

set_option maxRecDepth 100000 in
/-- What lies behind a place of a row of matches, in a new row. -/
theorem rest_app {W : World} {base n at_ c g : Nat} {xs : List Value} (ho : W.ownsRow base 22 1 (.slice (some ⟨g, 0, none⟩) n c) n xs) (h1 : ∀ u ∈ xs, u.oneCell' = true) (hn : n ≤ 1000) (ha : at_ ≤ n) :
    ∃ v' w', (Builtin.append_ #[24, 24] 24 #[.slice (some ⟨W.heap.size, 0, none⟩) 0 0, .slice (some (if c = at_ then ⟨g, 0, none⟩ else ⟨g, at_, none⟩)) (n - at_) (c - at_)]).run Try.prog (W.alloc (.cells #[] 22)) = .ok v' w' ∧ w'.ownsRow W.heap.size 22 1 v' (n - at_) (xs.drop at_) ∧ Turn (fun _ => False) W w' := by
  obtain ⟨i3, j1, j2, j3, j4⟩ := info_parts info22
  have h0 := World.ownsRow_lit (base := W.heap.size) (e := 22) (size := 1) W #[] 0 (Nat.le_refl _) (by decide) rfl
  have T1 : Turn (fun _ => False) W (W.alloc (.cells #[] 22)) := (Turn.refl _ W).alloc _
  have hA := own_turn ho T1 (fun _ _ => id)
  have hx := ho.1
  have hcn : n ≤ c := by
    rcases ho.2 with ⟨e, _⟩ | ⟨_, _, _, e, _, _, hc, _⟩
    · cases e
    · injection e with _ _ e
      omega
  obtain ⟨v', w', hr, hown, hg, _⟩ := run_append_own (W.alloc (.cells #[] 22)) W.heap.size 24 24 22 i3 _ 1 24 Try.underlying24 j1 j2 j3 j4 rfl (by decide) _ 0 [] h0 (if c = at_ then ⟨g, 0, none⟩ else ⟨g, at_, none⟩) (n - at_) (c - at_) (xs.drop at_) (by simp; omega) (fun j u hu => by
    rw [List.getElem?_drop] at hu
    have hj := (List.getElem?_eq_some_iff.1 hu).1
    rw [if_neg (by omega), Go.WideShapes.add_plain]
    exact (hA.cellAt (at_ + j) (by omega)).trans hu) (fun u hu => h1 u (List.mem_of_mem_drop hu)) (by unfold maxLen; omega) (by omega) (by simp)
  exact ⟨v', w', hr, by simpa using hown, turn_fresh T1 h0 ((Turn.refl _ _).grown hg (fun k hk => .inl hk))⟩
set_option maxRecDepth 100000 in
/-- One more behind the first ones, in a new row. -/
theorem cut_app {W : World} {base n at_ c g t : Nat} {xs : List Value} {r : Value} (ho : W.ownsRow base 22 1 (.slice (some ⟨g, 0, none⟩) n c) n xs) (hn : n ≤ 12) (ha : at_ ≤ n) (hr : W.cell? ⟨t, 0, none⟩ = some r) :
    ∃ v' w', (Builtin.append_ #[24, 24] 24 #[.slice (some ⟨g, 0, none⟩) at_ at_, .slice (some ⟨t, 0, none⟩) 1 1]).run Try.prog W = .ok v' w' ∧ w'.ownsRow W.heap.size 22 1 v' (at_ + 1) (xs.take at_ ++ [r]) ∧ Turn (fun _ => False) W w' := by
  obtain ⟨i3, j1, j2, j3, j4⟩ := info_parts info22
  have hx := ho.1
  have hlt : (xs.take at_).length = at_ := by rw [List.length_take]; omega
  have hnc : Builtin.nextslicecap (at_ + 1) at_ ≤ 100000 := by
    unfold Builtin.nextslicecap
    split
    · omega
    · split
      · omega
      · omega
  have hrun := run_append_grow (P := Try.prog) W 24 24 22 i3 (.slice none 0 0) Try.underlying24 j1 j2 ⟨g, 0, none⟩ at_ at_ (xs.take at_) (by rw [j3, hlt]; omega) (fun j v hv => by
    rw [List.getElem?_take] at hv
    split at hv
    case isFalse => cases hv
    case isTrue hj =>
      rw [Go.WideShapes.add_plain, Nat.zero_add]
      exact (ho.cellAt j (by omega)).trans hv) ⟨t, 0, none⟩ 1 1 [r] (by rw [j3]; rfl) (fun j u hu => by
    rw [Go.WideShapes.add_plain, Nat.zero_add]
    match j, hu with
    | 0, hu => simp at hu; subst hu; exact hr
    | j + 1, hu => simp at hu) (by omega) (by omega) (by rw [j4]; omega)
  refine ⟨_, _, hrun, ?_, ((Turn.refl _ W).drewN 1).alloc _⟩
  have g1 := grownCap_ge W (at_ + 1) at_ 22
  have g2 := grownCap_le_maxLen W (at_ + 1) at_ 22 (by unfold maxLen; omega)
  refine ⟨by simp; omega, .inr ⟨W.heap.size, _, _, rfl, Nat.le_refl _, World.alloc_heap_new W.drew _, g1, g2, ?_, ?_⟩⟩
  · simp [Builtin.zeroCells, Value.cells]
    omega
  · simp only [List.append_toArray, Array.toList_append, List.toList_toArray, Nat.mul_one]
    exact List.take_left' (by simp; omega)
set_option maxRecDepth 100000 in
/-- The first one of a new row. -/
theorem first_app {W : World} {t : Nat} {r : Value} (h1 : r.oneCell' = true) (hr : W.cell? ⟨t, 0, none⟩ = some r) :
    ∃ v' w', (Builtin.append_ #[24, 24] 24 #[.slice none 0 0, .slice (some ⟨t, 0, none⟩) 1 1]).run Try.prog W = .ok v' w' ∧ w'.ownsRow W.heap.size 22 1 v' 1 [r] ∧ Turn (fun _ => False) W w' := by
  obtain ⟨i3, j1, j2, j3, j4⟩ := info_parts info22
  obtain ⟨v', w', hrun, hown, hg, _⟩ := run_append_own W W.heap.size 24 24 22 i3 _ 1 24 Try.underlying24 j1 j2 j3 j4 rfl (by decide) _ 0 [] (World.ownsRow_nil _ _ _ _) ⟨t, 0, none⟩ 1 1 [r] rfl (fun j u hu => by
    rw [Go.WideShapes.add_plain, Nat.zero_add]
    match j, hu with
    | 0, hu => simp at hu; subst hu; exact hr
    | j + 1, hu => simp at hu) (fun u hu => by simp at hu; subst hu; exact h1) (by unfold maxLen; omega) (by omega) (Nat.le_refl _)
  exact ⟨v', w', hrun, by simpa using hown, (Turn.refl _ W).grown hg (fun k hk => by cases hk)⟩
set_option maxRecDepth 100000 in
/-- A row of matches put behind another one. -/
theorem mats_more {W : World} {b1 b2 n1 n2 : Nat} {v1 v2 : Value} {xs ys : List Value} (h1 : W.ownsRow b1 22 1 v1 n1 xs) (h2 : W.ownsRow b2 22 1 v2 n2 ys) (ho : ∀ u ∈ ys, u.oneCell' = true) (hn : n1 + n2 ≤ 1000) (hb : b1 ≤ W.heap.size) :
    ∃ v' w', (Builtin.append_ #[24, 24] 24 #[v1, v2]).run Try.prog W = .ok v' w' ∧ w'.ownsRow b1 22 1 v' (n1 + n2) (xs ++ ys) ∧ Turn (fun k => v1.ownBlock = some k) W w' := by
  obtain ⟨i3, j1, j2, j3, j4⟩ := info_parts info22
  have hx := h2.1
  rcases h2.2 with ⟨e, e2⟩ | ⟨g, cap, cur, e, _⟩
  · subst e
    have hy0 : ys = [] := List.eq_nil_of_length_eq_zero (by omega)
    subst hy0
    rw [e2]
    exact ⟨_, _, run_append_owned_none _ _ 24 24 22 i3 1 Try.underlying24 j1 _ _ _ h1, by simpa using h1, Turn.refl _ _⟩
  · subst e
    obtain ⟨v', w', hrun, hown, hg, _⟩ := run_append_own W b1 24 24 22 i3 _ 1 24 Try.underlying24 j1 j2 j3 j4 rfl (by decide) v1 n1 xs h1 ⟨g, 0, none⟩ n2 cap ys (by omega) (fun j u hu => by
      rw [Go.WideShapes.add_plain, Nat.zero_add]
      have hj := (List.getElem?_eq_some_iff.1 hu).1
      exact (h2.cellAt j (by omega)).trans hu) ho (by unfold maxLen; omega) (by omega) hb
    exact ⟨v', w', hrun, hown, (Turn.refl _ W).grown hg (fun k hk => .inl hk)⟩
structure RsSt (w : World) (MS : List Mat) (i : Nat) (v3 : Value) (E : List (Value × Mat)) (wr : World) : Prop where
  own : wr.ownsRow w.heap.size 22 1 v3 E.length (E.map Prod.fst)
  el : ∀ e ∈ E, RowsP (fun b => b < w.heap.size) wr e.1 e.2
  srt : E.Pairwise leE
  perm : (E.map Prod.snd).Perm (MS.take i)
  turn : Turn (fun _ => False) w wr
def RsRel (w : World) (MS : List Mat) (gh : Nat) (v3 v4 : Value) (wr : World) : Prop :=
  ∃ (i : Nat) (E : List (Value × Mat)), v4 = .int .i64 (i : Int) ∧ i ≤ MS.length ∧ gh = MS.length - i ∧ RsSt w MS i v3 E wr
def RsIn (W : World) (E : List (Value × Mat)) (x : Value × Mat) (gh : Nat) (v5 : Value) (wr : World) : Prop :=
  ∃ (A Bs : List (Value × Mat)) (d : Nat), v5 = .int .i64 (A.length : Int) ∧ gh = A.length ∧ E = A ++ Bs ∧ (∀ b ∈ Bs, leE x b) ∧ wr = W.drewN d
theorem elt_one {P : Nat → Prop} {w : World} {e : Value × Mat} (h : RowsP P w e.1 e.2) : e.1.oneCell' = true := by
  obtain ⟨a, b, off, cap, e, _⟩ := h
  rw [e]
  rfl
theorem rs_next {w wr w9 : World} {MS : List Mat} {i : Nat} {v3 v' : Value} {A Bs : List (Value × Mat)} {x : Value × Mat} (h : RsSt w MS i v3 (A ++ Bs) wr) (hM : MS[i]? = some x.2) (hi : i < MS.length) (hr : RowsP (fun b => b < w.heap.size) wr x.1 x.2) (hb : ∀ b ∈ Bs, leE x b) (ha : ∀ a ∈ A, leE a x)
    (ho : w9.ownsRow w.heap.size 22 1 v' (A.length + 1 + Bs.length) ((A.map Prod.fst ++ [x.1]) ++ Bs.map Prod.fst)) (T : Turn (fun _ => False) wr w9) : RsRel w MS (MS.length - (i + 1)) v' (.int .i64 ((i + 1 : Nat) : Int)) w9 := by
  refine ⟨i + 1, A ++ x :: Bs, rfl, by omega, rfl, ?_, fun e he => ?_, pair_ins h.srt hb ha, ?_, h.turn.trans T⟩
  · have e1 : (A ++ x :: Bs).length = A.length + 1 + Bs.length := by simp; omega
    have e2 : (A ++ x :: Bs).map Prod.fst = (A.map Prod.fst ++ [x.1]) ++ Bs.map Prod.fst := by simp
    rw [e1, e2]
    exact ho
  · have hm : e = x ∨ e ∈ A ++ Bs := by
      simp only [List.mem_append, List.mem_cons] at he ⊢
      rcases he with h | h | h
      · exact .inr (.inl h)
      · exact .inl h
      · exact .inr (.inr h)
    rcases hm with rfl | hm
    · exact hr.still fun b _ hb => T.block b hb id
    · exact (h.el e hm).still fun b _ hb => T.block b hb id
  · have h1 := h.perm
    rw [List.take_add_one, hM]
    refine List.Perm.trans ?_ (h1.append_right _)
    simp only [List.map_append, List.map_cons, Option.toList]
    have : (x.2 :: List.map Prod.snd Bs).Perm (List.map Prod.snd Bs ++ [x.2]) := (List.perm_append_singleton x.2 _).symm
    rw [List.append_assoc]
    exact List.Perm.append_left _ this
theorem RsSt.drewN {w : World} {MS : List Mat} {i : Nat} {v3 : Value} {E : List (Value × Mat)} {wr : World} (h : RsSt w MS i v3 E wr) (d : Nat) : RsSt w MS i v3 E (wr.drewN d) :=
  ⟨h.own, h.el, h.srt, h.perm, h.turn.drewN d⟩
set_option maxRecDepth 100000 in
/-- All that an insertion does to memory. -/
theorem rs_block {w W : World} {MS : List Mat} {i n al c3 : Nat} {a3 : Option Addr} {A Bs : List (Value × Mat)} {px : Option Addr} {cx mb mo : Nat} {X : Mat} {SL : Value} (hst : RsSt w MS i (.slice a3 n c3) (A ++ Bs) W) (hn : (A ++ Bs).length = n) (hal : A.length = al) (hn12 : n ≤ 12) (hi : i < MS.length) (hM : MS[i]? = some X)
    (hr : RowsP (fun b => b < w.heap.size) W (.slice px X.length cx) X) (hb : ∀ b ∈ Bs, leE (.slice px X.length cx, X) b) (ha : ∀ a ∈ A, leE a (.slice px X.length cx, X)) (hc : W.cell? ⟨mb, mo + i, none⟩ = some (.slice px X.length cx))
    (hSL : (a3 = none ∧ SL = .slice none 0 0) ∨ ∃ g, a3 = some ⟨g, 0, none⟩ ∧ SL = .slice (some (if c3 = al then ⟨g, 0, none⟩ else ⟨g, al, none⟩)) (n - al) (c3 - al)) :
    ∃ a6 c6 w6 a7 c7 w7 a9 c9 w9, (Builtin.append_ #[24, 24] 24 #[.slice (some ⟨W.heap.size, 0, none⟩) 0 0, SL]).run Try.prog (W.alloc (.cells #[] 22)) = .ok (.slice a6 (n - al) c6) w6 ∧
      (Builtin.append_ #[24, 24] 24 #[.slice a3 al al, .slice (some ⟨w6.heap.size, 0, none⟩) 1 1]).run Try.prog (w6.drew.alloc (.cells #[.slice px X.length cx] 22)) = .ok (.slice a7 (al + 1) c7) w7 ∧
      (Builtin.append_ #[24, 24] 24 #[.slice a7 (al + 1) c7, .slice a6 (n - al) c6]).run Try.prog w7 = .ok (.slice a9 (n + 1) c9) w9 ∧
      RsRel w MS (MS.length - (i + 1)) (.slice a9 (n + 1) c9) (.int .i64 ((i + 1 : Nat) : Int)) w9 ∧
      w6.cell? ⟨mb, mo + i, none⟩ = some (.slice px X.length cx) ∧ (w6.drew.alloc (.cells #[.slice px X.length cx] 22)).cell? ⟨mb, mo + i, none⟩ = some (.slice px X.length cx) ∧ w7.cell? ⟨mb, mo + i, none⟩ = some (.slice px X.length cx) ∧ w9.cell? ⟨mb, mo + i, none⟩ = some (.slice px X.length cx) := by
  have one : ∀ u ∈ (A ++ Bs).map Prod.fst, u.oneCell' = true := fun u hu => by
    obtain ⟨e, he, rfl⟩ := List.mem_map.1 hu
    exact elt_one (hst.el e he)
  have own := hst.own
  rw [hn] at own
  have hlen : A.length + Bs.length = n := by rw [← hn]; simp
  have edrop : ((A ++ Bs).map Prod.fst).drop al = Bs.map Prod.fst := by rw [List.map_append, List.drop_left' (by simp [hal])]
  have etake : ((A ++ Bs).map Prod.fst).take al = A.map Prod.fst := by rw [List.map_append, List.take_left' (by simp [hal])]
  have S6 : ∃ v6 w6, (Builtin.append_ #[24, 24] 24 #[.slice (some ⟨W.heap.size, 0, none⟩) 0 0, SL]).run Try.prog (W.alloc (.cells #[] 22)) = .ok v6 w6 ∧ w6.ownsRow W.heap.size 22 1 v6 (n - al) (Bs.map Prod.fst) ∧ Turn (fun _ => False) W w6 := by
    rcases hSL with ⟨rfl, rfl⟩ | ⟨g, rfl, rfl⟩
    · have hn0 : n = 0 := by
        rcases own.2 with ⟨_, h⟩ | ⟨g, cap, cur, e, _⟩
        · exact h
        · cases e
      have hB0 : Bs = [] := List.eq_nil_of_length_eq_zero (by omega)
      obtain ⟨i3, j1, _⟩ := info_parts info22
      have h0 := World.ownsRow_lit (base := W.heap.size) (e := 22) (size := 1) W #[] 0 (Nat.le_refl _) (by decide) rfl
      refine ⟨_, _, run_append_owned_none _ _ 24 24 22 i3 1 Try.underlying24 j1 _ 0 _ h0, ?_, (Turn.refl _ W).alloc _⟩
      rw [hB0, show n - al = 0 by omega]
      exact h0
    · obtain ⟨v6, w6, h1, h2, h3⟩ := rest_app own one (by omega) (at_ := al) (by omega)
      rw [edrop] at h2
      exact ⟨v6, w6, h1, h2, h3⟩
  obtain ⟨v6, w6, r6, o6, T6⟩ := S6
  obtain ⟨a6, c6, rfl, _⟩ := own_slice o6
  have T8 : Turn (fun _ => False) w6 (w6.drew.alloc (.cells #[.slice px X.length cx] 22)) := ((Turn.refl _ w6).drewN 1).alloc _
  have c8 : (w6.drew.alloc (.cells #[.slice px X.length cx] 22)).cell? ⟨w6.heap.size, 0, none⟩ = some (.slice px X.length cx) := World.cell?_alloc_new w6.drew #[.slice px X.length cx] 22 0
  have hz8 : (w6.drew.alloc (.cells #[.slice px X.length cx] 22)).heap.size = w6.heap.size + 1 := by simp
  have S7 : ∃ v7 w7, (Builtin.append_ #[24, 24] 24 #[.slice a3 al al, .slice (some ⟨w6.heap.size, 0, none⟩) 1 1]).run Try.prog (w6.drew.alloc (.cells #[.slice px X.length cx] 22)) = .ok v7 w7 ∧ w7.ownsRow (w6.drew.alloc (.cells #[.slice px X.length cx] 22)).heap.size 22 1 v7 (al + 1) (A.map Prod.fst ++ [.slice px X.length cx]) ∧ Turn (fun _ => False) (w6.drew.alloc (.cells #[.slice px X.length cx] 22)) w7 := by
    cases a3 with
    | none =>
      have hn0 : n = 0 := by
        rcases own.2 with ⟨_, h⟩ | ⟨g, cap, cur, e, _⟩
        · exact h
        · cases e
      have hA0 : A = [] := List.eq_nil_of_length_eq_zero (by omega)
      obtain ⟨v7, w7, h1, h2, h3⟩ := first_app (elt_one (e := (.slice px X.length cx, X)) hr) c8
      obtain rfl : al = 0 := by omega
      exact ⟨v7, w7, h1, by rw [hA0]; exact h2, h3⟩
    | some p3 =>
      obtain ⟨g, rfl⟩ : ∃ g, p3 = ⟨g, 0, none⟩ := by
        rcases own.2 with ⟨e, _⟩ | ⟨g, cap, cur, e, _⟩
        · cases e
        · injection e with e _ _
          injection e with e
          exact ⟨g, e⟩
      obtain ⟨v7, w7, h1, h2, h3⟩ := cut_app (own_turn own (T6.trans T8) (fun _ _ => id)) hn12 (at_ := al) (by omega) c8
      rw [etake] at h2
      exact ⟨v7, w7, h1, h2, h3⟩
  obtain ⟨v7, w7, r7, o7, T7⟩ := S7
  obtain ⟨a7, c7, rfl, _⟩ := own_slice o7
  obtain ⟨v9, w9, r9, o9, T9⟩ := mats_more o7 (own_turn o6 (T8.trans T7) (fun _ _ => id)) (fun u hu => one u (by rw [List.map_append]; exact List.mem_append_right _ hu)) (by omega) T7.size
  rw [show al + 1 + (n - al) = n + 1 by omega] at o9
  obtain ⟨a9, c9, rfl, _⟩ := own_slice o9
  have T79 := turn_fresh T7 o7 T9
  have TT := T6.trans (T8.trans T79)
  have hws := hst.turn.size
  have h6s := T6.size
  refine ⟨a6, c6, w6, a7, c7, w7, a9, c9, w9, r6, r7, r9, rs_next (A := A) (Bs := Bs) (x := (.slice px X.length cx, X)) (v3 := .slice a3 n c3) hst hM hi hr hb ha ?_ TT, T6.cell id hc, T8.cell id (T6.cell id hc), T7.cell id (T8.cell id (T6.cell id hc)), TT.cell id hc⟩
  rw [show A.length + 1 + Bs.length = n + 1 by omega]
  exact row_low3 o9 (by rw [hz8]; omega)
set_option maxRecDepth 100000 in
set_option maxHeartbeats 4000000 in
theorem rsort_is {w : World} {v : Value} {MS : List Mat} (h : MatsAt w v MS) (hn : MS.length ≤ 12) (hsm : small MS) :
    Calls Try.prog 24 #[v] w fun e w' => ∃ (v' : Value) (E : List (Value × Mat)), e = .returned v' ∧ MatsAt w' v' (E.map Prod.snd) ∧ (E.map Prod.snd).Perm MS ∧ E.Pairwise leE ∧ Turn (fun _ => False) w w' := by
  obtain ⟨ma, mb, mo, mc, rfl, hmi⟩ := mats_in h
  have MI := Lib.hid hmi
  have R0 : RsRel w MS MS.length (.slice none 0 0) (.int .i64 0) w := ⟨0, [], rfl, Nat.zero_le _, rfl, World.ownsRow_nil _ _ _ _, fun e he => by simp at he, List.Pairwise.nil, by simp, Turn.refl _ _⟩
  have HS := Lib.hid hsm
  clear h hmi hsm
  go_enter Try.func24, Try.ntmps24
  go_wp2_with fail
  go_loopg [3, 4] MS.length (fun gh v3 v4 wr => RsRel w MS gh v3 v4 wr)
  case atStart => exact R0
  case round =>
    clear R0
    obtain ⟨i, E, rfl, hi, hg, hst⟩ := hrel
    have hel := hst.perm.length_eq
    rw [List.length_map, List.length_take] at hel
    by_cases hil : i < MS.length
    · obtain ⟨X, hX⟩ : ∃ X, MS[i]? = some X := ⟨_, List.getElem?_eq_getElem hil⟩
      have hXs := HS.out X (List.mem_of_getElem? hX)
      obtain ⟨px, cx, z, q⟩ := MI.out.at_ i X hX
      obtain rfl := MI.out.ad.resolve_left (fun e => by rw [e] at hil; simp at hil)
      have c1 := hst.turn.cell id z
      have q2 := rowsP_at q
      have qx := q.turn hst.turn
      have hrP : RowsP (fun b => b < w.heap.size) wr (.slice px X.length cx) X := q2.still fun b _ hb => hst.turn.block b hb id
      have t1 : decide ((i : Int) < (MS.length : Int)) = true := by simp; omega
      have hi1 : (i : Int) < (MS.length : Int) := by omega
      have hi0 : (0 : Int) ≤ (i : Int) := by omega
      have hE12 : E.length ≤ 12 := by omega
      have G := Lib.hid hg
      have ST := Lib.hid (And.intro hst (And.intro hX (And.intro hrP (And.intro qx hXs))))
      have hsm2 : ∀ e ∈ E, e.2.length ≤ 12 ∧ ∀ x ∈ e.2, x.length ≤ 4 := fun e he => HS.out e.2 (List.mem_of_mem_take (hst.perm.mem_iff.1 (List.mem_map_of_mem he)))
      have SM := Lib.hid hsm2
      obtain ⟨a3, c3, e3, s3⟩ := own_slice hst.own
      have O3 := Lib.hid (And.intro hst.own s3)
      subst e3
      have I0 : RsIn wr E (.slice px X.length cx, X) E.length (.int .i64 (E.length : Int)) wr := ⟨E, [], 0, rfl, rfl, by simp, fun b hb => by simp at hb, rfl⟩
      clear hst hX hrP qx q q2 z hg hXs hel s3 hsm2
      obtain ⟨W0, rfl⟩ : ∃ W0 : World, W0 = wr := ⟨_, rfl⟩
      go_wp2_with fail
      go_loopg [5] E.length (fun gh v5 wr' => RsIn W0 E (.slice px X.length cx, X) gh v5 wr')
      case atStart => exact I0
      case round =>
        clear I0
        obtain ⟨A, Bs, d, rfl, hga, hE, hbs, hw⟩ := hrel
        have c2 : wr.cell? ⟨mb, mo + i, none⟩ = some (.slice px X.length cx) := by rw [hw]; exact c1
        have hAE : A.length + Bs.length = E.length := by rw [hE]; simp
        obtain ⟨al, hal⟩ : ∃ al, al = A.length := ⟨_, rfl⟩
        rw [← hal]
        go_upto_region 6 with fail
        go_cut [29] (fun v29 wx => ∃ t : Bool, v29 = .bool t ∧ (∃ d, wx = W0.drewN d) ∧ (t = true → ∃ A' y, A = A' ++ [y] ∧ leE (.slice px X.length cx, X) y) ∧ (t = false → ∀ a ∈ A, leE a (.slice px X.length cx, X)))
        case first =>
          rcases List.eq_nil_or_concat A with rfl | ⟨A', y, rfl⟩
          · have HW := Lib.hid hw
            have tg : decide ((0 : Int) < (al : Int)) = false := by rw [hal]; rfl
            have tn : ¬ 0 < al := by rw [hal]; simp
            clear hw hE hbs hga hAE hal
            go_wp2_with fail
            go_quiet (fail)
            go_wp2_with fail
            go_meet
            case rel => exact ⟨false, rfl, ⟨_, by rw [HW.out, World.drewN_drewN]⟩, (fun h => by cases h), fun _ a ha => by simp at ha⟩
          · simp only [List.concat_eq_append] at *
            obtain ⟨vy, Y⟩ := y
            obtain ⟨p, hpl⟩ : ∃ p, p = A'.length := ⟨_, rfl⟩
            have eA : (A' ++ [(vy, Y)]).length = p + 1 := by rw [hpl]; simp
            rw [eA] at hAE hal
            have hyE : (vy, Y) ∈ E := by rw [hE]; simp
            have ey := ST.out.1.el (vy, Y) hyE
            have hYs := SM.out (vy, Y) hyE
            obtain ⟨py, _, _, cy, e2, _⟩ := id ey
            have q2 := ey.at
            dsimp only at e2 q2 hYs
            subst e2
            obtain ⟨g, hg3⟩ := O3.out.2 (by omega)
            subst hg3
            have z2 : wr.cell? ⟨g, p, none⟩ = some (.slice py Y.length cy) := by
              rw [hw]
              refine (O3.out.1.cellAt p (by omega)).trans ?_
              rw [hE]
              simp [hpl]
            have CQ := Lib.hid (fun dd => (show Calls Try.prog 21 #[.slice py Y.length cy, .slice px X.length cx] (wr.drewN dd) (fun e w' => e = Ending.returned (.int .i64 (cmpM Y X)) ∧ ∃ q, w' = wr.drewN q) from by
              rw [hw]
              exact (rcmp_is (w := (W0.drewN d).drewN dd) q2 ST.out.2.2.2.1 (by omega) (by have := ST.out.2.2.2.2; omega) (fun x hx => by have := hYs.2 x hx; omega) (fun x hx => by have := ST.out.2.2.2.2.2 x hx; omega)).mono fun e w' ⟨h1, q, h2⟩ => ⟨h1, dd + q, by rw [h2, World.drewN_drewN]⟩))
            have HW := Lib.hid hw
            have HA := Lib.hid (show (cmpM Y X ≤ 0 → ∀ a ∈ A' ++ [(.slice py Y.length cy, Y)], leE a (.slice px X.length cx, X)) ∧ (0 < cmpM Y X → leE (.slice px X.length cx, X) (.slice py Y.length cy, Y)) from by
              have h := (show cmpM X Y = -(cmpM Y X) from ord_match.s Y X)
              refine ⟨fun hle a ha => ?_, fun hlt => by show cmpM X Y ≤ 0; omega⟩
              rcases List.mem_append.1 ha with ha | ha
              · have hs := ST.out.1.srt
                rw [hE] at hs
                have h2 := (List.pairwise_append.1 (List.pairwise_append.1 hs).1).2.2 a ha _ (List.mem_singleton.2 rfl)
                exact h2.trans hle
              · rw [List.mem_singleton.1 ha]
                exact hle)
            have es : (al : Int) - 1 = (p : Int) := by omega
            have tg : decide ((0 : Int) < (al : Int)) = true := by simp; omega
            have hq0 : 0 < al := by omega
            have lt2 : (p : Int) < (E.length : Int) := by omega
            have ge1 : (0 : Int) ≤ (p : Int) := by omega
            have hwp : IntKind.i64.wrap (p : Int) = (p : Int) := IntWalk.i64_in _ (by omega)
            clear hw hE hbs hga hAE ey q2 hYs hyE eA hal hpl
            by_cases hc : 0 < cmpM Y X
            · have tc : decide (0 < cmpM Y X) = true := by simpa using hc
              have hl := HA.out.2 hc
              clear hc
              generalize cmpM Y X = zz at *
              go_wp2_with fail
              go_quiet ((go_at_call 21; exact CQ.out _))
              go_wp2_with fail
              go_meet
              case rel => exact ⟨true, rfl, ⟨_, by rw [HW.out, World.drewN_drewN]⟩, fun _ => ⟨_, _, rfl, hl⟩, (fun h => by cases h)⟩
            · have tc : decide (0 < cmpM Y X) = false := by simpa using hc
              have hl := HA.out.1 (by omega)
              clear hc
              generalize cmpM Y X = zz at *
              go_wp2_with fail
              go_quiet ((go_at_call 21; exact CQ.out _))
              go_wp2_with fail
              go_meet
              case rel => exact ⟨false, rfl, ⟨_, by rw [HW.out, World.drewN_drewN]⟩, (fun h => by cases h), fun _ => hl⟩
        case rest =>
        obtain ⟨t, rfl, ⟨d2, hw2⟩, ht, hf⟩ := hcut
        cases t with
        | true =>
          obtain ⟨A', y, rfl, hxy⟩ := ht rfl
          have NI := Lib.hid (show RsIn W0 E (.slice px X.length cx, X) A'.length (.int .i64 (A'.length : Int)) wc from ⟨A', y :: Bs, d2, rfl, rfl, by rw [hE]; simp, fun b hb => by
            rcases List.mem_cons.1 hb with rfl | hb
            · exact hxy
            · exact hbs b hb, hw2⟩)
          have eA : (al : Int) - 1 = (A'.length : Int) := by rw [hal]; simp
          have GA := Lib.hid (show A'.length < al from by rw [hal]; simp)
          have hwp : IntKind.i64.wrap (A'.length : Int) = (A'.length : Int) := IntWalk.i64_in _ (by have := GA.out; omega)
          have HG := Lib.hid (hga.trans hal.symm)
          clear hw hE hbs hga hAE hw2 ht hf hxy hal
          go_wp2_with fail
          go_roundg A'.length
          case measure => have := HG.out; have := GA.out; omega
          case rel => exact NI.out
        | false =>
          have hall := hf rfl
          have STW := ST.out.1.drewN d2
          rw [← hw2] at STW
          have hrW : RowsP (fun b => b < w.heap.size) wc (.slice px X.length cx) X := by rw [hw2]; exact ST.out.2.2.1.still fun b _ _ => rfl
          have c1 : wc.cell? ⟨mb, mo + i, none⟩ = some (.slice px X.length cx) := by rw [hw2]; exact c1
          have hMX := ST.out.2.1
          have OW : wc.ownsRow w.heap.size 22 1 (.slice a3 E.length c3) E.length (E.map Prod.fst) := STW.own
          subst hE
          clear ST SM O3 hga hw hw2 ht hf c2
          have hcn : (A ++ Bs).length ≤ c3 ∧ (a3 = none → (A ++ Bs).length = 0 ∧ c3 = 0) := by
            rcases OW.2 with ⟨e, h⟩ | ⟨g, cap, cur, e, _, _, hc, _⟩
            · injection e with e1 _ e3
              exact ⟨by omega, fun _ => ⟨h, e3⟩⟩
            · injection e with e0 _ e
              exact ⟨by omega, fun h => by rw [h] at e0; cases e0⟩
          have hg3 : a3 = none ∨ ∃ g, a3 = some ⟨g, 0, none⟩ := by
            rcases OW.2 with ⟨e, h⟩ | ⟨g, cap, cur, e, _⟩
            · injection e with e1 _ e3
              exact .inl e1
            · injection e with e _ _
              exact .inr ⟨g, e⟩
          have BLK := Lib.hid (fun (SL : Value) => rs_block (SL := SL) (mb := mb) (mo := mo) STW rfl hal.symm hE12 hil hMX hrW hbs hall c1)
          clear STW hrW hMX hbs hall OW
          generalize (A ++ Bs).length = n at *
          have hp0 : (0 : Int) ≤ (al : Int) := by omega
          have hp1 : (al : Int) ≤ (n : Int) := by omega
          have hal2 : al ≤ n := by omega
          clear hal hAE
          rcases hg3 with rfl | ⟨g, rfl⟩
          · obtain ⟨a6, c6, w6, a7, c7, w7, a9, c9, w9, r6, r7, r9, fin, k0, kk⟩ := BLK.out _ (.inl ⟨rfl, rfl⟩)
            obtain ⟨hn0, hc0⟩ := hcn.2 rfl
            subst hn0
            subst hc0
            obtain rfl : al = 0 := by omega
            have RUN6 := Lib.hid r6
            have RUN7 := Lib.hid r7
            have RUN9 := Lib.hid r9
            have FIN := Lib.hid fin
            have KEEP := Lib.hid kk
            have c1 := k0
            clear r6 r7 r9 fin kk BLK hcn k0
            go_wp2_with (refine rl_append_run (by rfl) _ _ _ (by rfl) (by rfl) (by rfl) RUN6.out ?_)
            refine wp_region_held_drew (S := (fun w' => w'.cell? ⟨mb, mo + i, none⟩ = some (.slice px X.length cx))) (by kernel_rfl) ?hs0 (fun hS0 => ?_)
            case hs0 => ((try dsimp only); first | with_reducible exact c1 | with_reducible exact k1 | exact c1 | exact k1 | exact k2 | exact k3)
            refine wpAnyH_take (i := 0) (oi := { dst := some 37, op := Op.move (Operand.tmp 3), type := 24, pos := "ref.go:49", after := #[], guard := none }) (v := ?_) rfl (by kernel_rfl) (by kernel_rfl) (by kernel_rfl) (fun _ _ _ h => h) (Or.inl ⟨by rfl, ?hy1⟩) hS0 ?_
            case hy1 => (intro w hSw; (try dsimp only at hSw); go_simp; try with_reducible rfl)
            try simp only [Act.put, List.setIfInBounds_toArray, List.set_cons_zero, List.set_cons_succ]
            refine wpAnyH_take (i := 1) (oi := { dst := some 38, op := Op.move (Operand.tmp 5), type := 3, pos := "ref.go:49", after := #[], guard := none }) (v := ?_) rfl (by kernel_rfl) (by kernel_rfl) (by kernel_rfl) (fun _ _ _ h => h) (Or.inl ⟨by rfl, ?hy2⟩) hS0 ?_
            case hy2 => (intro w hSw; (try dsimp only at hSw); go_simp; try with_reducible rfl)
            try simp only [Act.put, List.setIfInBounds_toArray, List.set_cons_zero, List.set_cons_succ]
            refine wpAnyH_take (i := 2) (oi := { dst := some 39, op := Op.move (Operand.tmp 5), type := 3, pos := "ref.go:49", after := #[], guard := none }) (v := ?_) rfl (by kernel_rfl) (by kernel_rfl) (by kernel_rfl) (fun _ _ _ h => h) (Or.inl ⟨by rfl, ?hy3⟩) hS0 ?_
            case hy3 => (intro w hSw; (try dsimp only at hSw); go_simp; try with_reducible rfl)
            try simp only [Act.put, List.setIfInBounds_toArray, List.set_cons_zero, List.set_cons_succ]
            refine wpAnyH_take (i := 3) (oi := { dst := some 40, op := Op.slice 24 (Operand.tmp 37) none (some (Operand.tmp 38)) (some (Operand.tmp 39)), type := 24, pos := "ref.go:49", after := #[{ on := 0, ground := Ground.data }, { on := 1, ground := Ground.data }, { on := 2, ground := Ground.data }], guard := none }) (v := ?_) rfl (by kernel_rfl) (by kernel_rfl) (by kernel_rfl) (fun _ _ _ h => h) (Or.inl ⟨by rfl, ?hy4⟩) hS0 ?_
            case hy4 => (intro w hSw; (try dsimp only at hSw); go_simp; try with_reducible rfl)
            try simp only [Act.put, List.setIfInBounds_toArray, List.set_cons_zero, List.set_cons_succ]
            refine wpAnyH_take (i := 4) (oi := { dst := some 41, op := Op.move (Operand.tmp 0), type := 24, pos := "ref.go:49", after := #[], guard := none }) (v := ?_) rfl (by kernel_rfl) (by kernel_rfl) (by kernel_rfl) (fun _ _ _ h => h) (Or.inl ⟨by rfl, ?hy5⟩) hS0 ?_
            case hy5 => (intro w hSw; (try dsimp only at hSw); go_simp; try with_reducible rfl)
            try simp only [Act.put, List.setIfInBounds_toArray, List.set_cons_zero, List.set_cons_succ]
            refine wpAnyH_take (i := 5) (oi := { dst := some 42, op := Op.move (Operand.tmp 4), type := 3, pos := "ref.go:49", after := #[], guard := none }) (v := ?_) rfl (by kernel_rfl) (by kernel_rfl) (by kernel_rfl) (fun _ _ _ h => h) (Or.inl ⟨by rfl, ?hy6⟩) hS0 ?_
            case hy6 => (intro w hSw; (try dsimp only at hSw); go_simp; try with_reducible rfl)
            try simp only [Act.put, List.setIfInBounds_toArray, List.set_cons_zero, List.set_cons_succ]
            refine wpAnyH_take (i := 6) (oi := { dst := some 43, op := Op.indexAddr 24 (Operand.tmp 41) (Operand.tmp 42), type := 0, pos := "ref.go:49", after := #[{ on := 4, ground := Ground.data }, { on := 5, ground := Ground.data }], guard := none }) (v := ?_) rfl (by kernel_rfl) (by kernel_rfl) (by kernel_rfl) (fun _ _ _ h => h) (Or.inl ⟨by rfl, ?hy7⟩) hS0 ?_
            case hy7 => (intro w hSw; (try dsimp only at hSw); go_simp; try with_reducible rfl)
            try simp only [Act.put, List.setIfInBounds_toArray, List.set_cons_zero, List.set_cons_succ]
            refine wpAnyH_take (i := 7) (oi := { dst := some 44, op := Op.load 22 (Operand.tmp 43), type := 22, pos := "ref.go:49", after := #[{ on := 6, ground := Ground.data }], guard := none }) (v := ?_) rfl (by kernel_rfl) (by kernel_rfl) (by kernel_rfl) (fun _ _ _ h => h) (Or.inl ⟨by rfl, ?hy8⟩) hS0 ?_
            case hy8 => (intro w hSw; (try dsimp only at hSw); go_simp; try with_reducible rfl)
            try simp only [Act.put, List.setIfInBounds_toArray, List.set_cons_zero, List.set_cons_succ]
            refine wpAnyH_take (i := 10) (oi := { dst := some 47, op := Op.move (Operand.tmp 6), type := 24, pos := "ref.go:49", after := #[], guard := none }) (v := ?_) rfl (by kernel_rfl) (by kernel_rfl) (by kernel_rfl) (fun _ _ _ h => h) (Or.inl ⟨by rfl, ?hy9⟩) hS0 ?_
            case hy9 => (intro w hSw; (try dsimp only at hSw); go_simp; try with_reducible rfl)
            try simp only [Act.put, List.setIfInBounds_toArray, List.set_cons_zero, List.set_cons_succ]
            refine wpAnyH_ready (rs := [8]) (by kernel_rfl) (by simp) ?_
            refine AllReadyH.cons (o := { dst := some 45, op := Op.buildSlice 24 1 #[(0, Operand.tmp 44)], type := 24, pos := "ref.go:49", after := #[{ on := 7, ground := Ground.data }], guard := none }) rfl (fun K hK => ?_) ?_
            · go_simp; have k1 := KEEP.out.1
              refine hK.out _ _ ?hs10 (fun hS10 => ?_)
              case hs10 => ((try dsimp only); first | with_reducible exact c1 | with_reducible exact k1 | exact c1 | exact k1 | exact k2 | exact k3)
              clear hK K hS0
              refine wpAnyH_ready (rs := [9]) (by kernel_rfl) (by simp) ?_
              refine AllReadyH.cons (o := { dst := some 46, op := Op.call { callee := Callee.builtin Builtin.append, args := #[Operand.tmp 40, Operand.tmp 45], argTypes := #[24, 24] }, type := 24, pos := "ref.go:49", after := #[{ on := 3, ground := Ground.data }, { on := 8, ground := Ground.data }], guard := none }) rfl (fun K hK => ?_) ?_
              · refine rs_append_run (by rfl) _ _ _ (by rfl) (by rfl) (by rfl) RUN7.out ?_; have k2 := KEEP.out.2.1; go_simp
                refine hK.out _ _ ?hs11 (fun hS11 => ?_)
                case hs11 => ((try dsimp only); first | with_reducible exact c1 | with_reducible exact k1 | exact c1 | exact k1 | exact k2 | exact k3)
                clear hK K hS10
                refine wpAnyH_ready (rs := [11]) (by kernel_rfl) (by simp) ?_
                refine AllReadyH.cons (o := { dst := some 48, op := Op.call { callee := Callee.builtin Builtin.append, args := #[Operand.tmp 46, Operand.tmp 47], argTypes := #[24, 24] }, type := 24, pos := "ref.go:49", after := #[{ on := 9, ground := Ground.data }, { on := 10, ground := Ground.data }, { on := 9, ground := Ground.chain }], guard := none }) rfl (fun K hK => ?_) ?_
                · refine rs_append_run (by rfl) _ _ _ (by rfl) (by rfl) (by rfl) RUN9.out ?_; have k3 := KEEP.out.2.2; go_simp
                  refine hK.out _ _ ?hs12 (fun hS12 => ?_)
                  case hs12 => ((try dsimp only); first | with_reducible exact c1 | with_reducible exact k1 | exact c1 | exact k1 | exact k2 | exact k3)
                  clear hK K hS11
                  refine wpAnyH_take (i := 12) (oi := { dst := some 3, op := Op.assign (Operand.tmp 48), type := 24, pos := "ref.go:49", after := #[{ on := 11, ground := Ground.data }, { on := 11, ground := Ground.chain }, { on := 0, ground := Ground.phase }, { on := 1, ground := Ground.phase }, { on := 2, ground := Ground.phase }, { on := 3, ground := Ground.phase }, { on := 4, ground := Ground.phase }, { on := 5, ground := Ground.phase }, { on := 6, ground := Ground.phase }, { on := 7, ground := Ground.phase }, { on := 8, ground := Ground.phase }, { on := 9, ground := Ground.phase }, { on := 10, ground := Ground.phase }, { on := 11, ground := Ground.phase }], guard := none }) (v := ?_) rfl (by kernel_rfl) (by kernel_rfl) (by kernel_rfl) (fun _ _ _ h => h) (Or.inl ⟨by rfl, ?hy13⟩) hS12 ?_
                  case hy13 => (intro w hSw; (try dsimp only at hSw); go_simp; try with_reducible rfl)
                  try simp only [Act.put, List.setIfInBounds_toArray, List.set_cons_zero, List.set_cons_succ]
                  refine wpAnyH_done (by kernel_rfl) ?_ _
                  go_wp2_with fail
                  go_roundg (MS.length - (i + 1))
                  case measure => have := G.out; omega
                  case rel => exact FIN.out
                exact AllReadyH.nil
              exact AllReadyH.nil
            exact AllReadyH.nil
          · have hcn1 : n ≤ c3 := hcn.1
            obtain ⟨a6, c6, w6, a7, c7, w7, a9, c9, w9, r6, r7, r9, fin, k0, kk⟩ := BLK.out _ (.inr ⟨g, rfl, rfl⟩)
            have hp2 : (al : Int) ≤ (c3 : Int) := by omega
            have hp3 : (n : Int) ≤ (c3 : Int) := by omega
            by_cases hck : c3 = al
            · obtain rfl : n = al := by omega
              obtain rfl : c3 = n := hck
              simp only [↓reduceIte, Nat.sub_self] at r6 r9
              have RUN6 := Lib.hid r6
              have RUN7 := Lib.hid r7
              have RUN9 := Lib.hid r9
              have FIN := Lib.hid fin
              have KEEP := Lib.hid kk
              have c1 := k0
              clear r6 r7 r9 fin kk BLK hcn k0
              go_wp2_with (refine rl_append_run (by rfl) _ _ _ (by rfl) (by rfl) (by rfl) RUN6.out ?_)
              refine wp_region_held_drew (S := (fun w' => w'.cell? ⟨mb, mo + i, none⟩ = some (.slice px X.length cx))) (by kernel_rfl) ?hs0 (fun hS0 => ?_)
              case hs0 => ((try dsimp only); first | with_reducible exact c1 | with_reducible exact k1 | exact c1 | exact k1 | exact k2 | exact k3)
              refine wpAnyH_take (i := 0) (oi := { dst := some 37, op := Op.move (Operand.tmp 3), type := 24, pos := "ref.go:49", after := #[], guard := none }) (v := ?_) rfl (by kernel_rfl) (by kernel_rfl) (by kernel_rfl) (fun _ _ _ h => h) (Or.inl ⟨by rfl, ?hy1⟩) hS0 ?_
              case hy1 => (intro w hSw; (try dsimp only at hSw); go_simp; try with_reducible rfl)
              try simp only [Act.put, List.setIfInBounds_toArray, List.set_cons_zero, List.set_cons_succ]
              refine wpAnyH_take (i := 1) (oi := { dst := some 38, op := Op.move (Operand.tmp 5), type := 3, pos := "ref.go:49", after := #[], guard := none }) (v := ?_) rfl (by kernel_rfl) (by kernel_rfl) (by kernel_rfl) (fun _ _ _ h => h) (Or.inl ⟨by rfl, ?hy2⟩) hS0 ?_
              case hy2 => (intro w hSw; (try dsimp only at hSw); go_simp; try with_reducible rfl)
              try simp only [Act.put, List.setIfInBounds_toArray, List.set_cons_zero, List.set_cons_succ]
              refine wpAnyH_take (i := 2) (oi := { dst := some 39, op := Op.move (Operand.tmp 5), type := 3, pos := "ref.go:49", after := #[], guard := none }) (v := ?_) rfl (by kernel_rfl) (by kernel_rfl) (by kernel_rfl) (fun _ _ _ h => h) (Or.inl ⟨by rfl, ?hy3⟩) hS0 ?_
              case hy3 => (intro w hSw; (try dsimp only at hSw); go_simp; try with_reducible rfl)
              try simp only [Act.put, List.setIfInBounds_toArray, List.set_cons_zero, List.set_cons_succ]
              refine wpAnyH_take (i := 3) (oi := { dst := some 40, op := Op.slice 24 (Operand.tmp 37) none (some (Operand.tmp 38)) (some (Operand.tmp 39)), type := 24, pos := "ref.go:49", after := #[{ on := 0, ground := Ground.data }, { on := 1, ground := Ground.data }, { on := 2, ground := Ground.data }], guard := none }) (v := ?_) rfl (by kernel_rfl) (by kernel_rfl) (by kernel_rfl) (fun _ _ _ h => h) (Or.inl ⟨by rfl, ?hy4⟩) hS0 ?_
              case hy4 => (intro w hSw; (try dsimp only at hSw); go_simp; try with_reducible rfl)
              try simp only [Act.put, List.setIfInBounds_toArray, List.set_cons_zero, List.set_cons_succ]
              refine wpAnyH_take (i := 4) (oi := { dst := some 41, op := Op.move (Operand.tmp 0), type := 24, pos := "ref.go:49", after := #[], guard := none }) (v := ?_) rfl (by kernel_rfl) (by kernel_rfl) (by kernel_rfl) (fun _ _ _ h => h) (Or.inl ⟨by rfl, ?hy5⟩) hS0 ?_
              case hy5 => (intro w hSw; (try dsimp only at hSw); go_simp; try with_reducible rfl)
              try simp only [Act.put, List.setIfInBounds_toArray, List.set_cons_zero, List.set_cons_succ]
              refine wpAnyH_take (i := 5) (oi := { dst := some 42, op := Op.move (Operand.tmp 4), type := 3, pos := "ref.go:49", after := #[], guard := none }) (v := ?_) rfl (by kernel_rfl) (by kernel_rfl) (by kernel_rfl) (fun _ _ _ h => h) (Or.inl ⟨by rfl, ?hy6⟩) hS0 ?_
              case hy6 => (intro w hSw; (try dsimp only at hSw); go_simp; try with_reducible rfl)
              try simp only [Act.put, List.setIfInBounds_toArray, List.set_cons_zero, List.set_cons_succ]
              refine wpAnyH_take (i := 6) (oi := { dst := some 43, op := Op.indexAddr 24 (Operand.tmp 41) (Operand.tmp 42), type := 0, pos := "ref.go:49", after := #[{ on := 4, ground := Ground.data }, { on := 5, ground := Ground.data }], guard := none }) (v := ?_) rfl (by kernel_rfl) (by kernel_rfl) (by kernel_rfl) (fun _ _ _ h => h) (Or.inl ⟨by rfl, ?hy7⟩) hS0 ?_
              case hy7 => (intro w hSw; (try dsimp only at hSw); go_simp; try with_reducible rfl)
              try simp only [Act.put, List.setIfInBounds_toArray, List.set_cons_zero, List.set_cons_succ]
              refine wpAnyH_take (i := 7) (oi := { dst := some 44, op := Op.load 22 (Operand.tmp 43), type := 22, pos := "ref.go:49", after := #[{ on := 6, ground := Ground.data }], guard := none }) (v := ?_) rfl (by kernel_rfl) (by kernel_rfl) (by kernel_rfl) (fun _ _ _ h => h) (Or.inl ⟨by rfl, ?hy8⟩) hS0 ?_
              case hy8 => (intro w hSw; (try dsimp only at hSw); go_simp; try with_reducible rfl)
              try simp only [Act.put, List.setIfInBounds_toArray, List.set_cons_zero, List.set_cons_succ]
              refine wpAnyH_take (i := 10) (oi := { dst := some 47, op := Op.move (Operand.tmp 6), type := 24, pos := "ref.go:49", after := #[], guard := none }) (v := ?_) rfl (by kernel_rfl) (by kernel_rfl) (by kernel_rfl) (fun _ _ _ h => h) (Or.inl ⟨by rfl, ?hy9⟩) hS0 ?_
              case hy9 => (intro w hSw; (try dsimp only at hSw); go_simp; try with_reducible rfl)
              try simp only [Act.put, List.setIfInBounds_toArray, List.set_cons_zero, List.set_cons_succ]
              refine wpAnyH_ready (rs := [8]) (by kernel_rfl) (by simp) ?_
              refine AllReadyH.cons (o := { dst := some 45, op := Op.buildSlice 24 1 #[(0, Operand.tmp 44)], type := 24, pos := "ref.go:49", after := #[{ on := 7, ground := Ground.data }], guard := none }) rfl (fun K hK => ?_) ?_
              · go_simp; have k1 := KEEP.out.1
                refine hK.out _ _ ?hs10 (fun hS10 => ?_)
                case hs10 => ((try dsimp only); first | with_reducible exact c1 | with_reducible exact k1 | exact c1 | exact k1 | exact k2 | exact k3)
                clear hK K hS0
                refine wpAnyH_ready (rs := [9]) (by kernel_rfl) (by simp) ?_
                refine AllReadyH.cons (o := { dst := some 46, op := Op.call { callee := Callee.builtin Builtin.append, args := #[Operand.tmp 40, Operand.tmp 45], argTypes := #[24, 24] }, type := 24, pos := "ref.go:49", after := #[{ on := 3, ground := Ground.data }, { on := 8, ground := Ground.data }], guard := none }) rfl (fun K hK => ?_) ?_
                · refine rs_append_run (by rfl) _ _ _ (by rfl) (by rfl) (by rfl) RUN7.out ?_; have k2 := KEEP.out.2.1; go_simp
                  refine hK.out _ _ ?hs11 (fun hS11 => ?_)
                  case hs11 => ((try dsimp only); first | with_reducible exact c1 | with_reducible exact k1 | exact c1 | exact k1 | exact k2 | exact k3)
                  clear hK K hS10
                  refine wpAnyH_ready (rs := [11]) (by kernel_rfl) (by simp) ?_
                  refine AllReadyH.cons (o := { dst := some 48, op := Op.call { callee := Callee.builtin Builtin.append, args := #[Operand.tmp 46, Operand.tmp 47], argTypes := #[24, 24] }, type := 24, pos := "ref.go:49", after := #[{ on := 9, ground := Ground.data }, { on := 10, ground := Ground.data }, { on := 9, ground := Ground.chain }], guard := none }) rfl (fun K hK => ?_) ?_
                  · refine rs_append_run (by rfl) _ _ _ (by rfl) (by rfl) (by rfl) RUN9.out ?_; have k3 := KEEP.out.2.2; go_simp
                    refine hK.out _ _ ?hs12 (fun hS12 => ?_)
                    case hs12 => ((try dsimp only); first | with_reducible exact c1 | with_reducible exact k1 | exact c1 | exact k1 | exact k2 | exact k3)
                    clear hK K hS11
                    refine wpAnyH_take (i := 12) (oi := { dst := some 3, op := Op.assign (Operand.tmp 48), type := 24, pos := "ref.go:49", after := #[{ on := 11, ground := Ground.data }, { on := 11, ground := Ground.chain }, { on := 0, ground := Ground.phase }, { on := 1, ground := Ground.phase }, { on := 2, ground := Ground.phase }, { on := 3, ground := Ground.phase }, { on := 4, ground := Ground.phase }, { on := 5, ground := Ground.phase }, { on := 6, ground := Ground.phase }, { on := 7, ground := Ground.phase }, { on := 8, ground := Ground.phase }, { on := 9, ground := Ground.phase }, { on := 10, ground := Ground.phase }, { on := 11, ground := Ground.phase }], guard := none }) (v := ?_) rfl (by kernel_rfl) (by kernel_rfl) (by kernel_rfl) (fun _ _ _ h => h) (Or.inl ⟨by rfl, ?hy13⟩) hS12 ?_
                    case hy13 => (intro w hSw; (try dsimp only at hSw); go_simp; try with_reducible rfl)
                    try simp only [Act.put, List.setIfInBounds_toArray, List.set_cons_zero, List.set_cons_succ]
                    refine wpAnyH_done (by kernel_rfl) ?_ _
                    go_wp2_with fail
                    go_roundg (MS.length - (i + 1))
                    case measure => have := G.out; omega
                    case rel => exact FIN.out
                  exact AllReadyH.nil
                exact AllReadyH.nil
              exact AllReadyH.nil
            · rw [if_neg hck] at r6
              have RUN6 := Lib.hid r6
              have RUN7 := Lib.hid r7
              have RUN9 := Lib.hid r9
              have FIN := Lib.hid fin
              have KEEP := Lib.hid kk
              have c1 := k0
              clear r6 r7 r9 fin kk BLK hcn k0
              go_wp2_with (refine rl_append_run (by rfl) _ _ _ (by rfl) (by rfl) (by rfl) RUN6.out ?_)
              refine wp_region_held_drew (S := (fun w' => w'.cell? ⟨mb, mo + i, none⟩ = some (.slice px X.length cx))) (by kernel_rfl) ?hs0 (fun hS0 => ?_)
              case hs0 => ((try dsimp only); first | with_reducible exact c1 | with_reducible exact k1 | exact c1 | exact k1 | exact k2 | exact k3)
              refine wpAnyH_take (i := 0) (oi := { dst := some 37, op := Op.move (Operand.tmp 3), type := 24, pos := "ref.go:49", after := #[], guard := none }) (v := ?_) rfl (by kernel_rfl) (by kernel_rfl) (by kernel_rfl) (fun _ _ _ h => h) (Or.inl ⟨by rfl, ?hy1⟩) hS0 ?_
              case hy1 => (intro w hSw; (try dsimp only at hSw); go_simp; try with_reducible rfl)
              try simp only [Act.put, List.setIfInBounds_toArray, List.set_cons_zero, List.set_cons_succ]
              refine wpAnyH_take (i := 1) (oi := { dst := some 38, op := Op.move (Operand.tmp 5), type := 3, pos := "ref.go:49", after := #[], guard := none }) (v := ?_) rfl (by kernel_rfl) (by kernel_rfl) (by kernel_rfl) (fun _ _ _ h => h) (Or.inl ⟨by rfl, ?hy2⟩) hS0 ?_
              case hy2 => (intro w hSw; (try dsimp only at hSw); go_simp; try with_reducible rfl)
              try simp only [Act.put, List.setIfInBounds_toArray, List.set_cons_zero, List.set_cons_succ]
              refine wpAnyH_take (i := 2) (oi := { dst := some 39, op := Op.move (Operand.tmp 5), type := 3, pos := "ref.go:49", after := #[], guard := none }) (v := ?_) rfl (by kernel_rfl) (by kernel_rfl) (by kernel_rfl) (fun _ _ _ h => h) (Or.inl ⟨by rfl, ?hy3⟩) hS0 ?_
              case hy3 => (intro w hSw; (try dsimp only at hSw); go_simp; try with_reducible rfl)
              try simp only [Act.put, List.setIfInBounds_toArray, List.set_cons_zero, List.set_cons_succ]
              refine wpAnyH_take (i := 3) (oi := { dst := some 40, op := Op.slice 24 (Operand.tmp 37) none (some (Operand.tmp 38)) (some (Operand.tmp 39)), type := 24, pos := "ref.go:49", after := #[{ on := 0, ground := Ground.data }, { on := 1, ground := Ground.data }, { on := 2, ground := Ground.data }], guard := none }) (v := ?_) rfl (by kernel_rfl) (by kernel_rfl) (by kernel_rfl) (fun _ _ _ h => h) (Or.inl ⟨by rfl, ?hy4⟩) hS0 ?_
              case hy4 => (intro w hSw; (try dsimp only at hSw); go_simp; try with_reducible rfl)
              try simp only [Act.put, List.setIfInBounds_toArray, List.set_cons_zero, List.set_cons_succ]
              refine wpAnyH_take (i := 4) (oi := { dst := some 41, op := Op.move (Operand.tmp 0), type := 24, pos := "ref.go:49", after := #[], guard := none }) (v := ?_) rfl (by kernel_rfl) (by kernel_rfl) (by kernel_rfl) (fun _ _ _ h => h) (Or.inl ⟨by rfl, ?hy5⟩) hS0 ?_
              case hy5 => (intro w hSw; (try dsimp only at hSw); go_simp; try with_reducible rfl)
              try simp only [Act.put, List.setIfInBounds_toArray, List.set_cons_zero, List.set_cons_succ]
              refine wpAnyH_take (i := 5) (oi := { dst := some 42, op := Op.move (Operand.tmp 4), type := 3, pos := "ref.go:49", after := #[], guard := none }) (v := ?_) rfl (by kernel_rfl) (by kernel_rfl) (by kernel_rfl) (fun _ _ _ h => h) (Or.inl ⟨by rfl, ?hy6⟩) hS0 ?_
              case hy6 => (intro w hSw; (try dsimp only at hSw); go_simp; try with_reducible rfl)
              try simp only [Act.put, List.setIfInBounds_toArray, List.set_cons_zero, List.set_cons_succ]
              refine wpAnyH_take (i := 6) (oi := { dst := some 43, op := Op.indexAddr 24 (Operand.tmp 41) (Operand.tmp 42), type := 0, pos := "ref.go:49", after := #[{ on := 4, ground := Ground.data }, { on := 5, ground := Ground.data }], guard := none }) (v := ?_) rfl (by kernel_rfl) (by kernel_rfl) (by kernel_rfl) (fun _ _ _ h => h) (Or.inl ⟨by rfl, ?hy7⟩) hS0 ?_
              case hy7 => (intro w hSw; (try dsimp only at hSw); go_simp; try with_reducible rfl)
              try simp only [Act.put, List.setIfInBounds_toArray, List.set_cons_zero, List.set_cons_succ]
              refine wpAnyH_take (i := 7) (oi := { dst := some 44, op := Op.load 22 (Operand.tmp 43), type := 22, pos := "ref.go:49", after := #[{ on := 6, ground := Ground.data }], guard := none }) (v := ?_) rfl (by kernel_rfl) (by kernel_rfl) (by kernel_rfl) (fun _ _ _ h => h) (Or.inl ⟨by rfl, ?hy8⟩) hS0 ?_
              case hy8 => (intro w hSw; (try dsimp only at hSw); go_simp; try with_reducible rfl)
              try simp only [Act.put, List.setIfInBounds_toArray, List.set_cons_zero, List.set_cons_succ]
              refine wpAnyH_take (i := 10) (oi := { dst := some 47, op := Op.move (Operand.tmp 6), type := 24, pos := "ref.go:49", after := #[], guard := none }) (v := ?_) rfl (by kernel_rfl) (by kernel_rfl) (by kernel_rfl) (fun _ _ _ h => h) (Or.inl ⟨by rfl, ?hy9⟩) hS0 ?_
              case hy9 => (intro w hSw; (try dsimp only at hSw); go_simp; try with_reducible rfl)
              try simp only [Act.put, List.setIfInBounds_toArray, List.set_cons_zero, List.set_cons_succ]
              refine wpAnyH_ready (rs := [8]) (by kernel_rfl) (by simp) ?_
              refine AllReadyH.cons (o := { dst := some 45, op := Op.buildSlice 24 1 #[(0, Operand.tmp 44)], type := 24, pos := "ref.go:49", after := #[{ on := 7, ground := Ground.data }], guard := none }) rfl (fun K hK => ?_) ?_
              · go_simp; have k1 := KEEP.out.1
                refine hK.out _ _ ?hs10 (fun hS10 => ?_)
                case hs10 => ((try dsimp only); first | with_reducible exact c1 | with_reducible exact k1 | exact c1 | exact k1 | exact k2 | exact k3)
                clear hK K hS0
                refine wpAnyH_ready (rs := [9]) (by kernel_rfl) (by simp) ?_
                refine AllReadyH.cons (o := { dst := some 46, op := Op.call { callee := Callee.builtin Builtin.append, args := #[Operand.tmp 40, Operand.tmp 45], argTypes := #[24, 24] }, type := 24, pos := "ref.go:49", after := #[{ on := 3, ground := Ground.data }, { on := 8, ground := Ground.data }], guard := none }) rfl (fun K hK => ?_) ?_
                · refine rs_append_run (by rfl) _ _ _ (by rfl) (by rfl) (by rfl) RUN7.out ?_; have k2 := KEEP.out.2.1; go_simp
                  refine hK.out _ _ ?hs11 (fun hS11 => ?_)
                  case hs11 => ((try dsimp only); first | with_reducible exact c1 | with_reducible exact k1 | exact c1 | exact k1 | exact k2 | exact k3)
                  clear hK K hS10
                  refine wpAnyH_ready (rs := [11]) (by kernel_rfl) (by simp) ?_
                  refine AllReadyH.cons (o := { dst := some 48, op := Op.call { callee := Callee.builtin Builtin.append, args := #[Operand.tmp 46, Operand.tmp 47], argTypes := #[24, 24] }, type := 24, pos := "ref.go:49", after := #[{ on := 9, ground := Ground.data }, { on := 10, ground := Ground.data }, { on := 9, ground := Ground.chain }], guard := none }) rfl (fun K hK => ?_) ?_
                  · refine rs_append_run (by rfl) _ _ _ (by rfl) (by rfl) (by rfl) RUN9.out ?_; have k3 := KEEP.out.2.2; go_simp
                    refine hK.out _ _ ?hs12 (fun hS12 => ?_)
                    case hs12 => ((try dsimp only); first | with_reducible exact c1 | with_reducible exact k1 | exact c1 | exact k1 | exact k2 | exact k3)
                    clear hK K hS11
                    refine wpAnyH_take (i := 12) (oi := { dst := some 3, op := Op.assign (Operand.tmp 48), type := 24, pos := "ref.go:49", after := #[{ on := 11, ground := Ground.data }, { on := 11, ground := Ground.chain }, { on := 0, ground := Ground.phase }, { on := 1, ground := Ground.phase }, { on := 2, ground := Ground.phase }, { on := 3, ground := Ground.phase }, { on := 4, ground := Ground.phase }, { on := 5, ground := Ground.phase }, { on := 6, ground := Ground.phase }, { on := 7, ground := Ground.phase }, { on := 8, ground := Ground.phase }, { on := 9, ground := Ground.phase }, { on := 10, ground := Ground.phase }, { on := 11, ground := Ground.phase }], guard := none }) (v := ?_) rfl (by kernel_rfl) (by kernel_rfl) (by kernel_rfl) (fun _ _ _ h => h) (Or.inl ⟨by rfl, ?hy13⟩) hS12 ?_
                    case hy13 => (intro w hSw; (try dsimp only at hSw); go_simp; try with_reducible rfl)
                    try simp only [Act.put, List.setIfInBounds_toArray, List.set_cons_zero, List.set_cons_succ]
                    refine wpAnyH_done (by kernel_rfl) ?_ _
                    go_wp2_with fail
                    go_roundg (MS.length - (i + 1))
                    case measure => have := G.out; omega
                    case rel => exact FIN.out
                  exact AllReadyH.nil
                exact AllReadyH.nil
              exact AllReadyH.nil
    · have hmats : MatsAt wr _ (E.map Prod.snd) := mats_own (P := fun b => b < w.heap.size) (xs := E.map Prod.fst) (by rw [List.length_map]; exact hst.own) (fun k M hk => by
        rw [List.getElem?_map] at hk
        obtain ⟨e, he, rfl⟩ := Option.map_eq_some_iff.1 hk
        exact ⟨e.1, by rw [List.getElem?_map, he]; rfl, hst.el e (List.mem_of_getElem? he)⟩)
      obtain ⟨a3, c3, e3, s3⟩ := own_slice hst.own
      subst e3
      have F := Lib.hid (show ∃ (E : List (Value × Mat)), MatsAt wr _ (E.map Prod.snd) ∧ (E.map Prod.snd).Perm MS ∧ E.Pairwise leE ∧ Turn (fun _ => False) w wr from ⟨E, hmats, by
        have := hst.perm
        rw [List.take_of_length_le (by omega)] at this
        exact this, hst.srt, hst.turn⟩)
      have t1 : decide ((i : Int) < (MS.length : Int)) = false := by simp; omega
      clear hst hmats hg s3 hel
      go_wp2
      go_ret
      obtain ⟨E', h1⟩ := F.out
      exact ⟨_, E', rfl, h1⟩
end Go.Proofs.Ytibmimdlgbhdnaa
