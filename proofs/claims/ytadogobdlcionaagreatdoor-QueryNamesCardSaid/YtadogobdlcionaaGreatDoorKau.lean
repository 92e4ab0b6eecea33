/-
  The document's token at a place: a number; and all of them.
  Where tokens stand.
  All tokens of a text, as the document tells them.
  Lex, as the document tells it.
-/
import Derived.Test.YtadogobdlcionaaGreatDoorKat
import Derived.Test.YtadogobdlcionaaGreatDoorKal
set_option linter.unusedSimpArgs false
namespace Go.Proofs.YtadogobdlcionaaGreatDoor.Doc
open Go.ChangeShapes Go.WideShapes Go.ChangeAt Go.RowKit
set_option linter.unusedVariables false
theorem next_put_d {w w1 : World} {a : Act} (h : w1.rangeAt w.heap.size 0 ztok ∧ Blk w1 w.heap.size 65 ∧ Turn (fun _ => False) w w1) (hd : a.defers = []) (hp : a.tmps.getD 4 undef = .pointer (some ⟨w.heap.size, 0, none⟩)) (k i n : Int) (t : ByteArray) {s : ByteArray} {at_ : Nat}
    (hv : .agg (tokL k i n t).toArray = nextV s at_) :
    bodyPost Tryz.prog Tryz.f43 (NextPost w s at_) Exit.ret a (put4 w1 w.heap.size (.int .i64 k) (.int .i64 i) (.string t) (.int .i64 n)).drew :=
  have T : Turn (fun _ => False) (put4 w1 w.heap.size (.int .i64 k) (.int .i64 i) (.string t) (.int .i64 n)) (put4 w1 w.heap.size (.int .i64 k) (.int .i64 i) (.string t) (.int .i64 n)).drew := (Turn.refl _ _).drewN 1
  bodyPost_ret (v := .agg (tokL k i n t).toArray) (res_cell (a := 4) rfl hp (run_loadVar_mid _ w.heap.size 0 65 _ _ (range_turn (put4_range h.1 _ _ _ _) T id) Tryz.underlying65 rfl size30)) hd ⟨(put4_turn h.2.2 (Nat.le_refl _) _ _ _ _).trans T, by rw [hv]⟩
theorem res_num (w : World) {w1 : World} (T : Turn (fun _ => False) (w.alloc (.cells ztok.toArray 65)) w1) (V : Int) (ok : Bool) : ∃ W2, W2 = w1.alloc (.cells #[.int .i64 V, .bool ok] 121) ∧ (W2.rangeAt w.heap.size 0 ztok ∧ Blk W2 w.heap.size 65 ∧ Turn (fun _ => False) w W2) ∧
    W2.cell? ⟨w1.heap.size, 0, none⟩ = some (.int .i64 V) ∧ W2.cell? ⟨w1.heap.size, 1, none⟩ = some (.bool ok) ∧ w.heap.size ≠ w1.heap.size ∧ ∀ i, W2.frozen? ⟨w1.heap.size, i, none⟩ = false := by
  have hs := T.size
  rw [World.size_alloc] at hs
  exact ⟨_, rfl, res_box w (T.alloc _), cell_new rfl rfl, cell_new rfl rfl, by omega, (Blk.newA rfl).fz⟩
set_option maxRecDepth 100000 in
set_option maxHeartbeats 1000000 in
theorem next_num (w : World) (s : ByteArray) {i : Nat} {c : UInt8} (hc : s.data.toList[i]? = some c) (hs : s.size ≤ 140737488355328) (hk3 : isDigit c = true) : Calls Tryz.prog 43 #[.string s, .int .i64 (i : Int)] w (NextPost w s i) := by
  have hi : i < s.size := by rw [str_len]; exact (List.getElem?_eq_some_iff.1 hc).1
  have hdd : 48 ≤ c.toNat ∧ c.toNat ≤ 57 := by simpa [isDigit] using hk3
  have hk : isSmall c = false := by simp [isSmall]; omega
  have hk2 : ¬ (65 ≤ c.toNat ∧ c.toNat < 73) := by omega
  have hx := fun W => str_at hc W
  have S := Lib.hid (fun w => rsmall_is w c)
  have D := Lib.hid (fun w => rdigit_is w c)
  rw [hk] at S
  rw [hk3] at D
  have e0 : kindB false = isDigit := funext kindB_digit
  have G := goes_is w s (i := i) false (Nat.le_of_lt hi) hs
  have GG := Lib.hid (fun w => goes_is w s (i := i) false (Nat.le_of_lt hi) hs)
  rw [e0] at GG
  clear G
  have hn : i + spanB isDigit (s.data.toList.drop i) ≤ s.size := by
    have := spanB_le isDigit (s.data.toList.drop i)
    rw [List.length_drop, ← str_len] at this
    omega
  have hf : findB (s.data.toList.drop i) = (if decV 0 ((s.data.toList.drop i).take (spanB isDigit (s.data.toList.drop i))) < 9223372036854775808 ∧ headB isLetter ((s.data.toList.drop i).drop (spanB isDigit (s.data.toList.drop i))) = false
        then some ⟨3, spanB isDigit (s.data.toList.drop i), decV 0 ((s.data.toList.drop i).take (spanB isDigit (s.data.toList.drop i)))⟩ else none) := by
    rw [drop_cons hc]
    simp only [findB, hk, hk2, hk3]
    rfl
  have hall : ∀ x ∈ (s.extract i (i + spanB isDigit (s.data.toList.drop i))).data.toList, isDigit x = true := by
    rw [ext_list]
    intro x hx
    obtain ⟨j, hj, he⟩ := List.getElem_of_mem hx
    rw [List.length_take] at hj
    rw [List.getElem_take] at he
    exact spanB_all isDigit _ j x (by omega) (List.getElem?_eq_some_iff.2 ⟨by omega, he⟩)
  rw [List.drop_drop] at hf
  rw [← ext_list s i] at hf
  generalize spanB isDigit (s.data.toList.drop i) = n at *
  have LT := Lib.hid (fun w => rletter_is w s (i := i + n) hn hs)
  have hw := wrap_sum (a := i) (b := n) (by omega)
  have hss := str_sub (s := s) (i := i) (j := i + n) (Nat.le_add_right _ _) hn
  obtain ⟨p, hp⟩ : ∃ p : Int, p = ((i + n : Nat) : Int) := ⟨_, rfl⟩
  rw [← hp] at hw hss LT
  have NB := Lib.hid (fun w => number_is w (s.extract i (i + n)) hall (by rw [ByteArray.size_extract]; omega))
  obtain ⟨t, ht⟩ : ∃ t, t = s.extract i (i + n) := ⟨_, rfl⟩
  rw [← ht] at hss NB hf
  generalize headB isLetter (s.data.toList.drop (i + n)) = lt at *
  obtain ⟨V, hV⟩ : ∃ V, V = decV 0 t.data.toList := ⟨_, rfl⟩
  have HF := Lib.hid (And.intro hf (And.intro hV ht))
  obtain ⟨m, hm⟩ : ∃ m : Int, m = (c.toNat : Int) := ⟨_, rfl⟩
  rw [← hm] at hx S D
  clear hp hf hn hm hk hk2 hk3 hc hi hs hall hdd hV ht e0
  go_enter Tryz.func43, Tryz.ntmps43
  go_wp2_with fail
  with_reducible refine (S.out _).mono ?_
  rintro e w1 ⟨rfl, rfl⟩
  go_wp2_with fail
  with_reducible refine (D.out _).mono ?_
  rintro e w1 ⟨rfl, rfl⟩
  go_wp2_with fail
  with_reducible refine (GG.out _).mono ?_
  rintro e w1 ⟨rfl, rfl⟩
  go_wp2_with fail
  with_reducible refine (NB.out _).mono ?_
  rintro e w1 ⟨T1, ⟨hlt, rfl⟩ | ⟨hlt, rfl⟩⟩
  · rw [← HF.out.2.1] at hlt ⊢
    have HL := Lib.hid hlt
    clear hlt
    obtain ⟨W2, hW2, RB, z0, z1, hne, fz⟩ := res_num w T1 (V : Int) true
    have RR := RB.1
    have y0 : W2.cell? ⟨w.heap.size, 0, none⟩ = some (.int .i64 0) := RR 0 _ rfl
    have y1 : W2.cell? ⟨w.heap.size, 1, none⟩ = some (.int .i64 0) := RR 1 _ rfl
    have y2 : W2.cell? ⟨w.heap.size, 2, none⟩ = some (.string ⟨#[]⟩) := RR 2 _ rfl
    have y3 : W2.cell? ⟨w.heap.size, 3, none⟩ = some (.int .i64 0) := RR 3 _ rfl
    have ff := RB.2.1.fz
    have FB := Lib.hid RB
    have HW := Lib.hid hW2
    clear RR T1 RB hW2
    cases lt with
    | true =>
      go_wp2_with fail
      rw [← HW.out]
      with_reducible refine (LT.out _).mono ?_
      rintro e w2 ⟨rfl, rfl⟩
      go_wp2_with fail
      exact next_put FB.out rfl rfl 0 0 0 ⟨#[]⟩ (by unfold nextV; rw [HF.out.1, ← HF.out.2.1]; simp [HL.out]; rfl)
    | false =>
      go_wp2_with fail
      rw [← HW.out]
      with_reducible refine (LT.out _).mono ?_
      rintro e w2 ⟨rfl, rfl⟩
      go_wp2_with fail
      go_region
      all_goals go_wp2_with fail
      all_goals exact next_put_d FB.out rfl rfl 3 i V t (by unfold nextV; rw [HF.out.1, ← HF.out.2.1, if_pos ⟨HL.out, trivial⟩]; show _ = tokV s _; unfold tokV; rw [HF.out.2.2]; rfl)
  · rw [← HF.out.2.1] at hlt
    have HL := Lib.hid hlt
    clear hlt
    obtain ⟨W2, hW2, RB, z0, z1, hne, fz⟩ := res_num w T1 0 false
    have RR := RB.1
    have y0 : W2.cell? ⟨w.heap.size, 0, none⟩ = some (.int .i64 0) := RR 0 _ rfl
    have y1 : W2.cell? ⟨w.heap.size, 1, none⟩ = some (.int .i64 0) := RR 1 _ rfl
    have y2 : W2.cell? ⟨w.heap.size, 2, none⟩ = some (.string ⟨#[]⟩) := RR 2 _ rfl
    have y3 : W2.cell? ⟨w.heap.size, 3, none⟩ = some (.int .i64 0) := RR 3 _ rfl
    have ff := RB.2.1.fz
    have FB := Lib.hid RB
    have HW := Lib.hid hW2
    clear RR T1 RB hW2
    go_wp2_with fail
    rw [← HW.out]
    with_reducible refine (LT.out _).mono ?_
    rintro e w2 ⟨rfl, rfl⟩
    go_wp2_with fail
    exact next_put FB.out rfl rfl 0 0 0 ⟨#[]⟩ (by unfold nextV; rw [HF.out.1, ← HF.out.2.1]; simp [HL.out]; rfl)
/-- **Next**: the token at a place, or none. -/
theorem next_is (w : World) (s : ByteArray) {i : Nat} (hi : i < s.size) (hs : s.size ≤ 140737488355328) : Calls Tryz.prog 43 #[.string s, .int .i64 (i : Int)] w (NextPost w s i) := by
  obtain ⟨c, hc⟩ : ∃ c, s.data.toList[i]? = some c := ⟨_, List.getElem?_eq_getElem (by rw [← str_len]; exact hi)⟩
  cases h1 : isSmall c with
  | true => exact next_name w s hc hs h1
  | false =>
    by_cases h2 : 65 ≤ c.toNat ∧ c.toNat < 73
    · exact next_cap w s hc hs h2
    · cases h3 : isDigit c with
      | true => exact next_num w s hc hs h3
      | false => exact next_sign w s hc hs h1 h2 h3
end Go.Proofs.YtadogobdlcionaaGreatDoor.Doc
namespace Go.Proofs.YtadogobdlcionaaGreatDoor.Doc
open Go.ChangeShapes Go.WideShapes Go.ChangeAt Go.RowKit
set_option linter.unusedVariables false
/-- Where the tokens ahead of the j-th end. -/
def endAt (L : List (Nat × Tok)) (i : Nat) : Nat → Nat
  | 0 => i
  | j + 1 => match L[j]? with | some x => x.1 + x.2.len | none => i
theorem eachB_start : ∀ (f i : Nat) (l : List UInt8) (j : Nat) (x : Nat × Tok), (eachB f i l)[j]? = some x → x.1 = skipB (endAt (eachB f i l) i j) l
  | 0, i, l, j, x, h => by simp [eachB] at h
  | f + 1, i, l, j, x, h => by
    cases hB : findB (l.drop (skipB i l)) with
    | none => rw [eachB_none hB] at h; simp at h
    | some t =>
      rw [eachB_some hB] at h ⊢
      cases j with
      | zero =>
        simp at h
        subst h
        rfl
      | succ j =>
        rw [List.getElem?_cons_succ] at h
        have IH := eachB_start f _ l j x h
        rw [IH]
        cases j with
        | zero => rfl
        | succ k =>
          obtain ⟨y, hy⟩ : ∃ y, (eachB f (skipB i l + t.len) l)[k]? = some y := ⟨_, List.getElem?_eq_getElem (Nat.lt_of_succ_lt (List.getElem?_eq_some_iff.1 h).1)⟩
          simp only [endAt, List.getElem?_cons_succ, hy]
theorem endAt_last : ∀ (L : List (Nat × Tok)), endAt L 0 L.length = endB L := fun L => by
  rcases List.eq_nil_or_concat L with rfl | ⟨r, x, rfl⟩
  · rfl
  · rw [List.concat_eq_append, endB_snoc, List.length_append]
    show (match (r ++ [x])[r.length]? with | some x => x.1 + x.2.len | none => 0) = _
    simp
theorem toksC_at (s : ByteArray) : ∀ (L : List (Nat × Tok)) (i j : Nat) (x : Nat × Tok), L[i]? = some x → j < 4 → (toksC s L)[i * 4 + j]? = (tokC s x)[j]?
  | [], i, j, x, h, _ => by simp at h
  | y :: r, 0, j, x, h, hj => by
    simp at h
    subst h
    show (tokC s y ++ toksC s r)[0 * 4 + j]? = _
    rw [Nat.zero_mul, Nat.zero_add, List.getElem?_append_left (by show j < 4; exact hj)]
  | y :: r, i + 1, j, x, h, hj => by
    rw [List.getElem?_cons_succ] at h
    have IH := toksC_at s r i j x h hj
    show (tokC s y ++ toksC s r)[(i + 1) * 4 + j]? = _
    have hl : (tokC s y).length = 4 := rfl
    rw [List.getElem?_append_right (by rw [hl]; omega), hl, ← IH]
    congr 1
    omega
/-- What stands between two tokens is blank. -/
theorem skip_blank {D : List UInt8} {e k : Nat} (h1 : e ≤ k) (h2 : k < skipB e D) : ∃ c, D[k]? = some c ∧ isBlank c = true := by
  have := skipB_step (l := D) (i := e) (j := k - e) (by unfold skipB at h2; omega)
  have e1 : e + (k - e) = k := by omega
  rw [e1] at this
  exact this
theorem skip_ge (e : Nat) (D : List UInt8) : e ≤ skipB e D := by unfold skipB; omega
end Go.Proofs.YtadogobdlcionaaGreatDoor.Doc
namespace Go.Proofs.YtadogobdlcionaaGreatDoor.Doc
open Go.ChangeShapes Go.WideShapes Go.ChangeAt Go.RowKit
set_option linter.unusedVariables false
theorem skip_next {l : List UInt8} {i : Nat} {c : UInt8} (h : l[i]? = some c) (hb : isBlank c = true) : skipB (i + 1) l = skipB i l := by
  unfold skipB
  rw [drop_cons h]
  show i + 1 + spanB isBlank (l.drop (i + 1)) = i + (if isBlank c then spanB isBlank (l.drop (i + 1)) + 1 else 0)
  rw [hb]
  simp
  omega
theorem each_same {f i j : Nat} {l : List UInt8} (h : skipB i l = skipB j l) : eachB f i l = eachB f j l := by rw [← eachB_skip f i, h, eachB_skip]
/-- What lies there while tokens are collected. -/
structure EaI (w W : World) (s : ByteArray) (v : Value) (pre : List (Nat × Tok)) (e : Nat) : Prop where
  r : Blk W w.heap.size 62 ∧ W.rangeAt w.heap.size 0 [.slice none 0 0, .int .i64 0]
  a : Blk W (w.heap.size + 1) 62 ∧ W.cell? ⟨w.heap.size + 1, 0, none⟩ = some v ∧ W.cell? ⟨w.heap.size + 1, 1, none⟩ = some (.int .i64 (e : Int))
  own : W.ownsRow (w.heap.size + 2) 65 4 v pre.length (toksC s pre)
  tn : Turn (fun _ => False) w W
section
variable {w W W' : World} {s : ByteArray} {v : Value} {pre : List (Nat × Tok)} {e : Nat}
theorem EaI.turn (h : EaI w W s v pre e) (T : Turn (fun _ => False) W W') : EaI w W' s v pre e :=
  ⟨⟨h.r.1.turn T id, range_turn h.r.2 T id⟩, ⟨h.a.1.turn T id, T.cell id h.a.2.1, T.cell id h.a.2.2⟩, own_turn h.own T (fun _ _ f => f), h.tn.trans T⟩
theorem EaI.bump (h : EaI w W s v pre e) (k : Nat) : EaI w (W.setCell ⟨w.heap.size + 1, 1, none⟩ (.int .i64 (k : Int))) s v pre k :=
  have T := Turn.put W (w.heap.size + 1) 1 (.int .i64 (k : Int))
  ⟨⟨h.r.1.set _ _, range_turn h.r.2 T (by omega)⟩, ⟨h.a.1.set _ _, (cell_off _ _ _ _ _ (by decide)).trans h.a.2.1, World.cell?_setCell_same _ _ _ h.a.2.2⟩, own_turn h.own T (fun k hk q => by have := (own_blk h.own hk).2; omega), h.tn.comp T (fun i hi q => by omega)⟩
/-- One more token. -/
theorem EaI.push (h : EaI w W s v pre e) (x : Nat × Tok) (hl : pre.length ≤ 1000000) (k : Nat) :
    ∃ a' c' W2, (Builtin.append_ #[60, 60] 60 #[v, .slice (some ⟨W.heap.size, 0, none⟩) 1 1]).run Tryz.prog (W.alloc (.cells #[.int .i64 (x.2.kind : Int), .int .i64 (x.1 : Int), .string (s.extract x.1 (x.1 + x.2.len)), .int .i64 (x.2.n : Int)] 65)) = .ok (.slice a' (pre.length + 1) c') W2 ∧
      Turn (fun k => v.ownBlock = some k) W W2 ∧
      EaI w ((W2.setCell ⟨w.heap.size + 1, 0, none⟩ (.slice a' (pre.length + 1) c')).setCell ⟨w.heap.size + 1, 1, none⟩ (.int .i64 (k : Int))) s (.slice a' (pre.length + 1) c') (pre ++ [x]) k := by
  have hs := h.r.1.lt
  have hs2 := h.a.1.lt
  obtain ⟨v', W2, hr, ho, T⟩ := tok_add h.own hl (by omega) (x.2.kind : Int) (x.1 : Int) (x.2.n : Int) (s.extract x.1 (x.1 + x.2.len))
  have own6 : ∀ k, v.ownBlock = some k → w.heap.size + 2 ≤ k := fun k hk => (own_blk h.own hk).2
  obtain ⟨a', c', rfl, -⟩ := own_slice ho
  have nn : ∀ j, j < w.heap.size + 2 → ¬ v.ownBlock = some j := fun j hj e => by have := own6 j e; omega
  have T2 : Turn (fun k => k = w.heap.size + 1) W2 ((W2.setCell ⟨w.heap.size + 1, 0, none⟩ (.slice a' (pre.length + 1) c')).setCell ⟨w.heap.size + 1, 1, none⟩ (.int .i64 (k : Int))) :=
    (Turn.put W2 _ 0 _).trans (Turn.put _ _ 1 _)
  have b1 := h.a.1.turn T (nn _ (by omega))
  have c0 := T.cell (nn _ (by omega)) h.a.2.1
  have c1 := T.cell (nn _ (by omega)) h.a.2.2
  refine ⟨a', c', W2, hr, T, ⟨h.r.1.turn T (nn _ (by omega)) |>.turn T2 (by omega), range_turn (range_turn h.r.2 T (nn _ (by omega))) T2 (by omega)⟩,
    ⟨(b1.set _ _).set _ _, (cell_off _ _ _ _ _ (by decide)).trans (World.cell?_setCell_same _ _ _ c0), World.cell?_setCell_same _ _ _ ((cell_off _ _ _ _ _ (by decide)).trans c1)⟩, ?_, ?_⟩
  · rw [List.length_append, toksC_snoc]
    exact own_turn ho T2 (fun k hk q => by have := (own_blk ho hk).2; omega)
  · exact (h.tn.comp T (fun i hi e => by have := own6 i e; omega)).comp T2 (fun i hi e => by omega)
end
theorem size42 : (Tryz.prog.info? 62).map (fun i => i.size) = some 2 := by kernel_rfl
/-- What Each tells. -/
def EachPost (w : World) (s : ByteArray) (e : Ending) (w' : World) : Prop :=
  Turn (fun _ => False) w w' ∧ ∃ v, e = .returned (.agg #[v, .int .i64 (skipB (endB (toksB s.data.toList)) s.data.toList : Int)]) ∧ w'.ownsRow w.heap.size 65 4 v (toksB s.data.toList).length (toksC s (toksB s.data.toList))
theorem ea_end {w W : World} {a : Act} {s : ByteArray} {v : Value} {e : Nat} (h : EaI w W s v (toksB s.data.toList) e) (he : e = skipB (endB (toksB s.data.toList)) s.data.toList) (hd : a.defers = []) (hp : a.tmps.getD 2 undef = .pointer (some ⟨w.heap.size, 0, none⟩)) :
    bodyPost Tryz.prog Tryz.f23 (EachPost w s) Exit.ret a ((W.setCell ⟨w.heap.size, 0, none⟩ v).setCell ⟨w.heap.size, 1, none⟩ (.int .i64 (e : Int))) := by
  have T : Turn (fun k => k = w.heap.size) W ((W.setCell ⟨w.heap.size, 0, none⟩ v).setCell ⟨w.heap.size, 1, none⟩ (.int .i64 (e : Int))) := (Turn.put W _ 0 _).trans (Turn.put _ _ 1 _)
  have R : ((W.setCell ⟨w.heap.size, 0, none⟩ v).setCell ⟨w.heap.size, 1, none⟩ (.int .i64 (e : Int))).rangeAt w.heap.size 0 [v, .int .i64 (e : Int)] := by
    have c0 := h.r.2 0 _ rfl
    have c1 := h.r.2 1 _ rfl
    rw [Nat.zero_add] at c0 c1
    intro k u hu
    rw [Nat.zero_add]
    match k, hu with
    | 0, hu =>
      obtain rfl : v = u := by simpa using hu
      exact (cell_off _ _ _ _ _ (by decide)).trans (World.cell?_setCell_same _ _ _ c0)
    | 1, hu =>
      obtain rfl : Value.int .i64 (e : Int) = u := by simpa using hu
      exact World.cell?_setCell_same _ _ _ ((cell_off _ _ _ _ _ (by decide)).trans c1)
    | k + 2, hu => simp at hu
  exact bodyPost_ret (v := .agg #[v, .int .i64 (e : Int)]) (res_cell (a := 2) rfl hp (run_loadVar_mid _ w.heap.size 0 62 _ _ R Tryz.underlying62 rfl size42)) hd
    ⟨h.tn.comp T (fun i hi q => by omega), v, by rw [he], own_weak (own_turn h.own T (fun k hk q => by have := (own_blk h.own hk).2; omega)) (by omega)⟩
def EaRel (w : World) (s : ByteArray) (gh : Nat) (wr : World) : Prop := ∃ v pre e f, EaI w wr s v pre e ∧ e ≤ s.size ∧ gh = s.size - e ∧ toksB s.data.toList = pre ++ eachB f e s.data.toList ∧ s.size < e + f ∧ skipB e s.data.toList = skipB (endB pre) s.data.toList ∧ pre.length ≤ e
theorem ea_wrap {s : ByteArray} {e n : Nat} (h : e + n ≤ s.size) (hs : s.size ≤ 1000000) : wrap64 ((e : Int) + ((s.extract e (e + n)).size : Int)) = ((e + n : Nat) : Int) := by
  have hsz : (s.extract e (e + n)).size = n := by rw [ByteArray.size_extract]; omega
  rw [hsz]
  exact wrap_sum (by omega)
theorem kind_ne {k : Nat} (h : 1 ≤ k) : ((k : Int) == 0) = false := by simp; omega
theorem ea_step {w W : World} {s : ByteArray} {v : Value} {pre : List (Nat × Tok)} {e f : Nat} {t : Tok} (I3 : EaI w W s v (pre ++ [(e, t)]) (e + t.len)) (hend : e + t.len ≤ s.size) (ht : toksB s.data.toList = pre ++ eachB f e s.data.toList) (hf : s.size < e + f) (hlt : e < s.size)
    (hk : skipB e s.data.toList = e) (hfd : findB (s.data.toList.drop e) = some t) (hl : 1 ≤ t.len) (hle : pre.length ≤ e) : EaRel w s (s.size - (e + t.len)) W := by
  obtain ⟨f', rfl⟩ : ∃ f', f = f' + 1 := ⟨f - 1, by omega⟩
  refine ⟨v, pre ++ [(e, t)], e + t.len, f', I3, hend, rfl, ?_, by omega, by rw [endB_snoc], by rw [List.length_append]; simp; omega⟩
  rw [ht, eachB_some (by rw [hk]; exact hfd), hk, List.append_assoc]
  rfl
set_option maxRecDepth 100000 in
set_option maxHeartbeats 2000000 in
theorem reach_is (w : World) (s : ByteArray) (hs : s.size ≤ 1000000) : Calls Tryz.prog 23 #[.string s] w (EachPost w s) := by
  have R0 : EaRel w s s.size ((w.alloc (.cells #[.slice none 0 0, .int .i64 0] 62)).alloc (.cells #[.slice none 0 0, .int .i64 0] 62)) := by
    have z1 : (w.alloc (.cells #[.slice none 0 0, .int .i64 0] 62)).heap.size = w.heap.size + 1 := World.size_alloc ..
    refine ⟨.slice none 0 0, [], 0, s.data.toList.length + 1, ⟨⟨(Blk.newA rfl).alloc _, range_turn (range_new w [.slice none 0 0, .int .i64 0] 62) (show Turn (fun _ => False) _ _ from (Turn.refl _ _).alloc _) id⟩, ⟨Blk.newA z1.symm, cell_new z1.symm rfl, cell_new z1.symm rfl⟩, World.ownsRow_nil _ _ _ _, ((Turn.refl _ _).alloc _).alloc _⟩, Nat.zero_le _, rfl, rfl, by rw [← str_len]; omega, rfl, Nat.zero_le _⟩
  have NX := Lib.hid (fun (w : World) (i : Nat) (hi : i < s.size) => next_is w s hi (Nat.le_trans hs (by decide)))
  have BL := Lib.hid rblank_is
  have HS := Lib.hid hs
  clear hs
  go_enter Tryz.func23, Tryz.ntmps23
  go_wp2_with fail
  go_loopg [] s.size (fun gh wr => EaRel w s gh wr)
  case atStart => exact R0
  case round =>
    clear R0
    obtain ⟨v, pre, e, f, hI, he, hg, ht, hf, hsk, hle⟩ := hrel
    obtain ⟨a, cap, rfl, -⟩ := own_slice hI.own
    have c0 := hI.a.2.1
    have c1 := hI.a.2.2
    have fa := hI.a.1.fz
    have r0 : wr.cell? ⟨w.heap.size, 0, none⟩ = some (.slice none 0 0) := hI.r.2 0 _ rfl
    have r1 : wr.cell? ⟨w.heap.size, 1, none⟩ = some (.int .i64 0) := hI.r.2 1 _ rfl
    have fr := hI.r.1.fz
    have GG := Lib.hid (And.intro he (And.intro hg (And.intro ht (And.intro hf (And.intro hsk hle)))))
    have II := Lib.hid hI
    clear hg ht hf hsk hle
    by_cases hlt : e < s.size
    · obtain ⟨c, hc⟩ : ∃ c, s.data.toList[e]? = some c := ⟨_, List.getElem?_eq_getElem (by rw [← str_len]; exact hlt)⟩
      have hx := fun W => str_at hc W
      have B := Lib.hid (fun w => BL.out w c)
      have N1 := Lib.hid (NX.out wr e hlt)
      have u1 := dec_ilt hlt
      have u2 : decide (e < s.size) = true := decide_eq_true hlt
      have hw := wrap_one (a := e) (by have := HS.out; omega)
      have HC := Lib.hid (And.intro hc hlt)
      obtain ⟨p, hp⟩ : ∃ p : Int, p = ((e + 1 : Nat) : Int) := ⟨_, rfl⟩
      rw [← hp] at hw
      obtain ⟨m, hm⟩ : ∃ m : Int, m = (c.toNat : Int) := ⟨_, rfl⟩
      rw [← hm] at hx B
      by_cases hb : isBlank c = true
      · have FIN := Lib.hid (show EaRel w s (s.size - (e + 1)) (wr.setCell ⟨w.heap.size + 1, 1, none⟩ (.int .i64 ((e + 1 : Nat) : Int))) from
          ⟨_, pre, e + 1, f, hI.bump (e + 1), hlt, rfl, by rw [GG.out.2.2.1]; rw [each_same (skip_next hc hb)], by have := GG.out.2.2.2.1; omega, by rw [skip_next hc hb]; exact GG.out.2.2.2.2.1, by have := GG.out.2.2.2.2.2; omega⟩)
        rw [hb] at B
        rw [← hp] at FIN
        clear hI he hlt hc hp hm hb
        go_wp2_with fail
        with_reducible refine (B.out _).mono ?_
        rintro e' w1 ⟨rfl, rfl⟩
        go_wp2_with fail
        go_roundg (s.size - (e + 1))
        case measure => have := GG.out.2.1; have := HC.out.2; omega
        case rel => exact FIN.out
      · have hb : isBlank c = false := by simpa using hb
        rw [hb] at B
        have SK := Lib.hid (show skipB e s.data.toList = e from skipB_zero (fun c' hc' => by rw [hc] at hc'; injection hc' with h; rw [← h]; exact hb))
        clear he hlt hc hp hm hb
        go_wp2_with fail
        with_reducible refine (B.out _).mono ?_
        rintro e' w1 ⟨rfl, rfl⟩
        go_wp2_with fail
        with_reducible refine N1.out.mono ?_
        rintro e' w1 ⟨T1, rfl⟩
        cases hfd : findB (s.data.toList.drop e) with
        | none =>
          have hV : nextV s e = .agg #[.int .i64 0, .int .i64 0, .string ⟨#[]⟩, .int .i64 0] := by unfold nextV; rw [hfd]; rfl
          rw [hV]
          clear hV
          have FIN0 := Lib.hid (show pre = toksB s.data.toList ∧ e = skipB (endB (toksB s.data.toList)) s.data.toList from by
            have h0 : eachB f e s.data.toList = [] := eachB_none (by rw [SK.out]; exact hfd)
            have ht := GG.out.2.2.1
            rw [h0, List.append_nil] at ht
            rw [ht]
            exact ⟨rfl, by rw [← GG.out.2.2.2.2.1]; exact SK.out.symm⟩)
          clear hfd
          obtain ⟨W2, hW2⟩ : ∃ W2, W2 = w1.alloc (.cells ztok.toArray 65) := ⟨_, rfl⟩
          have T2 : Turn (fun _ => False) wr W2 := by rw [hW2]; exact T1.alloc _
          have I2 := II.out.turn T2
          have d0 : W2.cell? ⟨w1.heap.size, 0, none⟩ = some (.int .i64 0) := by rw [hW2]; exact cell_new rfl rfl
          have c0 := I2.a.2.1
          have c1 := I2.a.2.2
          have fa := I2.a.1.fz
          have r0 : W2.cell? ⟨w.heap.size, 0, none⟩ = some (.slice none 0 0) := I2.r.2 0 _ rfl
          have r1 : W2.cell? ⟨w.heap.size, 1, none⟩ = some (.int .i64 0) := I2.r.2 1 _ rfl
          have fr := I2.r.1.fz
          have HW := Lib.hid hW2
          have FIN := Lib.hid (And.intro I2 FIN0.out)
          clear T1 T2 hW2 I2
          go_upto_region 7 with fail
          rw [← (show W2 = w1.alloc (.cells #[.int .i64 0, .int .i64 0, .string ⟨#[]⟩, .int .i64 0] 65) from HW.out)]
          go_wp2_with fail
          have E0 : EaI w W2 s (.slice a pre.length cap) (toksB s.data.toList) e := by rw [← FIN.out.2.1]; exact FIN.out.1
          exact ea_end E0 FIN.out.2.2 rfl rfl
        | some t =>
          have hV : nextV s e = .agg #[.int .i64 (t.kind : Int), .int .i64 (e : Int), .string (s.extract e (e + t.len)), .int .i64 (t.n : Int)] := by unfold nextV; rw [hfd]; rfl
          rw [hV]
          clear hV
          have hl := findB_len hfd
          have hkd := findB_kind hfd
          have hend : e + t.len ≤ s.size := by
            have := hl.2
            rw [List.length_drop, ← str_len] at this
            have := HC.out.2
            omega
          obtain ⟨tx, htx⟩ : ∃ tx, tx = s.extract e (e + t.len) := ⟨_, rfl⟩
          rw [← htx]
          obtain ⟨W2, hW2⟩ : ∃ W2, W2 = w1.alloc (.cells #[.int .i64 (t.kind : Int), .int .i64 (e : Int), .string tx, .int .i64 (t.n : Int)] 65) := ⟨_, rfl⟩
          have T2 : Turn (fun _ => False) wr W2 := by rw [hW2]; exact T1.alloc _
          have I2 := II.out.turn T2
          have B5 : Blk W2 w1.heap.size 65 := by rw [hW2]; exact Blk.newA rfl
          have d0 : W2.cell? ⟨w1.heap.size, 0, none⟩ = some (.int .i64 (t.kind : Int)) := by rw [hW2]; exact cell_new rfl rfl
          have d1 : W2.cell? ⟨w1.heap.size, 1, none⟩ = some (.int .i64 (e : Int)) := by rw [hW2]; exact cell_new rfl rfl
          have d2 : W2.cell? ⟨w1.heap.size, 2, none⟩ = some (.string tx) := by rw [hW2]; exact cell_new rfl rfl
          have d3 : W2.cell? ⟨w1.heap.size, 3, none⟩ = some (.int .i64 (t.n : Int)) := by rw [hW2]; exact cell_new rfl rfl
          obtain ⟨a', c', W3, hrun, T3, I3⟩ := I2.push (e, t) (by have := GG.out.2.2.2.2.2; have := HS.out; omega) (e + t.len)
          have h1 := T1.size
          have hlo : ∀ k, (Value.slice a pre.length cap).ownBlock = some k → w.heap.size + 2 ≤ k ∧ k < w1.heap.size := fun k hk => ⟨(own_blk II.out.own hk).2, Nat.lt_of_lt_of_le (own_blk II.out.own hk).1.lt h1⟩
          have hb1 := Nat.lt_of_lt_of_le II.out.a.1.lt h1
          have nA : ¬ (Value.slice a pre.length cap).ownBlock = some (w.heap.size + 1) := fun q => by have := (hlo _ q).1; omega
          have n5 : ¬ (Value.slice a pre.length cap).ownBlock = some w1.heap.size := fun q => by have := (hlo _ q).2; omega
          have c0 := I2.a.2.1
          have c1 := I2.a.2.2
          have c0' := T3.cell nA c0
          have c1' := T3.cell nA c1
          have d2' := T3.cell n5 d2
          have fa' := (I2.a.1.turn T3 nA).fz
          have m1 : w.heap.size + 1 ≠ w1.heap.size := by omega
          have m2 : w1.heap.size ≠ w.heap.size + 1 := by omega
          have hw := ea_wrap hend HS.out
          simp only [← htx] at hrun
          rw [← htx] at hw
          have u3 := kind_ne hkd
          obtain ⟨q, hq⟩ : ∃ q : Int, q = ((e + t.len : Nat) : Int) := ⟨_, rfl⟩
          have FIN := Lib.hid (show EaRel w s (s.size - (e + t.len)) ((W3.setCell ⟨w.heap.size + 1, 0, none⟩ (.slice a' (pre.length + 1) c')).setCell ⟨w.heap.size + 1, 1, none⟩ (.int .i64 ((e + t.len : Nat) : Int))) from
            ea_step I3 hend GG.out.2.2.1 GG.out.2.2.2.1 HC.out.2 SK.out hfd hl.1 GG.out.2.2.2.2.2)
          rw [← hq] at hw FIN
          have RUN := Lib.hid hrun
          have HW := Lib.hid hW2
          have HE := Lib.hid (And.intro hend hl)
          clear hW2 hrun T1 T2 I2 I3 B5 T3 hfd hl hkd hend hlo hb1 nA n5 hq h1 htx
          go_upto_region 7 with fail
          rw [← HW.out]
          go_wp2_with (refine rl_append_run (by rfl) _ _ _ (by rfl) (by rfl) (by rfl) RUN.out ?_)
          go_roundg (s.size - (e + t.len))
          case measure => have := GG.out.2.1; have := HE.out.1; have := HE.out.2.1; have := HC.out.2; omega
          case rel => exact FIN.out
    · have u1 := dec_inlt hlt
      have u2 : decide (e < s.size) = false := decide_eq_false hlt
      have hee : e = s.size := by omega
      have FIN := Lib.hid (show EaI w wr s (.slice a pre.length cap) (toksB s.data.toList) e ∧ e = skipB (endB (toksB s.data.toList)) s.data.toList ∧ (toksB s.data.toList).length = pre.length from by
        have h0 : eachB f e s.data.toList = [] := eachB_none (by rw [List.drop_eq_nil_of_le (by have := skip_ge e s.data.toList; rw [← str_len]; omega)]; rfl)
        have ht := GG.out.2.2.1
        rw [h0, List.append_nil] at ht
        rw [ht]
        refine ⟨hI, ?_, rfl⟩
        have hsk := GG.out.2.2.2.2.1
        rw [← hsk]
        have h1 := skip_ge e s.data.toList
        have h2 := skipB_le (i := e) (l := s.data.toList) (by rw [← str_len]; omega)
        rw [← str_len] at h2
        omega)
      clear he hlt hI hee
      go_wp2_with fail
      exact ea_end FIN.out.1 FIN.out.2.1 rfl rfl
end Go.Proofs.YtadogobdlcionaaGreatDoor.Doc
namespace Go.Proofs.YtadogobdlcionaaGreatDoor.Doc
open Go.ChangeShapes Go.WideShapes Go.ChangeAt Go.RowKit
set_option linter.unusedVariables false
def zlex : List Value := [.slice none 0 0, .int .i64 0, .int .i64 0]
def put3 (w : World) (b : Nat) (v0 v1 v2 : Value) : World := ((w.setCell ⟨b, 0, none⟩ v0).setCell ⟨b, 1, none⟩ v1).setCell ⟨b, 2, none⟩ v2
theorem put3_range {w : World} {b : Nat} {u0 u1 u2 : Value} (h : w.rangeAt b 0 [u0, u1, u2]) (v0 v1 v2 : Value) : (put3 w b v0 v1 v2).rangeAt b 0 [v0, v1, v2] := by
  intro k v hv
  rw [Nat.zero_add]
  have c0 := h 0 u0 rfl
  have c1 := h 1 u1 rfl
  have c2 := h 2 u2 rfl
  rw [Nat.zero_add] at c0 c1 c2
  unfold put3
  match k, hv with
  | 0, hv =>
    obtain rfl : v0 = v := by simpa using hv
    exact (cell_off _ _ _ _ _ (by decide)).trans ((cell_off _ _ _ _ _ (by decide)).trans (World.cell?_setCell_same _ _ _ c0))
  | 1, hv =>
    obtain rfl : v1 = v := by simpa using hv
    exact (cell_off _ _ _ _ _ (by decide)).trans (World.cell?_setCell_same _ _ _ ((cell_off _ _ _ _ _ (by decide)).trans c1))
  | 2, hv =>
    obtain rfl : v2 = v := by simpa using hv
    exact World.cell?_setCell_same _ _ _ ((cell_off _ _ _ _ _ (by decide)).trans ((cell_off _ _ _ _ _ (by decide)).trans c2))
  | k + 3, hv => simp at hv
theorem put3_turn (w : World) (b : Nat) (v0 v1 v2 : Value) : Turn (fun k => k = b) w (put3 w b v0 v1 v2) := ((Turn.put w b 0 v0).trans (Turn.put _ b 1 v1)).trans (Turn.put _ b 2 v2)
theorem size38 : (Tryz.prog.info? 96).map (fun i => i.size) = some 3 := by kernel_rfl
/-- What the document's Lex tells. -/
def RLexPost (w : World) (s : ByteArray) (e : Ending) (w' : World) : Prop :=
  Turn (fun _ => False) w w' ∧
  ((∃ x r pre, toksB s.data.toList = pre ++ x :: r ∧ pre.length = 200 ∧ e = .returned (.agg #[.slice none 0 0, .int .i64 (x.1 : Int), .int .i64 12])) ∨
   ((toksB s.data.toList).length ≤ 200 ∧ skipB (endB (toksB s.data.toList)) s.data.toList < s.size ∧ e = .returned (.agg #[.slice none 0 0, .int .i64 (skipB (endB (toksB s.data.toList)) s.data.toList : Int), .int .i64 10])) ∨
   ((toksB s.data.toList).length ≤ 200 ∧ skipB (endB (toksB s.data.toList)) s.data.toList = s.size ∧ ∃ v, e = .returned (.agg #[v, .int .i64 (s.size : Int), .int .i64 0]) ∧ w'.ownsRow w.heap.size 65 4 v (toksB s.data.toList).length (toksC s (toksB s.data.toList))))
theorem rl_box (w : World) {w1 : World} (T : Turn (fun _ => False) (w.alloc (.cells zlex.toArray 96)) w1) (v : Value) (k : Int) : ∃ W2, W2 = w1.alloc (.cells #[v, .int .i64 k] 62) ∧ (W2.rangeAt w.heap.size 0 zlex ∧ Blk W2 w.heap.size 96 ∧ Turn (fun _ => False) w W2) ∧
    W2.cell? ⟨w1.heap.size, 0, none⟩ = some v ∧ W2.cell? ⟨w1.heap.size, 1, none⟩ = some (.int .i64 k) ∧ w.heap.size ≠ w1.heap.size ∧ Turn (fun _ => False) w1 W2 := by
  have hs := T.size
  rw [World.size_alloc] at hs
  have T2 : Turn (fun _ => False) w1 (w1.alloc (.cells #[v, .int .i64 k] 62)) := (Turn.refl _ _).alloc _
  exact ⟨_, rfl, ⟨range_turn (range_turn (range_new w zlex 96) T id) T2 id, ((Blk.newA rfl).turn T id).turn T2 id, (((Turn.refl _ _).alloc _).trans T).trans T2⟩, cell_new rfl rfl, cell_new rfl rfl, by omega, T2⟩
theorem rlex_put {w W : World} {a : Act} {s : ByteArray} (h : W.rangeAt w.heap.size 0 zlex ∧ Blk W w.heap.size 96 ∧ Turn (fun _ => False) w W) (hd : a.defers = []) (hp : a.tmps.getD 2 undef = .pointer (some ⟨w.heap.size, 0, none⟩)) (v0 v1 v2 : Value)
    (hP : Turn (fun _ => False) w (put3 W w.heap.size v0 v1 v2) → RLexPost w s (.returned (.agg #[v0, v1, v2])) (put3 W w.heap.size v0 v1 v2)) :
    bodyPost Tryz.prog Tryz.f37 (RLexPost w s) Exit.ret a (put3 W w.heap.size v0 v1 v2) :=
  bodyPost_ret (v := .agg #[v0, v1, v2]) (res_cell (a := 2) rfl hp (run_loadVar_mid _ w.heap.size 0 96 _ _ (put3_range h.1 v0 v1 v2) Tryz.underlying96 rfl size38)) hd (hP (h.2.2.comp (put3_turn W _ v0 v1 v2) (fun i hi q => by omega)))
set_option maxRecDepth 100000 in
set_option maxHeartbeats 2000000 in
theorem rlex_is (w : World) (s : ByteArray) (hs : s.size ≤ 1000000) : Calls Tryz.prog 37 #[.string s] w (RLexPost w s) := by
  have EA := Lib.hid (fun w => reach_is w s hs)
  have HS := Lib.hid hs
  clear hs
  go_enter Tryz.func37, Tryz.ntmps37
  go_wp2_with fail
  with_reducible refine (EA.out _).mono ?_
  rintro e w1 ⟨T1, v, rfl, ho⟩
  obtain ⟨a, cap, rfl, hga⟩ := own_slice ho
  obtain ⟨K, hK⟩ : ∃ K, K = skipB (endB (toksB s.data.toList)) s.data.toList := ⟨_, rfl⟩
  rw [← hK]
  obtain ⟨n, hn⟩ : ∃ n, n = (toksB s.data.toList).length := ⟨_, rfl⟩
  rw [← hn] at ho hga ⊢
  obtain ⟨W2, hW2, RB, z0, z1, hne, T2⟩ := rl_box w T1 (.slice a n cap) (K : Int)
  have RR := RB.1
  have y0 : W2.cell? ⟨w.heap.size, 0, none⟩ = some (.slice none 0 0) := RR 0 _ rfl
  have y1 : W2.cell? ⟨w.heap.size, 1, none⟩ = some (.int .i64 0) := RR 1 _ rfl
  have y2 : W2.cell? ⟨w.heap.size, 2, none⟩ = some (.int .i64 0) := RR 2 _ rfl
  have ff := RB.2.1.fz
  have ow := own_weak (own_turn ho T2 (fun _ _ f => f)) (show w.heap.size + 1 ≤ (w.alloc (.cells zlex.toArray 96)).heap.size by rw [World.size_alloc]; omega)
  have HW := Lib.hid hW2
  have HR := Lib.hid (And.intro RB (And.intro ow (And.intro hK hn)))
  by_cases h200 : 200 < n
  · obtain ⟨g, rfl⟩ := hga (by omega)
    obtain ⟨x, hx⟩ : ∃ x, (toksB s.data.toList)[200]? = some x := ⟨_, List.getElem?_eq_getElem (by rw [← hn]; exact h200)⟩
    have cx : W2.cell? ⟨g, 801, none⟩ = some (.int .i64 (x.1 : Int)) := by
      have h1 := toksC_at s (toksB s.data.toList) 200 1 x hx (by omega)
      rw [ow.cellAt 801 (by omega)]
      exact h1.trans rfl
    have u1 : decide ((n : Int) > 200) = true := decide_eq_true (by omega)
    have u2 : decide ((200 : Int) < (n : Int)) = true := decide_eq_true (by omega)
    have u3 : decide (200 < n) = true := decide_eq_true h200
    have i0 : (200 : Int) < (n : Int) := by omega
    have HX := Lib.hid (And.intro hx h200)
    clear T1 T2 ho hga hK hn hW2 RB RR ow hx h200
    go_upto_region 2 with fail
    rw [← HW.out]
    go_wp2_with fail
    refine rlex_put HR.out.1 rfl rfl (.slice none 0 0) (.int .i64 (x.1 : Int)) (.int .i64 12) (fun T => ⟨T, .inl ⟨x, (toksB s.data.toList).drop 201, (toksB s.data.toList).take 200, ?_, ?_, rfl⟩⟩)
    · obtain ⟨h1, h2⟩ := List.getElem?_eq_some_iff.1 HX.out.1
      rw [← h2, List.getElem_cons_drop, List.take_append_drop]
    · rw [List.length_take]
      have := HX.out.2
      have := HR.out.2.2.2
      omega
  · have u1 : decide ((n : Int) > 200) = false := decide_eq_false (by omega)
    have u2 : decide ((200 : Int) < (n : Int)) = false := decide_eq_false (by omega)
    have u3 : decide (200 < n) = false := decide_eq_false h200
    have HX := Lib.hid (show (toksB s.data.toList).length ≤ 200 by omega)
    by_cases hk : K < s.size
    · have v1 := dec_ilt hk
      have v2 : decide (K < s.size) = true := decide_eq_true hk
      have HKK := Lib.hid hk
      clear T1 T2 ho hga hK hn hW2 RB RR ow h200 hk
      go_upto_region 2 with fail
      rw [← HW.out]
      go_wp2_with fail
      exact rlex_put HR.out.1 rfl rfl (.slice none 0 0) (.int .i64 (K : Int)) (.int .i64 10) (fun T => ⟨T, .inr (.inl ⟨HX.out, by rw [← HR.out.2.2.1]; exact HKK.out, by rw [← HR.out.2.2.1]⟩)⟩)
    · have v1 := dec_inlt hk
      have v2 : decide (K < s.size) = false := decide_eq_false hk
      have HKK := Lib.hid (show K = s.size from by
        have h1 := skipB_le (i := endB (toksB s.data.toList)) (l := s.data.toList) (endB_le _ (fun x hx => (eachB_mem _ _ _ _ hx).1))
        rw [← hK, ← str_len] at h1
        omega)
      clear T1 T2 ho hga hK hn hW2 RB RR ow h200 hk
      go_upto_region 2 with fail
      rw [← HW.out]
      go_wp2_with fail
      refine rlex_put HR.out.1 rfl rfl (.slice a n cap) (.int .i64 (s.size : Int)) (.int .i64 0) (fun T => ⟨T, .inr (.inr ⟨HX.out, by rw [← HR.out.2.2.1]; exact HKK.out, _, rfl, ?_⟩)⟩)
      rw [← HR.out.2.2.2]
      exact own_weak (own_turn HR.out.2.1 (put3_turn W2 _ _ _ _) (fun k hk q => by have := (own_blk HR.out.2.1 hk).2; omega)) (Nat.le_succ _)
end Go.Proofs.YtadogobdlcionaaGreatDoor.Doc
