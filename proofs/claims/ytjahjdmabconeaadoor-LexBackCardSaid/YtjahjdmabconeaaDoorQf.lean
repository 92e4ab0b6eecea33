/-
  The document's token at a place: a number; and all of them.
-/
import Derived.Test.YtjahjdmabconeaaDoorQe
namespace Go.Proofs.YtjahjdmabconeaaDoor
open Go.ChangeShapes Go.WideShapes Go.ChangeAt Go.RowKit
set_option linter.unusedVariables false
theorem next_put_d {w w1 : World} {a : Act} (h : w1.rangeAt w.heap.size 0 ztok ∧ Blk w1 w.heap.size 30 ∧ Turn (fun _ => False) w w1) (hd : a.defers = []) (hp : a.tmps.getD 4 undef = .pointer (some ⟨w.heap.size, 0, none⟩)) (k i n : Int) (t : ByteArray) {s : ByteArray} {at_ : Nat}
    (hv : .agg (tokL k i n t).toArray = nextV s at_) :
    bodyPost Tryd.prog Tryd.f24 (NextPost w s at_) Exit.ret a (put4 w1 w.heap.size (.int .i64 k) (.int .i64 i) (.string t) (.int .i64 n)).drew :=
  have T : Turn (fun _ => False) (put4 w1 w.heap.size (.int .i64 k) (.int .i64 i) (.string t) (.int .i64 n)) (put4 w1 w.heap.size (.int .i64 k) (.int .i64 i) (.string t) (.int .i64 n)).drew := (Turn.refl _ _).drewN 1
  bodyPost_ret (v := .agg (tokL k i n t).toArray) (res_cell (a := 4) rfl hp (run_loadVar_mid _ w.heap.size 0 30 _ _ (range_turn (put4_range h.1 _ _ _ _) T id) Tryd.underlying30 rfl size30)) hd ⟨(put4_turn h.2.2 (Nat.le_refl _) _ _ _ _).trans T, by rw [hv]⟩
theorem res_num (w : World) {w1 : World} (T : Turn (fun _ => False) (w.alloc (.cells ztok.toArray 30)) w1) (V : Int) (ok : Bool) : ∃ W2, W2 = w1.alloc (.cells #[.int .i64 V, .bool ok] 65) ∧ (W2.rangeAt w.heap.size 0 ztok ∧ Blk W2 w.heap.size 30 ∧ Turn (fun _ => False) w W2) ∧
    W2.cell? ⟨w1.heap.size, 0, none⟩ = some (.int .i64 V) ∧ W2.cell? ⟨w1.heap.size, 1, none⟩ = some (.bool ok) ∧ w.heap.size ≠ w1.heap.size ∧ ∀ i, W2.frozen? ⟨w1.heap.size, i, none⟩ = false := by
  have hs := T.size
  rw [World.size_alloc] at hs
  exact ⟨_, rfl, res_box w (T.alloc _), cell_new rfl rfl, cell_new rfl rfl, by omega, (Blk.newA rfl).fz⟩
set_option maxRecDepth 100000 in
set_option maxHeartbeats 1000000 in
theorem next_num (w : World) (s : ByteArray) {i : Nat} {c : UInt8} (hc : s.data.toList[i]? = some c) (hs : s.size ≤ 140737488355328) (hk3 : isDigit c = true) : Calls Tryd.prog 24 #[.string s, .int .i64 (i : Int)] w (NextPost w s i) := by
  have hi : i < s.size := by rw [str_len]; exact (List.getElem?_eq_some_iff.1 hc).1
  have hdd : 48 ≤ c.toNat ∧ c.toNat ≤ 57 := by simpa [isDigit] using hk3
  have hk : isSmall c = false := by simp [isSmall]; omega
  have hk2 : ¬ (65 ≤ c.toNat ∧ c.toNat < 73) := by omega
  have hx := fun W => str_at hc W
  have S := Lib.hid (fun w => rsmall_is w c)
  have D := Lib.hid (fun w => rdigit_is w c)
  rw [hk] at S
  rw [hk3] at D
  have e0 : kindB false = isDigit := funext kindB_digit
  have G := goes_is w s (i := i) false (Nat.le_of_lt hi) hs
  have GG := Lib.hid (fun w => goes_is w s (i := i) false (Nat.le_of_lt hi) hs)
  rw [e0] at GG
  clear G
  have hn : i + spanB isDigit (s.data.toList.drop i) ≤ s.size := by
    have := spanB_le isDigit (s.data.toList.drop i)
    rw [List.length_drop, ← str_len] at this
    omega
  have hf : findB (s.data.toList.drop i) = (if decV 0 ((s.data.toList.drop i).take (spanB isDigit (s.data.toList.drop i))) < 9223372036854775808 ∧ headB isLetter ((s.data.toList.drop i).drop (spanB isDigit (s.data.toList.drop i))) = false
        then some ⟨3, spanB isDigit (s.data.toList.drop i), decV 0 ((s.data.toList.drop i).take (spanB isDigit (s.data.toList.drop i)))⟩ else none) := by
    rw [drop_cons hc]
    simp only [findB, hk, hk2, hk3]
    rfl
  have hall : ∀ x ∈ (s.extract i (i + spanB isDigit (s.data.toList.drop i))).data.toList, isDigit x = true := by
    rw [ext_list]
    intro x hx
    obtain ⟨j, hj, he⟩ := List.getElem_of_mem hx
    rw [List.length_take] at hj
    rw [List.getElem_take] at he
    exact spanB_all isDigit _ j x (by omega) (List.getElem?_eq_some_iff.2 ⟨by omega, he⟩)
  rw [List.drop_drop] at hf
  rw [← ext_list s i] at hf
  generalize spanB isDigit (s.data.toList.drop i) = n at *
  have LT := Lib.hid (fun w => rletter_is w s (i := i + n) hn hs)
  have hw := wrap_sum (a := i) (b := n) (by omega)
  have hss := str_sub (s := s) (i := i) (j := i + n) (Nat.le_add_right _ _) hn
  obtain ⟨p, hp⟩ : ∃ p : Int, p = ((i + n : Nat) : Int) := ⟨_, rfl⟩
  rw [← hp] at hw hss LT
  have NB := Lib.hid (fun w => number_is w (s.extract i (i + n)) hall (by rw [ByteArray.size_extract]; omega))
  obtain ⟨t, ht⟩ : ∃ t, t = s.extract i (i + n) := ⟨_, rfl⟩
  rw [← ht] at hss NB hf
  generalize headB isLetter (s.data.toList.drop (i + n)) = lt at *
  obtain ⟨V, hV⟩ : ∃ V, V = decV 0 t.data.toList := ⟨_, rfl⟩
  have HF := Lib.hid (And.intro hf (And.intro hV ht))
  obtain ⟨m, hm⟩ : ∃ m : Int, m = (c.toNat : Int) := ⟨_, rfl⟩
  rw [← hm] at hx S D
  clear hp hf hn hm hk hk2 hk3 hc hi hs hall hdd hV ht e0
  go_enter Tryd.func24, Tryd.ntmps24
  go_wp2_with fail
  with_reducible refine (S.out _).mono ?_
  rintro e w1 ⟨rfl, rfl⟩
  go_wp2_with fail
  with_reducible refine (D.out _).mono ?_
  rintro e w1 ⟨rfl, rfl⟩
  go_wp2_with fail
  with_reducible refine (GG.out _).mono ?_
  rintro e w1 ⟨rfl, rfl⟩
  go_wp2_with fail
  with_reducible refine (NB.out _).mono ?_
  rintro e w1 ⟨T1, ⟨hlt, rfl⟩ | ⟨hlt, rfl⟩⟩
  · rw [← HF.out.2.1] at hlt ⊢
    have HL := Lib.hid hlt
    clear hlt
    obtain ⟨W2, hW2, RB, z0, z1, hne, fz⟩ := res_num w T1 (V : Int) true
    have RR := RB.1
    have y0 : W2.cell? ⟨w.heap.size, 0, none⟩ = some (.int .i64 0) := RR 0 _ rfl
    have y1 : W2.cell? ⟨w.heap.size, 1, none⟩ = some (.int .i64 0) := RR 1 _ rfl
    have y2 : W2.cell? ⟨w.heap.size, 2, none⟩ = some (.string ⟨#[]⟩) := RR 2 _ rfl
    have y3 : W2.cell? ⟨w.heap.size, 3, none⟩ = some (.int .i64 0) := RR 3 _ rfl
    have ff := RB.2.1.fz
    have FB := Lib.hid RB
    have HW := Lib.hid hW2
    clear RR T1 RB hW2
    cases lt with
    | true =>
      go_wp2_with fail
      rw [← HW.out]
      with_reducible refine (LT.out _).mono ?_
      rintro e w2 ⟨rfl, rfl⟩
      go_wp2_with fail
      exact next_put FB.out rfl rfl 0 0 0 ⟨#[]⟩ (by unfold nextV; rw [HF.out.1, ← HF.out.2.1]; simp [HL.out]; rfl)
    | false =>
      go_wp2_with fail
      rw [← HW.out]
      with_reducible refine (LT.out _).mono ?_
      rintro e w2 ⟨rfl, rfl⟩
      go_wp2_with fail
      go_region
      all_goals go_wp2_with fail
      all_goals exact next_put_d FB.out rfl rfl 3 i V t (by unfold nextV; rw [HF.out.1, ← HF.out.2.1, if_pos ⟨HL.out, trivial⟩]; show _ = tokV s _; unfold tokV; rw [HF.out.2.2]; rfl)
  · rw [← HF.out.2.1] at hlt
    have HL := Lib.hid hlt
    clear hlt
    obtain ⟨W2, hW2, RB, z0, z1, hne, fz⟩ := res_num w T1 0 false
    have RR := RB.1
    have y0 : W2.cell? ⟨w.heap.size, 0, none⟩ = some (.int .i64 0) := RR 0 _ rfl
    have y1 : W2.cell? ⟨w.heap.size, 1, none⟩ = some (.int .i64 0) := RR 1 _ rfl
    have y2 : W2.cell? ⟨w.heap.size, 2, none⟩ = some (.string ⟨#[]⟩) := RR 2 _ rfl
    have y3 : W2.cell? ⟨w.heap.size, 3, none⟩ = some (.int .i64 0) := RR 3 _ rfl
    have ff := RB.2.1.fz
    have FB := Lib.hid RB
    have HW := Lib.hid hW2
    clear RR T1 RB hW2
    go_wp2_with fail
    rw [← HW.out]
    with_reducible refine (LT.out _).mono ?_
    rintro e w2 ⟨rfl, rfl⟩
    go_wp2_with fail
    exact next_put FB.out rfl rfl 0 0 0 ⟨#[]⟩ (by unfold nextV; rw [HF.out.1, ← HF.out.2.1]; simp [HL.out]; rfl)
/-- **Next**: the token at a place, or none. -/
theorem next_is (w : World) (s : ByteArray) {i : Nat} (hi : i < s.size) (hs : s.size ≤ 140737488355328) : Calls Tryd.prog 24 #[.string s, .int .i64 (i : Int)] w (NextPost w s i) := by
  obtain ⟨c, hc⟩ : ∃ c, s.data.toList[i]? = some c := ⟨_, List.getElem?_eq_getElem (by rw [← str_len]; exact hi)⟩
  cases h1 : isSmall c with
  | true => exact next_name w s hc hs h1
  | false =>
    by_cases h2 : 65 ≤ c.toNat ∧ c.toNat < 73
    · exact next_cap w s hc hs h2
    · cases h3 : isDigit c with
      | true => exact next_num w s hc hs h3
      | false => exact next_sign w s hc hs h1 h2 h3
end Go.Proofs.YtjahjdmabconeaaDoor
