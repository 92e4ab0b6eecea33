/-
  The document's token at a place.
-/
import Derived.Test.YtjahjdmabconeaaDoorQd
import Derived.Test.YtjahjdmabconeaaDoorPh
namespace Go.Proofs.YtjahjdmabconeaaDoor
open Go.ChangeShapes Go.WideShapes Go.ChangeAt Go.RowKit
set_option linter.unusedVariables false
theorem size30 : (Tryd.prog.info? 30).map (fun i => i.size) = some 4 := by kernel_rfl
def nextV (s : ByteArray) (i : Nat) : Value := match findB (s.data.toList.drop i) with
  | some t => tokV s (i, t)
  | none => .agg ztok.toArray
def NextPost (w : World) (s : ByteArray) (i : Nat) (e : Ending) (w' : World) : Prop :=
  Turn (fun _ => False) w w' ∧ e = .returned (nextV s i)
/-- The result's cells, written. -/
theorem put4_range {w : World} {b : Nat} {u0 u1 u2 u3 : Value} (h : w.rangeAt b 0 [u0, u1, u2, u3]) (v0 v1 v2 v3 : Value) : (put4 w b v0 v1 v2 v3).rangeAt b 0 [v0, v1, v2, v3] := by
  intro k v hv
  rw [Nat.zero_add]
  have c0 := h 0 u0 rfl
  have c1 := h 1 u1 rfl
  have c2 := h 2 u2 rfl
  have c3 := h 3 u3 rfl
  rw [Nat.zero_add] at c0 c1 c2 c3
  unfold put4
  match k, hv with
  | 0, hv =>
    obtain rfl : v0 = v := by simpa using hv
    exact (cell_off _ _ _ _ _ (by decide)).trans ((cell_off _ _ _ _ _ (by decide)).trans ((cell_off _ _ _ _ _ (by decide)).trans (World.cell?_setCell_same _ _ _ c0)))
  | 1, hv =>
    obtain rfl : v1 = v := by simpa using hv
    exact (cell_off _ _ _ _ _ (by decide)).trans ((cell_off _ _ _ _ _ (by decide)).trans (World.cell?_setCell_same _ _ _ ((cell_off _ _ _ _ _ (by decide)).trans c1)))
  | 2, hv =>
    obtain rfl : v2 = v := by simpa using hv
    exact (cell_off _ _ _ _ _ (by decide)).trans (World.cell?_setCell_same _ _ _ ((cell_off _ _ _ _ _ (by decide)).trans ((cell_off _ _ _ _ _ (by decide)).trans c2)))
  | 3, hv =>
    obtain rfl : v3 = v := by simpa using hv
    exact World.cell?_setCell_same _ _ _ ((cell_off _ _ _ _ _ (by decide)).trans ((cell_off _ _ _ _ _ (by decide)).trans ((cell_off _ _ _ _ _ (by decide)).trans c3)))
  | k + 4, hv => simp at hv
theorem res_box (w : World) {w1 : World} (T : Turn (fun _ => False) (w.alloc (.cells ztok.toArray 30)) w1) : w1.rangeAt w.heap.size 0 ztok ∧ Blk w1 w.heap.size 30 ∧ Turn (fun _ => False) w w1 :=
  ⟨range_turn (range_new w ztok 30) T id, (Blk.newA rfl).turn T id, ((Turn.refl _ _).alloc _).trans T⟩
/-- The end, where a token, or none, is written to the result. -/
theorem next_put {w w1 : World} {a : Act} (h : w1.rangeAt w.heap.size 0 ztok ∧ Blk w1 w.heap.size 30 ∧ Turn (fun _ => False) w w1) (hd : a.defers = []) (hp : a.tmps.getD 4 undef = .pointer (some ⟨w.heap.size, 0, none⟩)) (k i n : Int) (t : ByteArray) {s : ByteArray} {at_ : Nat}
    (hv : .agg (tokL k i n t).toArray = nextV s at_) :
    bodyPost Tryd.prog Tryd.f24 (NextPost w s at_) Exit.ret a (put4 w1 w.heap.size (.int .i64 k) (.int .i64 i) (.string t) (.int .i64 n)) :=
  bodyPost_ret (v := .agg (tokL k i n t).toArray) (res_cell (a := 4) rfl hp (run_loadVar_mid _ w.heap.size 0 30 _ _ (put4_range h.1 _ _ _ _) Tryd.underlying30 rfl size30)) hd ⟨put4_turn h.2.2 (Nat.le_refl _) _ _ _ _, by rw [hv]⟩
theorem head_is {p : UInt8 → Bool} {l : List UInt8} {i : Nat} {c : UInt8} (h : l[i]? = some c) : headB p (l.drop i) = p c := by rw [drop_cons h]; rfl
set_option maxRecDepth 100000 in
set_option maxHeartbeats 1000000 in
theorem next_name (w : World) (s : ByteArray) {i : Nat} {c : UInt8} (hc : s.data.toList[i]? = some c) (hs : s.size ≤ 140737488355328) (hk : isSmall c = true) : Calls Tryd.prog 24 #[.string s, .int .i64 (i : Int)] w (NextPost w s i) := by
  have hi : i < s.size := by rw [str_len]; exact (List.getElem?_eq_some_iff.1 hc).1
  have hx := fun W => str_at hc W
  have S := Lib.hid (fun w => rsmall_is w c)
  rw [hk] at S
  have G := Lib.hid (fun w => goes_is w s (i := i) true (Nat.le_of_lt hi) hs)
  have hf : findB (s.data.toList.drop i) = some ⟨1, spanB (kindB true) (s.data.toList.drop i), 0⟩ := by
    have e : kindB true = isWord := funext kindB_word
    rw [drop_cons hc, e]
    simp [findB, hk]
  have hn : i + spanB (kindB true) (s.data.toList.drop i) ≤ s.size := by
    have := spanB_le (kindB true) (s.data.toList.drop i)
    rw [List.length_drop, ← str_len] at this
    omega
  generalize spanB (kindB true) (s.data.toList.drop i) = n at *
  have hw := wrap_sum (a := i) (b := n) (by omega)
  have hss := str_sub (s := s) (i := i) (j := i + n) (Nat.le_add_right _ _) hn
  obtain ⟨p, hp⟩ : ∃ p : Int, p = ((i + n : Nat) : Int) := ⟨_, rfl⟩
  rw [← hp] at hw hss
  have HF := Lib.hid hf
  obtain ⟨m, hm⟩ : ∃ m : Int, m = (c.toNat : Int) := ⟨_, rfl⟩
  rw [← hm] at hx S
  clear hp hf hn hm hk hc hi hs
  go_enter Tryd.func24, Tryd.ntmps24
  go_wp2_with fail
  with_reducible refine (S.out _).mono ?_
  rintro e w1 ⟨rfl, rfl⟩
  go_wp2_with fail
  with_reducible refine (G.out _).mono ?_
  rintro e w1 ⟨rfl, rfl⟩
  go_wp2_with fail
  exact bodyPost_ret (v := .agg (tokL 1 i 0 (s.extract i (i + n))).toArray) (res_cell (a := 4) rfl rfl (run_loadVar_mid _ w.heap.size 0 30 _ _ (range_new w (tokL 1 i 0 (s.extract i (i + n))) 30) Tryd.underlying30 rfl size30)) rfl ⟨(Turn.refl _ _).alloc _, by unfold nextV; rw [HF.out]; rfl⟩
set_option maxRecDepth 100000 in
set_option maxHeartbeats 1000000 in
theorem next_sign (w : World) (s : ByteArray) {i : Nat} {c : UInt8} (hc : s.data.toList[i]? = some c) (hs : s.size ≤ 140737488355328) (hk : isSmall c = false) (hk2 : ¬ (65 ≤ c.toNat ∧ c.toNat < 73)) (hk3 : isDigit c = false) : Calls Tryd.prog 24 #[.string s, .int .i64 (i : Int)] w (NextPost w s i) := by
  have hi : i < s.size := by rw [str_len]; exact (List.getElem?_eq_some_iff.1 hc).1
  have hx := fun W => str_at hc W
  have S := Lib.hid (fun w => rsmall_is w c)
  have D := Lib.hid (fun w => rdigit_is w c)
  rw [hk] at S
  rw [hk3] at D
  have G := Lib.hid (fun w => rsign_is w s (i := i) hi hs)
  have hf : findB (s.data.toList.drop i) = if signB (s.data.toList.drop i) = 0 then none else some ⟨4, signB (s.data.toList.drop i), 0⟩ := by
    rw [drop_cons hc]
    simp only [findB, hk, hk2, hk3]
    rfl
  have hn : i + signB (s.data.toList.drop i) ≤ s.size := by
    have := signB_le (s.data.toList.drop i)
    rw [List.length_drop, ← str_len] at this
    omega
  generalize signB (s.data.toList.drop i) = n at *
  have hw := wrap_sum (a := i) (b := n) (by omega)
  have hss := str_sub (s := s) (i := i) (j := i + n) (Nat.le_add_right _ _) hn
  obtain ⟨p, hp⟩ : ∃ p : Int, p = ((i + n : Nat) : Int) := ⟨_, rfl⟩
  rw [← hp] at hw hss
  have HF := Lib.hid hf
  obtain ⟨m, hm⟩ : ∃ m : Int, m = (c.toNat : Int) := ⟨_, rfl⟩
  rw [← hm] at hx S D
  have hq : (decide (m ≥ 65) = false ∧ decide ((65 : Int) ≤ m) = false) ∨ (decide (m ≥ 65) = true ∧ decide ((65 : Int) ≤ m) = true ∧ decide (m ≤ 72) = false) := by
    by_cases h : 65 ≤ m
    · exact .inr ⟨decide_eq_true h, decide_eq_true h, decide_eq_false (by omega)⟩
    · exact .inl ⟨decide_eq_false h, decide_eq_false h⟩
  have hz : ((n : Int) == 0) = decide (n = 0) := by rw [Bool.eq_iff_iff]; simp
  obtain ⟨v, hv⟩ : ∃ v : Int, v = (n : Int) := ⟨_, rfl⟩
  rw [← hv] at hz hw G
  clear hp hf hn hm hk hk2 hk3 hc hi hs hv
  rcases hq with ⟨q1, q2⟩ | ⟨q1, q2, q3⟩
  all_goals
    go_enter Tryd.func24, Tryd.ntmps24
    go_wp2_with fail
    with_reducible refine (S.out _).mono ?_
    rintro e w1 ⟨rfl, rfl⟩
    go_wp2_with fail
    with_reducible refine (D.out _).mono ?_
    rintro e w1 ⟨rfl, rfl⟩
    go_wp2_with fail
    with_reducible refine (G.out _).mono ?_
    rintro e w1 ⟨rfl, T1⟩
    have FB := Lib.hid (res_box w T1)
    have RR := (res_box w T1).1
    have y0 : w1.cell? ⟨w.heap.size, 0, none⟩ = some (.int .i64 0) := RR 0 _ rfl
    have y1 : w1.cell? ⟨w.heap.size, 1, none⟩ = some (.int .i64 0) := RR 1 _ rfl
    have y2 : w1.cell? ⟨w.heap.size, 2, none⟩ = some (.string ⟨#[]⟩) := RR 2 _ rfl
    have y3 : w1.cell? ⟨w.heap.size, 3, none⟩ = some (.int .i64 0) := RR 3 _ rfl
    have ff := (res_box w T1).2.1.fz
    clear RR T1
    by_cases h0 : n = 0
    · rw [decide_eq_true h0] at hz
      have HV := Lib.hid (HF.out.trans (if_pos h0))
      clear h0
      go_wp2_with fail
      exact next_put FB.out rfl rfl 0 0 0 ⟨#[]⟩ (by unfold nextV; rw [HV.out]; rfl)
    · rw [decide_eq_false h0] at hz
      have HV := Lib.hid (HF.out.trans (if_neg h0))
      clear h0
      go_wp2_with fail
      exact next_put FB.out rfl rfl 4 i 0 (s.extract i (i + n)) (by unfold nextV; rw [HV.out]; rfl)
/-- One letter, A to H. -/
theorem cap_dig {k : Nat} (h : 65 ≤ k ∧ k < 73) : IntKind.u8.wrap ((k : Int) - 65) = ((k - 65 : Nat) : Int) ∧ wrap64 ((k - 65 : Nat) : Int) = ((k - 65 : Nat) : Int) := by
  constructor
  · rw [IntKind.wrap_u8]; omega
  · unfold wrap64; omega
set_option maxRecDepth 100000 in
set_option maxHeartbeats 1000000 in
theorem next_cap (w : World) (s : ByteArray) {i : Nat} {c : UInt8} (hc : s.data.toList[i]? = some c) (hs : s.size ≤ 140737488355328) (hk2 : 65 ≤ c.toNat ∧ c.toNat < 73) : Calls Tryd.prog 24 #[.string s, .int .i64 (i : Int)] w (NextPost w s i) := by
  have hi : i < s.size := by rw [str_len]; exact (List.getElem?_eq_some_iff.1 hc).1
  have hk : isSmall c = false := by simp [isSmall]; omega
  have hk3 : isDigit c = false := by simp [isDigit]; omega
  have hx := fun W => str_at hc W
  have S := Lib.hid (fun w => rsmall_is w c)
  have D := Lib.hid (fun w => rdigit_is w c)
  rw [hk] at S
  rw [hk3] at D
  have LT := Lib.hid (fun w => rletter_is w s (i := i + 1) hi hs)
  have G := Lib.hid (fun w => goes_is w s (i := i + 1) false hi hs)
  have hf : findB (s.data.toList.drop i) = if headB isBoth (s.data.toList.drop (i + 1)) then none else some ⟨2, 1, c.toNat - 65⟩ := by
    rw [drop_cons hc]
    simp only [findB, hk, hk2]
    rfl
  have hb : headB isBoth (s.data.toList.drop (i + 1)) = (headB isLetter (s.data.toList.drop (i + 1)) || decide (0 < spanB (kindB false) (s.data.toList.drop (i + 1)))) := by
    cases s.data.toList.drop (i + 1) with
    | nil => rfl
    | cons x r =>
      show (isLetter x || isDigit x) = (isLetter x || _)
      congr 1
      unfold spanB
      rw [kindB_digit]
      cases isDigit x <;> simp
  rw [hb] at hf
  have hw := wrap_one (a := i) (by omega)
  have hss := str_sub (s := s) (i := i) (j := i + 1) (Nat.le_add_right _ _) hi
  obtain ⟨x1, x2⟩ := cap_dig hk2
  obtain ⟨p, hp⟩ : ∃ p : Int, p = ((i + 1 : Nat) : Int) := ⟨_, rfl⟩
  rw [← hp] at hw hss LT G
  generalize headB isLetter (s.data.toList.drop (i + 1)) = lt at *
  generalize spanB (kindB false) (s.data.toList.drop (i + 1)) = n at *
  have hz : decide ((n : Int) > 0) = decide (0 < n) := by rw [decide_eq_decide]; omega
  have hz2 : decide ((0 : Int) < (n : Int)) = decide (0 < n) := hz
  obtain ⟨d, hd⟩ : ∃ d, d = c.toNat - 65 := ⟨_, rfl⟩
  rw [← hd] at hf x1 x2
  generalize decide (0 < n) = dg at *
  obtain ⟨v, hv⟩ : ∃ v : Int, v = (n : Int) := ⟨_, rfl⟩
  rw [← hv] at hz hz2 G
  obtain ⟨dd, hdd⟩ : ∃ v : Int, v = (d : Int) := ⟨_, rfl⟩
  rw [← hdd] at x1 x2
  have HF := Lib.hid (And.intro hf hdd)
  obtain ⟨m, hm⟩ : ∃ m : Int, m = (c.toNat : Int) := ⟨_, rfl⟩
  rw [← hm] at hx S D x1
  have q1 : decide (m ≥ 65) = true := decide_eq_true (by omega)
  have q2 : decide ((65 : Int) ≤ m) = true := decide_eq_true (by omega)
  have q3 : decide (m ≤ 72) = true := decide_eq_true (by omega)
  clear hp hf hm hk hk2 hk3 hc hi hs hv hb hd hdd
  cases lt with
  | true =>
    go_enter Tryd.func24, Tryd.ntmps24
    go_wp2_with fail
    with_reducible refine (S.out _).mono ?_
    rintro e w1 ⟨rfl, rfl⟩
    go_wp2_with fail
    with_reducible refine (D.out _).mono ?_
    rintro e w1 ⟨rfl, rfl⟩
    go_wp2_with fail
    with_reducible refine (LT.out _).mono ?_
    rintro e w1 ⟨rfl, rfl⟩
    go_wp2_with fail
    exact bodyPost_ret (v := .agg ztok.toArray) (res_cell (a := 4) rfl rfl (run_loadVar_mid _ w.heap.size 0 30 _ _ (range_new w ztok 30) Tryd.underlying30 rfl size30)) rfl ⟨(Turn.refl _ _).alloc _, by unfold nextV; rw [HF.out.1]; rfl⟩
  | false =>
    cases dg with
    | true =>
      go_enter Tryd.func24, Tryd.ntmps24
      go_wp2_with fail
      with_reducible refine (S.out _).mono ?_
      rintro e w1 ⟨rfl, rfl⟩
      go_wp2_with fail
      with_reducible refine (D.out _).mono ?_
      rintro e w1 ⟨rfl, rfl⟩
      go_wp2_with fail
      with_reducible refine (LT.out _).mono ?_
      rintro e w1 ⟨rfl, rfl⟩
      go_wp2_with fail
      with_reducible refine (G.out _).mono ?_
      rintro e w1 ⟨rfl, rfl⟩
      go_wp2_with fail
      exact bodyPost_ret (v := .agg ztok.toArray) (res_cell (a := 4) rfl rfl (run_loadVar_mid _ w.heap.size 0 30 _ _ (range_new w ztok 30) Tryd.underlying30 rfl size30)) rfl ⟨(Turn.refl _ _).alloc _, by unfold nextV; rw [HF.out.1]; rfl⟩
    | false =>
      go_enter Tryd.func24, Tryd.ntmps24
      go_wp2_with fail
      with_reducible refine (S.out _).mono ?_
      rintro e w1 ⟨rfl, rfl⟩
      go_wp2_with fail
      with_reducible refine (D.out _).mono ?_
      rintro e w1 ⟨rfl, rfl⟩
      go_wp2_with fail
      with_reducible refine (LT.out _).mono ?_
      rintro e w1 ⟨rfl, rfl⟩
      go_wp2_with fail
      with_reducible refine (G.out _).mono ?_
      rintro e w1 ⟨rfl, rfl⟩
      go_wp2_with fail
      exact bodyPost_ret (v := .agg (tokL 2 i dd (s.extract i (i + 1))).toArray) (res_cell (a := 4) rfl rfl (run_loadVar_mid _ w.heap.size 0 30 _ _ (range_new w (tokL 2 i dd (s.extract i (i + 1))) 30) Tryd.underlying30 rfl size30)) rfl ⟨(Turn.refl _ _).alloc _, by unfold nextV; rw [HF.out.1, HF.out.2]; rfl⟩
end Go.Proofs.YtjahjdmabconeaaDoor
