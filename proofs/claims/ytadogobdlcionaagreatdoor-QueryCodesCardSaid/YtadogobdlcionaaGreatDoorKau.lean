/-
  What the parser reads of a sum keeps to the grammar.
  What is printed of a sum: no more tokens, no deeper, and of the same grammar.
-/
import Derived.Test.YtadogobdlcionaaGreatDoorKat
import Derived.Test.YtadogobdlcionaaGreatDoorKas
set_option linter.unusedSimpArgs false
namespace Go.Proofs.YtadogobdlcionaaGreatDoor
open Go.ChangeShapes Go.WideShapes Go.ChangeAt Go.RowKit Go.Shelf
set_option linter.unusedVariables false
/-- The tokens from one place to another one. -/
def sl (A : List AT) (i j : Nat) : List AT := (A.drop i).take (j - i)
theorem sl_one {A : List AT} {i : Nat} {a : AT} (h : A[i]? = some a) : sl A i (i + 1) = [a] := by
  obtain ⟨hi, h⟩ := List.getElem?_eq_some_iff.1 h
  unfold sl
  rw [List.drop_eq_getElem_cons hi, h, show i + 1 - i = 1 by omega]
  rfl
theorem sl_nil (A : List AT) (i : Nat) : sl A i i = [] := by unfold sl; simp
theorem sl_app {A : List AT} {i j k : Nat} (h1 : i ≤ j) (h2 : j ≤ k) : sl A i j ++ sl A j k = sl A i k := by
  unfold sl
  have e : k - i = (j - i) + (k - j) := by omega
  rw [e, List.take_add, List.drop_drop, show i + (j - i) = j by omega]
theorem sl_all (A : List AT) : sl A 0 A.length = A := by unfold sl; simp
theorem sl_len {A : List AT} {i j : Nat} (h : j ≤ A.length) : (sl A i j).length = j - i := by
  unfold sl
  rw [List.length_take, List.length_drop]
  omega
theorem sl_mem {A : List AT} {i j : Nat} {a : AT} (h : a ∈ sl A i j) : a ∈ A := List.mem_of_mem_drop (List.mem_of_mem_take h)
section
variable {s : ByteArray} {L : List (Nat × Tok)} {e : Nat}
theorem un_take {i : Nat} {x : Nat × Tok} (h : takeB (unaryB s) L i = some x) : L[i]? = some x ∧ unaryB s x = true := by
  unfold takeB at h
  cases hx : L[i]? with
  | none => rw [hx] at h; cases h
  | some y =>
    rw [hx] at h
    dsimp only at h
    split at h
    · next q => injection h with h; subst h; exact ⟨rfl, q⟩
    · cases h
theorem take_some' {pr : (Nat × Tok) → Bool} {i : Nat} {x : Nat × Tok} (h : takeB pr L i = some x) : L[i]? = some x ∧ pr x = true := by
  unfold takeB at h
  cases hx : L[i]? with
  | none => rw [hx] at h; cases h
  | some y =>
    rw [hx] at h
    dsimp only at h
    split at h
    · next q => injection h with h; subst h; exact ⟨rfl, q⟩
    · cases h
theorem has_got {i : Nat} {t : ByteArray} (h : hasB s L t i = true) : ∃ x, L[i]? = some x ∧ textOf s x = t := by
  unfold hasB at h
  cases hx : L[i]? with
  | none => rw [hx] at h; cases h
  | some y => rw [hx] at h; exact ⟨y, rfl, of_decide_eq_true h⟩
theorem op_some {i : Nat} (h : 1 ≤ opAt s L i) : ∃ x, L[i]? = some x ∧ opAt s L i = opA (ab s x) := by
  unfold opAt textAt at h
  cases hx : L[i]? with
  | none => rw [hx] at h; exact absurd (show 1 ≤ 1 + idxI reckonsT ⟨#[]⟩ from h) (by decide)
  | some x => exact ⟨x, rfl, by unfold opAt textAt; rw [hx]; rfl⟩
theorem sound (f : Nat) :
    (∀ nest i c j, nest ≤ 16 → readF s L e f .un nest i = .ok c j → i ≤ j ∧ D 2 (16 - nest) (sl (abL s L) i j) c) ∧
    (∀ nest i c j, nest ≤ 16 → readF s L e f .pr nest i = .ok c j → i ≤ j ∧ D 1 (16 - nest) (sl (abL s L) i j) c) ∧
    (∀ nest i c j, nest ≤ 16 → readF s L e f .su nest i = .ok c j → i ≤ j ∧ D 0 (16 - nest) (sl (abL s L) i j) c) ∧
    (∀ nest i c0 c j ts0, nest ≤ 16 → D 1 (16 - nest) ts0 c0 → readF s L e f (.lp false c0) nest i = .ok c j → i ≤ j ∧ D 1 (16 - nest) (ts0 ++ sl (abL s L) i j) c) ∧
    (∀ nest i c0 c j ts0, nest ≤ 16 → D 0 (16 - nest) ts0 c0 → readF s L e f (.lp true c0) nest i = .ok c j → i ≤ j ∧ D 0 (16 - nest) (ts0 ++ sl (abL s L) i j) c) := by
  induction f with
  | zero =>
    refine ⟨?_, ?_, ?_, ?_, ?_⟩
    · intro nest i c j _ h; cases h
    · intro nest i c j _ h; cases h
    · intro nest i c j _ h; cases h
    · intro nest i c0 c j ts0 _ _ h; cases h
    · intro nest i c0 c j ts0 _ _ h; cases h
  | succ f IH =>
    obtain ⟨Hu, Hp, Hs, Hlf, Hlt⟩ := IH
    refine ⟨?_, ?_, ?_, ?_, ?_⟩
    · intro nest i c j hn h
      rw [readF] at h
      cases hx : takeB (unaryB s) L i with
      | none => rw [hx] at h; cases h
      | some x =>
        rw [hx] at h
        obtain ⟨hl, hu⟩ := take_some' hx
        have a0 := at_ab (s := s) hl
        have s1 := sl_one a0
        dsimp only at h
        by_cases t1 : textOf s x = ⟨#[45]⟩
        · rw [is_text, if_pos (decide_eq_true t1)] at h
          by_cases h16 : nest = 16
          · rw [if_pos h16] at h; cases h
          · rw [if_neg h16] at h
            cases hq : readF s L e f .un (nest + 1) (i + 1) with
            | out => rw [hq] at h; cases h
            | stop a b => rw [hq] at h; cases h
            | ok l k =>
              rw [hq] at h
              injection h with h1 h2
              subst h1; subst h2
              obtain ⟨hle, hD⟩ := Hu _ _ _ _ (by omega) hq
              refine ⟨by omega, ?_⟩
              rw [← sl_app (Nat.le_succ i) hle, s1]
              have := D.neg (m := ab s x) t1 hD
              rw [show 16 - (nest + 1) + 1 = 16 - nest by omega] at this
              exact this
        · rw [is_text, if_neg (by simpa using t1)] at h
          by_cases t2 : textOf s x = ⟨#[40]⟩
          · rw [is_text, if_pos (decide_eq_true t2)] at h
            by_cases h16 : nest = 16
            · rw [if_pos h16] at h; cases h
            · rw [if_neg h16] at h
              cases hq : readF s L e f .su (nest + 1) (i + 1) with
              | out => rw [hq] at h; cases h
              | stop a b => rw [hq] at h; cases h
              | ok l k =>
                rw [hq] at h
                dsimp only at h
                obtain ⟨hle, hD⟩ := Hs _ _ _ _ (by omega) hq
                cases hb : hasB s L shut k with
                | false => rw [hb] at h; cases h
                | true =>
                  rw [hb, if_pos rfl] at h
                  injection h with h1 h2
                  subst h1; subst h2
                  obtain ⟨z, hz, tz⟩ := has_got hb
                  refine ⟨by omega, ?_⟩
                  rw [← sl_app (i := i) (j := i + 1) (k := k + 1) (by omega) (by omega), s1, ← sl_app (i := i + 1) (j := k) (k := k + 1) hle (by omega), sl_one (at_ab (s := s) hz)]
                  have := D.par (o := ab s x) (z := ab s z) t2 hD tz
                  rw [show 16 - (nest + 1) + 1 = 16 - nest by omega] at this
                  exact this
          · rw [is_text, if_neg (by simpa using t2)] at h
            by_cases t3 : textOf s x = ⟨#[35]⟩
            · rw [is_text, if_pos (decide_eq_true t3)] at h
              cases hy : takeB (nameB s) L (i + 1) with
              | none => rw [hy] at h; cases h
              | some y =>
                rw [hy] at h
                injection h with h1 h2
                subst h1; subst h2
                obtain ⟨ly, ny⟩ := take_some' hy
                refine ⟨by omega, ?_⟩
                rw [← sl_app (i := i) (j := i + 1) (k := i + 2) (by omega) (by omega), s1, sl_one (at_ab (s := s) ly)]
                exact D.cnt (h := ab s x) (a := ab s y) t3 ny
            · rw [is_text, if_neg (by simpa using t3)] at h
              by_cases t4 : x.2.kind = 3
              · rw [if_pos t4] at h
                injection h with h1 h2
                subst h1; subst h2
                refine ⟨by omega, ?_⟩
                rw [s1]
                exact D.num (a := ab s x) ⟨t1, t2, t3⟩ t4
              · rw [if_neg t4] at h
                cases hb : hasB s L dot (i + 1) with
                | false => rw [hb] at h; cases h
                | true =>
                  rw [hb, if_pos rfl] at h
                  cases hy : takeB (inB lettersT s) L (i + 2) with
                  | none => rw [hy] at h; cases h
                  | some y =>
                    rw [hy] at h
                    injection h with h1 h2
                    subst h1; subst h2
                    obtain ⟨ly, ny⟩ := take_some' hy
                    obtain ⟨z, hz, tz⟩ := has_got hb
                    refine ⟨by omega, ?_⟩
                    rw [← sl_app (i := i) (j := i + 1) (k := i + 3) (by omega) (by omega), s1, ← sl_app (i := i + 1) (j := i + 2) (k := i + 3) (by omega) (by omega), sl_one (at_ab (s := s) hz), sl_one (at_ab (s := s) ly)]
                    have nm : nmA (ab s x) = true := by
                      unfold unaryB at hu
                      rw [is_text, is_text, is_text, decide_eq_false t1, decide_eq_false t2, decide_eq_false t3, decide_eq_false t4] at hu
                      show nameB s x = true
                      simpa using hu
                    exact D.fld (a := ab s x) (p := ab s z) (f := ab s y) ⟨t1, t2, t3⟩ t4 nm tz ny
    · intro nest i c j hn h
      rw [readF] at h
      cases hq : readF s L e f .un nest i with
      | out => rw [hq] at h; cases h
      | stop a b => rw [hq] at h; cases h
      | ok l k =>
        rw [hq] at h
        obtain ⟨hle, hD⟩ := Hu _ _ _ _ hn hq
        obtain ⟨hle2, hD2⟩ := Hlf _ _ _ _ _ _ hn hD.p0 h
        exact ⟨by omega, by rw [sl_app hle hle2] at hD2; exact hD2⟩
    · intro nest i c j hn h
      rw [readF] at h
      cases hq : readF s L e f .pr nest i with
      | out => rw [hq] at h; cases h
      | stop a b => rw [hq] at h; cases h
      | ok l k =>
        rw [hq] at h
        obtain ⟨hle, hD⟩ := Hp _ _ _ _ hn hq
        obtain ⟨hle2, hD2⟩ := Hlt _ _ _ _ _ _ hn hD.s0 h
        exact ⟨by omega, by rw [sl_app hle hle2] at hD2; exact hD2⟩
    · intro nest i c0 c j ts0 hn hD h
      rw [readF] at h
      by_cases hc : (3 : Int) ≤ opAt s L i ∧ opAt s L i ≤ 5
      · rw [if_pos (show (if false = true then (1 : Int) else 3) ≤ opAt s L i ∧ opAt s L i ≤ (if false = true then 2 else 5) from hc)] at h
        obtain ⟨x, hx, ho⟩ := op_some (s := s) (L := L) (i := i) (by omega)
        change (match readF s L e f .un nest (i + 1) with | .ok r j => _ | r => r) = _ at h
        cases hq : readF s L e f .un nest (i + 1) with
        | out => rw [hq] at h; cases h
        | stop a b => rw [hq] at h; cases h
        | ok l k =>
          rw [hq] at h
          dsimp only at h
          obtain ⟨hle, hD1⟩ := Hu _ _ _ _ hn hq
          rw [ho] at h hc
          obtain ⟨hle2, hD2⟩ := Hlf _ _ _ _ _ _ hn (D.p1 (o := ab s x) hD hc hD1) h
          refine ⟨by omega, ?_⟩
          rw [← sl_app (i := i) (j := i + 1) (k := j) (by omega) (by omega), sl_one (at_ab (s := s) hx), ← sl_app hle hle2]
          simpa using hD2
      · rw [if_neg (show ¬ ((if false = true then (1 : Int) else 3) ≤ opAt s L i ∧ opAt s L i ≤ (if false = true then 2 else 5)) from hc)] at h
        injection h with h1 h2
        subst h1; subst h2
        exact ⟨Nat.le_refl _, by rw [sl_nil, List.append_nil]; exact hD⟩
    · intro nest i c0 c j ts0 hn hD h
      rw [readF] at h
      by_cases hc : (1 : Int) ≤ opAt s L i ∧ opAt s L i ≤ 2
      · rw [if_pos (show (if true = true then (1 : Int) else 3) ≤ opAt s L i ∧ opAt s L i ≤ (if true = true then 2 else 5) from hc)] at h
        obtain ⟨x, hx, ho⟩ := op_some (s := s) (L := L) (i := i) (by omega)
        change (match readF s L e f .pr nest (i + 1) with | .ok r j => _ | r => r) = _ at h
        cases hq : readF s L e f .pr nest (i + 1) with
        | out => rw [hq] at h; cases h
        | stop a b => rw [hq] at h; cases h
        | ok l k =>
          rw [hq] at h
          dsimp only at h
          obtain ⟨hle, hD1⟩ := Hp _ _ _ _ hn hq
          rw [ho] at h hc
          obtain ⟨hle2, hD2⟩ := Hlt _ _ _ _ _ _ hn (D.s1 (o := ab s x) hD hc hD1) h
          refine ⟨by omega, ?_⟩
          rw [← sl_app (i := i) (j := i + 1) (k := j) (by omega) (by omega), sl_one (at_ab (s := s) hx), ← sl_app hle hle2]
          simpa using hD2
      · rw [if_neg (show ¬ ((if true = true then (1 : Int) else 3) ≤ opAt s L i ∧ opAt s L i ≤ (if true = true then 2 else 5)) from hc)] at h
        injection h with h1 h2
        subst h1; subst h2
        exact ⟨Nat.le_refl _, by rw [sl_nil, List.append_nil]; exact hD⟩
theorem sum_sound {nest i j : Nat} {c : List CD} (hn : nest ≤ 16) (h : sumB s L e nest i = .ok c j) : i ≤ j ∧ D 0 (16 - nest) (sl (abL s L) i j) c := (sound _).2.2.1 _ _ _ _ hn h
end
end Go.Proofs.YtadogobdlcionaaGreatDoor
namespace Go.Proofs.YtadogobdlcionaaGreatDoor
open Go.ChangeShapes Go.WideShapes Go.ChangeAt Go.RowKit Go.Shelf
set_option linter.unusedVariables false
theorem digit_of {u : Nat} (h : u < 10) : isDigit (UInt8.ofNat (48 + u)) = true ∧ (UInt8.ofNat (48 + u)).toNat = 48 + u := by
  have e : (UInt8.ofNat (48 + u)).toNat = 48 + u := by
    rw [UInt8.toNat_ofNat']
    omega
  refine ⟨?_, e⟩
  unfold isDigit
  rw [e]
  simp
  omega
theorem dec_digits (u : Nat) : (∀ c ∈ Lib.decDigits u, isDigit c = true) ∧ decV 0 (Lib.decDigits u) = u ∧ Lib.decDigits u ≠ [] := by
  induction u using Nat.strongRecOn with
  | _ u ih =>
    rw [Lib.decDigits]
    by_cases h : u < 10
    · rw [dif_pos h]
      obtain ⟨h1, h2⟩ := digit_of h
      refine ⟨fun c hc => ?_, ?_, by simp⟩
      · obtain rfl := List.mem_singleton.1 hc; exact h1
      · show 0 * 10 + ((UInt8.ofNat (48 + u)).toNat - 48) = u
        rw [h2]; omega
    · rw [dif_neg h]
      obtain ⟨a, b, c⟩ := ih (u / 10) (by omega)
      obtain ⟨h1, h2⟩ := digit_of (u := u % 10) (by omega)
      refine ⟨fun c hc => ?_, ?_, by simp⟩
      · rcases List.mem_append.1 hc with hc | hc
        · exact a c hc
        · obtain rfl := List.mem_singleton.1 hc; exact h1
      · rw [decV_app, b]
        show u / 10 * 10 + ((UInt8.ofNat (48 + u % 10)).toNat - 48) = u
        rw [h2]; omega
/-- A number's token, as it is printed. -/
def numA (n : Nat) : AT := ⟨3, ⟨(Lib.itoa n).toArray⟩, n⟩
theorem itoa_nat (n : Nat) : Lib.itoa (n : Int) = Lib.decDigits n := Lib.itoa_nonneg n
theorem num_good {n : Nat} (h : n < 9223372036854775808) : GoodA (numA n) := by
  obtain ⟨a, b, c⟩ := dec_digits n
  have ht : (numA n).t.data.toList = Lib.decDigits n := by
    show (Lib.itoa n).toArray.toList = _
    rw [itoa_nat]
  cases hx : Lib.decDigits n with
  | nil => exact absurd hx c
  | cons x r =>
    rw [hx] at a b
    have hdx := a x (by simp)
    refine ⟨⟨x, r, by rw [ht, hx], digit_blank hdx⟩, fun m hm => ?_⟩
    rw [ht, hx]
    have hb : 48 ≤ x.toNat ∧ x.toNat ≤ 57 := by simpa [isDigit] using hdx
    have n1 : isSmall x = false := by simp [isSmall]; omega
    have n2 : ¬ (65 ≤ x.toNat ∧ x.toNat < 73) := by omega
    have sp := span_good (p := isDigit) (m := m) a (fun d q e => (word_both ((hm d q e).1 (by show (3 : Nat) ≠ 4; decide))).2.1)
    rw [List.cons_append] at sp ⊢
    rw [findB, if_neg (by rw [n1]; decide), if_neg n2, if_pos hdx, sp]
    rw [show x :: (r ++ m) = (x :: r) ++ m from rfl, List.take_left, List.drop_left, b, if_pos]
    · rfl
    · refine ⟨h, ?_⟩
      cases m with
      | nil => rfl
      | cons d q => exact (word_both ((hm d q rfl).1 (by show (3 : Nat) ≠ 4; decide))).2.2
theorem dec_len (k : Nat) : ∀ u : Nat, u < 10 ^ (k + 1) → (Lib.decDigits u).length ≤ k + 1 := by
  induction k with
  | zero =>
    intro u h
    rw [Lib.decDigits, dif_pos (by simpa using h)]
    simp
  | succ k ih =>
    intro u h
    rw [Lib.decDigits]
    by_cases hu : u < 10
    · rw [dif_pos hu]; simp
    · rw [dif_neg hu, List.length_append]
      have := ih (u / 10) (by rw [Nat.pow_succ] at h; omega)
      simp
      omega
theorem num_len {n : Nat} (h : n < 9223372036854775808) : (numA n).t.data.toList.length ≤ 20 := by
  have ht : (numA n).t.data.toList = Lib.decDigits n := by
    show (Lib.itoa n).toArray.toList = _
    rw [itoa_nat]
  rw [ht]
  have := dec_len 18 n (Nat.lt_of_lt_of_le h (by decide))
  omega
theorem good_num {a : AT} (h : GoodA a) (hk : a.k = 3) : a.n < 9223372036854775808 := by
  have := h.f [] (Fol.nil _)
  rw [List.append_nil, hk] at this
  cases hl : a.t.data.toList with
  | nil => rw [hl] at this; simp [findB] at this
  | cons c r =>
    rw [hl] at this
    simp only [findB] at this
    split at this
    · simp at this
    · split at this
      · split at this
        · cases this
        · simp at this
      · split at this
        · split at this
          · next q =>
            simp at this
            rw [← this.2]
            exact q.1
          · cases this
        · split at this
          · cases this
          · simp at this
theorem good_name {a : AT} (h : GoodA a) (hk : a.k = 1) : a.n = 0 ∧ ∃ c r, a.t.data.toList = c :: r ∧ isSmall c = true := by
  have := h.f [] (Fol.nil _)
  rw [List.append_nil, hk] at this
  obtain ⟨h1, c, r, h2, h3, -⟩ := good_word (m := 0) this
  exact ⟨h1, c, r, h2, h3⟩
theorem chain_one {a : AT} (h : GoodA a) : Chain [some a] := ⟨h, Fol.nil _, trivial⟩
theorem abl_ab (s : ByteArray) (x : Nat × Tok) : abl s.data.toList x = ab s x := by
  unfold abl ab textOf
  congr 1
  apply ByteArray.ext
  rw [ByteArray.data_extract]
  apply Array.toList_inj.1
  simp [List.take_drop, Nat.add_comm]
theorem ba_eq (t : ByteArray) : (⟨t.data.toList.toArray⟩ : ByteArray) = t := by cases t; simp
/-- A token's text is that token alone. -/
theorem one_tok {a : AT} (h : GoodA a) : ∃ x, toksB a.t.data.toList = [x] ∧ ab a.t x = a ∧ skipB (endB [x]) a.t.data.toList = a.t.size := by
  have hc := chain_all (chain_one h)
  have e : bytesR [some a] = a.t.data.toList := by show a.t.data.toList ++ [] = _; simp
  rw [e] at hc
  obtain ⟨h1, h2⟩ := hc
  cases hX : toksB a.t.data.toList with
  | nil => rw [hX] at h1; cases h1
  | cons x X =>
    rw [hX] at h1 h2
    cases X with
    | cons y Y => have := congrArg List.length h1; simp [toksR] at this
    | nil =>
      refine ⟨x, rfl, ?_, ?_⟩
      · rw [← abl_ab]
        exact (List.cons.inj h1).1
      · rw [h2]
        rw [Array.length_toList]; rfl
theorem name_of {a : AT} (h : GoodA a) (hn : nmA a = true) : nameT a.t = true := by
  obtain ⟨x, h1, h2, h3⟩ := one_tok h
  have e1 : textOf a.t x = a.t := congrArg AT.t h2
  have e2 : x.2.kind = a.k := congrArg AT.k h2
  unfold nameT
  rw [h1]
  dsimp only
  rw [h3, decide_eq_true rfl, e1, decide_eq_true rfl]
  unfold nameB
  rw [e1, e2]
  exact hn
theorem plain_num (n : Nat) : plainA (numA n) := by
  obtain ⟨a, -, c⟩ := dec_digits n
  have ht : (numA n).t.data.toList = Lib.decDigits n := by
    show (Lib.itoa n).toArray.toList = _
    rw [itoa_nat]
  have key : ∀ d : UInt8, isDigit d = false → (numA n).t ≠ ⟨#[d]⟩ := by
    intro d hd h
    rw [h] at ht
    have := a d (by rw [← ht]; simp)
    rw [hd] at this
    cases this
  exact ⟨key _ (by decide), key _ (by decide), key _ (by decide)⟩
theorem flat_one (b : ByteArray) : flat [b] = b.data.toList := by simp [flat]
theorem D.to2 {k d : Nat} {ts : List AT} {c : List CD} (h : D k d ts c) (hk : k ≤ 2) {lv : Nat} (hl : lv ≤ k) : D lv d ts c := by
  match k, lv, hk, hl with
  | 0, 0, _, _ => exact h
  | 1, 1, _, _ => exact h
  | 2, 2, _, _ => exact h
  | 1, 0, _, _ => exact h.s0
  | 2, 1, _, _ => exact h.p0
  | 2, 0, _, _ => exact h.p0.s0
/-- What is printed of some codes. -/
structure Cn (M lv d n : Nat) (c : List CD) (k : Nat) (pcs : List ByteArray) (R : List IT) : Prop where
  k2 : k ≤ 2
  fold : ∀ rest S, foldT (c ++ rest) S = foldT rest (S ++ [(pcs, (k : Int))])
  fl : flat pcs = bytesR R
  nt : Neat R
  dv : D k d (toksR R) c
  le : (toksR R).length ≤ n
  sz : (bytesR R).length ≤ (toksR R).length * (M + 2)
  lo : k < lv → ∃ d', d = d' + 1 ∧ D k d' (toksR R) c ∧ (toksR R).length + 2 ≤ n
theorem par_neat {R : List IT} (h : Neat R) : Neat (some (sg 40) :: (R ++ [some (sg 41)])) := by
  refine ⟨⟨40, bytesR (R ++ [some (sg 41)]), rfl, by decide⟩, fun R2 hc hn => ?_⟩
  obtain ⟨c, r, e, h61⟩ := h.hd
  rw [List.cons_append, List.append_assoc]
  refine ⟨sg_good (by decide), fun d q ed => ?_, ?_⟩
  · rw [bytesR_append, e] at ed
    injection ed with ed _
    subst ed
    exact ⟨fun q => absurd rfl q, fun _ => h61⟩
  · refine h.ch _ ⟨sg_good (by decide), hn.fol _, hc⟩ (fun d q ed => ?_)
    have : d = 41 := by
      have : bytesR ([some (sg 41)] ++ R2) = 41 :: bytesR R2 := rfl
      rw [this] at ed
      injection ed with ed _
      exact ed.symm
    subst this
    decide
theorem Cn.least {M lv d n k : Nat} {c : List CD} {pcs : List ByteArray} {R : List IT} (h : Cn M lv d n c k pcs R) (hl : lv ≤ 2) :
    ∃ R', flat (leastT (pcs, (k : Int)) (lv : Int)).1 = bytesR R' ∧ Neat R' ∧ D lv d (toksR R') c ∧ (toksR R').length ≤ n ∧ (bytesR R').length ≤ (toksR R').length * (M + 2) := by
  unfold leastT
  by_cases hk : lv ≤ k
  · rw [if_pos (by show (lv : Int) ≤ (k : Int); omega)]
    exact ⟨R, h.fl, h.nt, h.dv.to2 h.k2 hk, h.le, h.sz⟩
  · rw [if_neg (by show ¬ (lv : Int) ≤ (k : Int); omega)]
    obtain ⟨d', rfl, hd, hn⟩ := h.lo (by omega)
    refine ⟨some (sg 40) :: (R ++ [some (sg 41)]), ?_, par_neat h.nt, ?_, ?_, ?_⟩
    · rw [flat_append, flat_append, flat_one, flat_one, h.fl]
      show _ = [40] ++ bytesR (R ++ [some (sg 41)])
      rw [bytesR_append]
      simp [bytesR, sg]
    · have hp : D 2 (d' + 1) (sg 40 :: (toksR R ++ [sg 41])) c := D.par rfl (hd.to2 h.k2 (Nat.zero_le _)) rfl
      have e : toksR (some (sg 40) :: (R ++ [some (sg 41)])) = sg 40 :: (toksR R ++ [sg 41]) := by
        show _ :: toksR _ = _
        rw [toksR_append]
        rfl
      rw [e]
      exact hp.to2 (Nat.le_refl 2) hl
    · show (_ :: toksR (R ++ [some (sg 41)])).length ≤ _
      rw [toksR_append]
      simp [toksR]
      omega
    · have hs := h.sz
      show ([40] ++ bytesR (R ++ [some (sg 41)])).length ≤ (sg 40 :: toksR (R ++ [some (sg 41)])).length * (M + 2)
      rw [bytesR_append, toksR_append]
      simp only [List.length_append, List.length_cons, List.length_nil, bytesR, toksR, sg]
      rw [Nat.add_mul, Nat.add_mul]
      simp
      omega
/-- A sign's byte, by its number. -/
theorem sign_of {v : Int} (h : 1 ≤ v ∧ v ≤ 5) : ∃ ch : UInt8, ch ∈ oneSigns ∧ reckonsT.getD (v - 1).toNat ⟨#[]⟩ = ⟨#[ch]⟩ ∧ opA (sg ch) = v ∧ ch.toNat ≠ 61 ∧ holdT (v - 1).toNat = if 3 ≤ v then 1 else 0 := by
  have : v = 1 ∨ v = 2 ∨ v = 3 ∨ v = 4 ∨ v = 5 := by omega
  rcases this with rfl | rfl | rfl | rfl | rfl
  · exact ⟨43, by decide, rfl, by decide, by decide, by decide⟩
  · exact ⟨45, by decide, rfl, by decide, by decide, by decide⟩
  · exact ⟨42, by decide, rfl, by decide, by decide, by decide⟩
  · exact ⟨47, by decide, rfl, by decide, by decide, by decide⟩
  · exact ⟨37, by decide, rfl, by decide, by decide, by decide⟩
theorem chain_space {R1 R2 : List IT} (h1 : Neat R1) (h2 : Chain R2) : Chain (R1 ++ none :: R2) := by
  refine h1.ch (none :: R2) h2 (fun c r e => ?_)
  have e : 32 :: bytesR R2 = c :: r := e
  injection e with e _
  subst e
  decide
theorem neut32 (m : List UInt8) : Neut (32 :: m) := fun c r e => by
  injection e with e _
  subst e
  decide
theorem both_neat {R1 R2 : List IT} {ch : UInt8} (h1 : Neat R1) (h2 : Neat R2) (hc : ch ∈ oneSigns) : Neat (R1 ++ none :: some (sg ch) :: none :: R2) := by
  refine ⟨?_, fun R3 hc3 hn => ?_⟩
  · obtain ⟨c, r, e, h61⟩ := h1.hd
    exact ⟨c, r ++ bytesR (none :: some (sg ch) :: none :: R2), by rw [bytesR_append, e]; rfl, h61⟩
  · rw [List.append_assoc]
    refine h1.ch _ ?_ (neut32 _)
    exact ⟨sg_good hc, (neut32 _).fol _, h2.ch R3 hc3 hn⟩
theorem fold_both {c c' rest : List CD} {v : Int} {P P' : PT} {S : List PT} (hv : 1 ≤ v ∧ v ≤ 5) (h : ∀ rest S, foldT (c ++ rest) S = foldT rest (S ++ [P])) (h' : ∀ rest S, foldT (c' ++ rest) S = foldT rest (S ++ [P'])) :
    foldT (c ++ c' ++ [{ zcd with op := v }] ++ rest) S = foldT rest (S ++ [bothT (v - 1).toNat P P']) := by
  rw [List.append_assoc, List.append_assoc, h, h']
  have e : needsT { zcd with op := v } = (2, true) := by
    unfold needsT
    dsimp only
    rw [if_neg (by omega), if_neg (by omega), if_neg (by omega), if_neg (by omega), if_pos hv]
  show (match stepT (S ++ [P] ++ [P']) { zcd with op := v } with | some S' => foldT rest S' | none => none) = _
  have st : stepT (S ++ [P] ++ [P']) { zcd with op := v } = some (S ++ [bothT (v - 1).toNat P P']) := by
    unfold stepT
    rw [e]
    rw [if_neg (by simp; omega), if_neg (by decide), if_neg (by decide)]
    simp
  rw [st]
theorem cn_both {M lv lv' d n n' : Nat} {c c' : List CD} {v : Int} {k k' : Nat} {pcs pcs' : List ByteArray} {R R' : List IT} (hM : 20 ≤ M) (h : Cn M lv d n c k pcs R) (h' : Cn M lv' d n' c' k' pcs' R')
    (hv : 1 ≤ v ∧ v ≤ 5) (hlv : lv = if 3 ≤ v then 1 else 0) (hlv' : lv' = lv + 1) : ∃ pcs2 R2, Cn M lv d (n + (n' + 1)) (c ++ c' ++ [{ zcd with op := v }]) lv pcs2 R2 := by
  obtain ⟨ch, hc, hr, ho, h61, hh⟩ := sign_of hv
  have hl2 : lv ≤ 1 := by rw [hlv]; split <;> omega
  obtain ⟨A, fa, na, da, la, za⟩ := h.least (by omega)
  obtain ⟨B, fb, nb, db, lb, zb⟩ := h'.least (by omega)
  have hold : holdT (v - 1).toNat = (lv : Int) := by rw [hh, hlv]; split <;> rfl
  refine ⟨(bothT (v - 1).toNat (pcs, (k : Int)) (pcs', (k' : Int))).1, A ++ none :: some (sg ch) :: none :: B, ?_⟩
  have e : toksR (A ++ none :: some (sg ch) :: none :: B) = toksR A ++ sg ch :: toksR B := by rw [toksR_append]; rfl
  have dd : D lv d (toksR A ++ sg ch :: toksR B) (c ++ c' ++ [{ zcd with op := v }]) := by
    rw [← ho]
    by_cases h3 : 3 ≤ v
    · rw [if_pos h3] at hlv
      subst hlv
      subst hlv'
      exact D.p1 da (by omega) db
    · rw [if_neg h3] at hlv
      subst hlv
      subst hlv'
      exact D.s1 da (by omega) db
  refine ⟨by omega, ?_, ?_, both_neat na nb hc, ?_, ?_, ?_, fun q => absurd q (by omega)⟩
  · intro rest S
    rw [fold_both hv h.fold h'.fold]
    have : bothT (v - 1).toNat (pcs, (k : Int)) (pcs', (k' : Int)) = ((bothT (v - 1).toNat (pcs, (k : Int)) (pcs', (k' : Int))).1, (lv : Int)) := by
      rw [← hold]
      rfl
    rw [← this]
  · unfold bothT
    rw [hold, hr, show (lv : Int) + 1 = (lv' : Int) by rw [hlv']; omega]
    rw [flat_append, flat_append, flat_one, fa, fb, bytesR_append]
    show bytesR A ++ [32, ch, 32] ++ bytesR B = bytesR A ++ 32 :: ch :: 32 :: bytesR B
    simp
  · rw [e]; exact dd
  · rw [e]
    simp only [List.length_append, List.length_cons]
    omega
  · rw [e, bytesR_append]
    show (bytesR A ++ 32 :: ch :: 32 :: bytesR B).length ≤ _
    simp only [List.length_append, List.length_cons]
    rw [Nat.add_mul, Nat.add_mul]
    omega
theorem idx_get {T : List ByteArray} {t : ByteArray} (h : T.any (fun y => decide (y = t)) = true) : T.getD (idxI T t).toNat ⟨#[]⟩ = t ∧ 0 ≤ idxI T t ∧ idxI T t < T.length := by
  unfold idxI
  cases hx : T.findIdx? (fun x => decide (x = t)) with
  | none =>
    rw [List.findIdx?_eq_none_iff] at hx
    rw [List.any_eq_true] at h
    obtain ⟨y, hy, hd⟩ := h
    have := hx y hy
    rw [this] at hd
    cases hd
  | some k =>
    obtain ⟨h1, h2, -⟩ := List.findIdx?_eq_some_iff_getElem.1 hx
    dsimp only
    refine ⟨?_, by omega, by omega⟩
    rw [Int.toNat_natCast, List.getD_eq_getElem?_getD, List.getElem?_eq_getElem h1]
    exact of_decide_eq_true h2
theorem fold_leaf {c : CD} {rest : List CD} {S : List PT} (h : needsT c = (0, true)) : foldT ([c] ++ rest) S = foldT rest (S ++ [([leafT c], 2)]) := by
  show (match stepT S c with | some S' => foldT rest S' | none => none) = _
  have st : stepT S c = some (S ++ [([leafT c], 2)]) := by
    unfold stepT
    rw [h, if_neg (by simp), if_pos rfl]
  rw [st]
theorem neat_cons {a : AT} {R : List IT} (h : GoodA a) (hf : ∀ m, Fol a.k (bytesR R ++ m)) (hR : Neat R) (h61 : ∀ c r, a.t.data.toList = c :: r → c.toNat ≠ 61) : Neat (some a :: R) := by
  obtain ⟨c, r, e, -⟩ := h.ne
  refine ⟨⟨c, r ++ bytesR R, by show a.t.data.toList ++ bytesR R = _; rw [e]; rfl, h61 c r e⟩, fun R2 hc hn => ?_⟩
  refine ⟨h, ?_, hR.ch R2 hc hn⟩
  have := hf (bytesR R2)
  rw [← bytesR_append] at this
  exact this
theorem small_61 {c : UInt8} (h : isSmall c = true) : c.toNat ≠ 61 := by
  have : 97 ≤ c.toNat ∧ c.toNat ≤ 122 := by simpa [isSmall] using h
  omega
theorem name_neat {a : AT} (h : GoodA a) (hk : a.k = 1) : Neat [some a] := by
  obtain ⟨-, c, r, e, hs⟩ := good_name h hk
  exact neat_one h (fun c' r' e' => by rw [e] at e'; injection e' with e' _; subst e'; exact small_61 hs)
theorem nm_k {a : AT} (h : nmA a = true) : a.k = 1 := by
  unfold nmA at h
  simp at h
  exact h.1
theorem name_plain {a : AT} (h : GoodA a) (hk : a.k = 1) : plainA a := by
  obtain ⟨-, c, r, e, hs⟩ := good_name h hk
  have key : ∀ d : UInt8, isSmall d = false → a.t ≠ ⟨#[d]⟩ := by
    intro d hd q
    rw [q] at e
    have : d = c := by injection e
    subst this
    rw [hd] at hs
    cases hs
  exact ⟨key _ (by decide), key _ (by decide), key _ (by decide)⟩
theorem letter_61 {t : ByteArray} (h : lettersT.any (fun y => decide (y = t)) = true) : ∃ c, t.data.toList = [c] ∧ c.toNat ≠ 61 := by
  simp [lettersT] at h
  rcases h with rfl | rfl | rfl | rfl
  · exact ⟨120, rfl, by decide⟩
  · exact ⟨121, rfl, by decide⟩
  · exact ⟨122, rfl, by decide⟩
  · exact ⟨119, rfl, by decide⟩
/-- What is printed of a sum that was read. -/
theorem canon {M lv d : Nat} {ts : List AT} {c : List CD} (hM : 20 ≤ M) (h : D lv d ts c) : (∀ a ∈ ts, GoodA a ∧ a.t.size ≤ M) → lv ≤ 2 ∧ ∃ k pcs R, Cn M lv d ts.length c k pcs R := by
  induction h with
  | @num d a hp hk =>
    intro hg
    have ha := (hg a (by simp)).1
    have hn := good_num ha hk
    have gn := num_good hn
    refine ⟨by decide, 2, [leafT { zcd with op := 6, n := a.n }], [some (numA a.n)], by decide, ?_, ?_, ?_, ?_, by simp [toksR], ?_, fun q => absurd q (by decide)⟩
    · intro rest S
      refine fold_leaf ?_
      unfold needsT
      rw [if_pos rfl]
      simp
    · rw [flat_one]
      unfold leafT
      rw [if_pos rfl]
      show _ = (numA a.n).t.data.toList ++ []
      rw [List.append_nil]
      rfl
    · refine neat_one gn (fun x r e => ?_)
      have := (dec_digits a.n).1 x (by
        have ht : (numA a.n).t.data.toList = Lib.decDigits a.n := by
          show (Lib.itoa a.n).toArray.toList = _
          rw [itoa_nat]
        rw [← ht, e]
        simp)
      have : 48 ≤ x.toNat ∧ x.toNat ≤ 57 := by simpa [isDigit] using this
      omega
    · exact D.num (a := numA a.n) (plain_num _) rfl
    · have := num_len hn
      show ((numA a.n).t.data.toList ++ []).length ≤ 1 * (M + 2)
      rw [List.append_nil]
      omega
  | @cnt d h a hh hn =>
    intro hg
    obtain ⟨ha, hz⟩ := hg a (by simp)
    have hk := nm_k hn
    refine ⟨by decide, 2, [leafT { zcd with op := 8, var := a.t }], [some (sg 35), some a], by decide, ?_, ?_, ?_, ?_, by simp [toksR], ?_, fun q => absurd q (by decide)⟩
    · intro rest S
      refine fold_leaf ?_
      unfold needsT
      simp [name_of ha hn]
    · rw [flat_one]
      unfold leafT
      rw [if_neg (by show ¬ (8 : Int) = 6; decide), if_pos rfl]
      show (hash ++ a.t).data.toList = [35] ++ (a.t.data.toList ++ [])
      rw [ByteArray.data_append]
      simp
    · obtain ⟨-, x, r, e, hs⟩ := good_name ha hk
      refine neat_cons (sg_good (by decide)) (fun m y q ey => ?_) (name_neat ha hk) (fun x r e => by injection e with e _; subst e; decide)
      have ey : a.t.data.toList ++ [] ++ m = y :: q := ey
      rw [e] at ey
      injection ey with ey _
      subst ey
      exact ⟨fun q => absurd rfl q, fun _ => small_61 hs⟩
    · exact D.cnt (h := sg 35) (a := a) rfl hn
    · show ([35] ++ (a.t.data.toList ++ [])).length ≤ 2 * (M + 2)
      rw [List.append_nil, List.length_append, size_len]
      simp only [List.length_cons, List.length_nil]
      omega
  | @fld d a p f hp hk3 hn hdot hf =>
    intro hg
    obtain ⟨ha, hz⟩ := hg a (by simp)
    have gf := (hg f (by simp)).1
    have hk := nm_k hn
    obtain ⟨x, hx, h61⟩ := letter_61 hf
    obtain ⟨hget, hge, hlt⟩ := idx_get hf
    refine ⟨by decide, 2, [leafT { zcd with op := 7, var := a.t, field := idxI lettersT f.t }], [some a, some (sg 46), some f], by decide, ?_, ?_, ?_, ?_, by simp [toksR], ?_, fun q => absurd q (by decide)⟩
    · intro rest S
      refine fold_leaf ?_
      have h4 : idxI lettersT f.t < 4 := hlt
      unfold needsT
      simp [name_of ha hn, hge, h4]
    · rw [flat_one]
      unfold leafT
      rw [if_neg (by show ¬ (7 : Int) = 6; decide), if_neg (by show ¬ (7 : Int) = 8; decide)]
      show (a.t ++ dot ++ lettersT.getD (idxI lettersT f.t).toNat ⟨#[]⟩).data.toList = a.t.data.toList ++ ([46] ++ (f.t.data.toList ++ []))
      rw [hget, ByteArray.data_append, ByteArray.data_append]
      simp
    · obtain ⟨-, y, r, e, hs⟩ := good_name ha hk
      refine neat_cons ha (fun m z q ez => ?_) (neat_cons (sg_good (by decide)) (fun m z q ez => ?_) (neat_one gf (fun z q ez => by rw [hx] at ez; injection ez with ez _; subst ez; exact h61)) (fun z q ez => by injection ez with ez _; subst ez; decide)) (fun z q ez => by rw [e] at ez; injection ez with ez _; subst ez; exact small_61 hs)
      · have ez : 46 :: (f.t.data.toList ++ [] ++ m) = z :: q := ez
        injection ez with ez _
        subst ez
        exact ⟨fun _ => by decide, fun q => absurd (hk.symm.trans q) (by decide)⟩
      · have ez : f.t.data.toList ++ [] ++ m = z :: q := ez
        rw [hx] at ez
        injection ez with ez _
        subst ez
        exact ⟨fun q => absurd rfl q, fun _ => h61⟩
    · exact D.fld (a := a) (p := sg 46) (f := f) hp hk3 hn rfl hf
    · show (a.t.data.toList ++ ([46] ++ (f.t.data.toList ++ []))).length ≤ 3 * (M + 2)
      rw [hx, List.append_nil, List.length_append, size_len]
      simp only [List.length_append, List.length_cons, List.length_nil]
      omega
  | @neg d m ts c hm hD ih =>
    intro hg
    obtain ⟨-, k, pcs, R, C⟩ := ih (fun a ha => hg a (List.mem_cons_of_mem _ ha))
    obtain ⟨R', f1, n1, d1, l1, z1⟩ := C.least (Nat.le_refl 2)
    refine ⟨by decide, 2, [minus] ++ (leastT (pcs, (k : Int)) 2).1, some (sg 45) :: R', by decide, ?_, ?_, ?_, ?_, ?_, ?_, fun q => absurd q (by decide)⟩
    · intro rest S
      rw [List.append_assoc, C.fold]
      have e : needsT { zcd with op := 9 } = (1, true) := by decide
      show (match stepT (S ++ [(pcs, (k : Int))]) { zcd with op := 9 } with | some S' => foldT rest S' | none => none) = _
      have st : stepT (S ++ [(pcs, (k : Int))]) { zcd with op := 9 } = some (S ++ [([minus] ++ (leastT (pcs, (k : Int)) 2).1, 2)]) := by
        unfold stepT
        rw [e]
        rw [if_neg (by simp; omega), if_neg (by decide), if_pos (by decide)]
        simp
      rw [st]
      rfl
    · rw [flat_append, flat_one, show flat (leastT (pcs, (k : Int)) 2).1 = bytesR R' from f1]
      rfl
    · obtain ⟨x, r, e, h61⟩ := n1.hd
      refine neat_cons (sg_good (by decide)) (fun m y q ey => ?_) n1 (fun x r e => by injection e with e _; subst e; decide)
      rw [e] at ey
      injection ey with ey _
      subst ey
      exact ⟨fun q => absurd rfl q, fun _ => h61⟩
    · exact D.neg (m := sg 45) rfl d1
    · show (toksR R').length + 1 ≤ _
      rw [List.length_cons]
      omega
    · show ([45] ++ bytesR R').length ≤ ((toksR R').length + 1) * (M + 2)
      rw [Nat.add_mul, List.length_append]
      simp only [List.length_cons, List.length_nil]
      omega
  | @par d o z ts c ho hD hz ih =>
    intro hg
    obtain ⟨-, k, pcs, R, C⟩ := ih (fun a ha => hg a (by simp [ha]))
    have hl : (o :: (ts ++ [z])).length = ts.length + 2 := by simp
    refine ⟨by decide, k, pcs, R, C.k2, C.fold, C.fl, C.nt, C.dv.up1, ?_, C.sz, fun q => ⟨d, rfl, C.dv, ?_⟩⟩
    · have := C.le; omega
    · have := C.le; omega
  | p0 _ ih =>
    intro hg
    obtain ⟨-, k, pcs, R, C⟩ := ih hg
    exact ⟨by decide, k, pcs, R, C.k2, C.fold, C.fl, C.nt, C.dv, C.le, C.sz, fun q => C.lo (by omega)⟩
  | @p1 d ts ts' c c' o _ ho _ ih ih' =>
    intro hg
    obtain ⟨-, k, pcs, R, C⟩ := ih (fun a ha => hg a (by simp [ha]))
    obtain ⟨-, k', pcs', R', C'⟩ := ih' (fun a ha => hg a (by simp [ha]))
    obtain ⟨p2, R2, C2⟩ := cn_both hM C C' (v := opA o) (by omega) (by rw [if_pos (by omega)]) rfl
    refine ⟨by decide, 1, p2, R2, ?_⟩
    rw [List.length_append, List.length_cons]
    exact C2
  | s0 _ ih =>
    intro hg
    obtain ⟨-, k, pcs, R, C⟩ := ih hg
    exact ⟨by decide, k, pcs, R, C.k2, C.fold, C.fl, C.nt, C.dv, C.le, C.sz, fun q => absurd q (by omega)⟩
  | @s1 d ts ts' c c' o _ ho _ ih ih' =>
    intro hg
    obtain ⟨-, k, pcs, R, C⟩ := ih (fun a ha => hg a (by simp [ha]))
    obtain ⟨-, k', pcs', R', C'⟩ := ih' (fun a ha => hg a (by simp [ha]))
    obtain ⟨p2, R2, C2⟩ := cn_both hM C C' (v := opA o) (by omega) (by rw [if_neg (by omega)]) rfl
    refine ⟨by decide, 0, p2, R2, ?_⟩
    rw [List.length_append, List.length_cons]
    exact C2
/-- What is printed of a sum. -/
theorem sum_printed {M d : Nat} {ts : List AT} {c : List CD} (hM : 20 ≤ M) (h : D 0 d ts c) (hg : ∀ a ∈ ts, GoodA a ∧ a.t.size ≤ M) : ∃ pcs R, sumT c = some pcs ∧ flat pcs = bytesR R ∧ Neat R ∧ D 0 d (toksR R) c ∧ (toksR R).length ≤ ts.length ∧ (bytesR R).length ≤ (toksR R).length * (M + 2) := by
  obtain ⟨-, k, pcs, R, C⟩ := canon hM h hg
  refine ⟨pcs, R, ?_, C.fl, C.nt, C.dv.to2 C.k2 (Nat.zero_le _), C.le, C.sz⟩
  have := C.fold [] []
  rw [List.append_nil] at this
  unfold sumT
  rw [this]
  rfl
/-- Codes that fit. -/
theorem D.fits {M lv d : Nat} {ts : List AT} {c : List CD} (hM : M ≤ 1000000) (h : D lv d ts c) : (∀ a ∈ ts, GoodA a ∧ a.t.size ≤ M) → (∀ x ∈ c, CdFit x) ∧ c.length ≤ ts.length := by
  have op : ∀ v : Int, CdFit { zcd with op := v } := fun v => ⟨by show (-9223372036854775808 : Int) ≤ 0; decide, by show (0 : Int) ≤ 9223372036854775807; decide, by show (0 : Nat) ≤ _; omega⟩
  induction h with
  | @num d a hp hk =>
    intro hg
    have ha := (hg a (by simp)).1
    have hn := good_num ha hk
    refine ⟨fun x hx => ?_, by simp⟩
    obtain rfl := List.mem_singleton.1 hx
    exact ⟨by show (-9223372036854775808 : Int) ≤ (a.n : Int); omega, by show (a.n : Int) ≤ 9223372036854775807; omega, by show (0 : Nat) ≤ _; omega⟩
  | @cnt d h a hh hn =>
    intro hg
    have ha := (hg a (by simp)).2
    refine ⟨fun x hx => ?_, by simp⟩
    obtain rfl := List.mem_singleton.1 hx
    exact ⟨by show (-9223372036854775808 : Int) ≤ 0; decide, by show (0 : Int) ≤ 9223372036854775807; decide, by show a.t.size ≤ _; omega⟩
  | @fld d a p f hp hk3 hn hdot hf =>
    intro hg
    have ha := (hg a (by simp)).2
    refine ⟨fun x hx => ?_, by simp⟩
    obtain rfl := List.mem_singleton.1 hx
    exact ⟨by show (-9223372036854775808 : Int) ≤ 0; decide, by show (0 : Int) ≤ 9223372036854775807; decide, by show a.t.size ≤ _; omega⟩
  | @neg d m ts c hm hD ih =>
    intro hg
    obtain ⟨h1, h2⟩ := ih (fun a ha => hg a (List.mem_cons_of_mem _ ha))
    refine ⟨fun x hx => ?_, by simp; exact h2⟩
    rcases List.mem_append.1 hx with hx | hx
    · exact h1 x hx
    · obtain rfl := List.mem_singleton.1 hx
      exact op 9
  | @par d o z ts c ho hD hz ih =>
    intro hg
    obtain ⟨h1, h2⟩ := ih (fun a ha => hg a (by simp [ha]))
    exact ⟨h1, by simp; omega⟩
  | p0 _ ih => exact ih
  | @p1 d ts ts' c c' o _ ho _ ih ih' =>
    intro hg
    obtain ⟨h1, h2⟩ := ih (fun a ha => hg a (by simp [ha]))
    obtain ⟨h3, h4⟩ := ih' (fun a ha => hg a (by simp [ha]))
    refine ⟨fun x hx => ?_, by simp; omega⟩
    rcases List.mem_append.1 hx with hx | hx
    · rcases List.mem_append.1 hx with hx | hx
      · exact h1 x hx
      · exact h3 x hx
    · obtain rfl := List.mem_singleton.1 hx
      exact op _
  | s0 _ ih => exact ih
  | @s1 d ts ts' c c' o _ ho _ ih ih' =>
    intro hg
    obtain ⟨h1, h2⟩ := ih (fun a ha => hg a (by simp [ha]))
    obtain ⟨h3, h4⟩ := ih' (fun a ha => hg a (by simp [ha]))
    refine ⟨fun x hx => ?_, by simp; omega⟩
    rcases List.mem_append.1 hx with hx | hx
    · rcases List.mem_append.1 hx with hx | hx
      · exact h1 x hx
      · exact h3 x hx
    · obtain rfl := List.mem_singleton.1 hx
      exact op _
end Go.Proofs.YtadogobdlcionaaGreatDoor
