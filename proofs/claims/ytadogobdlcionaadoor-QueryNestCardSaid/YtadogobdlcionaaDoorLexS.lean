/-
  Tokens of texts, in Lean: plain functions on lists of bytes.
-/
import Derived.Lib.ParseIntB
namespace Go.Proofs.YtadogobdlcionaaDoor
open Go
def isSmall (c : UInt8) : Bool := decide (97 ≤ c.toNat) && decide (c.toNat ≤ 122)
def isDigit (c : UInt8) : Bool := decide (48 ≤ c.toNat) && decide (c.toNat ≤ 57)
def isCap (c : UInt8) : Bool := decide (65 ≤ c.toNat) && decide (c.toNat ≤ 90)
def isLetter (c : UInt8) : Bool := isSmall c || isCap c
def isWord (c : UInt8) : Bool := isSmall c || isDigit c
def isBoth (c : UInt8) : Bool := isLetter c || isDigit c
def isBlank (c : UInt8) : Bool := decide (c.toNat = 32) || decide (c.toNat = 9) || decide (c.toNat = 10)
def isSign (c : UInt8) : Bool := [44, 43, 45, 42, 47, 37, 61, 60, 62, 46, 35, 33, 40, 41].contains c.toNat
/-- How many bytes at the head are so. -/
def spanB (p : UInt8 → Bool) : List UInt8 → Nat
  | [] => 0
  | c :: r => if p c then spanB p r + 1 else 0
theorem spanB_le (p : UInt8 → Bool) : ∀ l : List UInt8, spanB p l ≤ l.length
  | [] => Nat.le_refl 0
  | c :: r => by
    have := spanB_le p r
    unfold spanB
    split
    · simp only [List.length_cons]; omega
    · exact Nat.zero_le _
theorem spanB_all (p : UInt8 → Bool) : ∀ (l : List UInt8) (j : Nat) (c : UInt8), j < spanB p l → l[j]? = some c → p c = true
  | [], j, c, h, _ => by simp [spanB] at h
  | x :: r, j, c, h, hc => by
    unfold spanB at h
    split at h
    · next hx =>
      cases j with
      | zero => simp at hc; subst hc; exact hx
      | succ j => exact spanB_all p r j c (by omega) (by simpa using hc)
    · omega
theorem spanB_end (p : UInt8 → Bool) : ∀ (l : List UInt8) (c : UInt8), l[spanB p l]? = some c → p c = false
  | [], c, h => by simp at h
  | x :: r, c, h => by
    unfold spanB at h
    split at h
    · exact spanB_end p r c (by simpa using h)
    · next hx => simp at h; subst h; simpa using hx
/-- The same, told by what stands there. -/
theorem spanB_is (p : UInt8 → Bool) : ∀ (l : List UInt8) (n : Nat), n ≤ l.length → (∀ j c, j < n → l[j]? = some c → p c = true) → (∀ c, l[n]? = some c → p c = false) → spanB p l = n
  | [], n, hn, _, _ => by simp at hn; simp [spanB, hn]
  | x :: r, 0, _, _, h => by
    have := h x rfl
    simp [spanB, this]
  | x :: r, n + 1, hn, h, h' => by
    have hx := h 0 x (by omega) rfl
    have := spanB_is p r n (by simp at hn; omega) (fun j c hj hc => h (j + 1) c (by omega) (by simpa using hc)) (fun c hc => h' c (by simpa using hc))
    simp [spanB, hx, this]
def headB (p : UInt8 → Bool) : List UInt8 → Bool
  | [] => false
  | c :: _ => p c
/-- The length of the longest sign at the head. -/
def signB : List UInt8 → Nat
  | [] => 0
  | [c] => if isSign c then 1 else 0
  | c :: d :: _ => if d.toNat = 61 ∧ (c.toNat = 33 ∨ c.toNat = 60 ∨ c.toNat = 62) then 2 else if isSign c then 1 else 0
/-- What digits spell. -/
def decV (a : Nat) (l : List UInt8) : Nat := l.foldl (fun a c => a * 10 + (c.toNat - 48)) a
structure Tok where
  kind : Nat
  len : Nat
  n : Nat
  deriving DecidableEq, Repr
/-- The token at the head, if one stands there. -/
def findB : List UInt8 → Option Tok
  | [] => none
  | c :: r =>
    if isSmall c then some ⟨1, spanB isWord (c :: r), 0⟩
    else if 65 ≤ c.toNat ∧ c.toNat < 73 then (if headB isBoth r then none else some ⟨2, 1, c.toNat - 65⟩)
    else if isDigit c then
      (if decV 0 ((c :: r).take (spanB isDigit (c :: r))) < 9223372036854775808 ∧ headB isLetter ((c :: r).drop (spanB isDigit (c :: r))) = false
        then some ⟨3, spanB isDigit (c :: r), decV 0 ((c :: r).take (spanB isDigit (c :: r)))⟩ else none)
    else if signB (c :: r) = 0 then none else some ⟨4, signB (c :: r), 0⟩
theorem signB_le : ∀ l : List UInt8, signB l ≤ l.length
  | [] => Nat.le_refl 0
  | [c] => by simp only [signB]; split <;> simp
  | c :: d :: r => by
    simp only [signB]
    split
    · simp
    · split <;> simp
theorem findB_len {l : List UInt8} {t : Tok} (h : findB l = some t) : 1 ≤ t.len ∧ t.len ≤ l.length := by
  cases l with
  | nil => simp [findB] at h
  | cons c r =>
    simp only [findB] at h
    split at h
    · next hs =>
      simp at h
      subst h
      refine ⟨?_, spanB_le _ _⟩
      have : isWord c = true := by simp [isWord, hs]
      simp [spanB, this]
    · split at h
      · split at h
        · cases h
        · simp at h
          subst h
          simp
      · split at h
        · next hd =>
          split at h
          · simp at h
            subst h
            refine ⟨?_, spanB_le _ _⟩
            simp [spanB, hd]
          · cases h
        · split at h
          · cases h
          · simp at h
            subst h
            exact ⟨by show 1 ≤ signB _; omega, signB_le _⟩
/-- The tokens from a place on. -/
def eachB : Nat → Nat → List UInt8 → List (Nat × Tok)
  | 0, _, _ => []
  | f + 1, i, l =>
    match findB (l.drop (i + spanB isBlank (l.drop i))) with
    | none => []
    | some t => (i + spanB isBlank (l.drop i), t) :: eachB f (i + spanB isBlank (l.drop i) + t.len) l
/-- A text's tokens. -/
def toksB (l : List UInt8) : List (Nat × Tok) := eachB (l.length + 1) 0 l
def skipB (i : Nat) (l : List UInt8) : Nat := i + spanB isBlank (l.drop i)
theorem skipB_le {i : Nat} {l : List UInt8} (h : i ≤ l.length) : skipB i l ≤ l.length := by
  have := spanB_le isBlank (l.drop i)
  rw [List.length_drop] at this
  unfold skipB
  omega
theorem eachB_none {f i : Nat} {l : List UInt8} (h : findB (l.drop (skipB i l)) = none) : eachB f i l = [] := by
  cases f with
  | zero => rfl
  | succ f =>
    unfold eachB
    unfold skipB at h
    rw [h]
theorem eachB_some {f i : Nat} {l : List UInt8} {t : Tok} (h : findB (l.drop (skipB i l)) = some t) : eachB (f + 1) i l = (skipB i l, t) :: eachB f (skipB i l + t.len) l := by
  unfold skipB at *
  rw [eachB, h]
/-- With enough fuel more does nothing. -/
theorem eachB_fuel : ∀ (f g i : Nat) (l : List UInt8), l.length < i + f → l.length < i + g → eachB f i l = eachB g i l
  | 0, g, i, l, hf, _ => by
    have : findB (l.drop (skipB i l)) = none := by
      rw [List.drop_eq_nil_of_le (by unfold skipB; omega)]
      rfl
    rw [eachB_none this, eachB_none this]
  | f + 1, g, i, l, hf, hg => by
    cases h : findB (l.drop (skipB i l)) with
    | none => rw [eachB_none h, eachB_none h]
    | some t =>
      have hl := findB_len h
      have hs : i ≤ skipB i l := by unfold skipB; omega
      cases g with
      | zero =>
        have : findB (l.drop (skipB i l)) = none := by
          rw [List.drop_eq_nil_of_le (by unfold skipB; omega)]
          rfl
        rw [this] at h
        cases h
      | succ g => rw [eachB_some h, eachB_some h, eachB_fuel f g _ l (by omega) (by omega)]
/-- The end of the last token. -/
def endB : List (Nat × Tok) → Nat
  | [] => 0
  | [x] => x.1 + x.2.len
  | _ :: y :: r => endB (y :: r)
theorem endB_snoc : ∀ (L : List (Nat × Tok)) (x : Nat × Tok), endB (L ++ [x]) = x.1 + x.2.len
  | [], x => rfl
  | [a], x => rfl
  | a :: b :: r, x => by
    show endB (b :: (r ++ [x])) = _
    have := endB_snoc (b :: r) x
    exact this
/-! ### What digits spell, and how a parse of them ends -/
theorem decV_le : ∀ (l : List UInt8) (a : Nat), a ≤ decV a l
  | [], a => Nat.le_refl a
  | c :: r, a => by
    have := decV_le r (a * 10 + (c.toNat - 48))
    show a ≤ decV (a * 10 + (c.toNat - 48)) r
    omega
theorem decV_app (l m : List UInt8) (a : Nat) : decV a (l ++ m) = decV (decV a l) m := by
  unfold decV
  rw [List.foldl_append]
theorem parseM_digits : ∀ (l : List UInt8) (a : Nat), (∀ c ∈ l, isDigit c = true) → a ≤ 18446744073709551615 →
    Lib.parseUintM 18446744073709551615 a l = if decV a l ≤ 18446744073709551615 then .ok (decV a l) else .range
  | [], a, _, ha => by
    show Lib.NumEnd.ok a = _
    rw [if_pos (show decV a [] ≤ _ from ha)]
    rfl
  | c :: r, a, h, ha => by
    have hc := h c (List.mem_cons_self ..)
    have hd : 48 ≤ c.toNat ∧ c.toNat ≤ 57 := by simpa [isDigit] using hc
    have hle := decV_le r (a * 10 + (c.toNat - 48))
    show Lib.parseUintM _ a (c :: r) = if decV (a * 10 + (c.toNat - 48)) r ≤ _ then .ok (decV (a * 10 + (c.toNat - 48)) r) else .range
    unfold Lib.parseUintM
    rw [if_pos hd]
    split
    · rw [if_neg (by omega)]
    · split
      · rw [if_neg (by omega)]
      · exact parseM_digits r _ (fun x hx => h x (List.mem_cons_of_mem _ hx)) (by omega)
theorem parseI_digits {c : UInt8} {r : List UInt8} (h : ∀ x ∈ c :: r, isDigit x = true) :
    Lib.parseIntB 64 (c :: r) = if decV 0 (c :: r) < 9223372036854775808 then .ok (decV 0 (c :: r) : Int) else .range := by
  have hd : 48 ≤ c.toNat ∧ c.toNat ≤ 57 := by simpa [isDigit] using h c (List.mem_cons_self ..)
  have hM : Lib.parseUintB 64 (c :: r) = if decV 0 (c :: r) ≤ 18446744073709551615 then .ok (decV 0 (c :: r)) else .range := by
    unfold Lib.parseUintB
    rw [if_neg (by simp)]
    exact parseM_digits (c :: r) 0 h (by omega)
  unfold Lib.parseIntB
  have n1 : ¬ (c.toNat = 43 ∨ c.toNat = 45) := by omega
  have n2 : ¬ c.toNat = 45 := by omega
  have n3 : ¬ c.toNat = 43 := by omega
  simp only [n3, n2, or_self, if_false, hM]
  generalize decV 0 (c :: r) = V
  by_cases h1 : V ≤ 18446744073709551615
  · rw [if_pos h1]
    by_cases h2 : V < 9223372036854775808
    · rw [if_pos h2]
      simp
      omega
    · rw [if_neg h2]
      simp
      omega
  · rw [if_neg h1, if_neg (by omega)]
/-! ### Texts of the statements -/
theorem skipB_zero {i : Nat} {l : List UInt8} (h : ∀ c, l[i]? = some c → isBlank c = false) : skipB i l = i := by
  unfold skipB
  rw [spanB_is isBlank (l.drop i) 0 (Nat.zero_le _) (fun j c hj _ => absurd hj (Nat.not_lt_zero j)) (fun c hc => h c (by simpa using hc))]
  rfl
theorem findB_digits {D : List UInt8} (hd : ∀ c ∈ D, isDigit c = true) (hne : D ≠ []) : findB D = if decV 0 D < 9223372036854775808 then some ⟨3, D.length, decV 0 D⟩ else none := by
  cases D with
  | nil => exact absurd rfl hne
  | cons c r =>
    have hc : 48 ≤ c.toNat ∧ c.toNat ≤ 57 := by simpa [isDigit] using hd c (List.mem_cons_self ..)
    have hs : spanB isDigit (c :: r) = (c :: r).length := spanB_is isDigit (c :: r) _ (Nat.le_refl _) (fun j x _ hx => hd x (List.mem_of_getElem? hx)) (fun x hx => by simp at hx)
    have n1 : isSmall c = false := by simp [isSmall]; omega
    have n2 : ¬ (65 ≤ c.toNat ∧ c.toNat < 73) := by omega
    have n3 : isDigit c = true := hd c (List.mem_cons_self ..)
    simp only [findB, n1, n2, n3, hs, List.take_length, List.drop_length, headB]
    simp
theorem digit_blank {c : UInt8} (h : isDigit c = true) : isBlank c = false := by
  have hc : 48 ≤ c.toNat ∧ c.toNat ≤ 57 := by simpa [isDigit] using h
  simp [isBlank]
  omega
theorem toks_digits {D : List UInt8} (hd : ∀ c ∈ D, isDigit c = true) (hne : D ≠ []) : toksB D = if decV 0 D < 9223372036854775808 then [(0, ⟨3, D.length, decV 0 D⟩)] else [] := by
  have h0 : skipB 0 D = 0 := skipB_zero (fun c hc => digit_blank (hd c (List.mem_of_getElem? hc)))
  have hf := findB_digits hd hne
  unfold toksB
  by_cases hv : decV 0 D < 9223372036854775808
  · rw [if_pos hv] at hf ⊢
    rw [eachB_some (t := ⟨3, D.length, decV 0 D⟩) (by rw [h0]; exact hf), h0, Nat.zero_add]
    rw [eachB_none]
    rw [List.drop_eq_nil_of_le (by unfold skipB; show D.length ≤ D.length + _; omega)]
    rfl
  · rw [if_neg hv] at hf ⊢
    exact eachB_none (by rw [h0]; exact hf)
theorem decV_zeros : ∀ z : Nat, decV 0 (List.replicate z (48 : UInt8)) = 0
  | 0 => rfl
  | z + 1 => by
    rw [List.replicate_succ]
    show decV (0 * 10 + ((48 : UInt8).toNat - 48)) (List.replicate z 48) = 0
    exact decV_zeros z
/-- n signs, g blanks behind each. -/
def manyL (n g : Nat) : List UInt8 := (List.range (n * (1 + g))).map fun j => if j % (1 + g) = 0 then 43 else 32
theorem manyL_len (n g : Nat) : (manyL n g).length = n * (1 + g) := by simp [manyL]
theorem manyL_at {n g j : Nat} (h : j < n * (1 + g)) : (manyL n g)[j]? = some (if j % (1 + g) = 0 then 43 else 32) := by
  unfold manyL
  rw [List.getElem?_map, List.getElem?_range h]
  rfl
theorem manyL_succ (n g : Nat) : manyL (n + 1) g = manyL n g ++ ([43] ++ List.replicate g 32) := by
  apply List.ext_getElem?
  intro j
  by_cases h : j < n * (1 + g)
  · rw [List.getElem?_append_left (by rw [manyL_len]; exact h), manyL_at h, manyL_at (by rw [Nat.succ_mul]; omega)]
  · rw [List.getElem?_append_right (by rw [manyL_len]; omega), manyL_len]
    by_cases h2 : j < (n + 1) * (1 + g)
    · rw [manyL_at h2]
      rw [Nat.succ_mul] at h2
      obtain ⟨k, rfl⟩ : ∃ k, j = n * (1 + g) + k := ⟨j - n * (1 + g), by omega⟩
      rw [Nat.add_sub_cancel_left, Nat.mul_add_mod_self_right]
      have hk : k < 1 + g := by omega
      rw [Nat.mod_eq_of_lt hk]
      cases k with
      | zero => rfl
      | succ k =>
        simp only [List.cons_append, List.nil_append, List.getElem?_cons_succ]
        rw [List.getElem?_replicate]
        simp
        omega
    · rw [List.getElem?_eq_none (by rw [manyL_len]; omega), List.getElem?_eq_none]
      rw [Nat.succ_mul] at h2
      simp
      omega
theorem mul_mod_one (i g : Nat) : i * (1 + g) % (1 + g) = 0 := Nat.mul_mod_left i (1 + g)
theorem many_skip {n g i : Nat} (h : i ≤ n) {k : Nat} (hk : k = 0 ∨ (k = g ∧ 1 ≤ i)) : skipB (i * (1 + g) - k) (manyL n g) = i * (1 + g) := by
  have hkk : k ≤ i * (1 + g) := by
    rcases hk with rfl | ⟨rfl, hi⟩
    · omega
    · have := Nat.mul_le_mul_right (1 + k) hi; omega
  have hle : i * (1 + g) ≤ n * (1 + g) := Nat.mul_le_mul_right _ h
  unfold skipB
  rw [spanB_is isBlank _ k]
  · omega
  · rw [List.length_drop, manyL_len]
    omega
  · intro j c hj hc
    rw [List.getElem?_drop, manyL_at (by omega)] at hc
    injection hc with hc
    have hg : k = g := by omega
    have h1 : 1 ≤ i := by omega
    subst hg
    obtain ⟨m, rfl⟩ : ∃ m, i = m + 1 := ⟨i - 1, by omega⟩
    rw [Nat.succ_mul] at hc
    have e : m * (1 + k) + (1 + k) - k + j = m * (1 + k) + (1 + j) := by omega
    rw [e, Nat.mul_add_mod_self_right, Nat.mod_eq_of_lt (by omega), if_neg (by omega)] at hc
    rw [← hc]
    decide
  · intro c hc
    rw [List.getElem?_drop, show i * (1 + g) - k + k = i * (1 + g) by omega] at hc
    by_cases hlt : i * (1 + g) < n * (1 + g)
    · rw [manyL_at hlt, mul_mod_one, if_pos rfl] at hc
      injection hc with hc
      rw [← hc]
      decide
    · rw [List.getElem?_eq_none (by rw [manyL_len]; omega)] at hc
      cases hc
theorem many_find {n g i : Nat} (h : i < n) : findB ((manyL n g).drop (i * (1 + g))) = some ⟨4, 1, 0⟩ := by
  have hlt : i * (1 + g) < n * (1 + g) := Nat.mul_lt_mul_of_pos_right h (by omega)
  have h0 : ((manyL n g).drop (i * (1 + g)))[0]? = some 43 := by
    rw [List.getElem?_drop, Nat.add_zero, manyL_at hlt, mul_mod_one, if_pos rfl]
  cases hD : (manyL n g).drop (i * (1 + g)) with
  | nil => rw [hD] at h0; cases h0
  | cons c r =>
    rw [hD] at h0
    simp at h0
    subst h0
    have hs : signB (43 :: r) = 1 := by
      cases r with
      | nil => decide
      | cons d r =>
        simp only [signB]
        rw [if_neg (by simp), if_pos (by decide)]
    simp only [findB, hs]
    rw [if_neg (by decide), if_neg (by decide), if_neg (by decide), if_neg (by decide)]
theorem many_each {n g : Nat} : ∀ (m i f k : Nat), n = i + m → m < f → (k = 0 ∨ (k = g ∧ 1 ≤ i)) → eachB f (i * (1 + g) - k) (manyL n g) = (List.range' i m).map fun j => (j * (1 + g), (⟨4, 1, 0⟩ : Tok))
  | 0, i, f, k, hn, hf, hk => by
    have hs := many_skip (n := n) (g := g) (i := i) (by omega) hk
    rw [eachB_none]
    · rfl
    · rw [hs, List.drop_eq_nil_of_le (by rw [manyL_len]; simp at hn; rw [hn]; omega)]
      rfl
  | m + 1, i, f, k, hn, hf, hk => by
    have hs := many_skip (n := n) (g := g) (i := i) (by omega) hk
    obtain ⟨f, rfl⟩ : ∃ f', f = f' + 1 := ⟨f - 1, by omega⟩
    rw [eachB_some (t := ⟨4, 1, 0⟩) (by rw [hs]; exact many_find (by omega)), hs]
    rw [show i * (1 + g) + (⟨4, 1, 0⟩ : Tok).len = (i + 1) * (1 + g) - g by rw [Nat.succ_mul]; show _ + 1 = _; omega]
    rw [many_each m (i + 1) f g (by omega) (by omega) (.inr ⟨rfl, by omega⟩)]
    rfl
theorem many_toks (n g : Nat) : toksB (manyL n g) = (List.range n).map fun j => (j * (1 + g), (⟨4, 1, 0⟩ : Tok)) := by
  unfold toksB
  have := many_each (n := n) (g := g) n 0 ((manyL n g).length + 1) 0 (by omega) (by rw [manyL_len]; have := Nat.le_mul_of_pos_right n (show 0 < 1 + g by omega); omega) (.inl rfl)
  rw [Nat.zero_mul, Nat.zero_sub] at this
  rw [this, List.range_eq_range']
end Go.Proofs.YtadogobdlcionaaDoor
