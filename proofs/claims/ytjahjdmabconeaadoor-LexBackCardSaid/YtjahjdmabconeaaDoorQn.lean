/-
  Texts joined, in Lean: what was joined has the same tokens.
-/
import Derived.Test.YtjahjdmabconeaaDoorQg
namespace Go.Proofs.YtjahjdmabconeaaDoor
open Go
/-- Texts with a space between each two. -/
def joinT : List (List UInt8) → List UInt8
  | [] => []
  | [x] => x
  | x :: y :: r => x ++ 32 :: joinT (y :: r)
/-- What may stand behind a token's text. -/
def Apart (rest : List UInt8) : Prop := rest = [] ∨ ∃ r, rest = 32 :: r
/-- The text of a token, whatever stands apart behind it. -/
def TokOf (x : List UInt8) (t : Tok) : Prop := t.len = x.length ∧ 1 ≤ x.length ∧ ∀ rest, Apart rest → findB (x ++ rest) = some t
theorem apart_head {p : UInt8 → Bool} {rest : List UInt8} (h : Apart rest) (hp : p 32 = false) : headB p rest = false := by
  rcases h with rfl | ⟨r, rfl⟩
  · rfl
  · exact hp
theorem span_app {p : UInt8 → Bool} {x rest : List UInt8} (hx : ∀ (j : Nat) (c : UInt8), x[j]? = some c → p c = true) (h : Apart rest) (hp : p 32 = false) : spanB p (x ++ rest) = x.length := by
  refine spanB_is p _ _ (by simp) (fun j c hj hc => ?_) (fun c hc => ?_)
  · rw [List.getElem?_append_left hj] at hc
    exact hx j c hc
  · rw [List.getElem?_append_right (Nat.le_refl _), Nat.sub_self] at hc
    rcases h with rfl | ⟨r, rfl⟩
    · simp at hc
    · simp at hc
      subst hc
      exact hp
theorem take_span {p : UInt8 → Bool} {l : List UInt8} : ∀ (j : Nat) (c : UInt8), (l.take (spanB p l))[j]? = some c → p c = true := fun j c h => by
  have hj := (List.getElem?_eq_some_iff.1 h).1
  rw [List.length_take] at hj
  rw [List.getElem?_take_of_lt (by omega)] at h
  exact spanB_all p l j c (by omega) h
theorem sign_apart (c : UInt8) {rest : List UInt8} (ha : Apart rest) : signB (c :: rest) = if isSign c then 1 else 0 := by
  rcases ha with rfl | ⟨r, rfl⟩
  · rfl
  · have h : ¬ ((32 : UInt8).toNat = 61 ∧ (c.toNat = 33 ∨ c.toNat = 60 ∨ c.toNat = 62)) := fun h => absurd h.1 (by decide)
    simp only [signB]
    rw [if_neg h]
/-- A token's text, cut out. -/
theorem tokOf {l : List UInt8} {t : Tok} (h : findB l = some t) : TokOf (l.take t.len) t := by
  have hl := findB_len h
  refine ⟨by rw [List.length_take]; omega, by rw [List.length_take]; omega, fun rest ha => ?_⟩
  cases l with
  | nil => simp [findB] at h
  | cons c r =>
    simp only [findB] at h
    split at h
    · next hs =>
      simp at h
      subst h
      have hw : isWord c = true := by simp [isWord, hs]
      have hx : (c :: r).take (spanB isWord (c :: r)) = c :: r.take (spanB isWord r) := by simp [spanB, hw]
      have hsp := span_app (x := (c :: r).take (spanB isWord (c :: r))) (p := isWord) (rest := rest) take_span ha (by decide)
      rw [List.length_take, Nat.min_eq_left (spanB_le _ _)] at hsp
      show findB ((c :: r).take (spanB isWord (c :: r)) ++ rest) = _
      rw [hx] at hsp ⊢
      simp only [List.cons_append, findB, hs, if_true] at hsp ⊢
      rw [hsp]
    · next hs =>
      split at h
      · next hc =>
        split at h
        · cases h
        · simp at h
          subst h
          show findB ([c] ++ rest) = _
          have hb := apart_head (p := isBoth) ha (by decide)
          simp [findB, hs, hc, hb]
      · next hc =>
        split at h
        · next hd =>
          split at h
          · next hv =>
            simp at h
            subst h
            have hx : (c :: r).take (spanB isDigit (c :: r)) = c :: r.take (spanB isDigit r) := by simp [spanB, hd]
            have hsp := span_app (x := (c :: r).take (spanB isDigit (c :: r))) (p := isDigit) (rest := rest) take_span ha (by decide)
            rw [List.length_take, Nat.min_eq_left (spanB_le _ _)] at hsp
            have hlen : ((c :: r).take (spanB isDigit (c :: r))).length = spanB isDigit (c :: r) := by rw [List.length_take, Nat.min_eq_left (spanB_le _ _)]
            have htk : ((c :: r).take (spanB isDigit (c :: r)) ++ rest).take (spanB isDigit (c :: r)) = (c :: r).take (spanB isDigit (c :: r)) := List.take_left' hlen
            have hdr : ((c :: r).take (spanB isDigit (c :: r)) ++ rest).drop (spanB isDigit (c :: r)) = rest := List.drop_left' hlen
            have hb := apart_head (p := isLetter) ha (by decide)
            show findB ((c :: r).take (spanB isDigit (c :: r)) ++ rest) = _
            have hV := hv.1
            generalize spanB isDigit (c :: r) = n at *
            rw [hx] at hsp htk hdr hV ⊢
            simp only [List.cons_append] at hsp htk hdr ⊢
            simp only [findB, hs, hc, hd, hsp, htk, hdr, hb]
            simp [hV]
          · cases h
        · next hd =>
          split at h
          · cases h
          · next h0 =>
            simp at h
            subst h
            show findB ((c :: r).take (signB (c :: r)) ++ rest) = _
            have key : signB ((c :: r).take (signB (c :: r)) ++ rest) = signB (c :: r) ∧ ∃ r', (c :: r).take (signB (c :: r)) ++ rest = c :: r' := by
              cases r with
              | nil =>
                have h1 : signB [c] = if isSign c then 1 else 0 := rfl
                by_cases hg : isSign c = true
                · rw [hg] at h1
                  rw [h1]
                  refine ⟨?_, _, rfl⟩
                  show signB (c :: rest) = 1
                  rw [sign_apart c ha, hg]
                  rfl
                · simp [h1, hg] at h0
              | cons d r =>
                have h1 : signB (c :: d :: r) = if d.toNat = 61 ∧ (c.toNat = 33 ∨ c.toNat = 60 ∨ c.toNat = 62) then 2 else if isSign c then 1 else 0 := rfl
                by_cases h2 : d.toNat = 61 ∧ (c.toNat = 33 ∨ c.toNat = 60 ∨ c.toNat = 62)
                · rw [if_pos h2] at h1
                  rw [h1]
                  refine ⟨?_, _, rfl⟩
                  show (if d.toNat = 61 ∧ (c.toNat = 33 ∨ c.toNat = 60 ∨ c.toNat = 62) then 2 else if isSign c then 1 else 0) = 2
                  rw [if_pos h2]
                · rw [if_neg h2] at h1
                  by_cases hg : isSign c = true
                  · rw [hg] at h1
                    rw [h1]
                    refine ⟨?_, _, rfl⟩
                    show signB (c :: rest) = 1
                    rw [sign_apart c ha, hg]
                    rfl
                  · simp [h1, hg] at h0
            obtain ⟨k1, r', k2⟩ := key
            rw [k2] at k1 ⊢
            simp only [findB, hs, hc, hd, k1, h0]
            rfl
/-- Where nothing but a blank stands there is no token. -/
theorem find_nonblank {l : List UInt8} {t : Tok} (h : findB l = some t) : headB isBlank l = false := by
  cases l with
  | nil => rfl
  | cons c r =>
    show isBlank c = false
    cases hb : isBlank c with
    | false => rfl
    | true =>
      exfalso
      have hc : c.toNat = 32 ∨ c.toNat = 9 ∨ c.toNat = 10 := by simpa [isBlank, or_assoc] using hb
      have n1 : isSmall c = false := by simp [isSmall]; omega
      have n2 : ¬ (65 ≤ c.toNat ∧ c.toNat < 73) := by omega
      have n3 : isDigit c = false := by simp [isDigit]; omega
      have n4 : isSign c = false := by simp [isSign]; omega
      have n5 : signB (c :: r) = 0 := by
        cases r with
        | nil => show (if isSign c then 1 else 0) = 0; rw [n4]; rfl
        | cons d r =>
          show (if _ then _ else _) = _
          rw [if_neg (by omega), n4]
          rfl
      simp [findB, n1, n2, n3, n5] at h
/-- Where the tokens of joined texts stand. -/
def placeT (q : Nat) : List (List UInt8 × Tok) → List (Nat × Tok)
  | [] => []
  | (x, t) :: r => (q, t) :: placeT (q + x.length + 1) r
theorem skip_tok {l : List UInt8} {q : Nat} {t : Tok} (h : findB (l.drop q) = some t) : skipB q l = q := by
  have := find_nonblank h
  refine skipB_zero (fun c hc => ?_)
  rw [drop_cons hc] at this
  exact this
theorem apart_join (xs : List (List UInt8)) : Apart (match xs with | [] => [] | y :: r => 32 :: joinT (y :: r)) := by
  cases xs with
  | nil => exact .inl rfl
  | cons y r => exact .inr ⟨_, rfl⟩
theorem join_cons (x : List UInt8) (r : List (List UInt8)) : ∃ rest, joinT (x :: r) = x ++ rest ∧ ((r = [] ∧ rest = []) ∨ (r ≠ [] ∧ rest = 32 :: joinT r)) := by
  cases r with
  | nil => exact ⟨[], by simp [joinT], .inl ⟨rfl, rfl⟩⟩
  | cons y r => exact ⟨_, rfl, .inr ⟨by simp, rfl⟩⟩
/-- **What was joined has the same tokens.** -/
theorem each_join : ∀ (X : List (List UInt8 × Tok)) (f p q : Nat) (l : List UInt8), (∀ x ∈ X, TokOf x.1 x.2) → skipB p l = q → q ≤ l.length → l.drop q = joinT (X.map (·.1)) → l.length < f + p → p ≤ q → eachB f p l = placeT q X
  | [], f, p, q, l, _, hs, hq, hl, hf, _ => by
    rw [eachB_none]
    · rfl
    · rw [hs, hl]
      rfl
  | (x, t) :: r, f, p, q, l, hX, hs, hq, hl, hf, hpq => by
    obtain ⟨h1, h2, h3⟩ := hX (x, t) (by simp)
    simp only at h1 h2 h3
    obtain ⟨rest, hj, hr⟩ := join_cons x (r.map (·.1))
    rw [List.map_cons, hj] at hl
    have ha : Apart rest := by
      rcases hr with ⟨_, rfl⟩ | ⟨_, rfl⟩
      · exact .inl rfl
      · exact .inr ⟨_, rfl⟩
    have hfd : findB (l.drop q) = some t := by rw [hl]; exact h3 rest ha
    have hlen := congrArg List.length hl
    rw [List.length_drop, List.length_append] at hlen
    obtain ⟨f, rfl⟩ : ∃ f', f = f' + 1 := ⟨f - 1, by omega⟩
    rw [eachB_some (by rw [hs]; exact hfd), hs]
    show (q, t) :: eachB f (q + t.len) l = (q, t) :: placeT (q + x.length + 1) r
    congr 1
    have hd : l.drop (q + t.len) = rest := by
      rw [← List.drop_drop, hl, h1]
      exact List.drop_left
    rcases hr with ⟨h0, rfl⟩ | ⟨h0, rfl⟩
    · have : r = [] := by simpa using h0
      subst this
      rw [eachB_none]
      · rfl
      · have : skipB (q + t.len) l = q + t.len := by
          unfold skipB
          rw [hd]
          rfl
        rw [this, hd]
        rfl
    · cases r with
      | nil => simp at h0
      | cons y r =>
        have hd2 : l.drop (q + x.length + 1) = joinT ((y :: r).map (·.1)) := by
          have : l.drop (q + x.length + 1) = (l.drop (q + t.len)).drop 1 := by rw [List.drop_drop, h1]
          rw [this, hd]
          rfl
        have hy := hX y (by simp)
        have hfy : ∃ t', findB (l.drop (q + x.length + 1)) = some t' := by
          obtain ⟨rest', hj', hr'⟩ := join_cons y.1 (r.map (·.1))
          rw [hd2, List.map_cons, hj']
          refine ⟨_, hy.2.2 rest' ?_⟩
          rcases hr' with ⟨_, rfl⟩ | ⟨_, rfl⟩
          · exact .inl rfl
          · exact .inr ⟨_, rfl⟩
        obtain ⟨t', hfy⟩ := hfy
        have hlt : l[q + x.length]? = some 32 := by
          have h8 := congrArg (fun z => z[0]?) hd
          simp only [List.getElem?_drop, Nat.add_zero, h1] at h8
          rw [h8]
          rfl
        have hsk : skipB (q + t.len) l = q + x.length + 1 := by
          rw [h1, ← skip_next hlt (by decide)]
          exact skip_tok hfy
        have hql := (List.getElem?_eq_some_iff.1 hlt).1
        exact each_join (y :: r) f (q + t.len) (q + x.length + 1) l (fun z hz => hX z (List.mem_cons_of_mem _ hz)) hsk (by omega) hd2 (by omega) (by omega)
theorem toks_join (X : List (List UInt8 × Tok)) (hX : ∀ x ∈ X, TokOf x.1 x.2) : toksB (joinT (X.map (·.1))) = placeT 0 X := by
  unfold toksB
  refine each_join X _ 0 0 _ hX ?_ (Nat.zero_le _) rfl (by omega) (Nat.le_refl _)
  cases X with
  | nil => rfl
  | cons y r =>
    obtain ⟨rest', hj', hr'⟩ := join_cons y.1 (r.map (·.1))
    refine skip_tok (t := y.2) ?_
    rw [List.drop_zero, List.map_cons, hj']
    refine (hX y (by simp)).2.2 rest' ?_
    rcases hr' with ⟨_, rfl⟩ | ⟨_, rfl⟩
    · exact .inl rfl
    · exact .inr ⟨_, rfl⟩
end Go.Proofs.YtjahjdmabconeaaDoor
