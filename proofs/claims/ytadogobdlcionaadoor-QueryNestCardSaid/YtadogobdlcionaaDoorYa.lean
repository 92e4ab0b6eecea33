/-
  The tokens of signs and brackets in one another.
  All tokens of such a text, and their texts.
  How the parser reads signs and brackets in one another.
  What the parser makes of signs and brackets in one another.
  What Parse makes of signs and brackets in one another.
-/
import Derived.Test.YtadogobdlcionaaDoorSs
namespace Go.Proofs.YtadogobdlcionaaDoor
open Go.ChangeShapes Go.WideShapes Go.ChangeAt Go.RowKit Go.Shelf
set_option linter.unusedVariables false
set_option maxRecDepth 100000 in
theorem each_head (f : Nat) (R : List UInt8) : eachB (f + 4) 0 (hdN ++ R) = (0, ⟨1, 3, 0⟩) :: (4, ⟨2, 1, 0⟩) :: (6, ⟨1, 1, 0⟩) :: (8, ⟨1, 5, 0⟩) :: eachB f 13 (hdN ++ R) := by kernel_rfl
theorem each_blank {f i : Nat} {l r : List UInt8} {c : UInt8} (h : l.drop i = 32 :: c :: r) (hb : isBlank c = false) : eachB f i l = eachB f (i + 1) l := by
  have h2 : l.drop (i + 1) = c :: r := by rw [← List.drop_drop, h]; rfl
  have s1 : spanB isBlank (32 :: c :: r) = 1 := by
    have : isBlank 32 = true := by decide
    simp [spanB, this, hb]
  have s2 : spanB isBlank (c :: r) = 0 := by simp [spanB, hb]
  cases f with
  | zero => rfl
  | succ f => rw [eachB, eachB, h, h2, s1, s2]
theorem each_one {f i : Nat} {l r : List UInt8} {c : UInt8} {t : Tok} (h : l.drop i = c :: r) (hb : isBlank c = false) (hf : findB (c :: r) = some t) : eachB (f + 1) i l = (i, t) :: eachB f (i + t.len) l := by
  have s2 : spanB isBlank (c :: r) = 0 := by simp [spanB, hb]
  rw [eachB, h, s2, Nat.add_zero, h, hf]
theorem sign_find {c : UInt8} (hc : c = 40 ∨ c = 41 ∨ c = 45) (r : List UInt8) : findB (c :: r) = some ⟨4, 1, 0⟩ ∧ isBlank c = false := by
  have key : ∀ c : UInt8, (c = 40 ∨ c = 41 ∨ c = 45) → isSmall c = false ∧ (65 ≤ c.toNat ∧ c.toNat < 73 → False) ∧ isDigit c = false ∧ isSign c = true ∧ ¬(c.toNat = 33 ∨ c.toNat = 60 ∨ c.toNat = 62) ∧ isBlank c = false := by
    rintro c (rfl | rfl | rfl) <;> decide
  obtain ⟨k1, k2, k3, k4, k5, k6⟩ := key c hc
  have sg : signB (c :: r) = 1 := by
    cases r with
    | nil => simp [signB, k4]
    | cons d r =>
      simp only [signB]
      rw [if_neg (fun q => k5 q.2), if_pos k4]
  refine ⟨?_, k6⟩
  rw [findB, if_neg (by rw [k1]; decide), if_neg k2, if_neg (by rw [k3]; decide), sg]
  rfl
def sgs (i n : Nat) : List (Nat × Tok) := (List.range' i n).map fun p => (p, ⟨4, 1, 0⟩)
theorem each_signs {l : List UInt8} : ∀ (cs : List UInt8) (X : List UInt8) (f i : Nat), (∀ c ∈ cs, c = 40 ∨ c = 41 ∨ c = 45) → l.drop i = cs ++ X → eachB (f + cs.length) i l = sgs i cs.length ++ eachB f (i + cs.length) l
  | [], X, f, i, _, _ => rfl
  | c :: cs, X, f, i, hc, h => by
    have hs := sign_find (hc c (by simp)) (cs ++ X)
    have h2 : l.drop (i + 1) = cs ++ X := by rw [← List.drop_drop, h]; rfl
    rw [List.length_cons, ← Nat.add_assoc, each_one h hs.2 hs.1, each_signs cs X f (i + 1) (fun d hd => hc d (by simp [hd])) h2]
    show _ = (List.map _ (List.range' i (cs.length + 1))) ++ _
    rw [List.range'_succ, show i + (cs.length + 1) = i + 1 + cs.length by omega]
    rfl
theorem one_find {d : UInt8} (r : List UInt8) (h1 : isDigit d = false) (h2 : isLetter d = false) : findB (49 :: d :: r) = some ⟨3, 1, 1⟩ := by
  have s : spanB isDigit (49 :: d :: r) = 1 := by
    have : isDigit 49 = true := by decide
    simp [spanB, this, h1]
  have e1 : isSmall 49 = false := by decide
  have e3 : isDigit 49 = true := by decide
  rw [findB, if_neg (by rw [e1]; decide), if_neg (by decide), if_pos e3, s]
  have hd : headB isLetter ((49 :: d :: r).drop 1) = false := h2
  rw [if_pos ⟨(by show decV 0 [49] < 9223372036854775808; decide), hd⟩]
  rfl
theorem each_shift (l : List UInt8) (i : Nat) : ∀ (f j : Nat), eachB f (i + j) l = (eachB f j (l.drop i)).map fun x => (i + x.1, x.2)
  | 0, j => rfl
  | f + 1, j => by
    rw [eachB, eachB, List.drop_drop, List.drop_drop, ← Nat.add_assoc]
    cases findB (l.drop (i + j + spanB isBlank (l.drop (i + j)))) with
    | none => rfl
    | some t =>
      show _ :: _ = _ :: _
      rw [show i + j + spanB isBlank (l.drop (i + j)) + t.len = i + (j + spanB isBlank (l.drop (i + j)) + t.len) by omega, each_shift l i f, Nat.add_assoc]
set_option maxRecDepth 100000 in
theorem tail_toks (f : Nat) : eachB (f + 5) 0 tlN = [(1, ⟨4, 1, 0⟩), (3, ⟨3, 1, 0⟩), (5, ⟨1, 6, 0⟩), (12, ⟨3, 1, 3⟩)] := by kernel_rfl
theorem each_tail {l : List UInt8} {i : Nat} (f : Nat) (h : l.drop i = tlN) : eachB (f + 5) i l = [(i + 1, ⟨4, 1, 0⟩), (i + 3, ⟨3, 1, 0⟩), (i + 5, ⟨1, 6, 0⟩), (i + 12, ⟨3, 1, 3⟩)] := by
  have := each_shift l i (f + 5) 0
  rw [Nat.add_zero, h, tail_toks] at this
  exact this
end Go.Proofs.YtadogobdlcionaaDoor
namespace Go.Proofs.YtadogobdlcionaaDoor
open Go.ChangeShapes Go.WideShapes Go.ChangeAt Go.RowKit Go.Shelf
set_option linter.unusedVariables false
def resN (bs : List Bool) : List UInt8 := hdN ++ (preN bs ++ (49 :: (postN bs ++ tlN)))
theorem nest_list (bs : List Bool) : (nestT bs).data.toList = resN bs := by simp [nestT, resN]
/-- How many brackets. -/
def cntN (bs : List Bool) : Nat := (bs.filter id).length
theorem post_len (bs : List Bool) : (postN bs).length = cntN bs := by simp [postN, cntN]
theorem pre_sign (bs : List Bool) : ∀ c ∈ preN bs, c = 40 ∨ c = 41 ∨ c = 45 := by
  intro c hc
  simp only [preN, List.mem_map] at hc
  obtain ⟨b, -, rfl⟩ := hc
  cases b <;> simp
theorem post_sign (bs : List Bool) : ∀ c ∈ postN bs, c = 40 ∨ c = 41 ∨ c = 45 := by
  intro c hc
  simp only [postN, List.mem_map] at hc
  obtain ⟨b, -, rfl⟩ := hc
  simp
def toksN (n m : Nat) : List (Nat × Tok) := [(0, ⟨1, 3, 0⟩), (4, ⟨2, 1, 0⟩), (6, ⟨1, 1, 0⟩), (8, ⟨1, 5, 0⟩)] ++ (sgs 14 n ++ ((14 + n, ⟨3, 1, 1⟩) :: (sgs (15 + n) m ++ [(15 + n + m + 1, ⟨4, 1, 0⟩), (15 + n + m + 3, ⟨3, 1, 0⟩), (15 + n + m + 5, ⟨1, 6, 0⟩), (15 + n + m + 12, ⟨3, 1, 3⟩)])))
theorem nest_toks (bs : List Bool) : toksB (resN bs) = toksN bs.length (cntN bs) := by
  have hl : (resN bs).length + 1 = (((19 + 5) + (postN bs).length + 1) + (preN bs).length) + 4 := by
    unfold resN
    simp only [List.length_append, List.length_cons]
    show 14 + _ + 1 = _
    have : tlN.length = 13 := rfl
    omega
  have d14 : (resN bs).drop 14 = preN bs ++ (49 :: (postN bs ++ tlN)) := rfl
  have d1 : (resN bs).drop (14 + (preN bs).length) = 49 :: (postN bs ++ tlN) := by
    rw [← List.drop_drop, d14, List.drop_left]
  have d2 : (resN bs).drop (14 + (preN bs).length + 1) = postN bs ++ tlN := by
    rw [← List.drop_drop, d1]; rfl
  have d3 : (resN bs).drop (14 + (preN bs).length + 1 + (postN bs).length) = tlN := by
    rw [← List.drop_drop, d2, List.drop_left]
  have d13 : ∃ c r, (resN bs).drop 13 = 32 :: c :: r ∧ isBlank c = false := by
    cases hb : preN bs with
    | nil =>
      refine ⟨49, postN bs ++ tlN, ?_, by decide⟩
      show 32 :: (preN bs ++ (49 :: (postN bs ++ tlN))) = _
      rw [hb]; rfl
    | cons c r =>
      refine ⟨c, r ++ (49 :: (postN bs ++ tlN)), ?_, (sign_find (pre_sign bs c (by rw [hb]; simp)) []).2⟩
      show 32 :: (preN bs ++ (49 :: (postN bs ++ tlN))) = _
      rw [hb]; rfl
  have hone : findB (49 :: (postN bs ++ tlN)) = some ⟨3, 1, 1⟩ := by
    cases hb : postN bs with
    | nil => exact one_find _ (by decide) (by decide)
    | cons c r =>
      have : c = 41 := by
        have hm : c ∈ postN bs := by rw [hb]; simp
        simp only [postN, List.mem_map] at hm
        obtain ⟨_, _, rfl⟩ := hm
        rfl
      subst this
      exact one_find _ (by decide) (by decide)
  obtain ⟨c, r, h13, hcb⟩ := d13
  unfold toksB
  rw [hl, show resN bs = hdN ++ (preN bs ++ (49 :: (postN bs ++ tlN))) from rfl, each_head]
  change _ :: _ :: _ :: _ :: eachB _ 13 (resN bs) = _
  rw [each_blank h13 hcb, each_signs (preN bs) _ _ 14 (pre_sign bs) d14, each_one d1 (by decide) hone]
  rw [each_signs (postN bs) _ _ (14 + (preN bs).length + 1) (post_sign bs) d2, each_tail 19 d3, preN_len, post_len]
  unfold toksN
  rw [show 14 + bs.length + 1 = 15 + bs.length by omega]
  rfl
theorem toksN_len (n m : Nat) : (toksN n m).length = n + m + 9 := by
  unfold toksN sgs
  simp
  omega
theorem text_of (l : List UInt8) (x : Nat × Tok) : textOf ⟨l.toArray⟩ x = ⟨((l.drop x.1).take x.2.len).toArray⟩ := by
  unfold textOf
  apply ByteArray.ext
  rw [ByteArray.data_extract]
  apply Array.toList_inj.1
  simp [List.take_drop, Nat.add_comm]
end Go.Proofs.YtadogobdlcionaaDoor
namespace Go.Proofs.YtadogobdlcionaaDoor
open Go.ChangeShapes Go.WideShapes Go.ChangeAt Go.RowKit Go.Shelf
set_option linter.unusedVariables false
theorem sgs_len (i n : Nat) : (sgs i n).length = n := by simp [sgs]
theorem sgs_get {i n j : Nat} (h : j < n) : (sgs i n)[j]? = some (i + j, ⟨4, 1, 0⟩) := by
  unfold sgs
  rw [List.getElem?_map, List.getElem?_range' h]
  simp
section
variable {n m j k : Nat}
theorem lk_head (h : k < 4) : (toksN n m)[k]? = ([(0, ⟨1, 3, 0⟩), (4, ⟨2, 1, 0⟩), (6, ⟨1, 1, 0⟩), (8, ⟨1, 5, 0⟩)] : List (Nat × Tok))[k]? := by
  unfold toksN
  rw [List.getElem?_append_left (by simpa using h)]
theorem lk_rest : (toksN n m)[4 + k]? = (sgs 14 n ++ ((14 + n, ⟨3, 1, 1⟩) :: (sgs (15 + n) m ++ [(15 + n + m + 1, ⟨4, 1, 0⟩), (15 + n + m + 3, ⟨3, 1, 0⟩), (15 + n + m + 5, ⟨1, 6, 0⟩), (15 + n + m + 12, ⟨3, 1, 3⟩)])) : List (Nat × Tok))[k]? := by
  unfold toksN
  rw [List.getElem?_append_right (by simp)]
  simp
theorem lk_sign (h : j < n) : (toksN n m)[4 + j]? = some (14 + j, ⟨4, 1, 0⟩) := by
  rw [lk_rest, List.getElem?_append_left (by rw [sgs_len]; exact h), sgs_get h]
theorem lk_more : (toksN n m)[4 + n + k]? = ((14 + n, ⟨3, 1, 1⟩) :: (sgs (15 + n) m ++ [(15 + n + m + 1, ⟨4, 1, 0⟩), (15 + n + m + 3, ⟨3, 1, 0⟩), (15 + n + m + 5, ⟨1, 6, 0⟩), (15 + n + m + 12, ⟨3, 1, 3⟩)]) : List (Nat × Tok))[k]? := by
  rw [Nat.add_assoc, lk_rest, List.getElem?_append_right (by rw [sgs_len]; omega), sgs_len, show n + k - n = k by omega]
theorem lk_one : (toksN n m)[4 + n]? = some (14 + n, ⟨3, 1, 1⟩) := by
  have := lk_more (n := n) (m := m) (k := 0)
  rw [Nat.add_zero] at this
  exact this
theorem lk_shut (h : j < m) : (toksN n m)[5 + n + j]? = some (15 + n + j, ⟨4, 1, 0⟩) := by
  have := lk_more (n := n) (m := m) (k := j + 1)
  rw [show 4 + n + (j + 1) = 5 + n + j by omega, List.getElem?_cons_succ, List.getElem?_append_left (by rw [sgs_len]; exact h), sgs_get h] at this
  exact this
theorem lk_tail : (toksN n m)[5 + n + m + k]? = ([(15 + n + m + 1, ⟨4, 1, 0⟩), (15 + n + m + 3, ⟨3, 1, 0⟩), (15 + n + m + 5, ⟨1, 6, 0⟩), (15 + n + m + 12, ⟨3, 1, 3⟩)] : List (Nat × Tok))[k]? := by
  have := lk_more (n := n) (m := m) (k := m + k + 1)
  rw [show 4 + n + (m + k + 1) = 5 + n + m + k by omega, List.getElem?_cons_succ, List.getElem?_append_right (by rw [sgs_len]; omega), sgs_len, show m + k - m = k by omega] at this
  exact this
end
theorem nest_eq (bs : List Bool) : nestT bs = ⟨(resN bs).toArray⟩ := by
  apply ByteArray.ext
  apply Array.toList_inj.1
  rw [nest_list]
theorem drop_one {l : List UInt8} {j : Nat} {c : UInt8} (h : l[j]? = some c) : (l.drop j).take 1 = [c] := by
  obtain ⟨hj, h⟩ := List.getElem?_eq_some_iff.1 h
  rw [List.drop_eq_getElem_cons hj, h]
  rfl
def chN (b : Bool) : UInt8 := if b then 40 else 45
theorem res_sign {bs : List Bool} {j : Nat} {b : Bool} (h : bs[j]? = some b) : (resN bs)[14 + j]? = some (chN b) := by
  have hj := (List.getElem?_eq_some_iff.1 h).1
  unfold resN
  rw [List.getElem?_append_right (by show 14 ≤ _; omega), show 14 + j - hdN.length = j by show 14 + j - 14 = j; omega, List.getElem?_append_left (by rw [preN_len]; exact hj)]
  unfold preN chN
  rw [List.getElem?_map, h]
  rfl
theorem res_more (bs : List Bool) (k : Nat) : (resN bs)[14 + bs.length + k]? = (49 :: (postN bs ++ tlN))[k]? := by
  unfold resN
  rw [List.getElem?_append_right (by show 14 ≤ _; omega), List.getElem?_append_right (by rw [preN_len]; show bs.length ≤ 14 + bs.length + k - 14; omega), preN_len]
  congr 1
  show 14 + bs.length + k - 14 - bs.length = k
  omega
theorem tx_sign {bs : List Bool} {j : Nat} {b : Bool} (h : bs[j]? = some b) : textOf (nestT bs) (14 + j, ⟨4, 1, 0⟩) = ⟨#[chN b]⟩ := by
  rw [nest_eq, text_of]
  show (⟨(((resN bs).drop (14 + j)).take 1).toArray⟩ : ByteArray) = _
  rw [drop_one (res_sign h)]
theorem tx_one (bs : List Bool) : textOf (nestT bs) (14 + bs.length, ⟨3, 1, 1⟩) = ⟨#[49]⟩ := by
  rw [nest_eq, text_of]
  show (⟨(((resN bs).drop (14 + bs.length)).take 1).toArray⟩ : ByteArray) = _
  have h := res_more bs 0
  rw [Nat.add_zero] at h
  rw [drop_one (c := 49) h]
theorem tx_shut {bs : List Bool} {j : Nat} (h : j < cntN bs) : textOf (nestT bs) (15 + bs.length + j, ⟨4, 1, 0⟩) = shut := by
  rw [nest_eq, text_of]
  show (⟨(((resN bs).drop (15 + bs.length + j)).take 1).toArray⟩ : ByteArray) = _
  have : (resN bs)[15 + bs.length + j]? = some 41 := by
    have h2 := res_more bs (j + 1)
    rw [show 14 + bs.length + (j + 1) = 15 + bs.length + j by omega, List.getElem?_cons_succ, List.getElem?_append_left (by rw [post_len]; exact h)] at h2
    rw [h2]
    unfold postN
    rw [List.getElem?_map]
    obtain ⟨x, hx⟩ : ∃ x, (bs.filter id)[j]? = some x := ⟨_, List.getElem?_eq_getElem (by exact h)⟩
    rw [hx]
    rfl
  rw [drop_one this]
theorem tx_tail (bs : List Bool) (k len : Nat) (kd n0 : Nat) : textOf (nestT bs) (15 + bs.length + cntN bs + k, ⟨kd, len, n0⟩) = ⟨((tlN.drop k).take len).toArray⟩ := by
  rw [nest_eq, text_of]
  have : (resN bs).drop (15 + bs.length + cntN bs) = tlN := by
    have e : 15 + bs.length + cntN bs = 14 + ((preN bs).length + (1 + (postN bs).length)) := by rw [preN_len, post_len]; omega
    rw [e, ← List.drop_drop, show (resN bs).drop 14 = preN bs ++ (49 :: (postN bs ++ tlN)) from rfl, ← List.drop_drop, List.drop_left, ← List.drop_drop]
    show (postN bs ++ tlN).drop _ = _
    rw [List.drop_left]
  show (⟨(((resN bs).drop (15 + bs.length + cntN bs + k)).take len).toArray⟩ : ByteArray) = _
  rw [← List.drop_drop, this]
end Go.Proofs.YtadogobdlcionaaDoor
namespace Go.Proofs.YtadogobdlcionaaDoor
open Go.ChangeShapes Go.WideShapes Go.ChangeAt Go.RowKit Go.Shelf
set_option linter.unusedVariables false
abbrev LN (bs : List Bool) : List (Nat × Tok) := toksN bs.length (cntN bs)
theorem op_zero {s : ByteArray} {L : List (Nat × Tok)} {j : Nat} {x : Nat × Tok} (h : L[j]? = some x) (ht : idxI reckonsT (textOf s x) = -1) : opAt s L j = 0 := by
  unfold opAt textAt
  rw [h]
  dsimp only
  rw [ht]
  rfl
theorem lp_end {s : ByteArray} {L : List (Nat × Tok)} {e f nest j : Nat} {b : Bool} {l : List CD} (h : opAt s L j = 0) : readF s L e (f + 1) (.lp b l) nest j = .ok l j := by
  rw [readF, if_neg (by rw [h]; cases b <;> simp)]
theorem has_at {s : ByteArray} {L : List (Nat × Tok)} {t : ByteArray} {i : Nat} {x : Nat × Tok} (h : L[i]? = some x) (ht : textOf s x = t) : hasB s L t i = true := by
  unfold hasB
  rw [h]
  exact decide_eq_true ht
theorem has_not {s : ByteArray} {L : List (Nat × Tok)} {t : ByteArray} {i : Nat} {x : Nat × Tok} (h : L[i]? = some x) (ht : textOf s x ≠ t) : hasB s L t i = false := by
  unfold hasB
  rw [h]
  exact decide_eq_false ht
theorem has_none' {s : ByteArray} {L : List (Nat × Tok)} {t : ByteArray} {i : Nat} (h : L[i]? = none) : hasB s L t i = false := by
  unfold hasB
  rw [h]
theorem take_at {pr : (Nat × Tok) → Bool} {L : List (Nat × Tok)} {i : Nat} {x : Nat × Tok} (h : L[i]? = some x) (hp : pr x = true) : takeB pr L i = some x := by
  unfold takeB
  rw [h]
  exact if_pos hp
theorem read_one {s : ByteArray} {L : List (Nat × Tok)} {e f nest i : Nat} {x : Nat × Tok} {c : UInt8} (h : L[i]? = some x) (ht : textOf s x = ⟨#[c]⟩) (hc : c ≠ 45 ∧ c ≠ 40 ∧ c ≠ 35) (hk : x.2.kind = 3) :
    readF s L e (f + 1) .un nest i = .ok [{ zcd with op := 6, n := x.2.n }] (i + 1) := by
  have hu : takeB (unaryB s) L i = some x := take_at h (by unfold unaryB; rw [hk]; simp)
  have e1 : ((textOf s x).toList == [45]) = false := by rw [ht, ByteArray.toList_eq]; simp [hc.1]
  have e2 : ((textOf s x).toList == [40]) = false := by rw [ht, ByteArray.toList_eq]; simp [hc.2.1]
  have e3 : ((textOf s x).toList == [35]) = false := by rw [ht, ByteArray.toList_eq]; simp [hc.2.2]
  rw [readF, hu]
  dsimp only
  rw [e1, e2, e3, if_neg (by decide), if_neg (by decide), if_neg (by decide), if_pos hk]
theorem un_neg {s : ByteArray} {L : List (Nat × Tok)} {e f nest i : Nat} {x : Nat × Tok} (h : L[i]? = some x) (ht : textOf s x = ⟨#[45]⟩) :
    readF s L e (f + 1) .un nest i = if nest = 16 then .stop x.1 12 else match readF s L e f .un (nest + 1) (i + 1) with
      | .ok l j => .ok (l ++ [{ zcd with op := 9 }]) j
      | r => r := by
  have e1 : ((textOf s x).toList == [45]) = true := by rw [ht, ByteArray.toList_eq]; decide
  have hu : takeB (unaryB s) L i = some x := take_at h (by unfold unaryB; rw [e1]; rfl)
  rw [readF, hu]
  dsimp only
  rw [e1, if_pos rfl]
  by_cases hn : nest = 16
  · rw [if_pos hn, if_pos hn]
  · rw [if_neg hn, if_neg hn]
    cases readF s L e f .un (nest + 1) (i + 1) <;> rfl
theorem un_paren {s : ByteArray} {L : List (Nat × Tok)} {e f nest i : Nat} {x : Nat × Tok} (h : L[i]? = some x) (ht : textOf s x = ⟨#[40]⟩) :
    readF s L e (f + 1) .un nest i = if nest = 16 then .stop x.1 12 else match readF s L e f .su (nest + 1) (i + 1) with
      | .ok l j => if hasB s L shut j then .ok l (j + 1) else .stop (placeE L e j) 11
      | r => r := by
  have e1 : ((textOf s x).toList == [45]) = false := by rw [ht, ByteArray.toList_eq]; decide
  have e2 : ((textOf s x).toList == [40]) = true := by rw [ht, ByteArray.toList_eq]; decide
  have hu : takeB (unaryB s) L i = some x := take_at h (by unfold unaryB; rw [e1, e2]; rfl)
  rw [readF, hu]
  dsimp only
  rw [e1, e2, if_neg (by decide), if_pos rfl]
  by_cases hn : nest = 16
  · rw [if_pos hn, if_pos hn]
  · rw [if_neg hn, if_neg hn]
    cases readF s L e f .su (nest + 1) (i + 1) <;> rfl
theorem su_ok {s : ByteArray} {L : List (Nat × Tok)} {e f nest i j : Nat} {l : List CD} (h : readF s L e (f + 1) .un nest i = .ok l j) (ho : opAt s L j = 0) : readF s L e (f + 3) .su nest i = .ok l j := by
  have hp : readF s L e (f + 2) .pr nest i = .ok l j := by
    rw [readF, h]
    exact lp_end ho
  rw [readF, hp]
  exact lp_end ho
theorem su_stop {s : ByteArray} {L : List (Nat × Tok)} {e f nest i a r : Nat} (h : readF s L e f .un nest i = .stop a r) : readF s L e (f + 2) .su nest i = .stop a r := by
  have hp : readF s L e (f + 1) .pr nest i = .stop a r := by rw [readF, h]
  rw [readF, hp]
theorem cnt_drop {bs : List Bool} {a : Nat} {b : Bool} (h : bs[a]? = some b) : cntN (bs.drop a) = cntN (bs.drop (a + 1)) + (if b then 1 else 0) := by
  obtain ⟨ha, h⟩ := List.getElem?_eq_some_iff.1 h
  rw [List.drop_eq_getElem_cons ha, h]
  unfold cntN
  cases b <;> simp
theorem cnt_le (bs : List Bool) (a : Nat) : cntN (bs.drop a) ≤ cntN bs := by
  unfold cntN
  exact List.Sublist.length_le ((List.drop_sublist a bs).filter id)
theorem shut_op {bs : List Bool} {j : Nat} (h : j < cntN bs) : opAt (nestT bs) (LN bs) (5 + bs.length + j) = 0 := op_zero (lk_shut h) (by rw [tx_shut h]; kernel_rfl)
theorem un_ok (bs : List Bool) (h16 : bs.length ≤ 16) (e : Nat) : ∀ (k a F : Nat), a + k = bs.length → 3 * k + 1 ≤ F → ∃ l, readF (nestT bs) (LN bs) e F .un a (4 + a) = .ok l (5 + bs.length + cntN (bs.drop a))
  | 0, a, F, hk, hF => by
    obtain ⟨f, rfl⟩ : ∃ f, F = f + 1 := ⟨F - 1, by omega⟩
    obtain rfl : a = bs.length := by omega
    refine ⟨[{ zcd with op := 6, n := ((1 : Nat) : Int) }], (read_one lk_one (tx_one bs) (by decide) rfl).trans ?_⟩
    rw [List.drop_length, show cntN [] = 0 from rfl, show 4 + bs.length + 1 = 5 + bs.length + 0 by omega]
  | k + 1, a, F, hk, hF => by
    obtain ⟨f, rfl⟩ : ∃ f, F = f + 4 := ⟨F - 4, by omega⟩
    obtain ⟨b, hb⟩ : ∃ b, bs[a]? = some b := ⟨_, List.getElem?_eq_getElem (by omega)⟩
    have hcd := cnt_drop hb
    have hcl := cnt_le bs a
    cases b with
    | false =>
      obtain ⟨l, hl⟩ := un_ok bs h16 e k (a + 1) (f + 3) (by omega) (by omega)
      rw [← Nat.add_assoc] at hl
      refine ⟨l ++ [{ zcd with op := 9 }], ?_⟩
      rw [un_neg (lk_sign (by omega)) (tx_sign hb), if_neg (by omega), hl, hcd]
      rfl
    | true =>
      obtain ⟨l, hl⟩ := un_ok bs h16 e k (a + 1) (f + 1) (by omega) (by omega)
      rw [← Nat.add_assoc] at hl
      simp only [if_true] at hcd
      have hlt : cntN (bs.drop (a + 1)) < cntN bs := by omega
      refine ⟨l, ?_⟩
      rw [un_paren (lk_sign (by omega)) (tx_sign hb), if_neg (by omega), su_ok hl (shut_op hlt)]
      dsimp only
      rw [has_at (lk_shut hlt) (tx_shut hlt), if_pos rfl, hcd]
      rfl
theorem un_no (bs : List Bool) (h16 : 16 < bs.length) (e : Nat) : ∀ (k a F : Nat), a + k = 16 → 3 * k + 1 ≤ F → readF (nestT bs) (LN bs) e F .un a (4 + a) = .stop 30 12
  | 0, a, F, hk, hF => by
    obtain ⟨f, rfl⟩ : ∃ f, F = f + 1 := ⟨F - 1, by omega⟩
    obtain rfl : a = 16 := by omega
    obtain ⟨b, hb⟩ : ∃ b, bs[16]? = some b := ⟨_, List.getElem?_eq_getElem h16⟩
    cases b with
    | false => rw [un_neg (lk_sign h16) (tx_sign hb), if_pos rfl]
    | true => rw [un_paren (lk_sign h16) (tx_sign hb), if_pos rfl]
  | k + 1, a, F, hk, hF => by
    obtain ⟨f, rfl⟩ : ∃ f, F = f + 4 := ⟨F - 4, by omega⟩
    obtain ⟨b, hb⟩ : ∃ b, bs[a]? = some b := ⟨_, List.getElem?_eq_getElem (by omega)⟩
    cases b with
    | false =>
      have hl := un_no bs h16 e k (a + 1) (f + 3) (by omega) (by omega)
      rw [← Nat.add_assoc] at hl
      rw [un_neg (lk_sign (by omega)) (tx_sign hb), if_neg (by omega), hl]
    | true =>
      have hl := un_no bs h16 e k (a + 1) (f + 1) (by omega) (by omega)
      rw [← Nat.add_assoc] at hl
      rw [un_paren (lk_sign (by omega)) (tx_sign hb), if_neg (by omega), su_stop hl]
end Go.Proofs.YtadogobdlcionaaDoor
namespace Go.Proofs.YtadogobdlcionaaDoor
open Go.ChangeShapes Go.WideShapes Go.ChangeAt Go.RowKit Go.Shelf
set_option linter.unusedVariables false
theorem tx_head (bs : List Bool) (p len kd n0 : Nat) (h : p + len ≤ 14) : textOf (nestT bs) (p, ⟨kd, len, n0⟩) = ⟨((hdN.drop p).take len).toArray⟩ := by
  rw [nest_eq, text_of]
  have : ((resN bs).drop p).take len = (hdN.drop p).take len := by
    unfold resN
    rw [List.drop_append_of_le_length (by show p ≤ 14; omega), List.take_append_of_le_length (by rw [List.length_drop]; show len ≤ 14 - p; omega)]
  show (⟨(((resN bs).drop p).take len).toArray⟩ : ByteArray) = _
  rw [this]
theorem nest_elems (bs : List Bool) (e : Nat) : elemsB (nestT bs) (LN bs) e 1 = .ok [⟨0, ⟨#[97]⟩, false, false⟩] 3 := by
  have t1 : hasB (nestT bs) (LN bs) bang 1 = false := has_not (lk_head (by decide)) (by rw [tx_head bs 4 1 _ _ (by decide)]; decide)
  have t2 : hasB (nestT bs) (LN bs) plus 2 = false := has_not (lk_head (by decide)) (by rw [tx_head bs 6 1 _ _ (by decide)]; decide)
  have t3 : hasB (nestT bs) (LN bs) commaT 3 = false := has_not (lk_head (by decide)) (by rw [tx_head bs 8 5 _ _ (by decide)]; decide)
  have k1 : takeB (fun x => decide (x.2.kind = 2)) (LN bs) 1 = some (4, ⟨2, 1, 0⟩) := take_at (lk_head (by decide)) rfl
  have k2 : takeB (nameB (nestT bs)) (LN bs) 2 = some (6, ⟨1, 1, 0⟩) := take_at (lk_head (by decide)) (by unfold nameB; rw [tx_head bs 6 1 _ _ (by decide)]; kernel_rfl)
  have el : elemB (nestT bs) (LN bs) e 1 = .ok ⟨0, ⟨#[97]⟩, false, false⟩ 3 := by
    unfold elemB skipB'
    rw [t1]
    simp only [Bool.false_eq_true, if_false]
    rw [k1]
    dsimp only
    rw [t2]
    simp only [Bool.false_eq_true, if_false]
    rw [k2]
    dsimp only
    rw [tx_head bs 6 1 _ _ (by decide)]
    rfl
  unfold elemsB
  rw [el]
  show elemsF _ _ _ (_ + 1) 3 _ = _
  rw [elemsF, if_neg (by rw [t3]; decide)]
theorem nest_where (bs : List Bool) : hasB (nestT bs) (LN bs) whereT 3 = true := has_at (lk_head (by decide)) (by rw [tx_head bs 8 5 _ _ (by decide)]; rfl)
theorem nest_seq (bs : List Bool) : hasB (nestT bs) (LN bs) seqT 0 = true := has_at (lk_head (by decide)) (by rw [tx_head bs 0 3 _ _ (by decide)]; rfl)
theorem nest_size (bs : List Bool) : (nestT bs).size = 28 + bs.length + cntN bs := by
  rw [nest_eq, size_of]
  unfold resN
  simp only [List.length_append, List.length_cons, preN_len, post_len]
  show 14 + (bs.length + (cntN bs + 13 + 1)) = _
  omega
theorem nest_end (bs : List Bool) : endB (LN bs) = 28 + bs.length + cntN bs := by
  have : LN bs = ([(0, ⟨1, 3, 0⟩), (4, ⟨2, 1, 0⟩), (6, ⟨1, 1, 0⟩), (8, ⟨1, 5, 0⟩)] ++ (sgs 14 bs.length ++ ((14 + bs.length, ⟨3, 1, 1⟩) :: (sgs (15 + bs.length) (cntN bs) ++ [(15 + bs.length + cntN bs + 1, ⟨4, 1, 0⟩), (15 + bs.length + cntN bs + 3, ⟨3, 1, 0⟩), (15 + bs.length + cntN bs + 5, ⟨1, 6, 0⟩)])))) ++ [(15 + bs.length + cntN bs + 12, ⟨3, 1, 3⟩)] := by
    unfold LN toksN
    simp
  rw [this, endB_snoc]
  show 15 + bs.length + cntN bs + 12 + 1 = _
  omega
theorem cnt_le' (bs : List Bool) : cntN bs ≤ bs.length := by
  unfold cntN
  exact List.length_filter_le _ _
/-- What Parse tells, by its query's reading. -/
theorem nest_parse (bs : List Bool) (h : bs.length ≤ 30) : parseB (nestT bs) = match queryB (nestT bs) (LN bs) (nestT bs).size with
      | .ok q _ => (q, (nestT bs).size, 0)
      | .stop a r => (zq, a, r)
      | .out => (zq, 0, 0) := by
  have hc := cnt_le' bs
  have hl : (LN bs).length ≤ 200 := by rw [toksN_len]; omega
  unfold parseB
  rw [nest_list, nest_toks, List.getElem?_eq_none hl]
  dsimp only
  rw [if_neg (by
    show ¬ skipB (endB (LN bs)) (resN bs) < _
    rw [nest_end, nest_size]
    unfold skipB
    omega)]
  generalize queryB (nestT bs) (toksN bs.length (cntN bs)) (nestT bs).size = r
  cases r <;> rfl
theorem nest_no (bs : List Bool) (h16 : 16 < bs.length) (h30 : bs.length ≤ 30) : parseB (nestT bs) = (zq, 30, 12) := by
  rw [nest_parse bs h30]
  have hs : sumB (nestT bs) (LN bs) (nestT bs).size 0 4 = .stop 30 12 := by
    unfold sumB
    rw [show 3 * (LN bs).length + 3 = 3 * (LN bs).length + 1 + 2 from rfl]
    exact su_stop (un_no bs h16 _ 16 0 _ rfl (by have h9 : (LN bs).length = _ := toksN_len bs.length (cntN bs); omega))
  have hq : queryB (nestT bs) (LN bs) (nestT bs).size = .stop 30 12 := by
    unfold queryB
    rw [if_pos (nest_seq bs), nest_elems]
    simp only [PA.bind]
    unfold condsB
    rw [if_pos (nest_where bs)]
    unfold condB
    rw [hs]
    rfl
  rw [hq]
theorem nest_ok (bs : List Bool) (h16 : bs.length ≤ 16) : ∃ q, parseB (nestT bs) = (q, (nestT bs).size, 0) ∧ q.conds.length = 1 := by
  rw [nest_parse bs (by omega)]
  obtain ⟨l, hl⟩ := un_ok bs h16 (nestT bs).size bs.length 0 (3 * (LN bs).length + 1) (by omega) (by have h9 : (LN bs).length = _ := toksN_len bs.length (cntN bs); omega)
  rw [List.drop_zero] at hl
  have q0 : (LN bs)[5 + bs.length + cntN bs + 0]? = some (15 + bs.length + cntN bs + 1, ⟨4, 1, 0⟩) := lk_tail
  have q1 : (LN bs)[5 + bs.length + cntN bs + 1]? = some (15 + bs.length + cntN bs + 3, ⟨3, 1, 0⟩) := lk_tail
  have q2 : (LN bs)[5 + bs.length + cntN bs + 2]? = some (15 + bs.length + cntN bs + 5, ⟨1, 6, 0⟩) := lk_tail
  have q3 : (LN bs)[5 + bs.length + cntN bs + 3]? = some (15 + bs.length + cntN bs + 12, ⟨3, 1, 3⟩) := lk_tail
  have q4 : (LN bs)[5 + bs.length + cntN bs + 4]? = none := lk_tail
  have x0 : textOf (nestT bs) (15 + bs.length + cntN bs + 1, ⟨4, 1, 0⟩) = ⟨#[61]⟩ := tx_tail bs 1 1 _ _
  have x1 : textOf (nestT bs) (15 + bs.length + cntN bs + 3, ⟨3, 1, 0⟩) = ⟨#[48]⟩ := tx_tail bs 3 1 _ _
  have x2 : textOf (nestT bs) (15 + bs.length + cntN bs + 5, ⟨1, 6, 0⟩) = withinT := tx_tail bs 5 6 _ _
  rw [Nat.add_zero] at q0
  have s1 : sumB (nestT bs) (LN bs) (nestT bs).size 0 4 = .ok l (5 + bs.length + cntN bs) := su_ok hl (op_zero q0 (by rw [x0]; kernel_rfl))
  have s2 : sumB (nestT bs) (LN bs) (nestT bs).size 0 (5 + bs.length + cntN bs + 1) = .ok [{ zcd with op := 6, n := ((0 : Nat) : Int) }] (5 + bs.length + cntN bs + 1 + 1) :=
    su_ok (read_one q1 x1 (by decide) rfl) (op_zero q2 (by rw [x2]; kernel_rfl))
  have k0 : takeB (inB holdsT (nestT bs)) (LN bs) (5 + bs.length + cntN bs) = some (15 + bs.length + cntN bs + 1, ⟨4, 1, 0⟩) := take_at q0 (by unfold inB; rw [x0]; decide)
  have cn : condB (nestT bs) (LN bs) (nestT bs).size 0 4 = .ok ⟨1, l, [{ zcd with op := 6, n := ((0 : Nat) : Int) }]⟩ (5 + bs.length + cntN bs + 2) := by
    unfold condB
    rw [s1]
    dsimp only
    rw [k0]
    dsimp only
    rw [s2, x0]
    rfl
  have hq : ∃ q, queryB (nestT bs) (LN bs) (nestT bs).size = .ok q (5 + bs.length + cntN bs + 4) ∧ q.conds.length = 1 := by
    refine ⟨⟨[⟨0, ⟨#[97]⟩, false, false⟩], [⟨1, l, [{ zcd with op := 6, n := ((0 : Nat) : Int) }]⟩], 3, false⟩, ?_, rfl⟩
    unfold queryB
    rw [if_pos (nest_seq bs), nest_elems]
    simp only [PA.bind]
    unfold condsB
    rw [if_pos (nest_where bs), cn]
    simp only [PA.bind]
    rw [condsF, if_neg (by rw [has_not q2 (by rw [x2]; decide)]; decide)]
    dsimp only
    unfold tailB
    rw [if_pos (has_at q2 x2), show 5 + bs.length + cntN bs + 2 + 1 = 5 + bs.length + cntN bs + 3 from rfl, take_at q3 rfl]
    dsimp only
    rw [show 5 + bs.length + cntN bs + 2 + 2 = 5 + bs.length + cntN bs + 4 from rfl, if_neg (by rw [has_none' q4]; decide)]
    unfold restB
    rw [if_neg (by rw [toksN_len]; omega)]
  obtain ⟨q, hq, hq1⟩ := hq
  exact ⟨q, by rw [hq], hq1⟩
theorem nest_is (w : World) (hE : ErrAt w) (hT : TabAt w) (m b : Int) : Calls Tryd.prog 3 #[.int .i64 m, .int .i64 b] w fun y w' => y = .returned (.bool true) ∧ Turn (fun _ => False) w w' := nest_walk nest_ok nest_no w hE hT m b
end Go.Proofs.YtadogobdlcionaaDoor
