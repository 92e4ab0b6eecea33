/-
  Elements and conditions: what was read is printed, and read the same.
-/
import Derived.Test.YtadogobdlcionaaGreatDoorKau
set_option linter.unusedSimpArgs false
namespace Go.Proofs.YtadogobdlcionaaGreatDoor
open Go.ChangeShapes Go.WideShapes Go.ChangeAt Go.RowKit Go.Shelf
set_option linter.unusedVariables false
theorem take_of_app {α : Type} (l : List α) (n m : Nat) (h : n ≤ m) : (l.take m).take n = l.take n := by rw [List.take_take, Nat.min_eq_left h]
/-- Each token that was found is found by its own text. -/
theorem find_good {l : List UInt8} {t : Tok} (h : findB l = some t) : GoodA ⟨t.kind, ⟨(l.take t.len).toArray⟩, t.n⟩ := by
  cases l with
  | nil => simp [findB] at h
  | cons c r =>
    simp only [findB] at h
    split at h
    · next hs =>
      simp at h
      subst h
      have hw : isWord c = true := by simp [isWord, hs]
      have hx : (c :: r).take (spanB isWord (c :: r)) = c :: r.take (spanB isWord r) := by simp [spanB, hw]
      refine word_good (c := c) (r := r.take (spanB isWord r)) (by show (List.take _ _).toArray.toList = _; rw [hx]) hs (fun d hd => ?_)
      obtain ⟨j, hj⟩ := List.mem_iff_getElem?.1 hd
      have hjl := (List.getElem?_eq_some_iff.1 hj).1
      rw [List.length_take] at hjl
      rw [List.getElem?_take_of_lt (by omega)] at hj
      exact spanB_all isWord r j d (by omega) hj
    · next hs =>
      split at h
      · next hcap =>
        split at h
        · cases h
        · simp at h
          subst h
          have n1 : isSmall c = false := by simp [isSmall]; omega
          refine ⟨⟨c, [], rfl, by simp [isBlank]; omega⟩, fun m hm => ?_⟩
          show findB (c :: m) = _
          have hb : headB isBoth m = false := by
            cases m with
            | nil => rfl
            | cons d q => exact (hm d q rfl).1 (by show (2 : Nat) ≠ 4; decide)
          rw [findB, if_neg (by rw [n1]; decide), if_pos hcap, if_neg (by rw [hb]; decide)]
          rfl
      · next hcap =>
        split at h
        · next hdx =>
          split at h
          · next hv =>
            simp at h
            subst h
            have hb : 48 ≤ c.toNat ∧ c.toNat ≤ 57 := by simpa [isDigit] using hdx
            have n1 : isSmall c = false := by simp [isSmall]; omega
            have hx : (c :: r).take (spanB isDigit (c :: r)) = c :: r.take (spanB isDigit r) := by simp [spanB, hdx]
            rw [hx] at hv
            have all : ∀ d ∈ c :: r.take (spanB isDigit r), isDigit d = true := by
              intro d hd
              rcases List.mem_cons.1 hd with rfl | hd
              · exact hdx
              · obtain ⟨j, hj⟩ := List.mem_iff_getElem?.1 hd
                have hjl := (List.getElem?_eq_some_iff.1 hj).1
                rw [List.length_take] at hjl
                rw [List.getElem?_take_of_lt (by omega)] at hj
                exact spanB_all isDigit r j d (by omega) hj
            rw [hx]
            refine ⟨⟨c, r.take (spanB isDigit r), rfl, digit_blank hdx⟩, fun m hm => ?_⟩
            have sp := span_good (p := isDigit) (m := m) all (fun d q e => (word_both ((hm d q e).1 (by show (3 : Nat) ≠ 4; decide))).2.1)
            show findB (c :: r.take (spanB isDigit r) ++ m) = some ⟨3, (c :: r.take (spanB isDigit r)).length, _⟩
            rw [List.cons_append] at sp ⊢
            rw [findB, if_neg (by rw [n1]; decide), if_neg hcap, if_pos hdx, sp]
            rw [show c :: (r.take (spanB isDigit r) ++ m) = (c :: r.take (spanB isDigit r)) ++ m from rfl, List.take_left, List.drop_left, if_pos]
            refine ⟨hv.1, ?_⟩
            cases m with
            | nil => rfl
            | cons d q => exact (word_both ((hm d q rfl).1 (by show (3 : Nat) ≠ 4; decide))).2.2
          · cases h
        · next hdx =>
          split at h
          · cases h
          · next hsg =>
            simp at h
            subst h
            have n1 : isSmall c = false := by simpa using hs
            have n3 : isDigit c = false := by simpa using hdx
            have tail : ∀ m, signB (c :: m) = 1 → findB (c :: m) = some ⟨4, 1, 0⟩ := fun m q => by
              rw [findB, if_neg (by rw [n1]; decide), if_neg hcap, if_neg (by rw [n3]; decide), q]
              rfl
            cases r with
            | nil =>
              have hc : isSign c = true := by
                cases hq : isSign c with
                | true => rfl
                | false => exfalso; apply hsg; simp [signB, hq]
              have s1 : signB [c] = 1 := by simp [signB, hc]
              have hbl : isBlank c = false := by
                cases hq : isBlank c with
                | false => rfl
                | true =>
                  exfalso
                  have : c.toNat = 32 ∨ c.toNat = 9 ∨ c.toNat = 10 := by simpa [isBlank, or_assoc] using hq
                  unfold isSign at hc
                  rcases this with q | q | q <;> (rw [q] at hc; revert hc; decide)
              rw [s1]
              refine ⟨⟨c, [], rfl, hbl⟩, fun m hm => tail m ?_⟩
              cases m with
              | nil => exact s1
              | cons d q =>
                have := (hm d q rfl).2 rfl
                simp only [signB]
                rw [if_neg (fun z => this z.1), if_pos hc]
            | cons d r =>
              by_cases h2 : d.toNat = 61 ∧ (c.toNat = 33 ∨ c.toNat = 60 ∨ c.toNat = 62)
              · have s2 : ∀ m, signB (c :: d :: m) = 2 := fun m => by simp only [signB]; rw [if_pos h2]
                rw [s2]
                refine ⟨⟨c, [d], rfl, by have := h2.2; simp [isBlank]; omega⟩, fun m hm => ?_⟩
                show findB (c :: d :: m) = some ⟨4, 2, 0⟩
                rw [findB, if_neg (by rw [n1]; decide), if_neg hcap, if_neg (by rw [n3]; decide), s2]
                rfl
              · have hc : isSign c = true := by
                  cases hq : isSign c with
                  | true => rfl
                  | false => exfalso; apply hsg; simp only [signB]; rw [if_neg h2, if_neg (by rw [hq]; decide)]
                have s1 : signB (c :: d :: r) = 1 := by simp only [signB]; rw [if_neg h2, if_pos hc]
                have hbl : isBlank c = false := by
                  cases hq : isBlank c with
                  | false => rfl
                  | true =>
                    exfalso
                    have : c.toNat = 32 ∨ c.toNat = 9 ∨ c.toNat = 10 := by simpa [isBlank, or_assoc] using hq
                    unfold isSign at hc
                    rcases this with q | q | q <;> (rw [q] at hc; revert hc; decide)
                rw [s1]
                refine ⟨⟨c, [], rfl, hbl⟩, fun m hm => tail m ?_⟩
                cases m with
                | nil => simp [signB, hc]
                | cons d q =>
                  have := (hm d q rfl).2 rfl
                  simp only [signB]
                  rw [if_neg (fun z => this z.1), if_pos hc]
theorem toks_good (s : ByteArray) : ∀ a ∈ abL s (toksB s.data.toList), GoodA a ∧ a.t.size ≤ s.size := by
  intro a ha
  unfold abL at ha
  obtain ⟨x, hx, rfl⟩ := List.mem_map.1 ha
  have h := (eachB_mem _ _ _ x hx).2
  refine ⟨?_, ?_⟩
  · rw [← abl_ab]
    exact find_good h
  · show (textOf s x).size ≤ s.size
    unfold textOf
    rw [ByteArray.size_extract]
    omega
theorem D.clen {lv d : Nat} {ts : List AT} {c : List CD} (h : D lv d ts c) : c.length ≤ ts.length := by
  induction h with
  | num a b => simp
  | cnt a b => simp
  | fld a b c d e => simp
  | neg a _ ih => simp; exact ih
  | par a _ b ih => simp; omega
  | p0 _ ih => exact ih
  | p1 _ a _ ih ih' => simp; omega
  | s0 _ ih => exact ih
  | s1 _ a _ ih ih' => simp; omega
theorem find_type {l : List UInt8} {k n : Nat} (h : findB l = some ⟨2, k, n⟩) : n < 8 := by
  cases l with
  | nil => simp [findB] at h
  | cons c r =>
    simp only [findB] at h
    split at h
    · simp at h
    · split at h
      · next q =>
        split at h
        · cases h
        · simp at h
          omega
      · split at h
        · split at h
          · simp at h
          · cases h
        · split at h
          · cases h
          · simp at h
theorem good_type {a : AT} (h : GoodA a) (hk : a.k = 2) : a.n < 8 := by
  have := h.f [] (Fol.nil _)
  rw [List.append_nil, hk] at this
  exact find_type this
/-- A type's token. -/
def tyA (k : Nat) : AT := ⟨2, ⟨#[UInt8.ofNat (65 + k)]⟩, k⟩
theorem ty_good {k : Nat} (h : k < 8) : GoodA (tyA k) := by
  have : k = 0 ∨ k = 1 ∨ k = 2 ∨ k = 3 ∨ k = 4 ∨ k = 5 ∨ k = 6 ∨ k = 7 := by omega
  have key : ∀ c : UInt8, 65 ≤ c.toNat ∧ c.toNat < 73 → isSmall c = false → findB [c] = some ⟨2, 1, c.toNat - 65⟩ := fun c hc hs => by
    rw [findB, if_neg (by rw [hs]; decide), if_pos hc]
    rfl
  rcases this with rfl | rfl | rfl | rfl | rfl | rfl | rfl | rfl <;> exact find_good (l := [_]) (key _ (by decide) (by decide))
/-- An element's items. -/
def elR (x : EL) : List IT := (if x.not then [some (sg 33)] else []) ++ (some (tyA x.type) :: ((if x.plus then [some (sg 43)] else []) ++ [none, some ⟨1, x.var, 0⟩]))
structure ElG (x : EL) : Prop where

  ty : x.type < 8
  g : GoodA ⟨1, x.var, 0⟩
  nm : nmA ⟨1, x.var, 0⟩ = true
theorem el_bytes (x : EL) : bytesR (elR x) = elT x := by
  unfold elR elT
  rw [bytesR_append]
  show _ ++ ([UInt8.ofNat (65 + x.type)] ++ bytesR _) = _
  rw [bytesR_append]
  cases x.not <;> cases x.plus <;> simp [bytesR, sg]
theorem ty_61 (k : Nat) (h : k < 8) : ∀ c r, (tyA k).t.data.toList = c :: r → c.toNat ≠ 61 := by
  intro c r e
  have e : [UInt8.ofNat (65 + k)] = c :: r := e
  injection e with e _
  subst e
  rw [UInt8.toNat_ofNat']
  omega
theorem ty_head (k : Nat) (h : k < 8) (m : List UInt8) : Fol 4 ((tyA k).t.data.toList ++ m) := by
  intro c r e
  refine ⟨fun q => absurd rfl q, fun _ => ty_61 k h c [] ?_⟩
  have e : UInt8.ofNat (65 + k) :: m = c :: r := e
  injection e with e _
  subst e
  rfl
theorem el_neat {x : EL} (h : ElG x) : Neat (elR x) := by
  have n0 : ∀ R2, Chain R2 → Neut (bytesR R2) → Chain (none :: some ⟨1, x.var, 0⟩ :: R2) := fun R2 hc hn => ⟨h.g, hn.fol _, hc⟩
  have n1 : ∀ R2, Chain R2 → Neut (bytesR R2) → Chain (some (tyA x.type) :: ((if x.plus then [some (sg 43)] else []) ++ [none, some ⟨1, x.var, 0⟩]) ++ R2) := fun R2 hc hn => by
    cases x.plus with
    | false => exact ⟨ty_good h.ty, (neut32 _).fol _, n0 R2 hc hn⟩
    | true =>
      refine ⟨ty_good h.ty, fun c r e => ?_, ⟨sg_good (by decide), (neut32 _).fol _, n0 R2 hc hn⟩⟩
      have e : 43 :: _ = c :: r := e
      injection e with e _
      subst e
      exact ⟨fun _ => by decide, fun q => absurd q (by show ¬ (2 : Nat) = 4; decide)⟩
  unfold elR
  cases x.not with
  | false =>
    refine ⟨⟨UInt8.ofNat (65 + x.type), _, rfl, ty_61 _ h.ty _ [] rfl⟩, fun R2 hc hn => n1 R2 hc hn⟩
  | true =>
    refine ⟨⟨33, _, rfl, by decide⟩, fun R2 hc hn => ⟨sg_good (by decide), ty_head _ h.ty _, n1 R2 hc hn⟩⟩
section
variable {s : ByteArray} {L : List (Nat × Tok)} {e : Nat}
theorem has_no {x : Nat × Tok} {i : Nat} {t : ByteArray} (hx : L[i]? = some x) (h : (ab s x).t ≠ t) : hasB s L t i = false := by
  unfold hasB
  rw [hx]
  exact decide_eq_false h
theorem has_out {i : Nat} {t : ByteArray} (hx : L[i]? = none) : hasB s L t i = false := by unfold hasB; rw [hx]
/-- What an element was read of. -/
theorem elem_sound {M : Nat} (hg : ∀ a ∈ abL s L, GoodA a ∧ a.t.size ≤ M) {i j : Nat} {x : EL} (h : elemB s L e i = .ok x j) : (ElG x ∧ x.var.size ≤ M) ∧ j = i + (toksR (elR x)).length := by
  unfold elemB at h
  cases h1 : takeB (fun x => decide (x.2.kind = 2)) L (skipB' s L bang i) with
  | none => rw [h1] at h; cases h
  | some a =>
    rw [h1] at h
    dsimp only at h
    cases h2 : takeB (nameB s) L (skipB' s L plus (skipB' s L bang i + 1)) with
    | none => rw [h2] at h; cases h
    | some b =>
      rw [h2] at h
      injection h with hx hj
      obtain ⟨la, ka⟩ := take_some' h1
      obtain ⟨lb, kb⟩ := take_some' h2
      have ka : a.2.kind = 2 := by simpa using ka
      have ga := (hg _ (List.mem_of_getElem? (at_ab (s := s) la))).1
      obtain ⟨gb, gz⟩ := hg _ (List.mem_of_getElem? (at_ab (s := s) lb))
      have nb : nmA (ab s b) = true := kb
      have k1 := nm_k nb
      obtain ⟨n0, -⟩ := good_name gb k1
      have eb : ab s b = ⟨1, textOf s b, 0⟩ := by
        have : ab s b = ⟨b.2.kind, textOf s b, b.2.n⟩ := rfl
        have k1 : b.2.kind = 1 := k1
        have n0 : b.2.n = 0 := n0
        rw [this, k1, n0]
      rw [eb] at gb nb
      subst hx
      refine ⟨⟨⟨good_type ga ka, gb, nb⟩, gz⟩, ?_⟩
      rw [← hj]
      unfold elR
      dsimp only
      have e1 : ∀ b : Bool, toksR (if b = true then [some (sg 33)] else []) = if b then [sg 33] else [] := by intro b; cases b <;> rfl
      have e2 : ∀ b : Bool, toksR (if b = true then [some (sg 43)] else []) = if b then [sg 43] else [] := by intro b; cases b <;> rfl
      rw [toksR_append]
      show _ = i + (_ ++ _ :: toksR _).length
      rw [toksR_append, e1, e2]
      simp only [toksR, List.length_append, List.length_cons, List.length_nil]
      unfold skipB'
      cases hasB s L bang i <;> simp <;> split <;> simp <;> omega
theorem elem_reads {x : EL} (h : ElG x) {i : Nat} {rest : List AT} (hd : (abL s L).drop i = toksR (elR x) ++ rest) : elemB s L e i = .ok x (i + (toksR (elR x)).length) := by
  obtain ⟨-, c, r, ev, hs⟩ := good_name h.g rfl
  have nosg : ∀ d : UInt8, isSmall d = false → x.var ≠ ⟨#[d]⟩ := by
    intro d hd q
    have ev : x.var.data.toList = c :: r := ev
    rw [q] at ev
    injection ev with ev _
    subst ev
    rw [hd] at hs
    cases hs
  have tyn : (tyA x.type).t ≠ bang := by
    intro q
    have := h.ty
    have e : UInt8.ofNat (65 + x.type) = 33 := by
      have := congrArg (fun t => t.data.toList) q
      simpa [tyA] using this
    have := congrArg UInt8.toNat e
    rw [UInt8.toNat_ofNat'] at this
    have : (65 + x.type) % 256 = 33 := this
    omega
  -- from the type on
  have main : ∀ k, (abL s L).drop k = (tyA x.type :: ((if x.plus then [sg 43] else []) ++ [⟨1, x.var, 0⟩])) ++ rest → skipB' s L bang i = k → hasB s L bang i = x.not → elemB s L e i = .ok x (k + (if x.plus then 3 else 2)) := by
    intro k hk h1 h2
    obtain ⟨a, la, ea⟩ := ab_at (drop_at hk 0)
    rw [Nat.add_zero] at la
    have ka : a.2.kind = 2 := congrArg AT.k ea
    have na : a.2.n = x.type := congrArg AT.n ea
    have t1 : takeB (fun x => decide (x.2.kind = 2)) L k = some a := by unfold takeB; rw [la]; simp [ka]
    have key : ∀ m, skipB' s L plus (k + 1) = m → hasB s L plus (k + 1) = x.plus → (abL s L)[m]? = some ⟨1, x.var, 0⟩ → elemB s L e i = .ok x (m + 1) := by
      intro m h3 h4 h5
      obtain ⟨b, lb, eb⟩ := ab_at h5
      have tb : textOf s b = x.var := congrArg AT.t eb
      unfold elemB
      rw [h1, t1]
      dsimp only
      rw [h3, take_nm lb (by rw [eb]; exact h.nm)]
      dsimp only
      rw [tb, na, h2, h4]
    cases hp : x.plus with
    | false =>
      rw [hp] at hk key
      obtain ⟨b, lb, eb⟩ := ab_at (drop_at hk 1)
      have hb : hasB s L plus (k + 1) = false := has_no lb (by rw [eb]; exact nosg _ (by decide))
      have := key (k + 1) (by unfold skipB'; rw [hb]; rfl) hb (drop_at hk 1)
      exact this
    | true =>
      rw [hp] at hk key
      obtain ⟨b, lb, eb⟩ := ab_at (drop_at hk 1)
      have hb : hasB s L plus (k + 1) = true := has_at lb (by rw [eb]; rfl)
      have := key (k + 2) (by unfold skipB'; rw [hb]; rfl) hb (drop_at hk 2)
      exact this
  cases hn : x.not with
  | false =>
    have hd2 : (abL s L).drop i = (tyA x.type :: ((if x.plus then [sg 43] else []) ++ [⟨1, x.var, 0⟩])) ++ rest := by
      rw [hd]
      unfold elR
      rw [hn]
      cases x.plus <;> rfl
    obtain ⟨a, la, ea⟩ := ab_at (drop_at hd2 0)
    rw [Nat.add_zero] at la
    have hb : hasB s L bang i = false := has_no la (by rw [ea]; exact tyn)
    rw [main i hd2 (by unfold skipB'; rw [hb]; rfl) (by rw [hb, hn])]
    unfold elR
    rw [hn]
    cases x.plus <;> rfl
  | true =>
    have hd2 : (abL s L).drop i = sg 33 :: ((tyA x.type :: ((if x.plus then [sg 43] else []) ++ [⟨1, x.var, 0⟩])) ++ rest) := by
      rw [hd]
      unfold elR
      rw [hn]
      cases x.plus <;> rfl
    obtain ⟨a, la, ea⟩ := ab_at (drop_at hd2 0)
    rw [Nat.add_zero] at la
    have hb : hasB s L bang i = true := has_at la (by rw [ea]; rfl)
    have hd3 : (abL s L).drop (i + 1) = (tyA x.type :: ((if x.plus then [sg 43] else []) ++ [⟨1, x.var, 0⟩])) ++ rest := by rw [← List.drop_drop, hd2]; rfl
    rw [main (i + 1) hd3 (by unfold skipB'; rw [hb]; rfl) (by rw [hb, hn])]
    unfold elR
    rw [hn]
    cases x.plus <;> (show PA.ok _ _ = PA.ok _ _; congr 1)
end
/-- A comparison's token, by its number. -/
def hdA (o : Int) : AT := if o = 1 then sg 61 else if o = 2 then sg2 33 else if o = 3 then sg 60 else if o = 4 then sg2 60 else if o = 5 then sg 62 else sg2 62
theorem hd_is {o : Int} (h : 1 ≤ o ∧ o ≤ 6) : GoodA (hdA o) ∧ (hdA o).t = holdsT.getD (o - 1).toNat ⟨#[]⟩ ∧ 1 + idxI holdsT (hdA o).t = o ∧ holdsT.any (fun y => decide (y = (hdA o).t)) = true ∧ opA (hdA o) = 0 ∧ (hdA o).k = 4 := by
  have : o = 1 ∨ o = 2 ∨ o = 3 ∨ o = 4 ∨ o = 5 ∨ o = 6 := by omega
  rcases this with rfl | rfl | rfl | rfl | rfl | rfl
  · exact ⟨sg_good (by decide), rfl, by decide, by decide, by decide, rfl⟩
  · exact ⟨sg2_good (.inl rfl), rfl, by decide, by decide, by decide, rfl⟩
  · exact ⟨sg_good (by decide), rfl, by decide, by decide, by decide, rfl⟩
  · exact ⟨sg2_good (.inr (.inl rfl)), rfl, by decide, by decide, by decide, rfl⟩
  · exact ⟨sg_good (by decide), rfl, by decide, by decide, by decide, rfl⟩
  · exact ⟨sg2_good (.inr (.inr rfl)), rfl, by decide, by decide, by decide, rfl⟩
/-- Not a sign that reckons. -/
def noSign (q : List AT) : Prop := ∀ a r, q = a :: r → opA a = 0
theorem noSign.op {q : List AT} (h : noSign q) {lo hi : Int} (hl : 1 ≤ lo) : noOp lo hi q := fun a r e => by
  have := h a r e
  omega
/-- A condition, printed, is read the same. -/
structure CnG (M : Nat) (c : CN) (n : Nat) (R : List IT) : Prop where
  ln : c.left.length ≤ n ∧ c.right.length ≤ n
  fit : M ≤ 1000000 → (∀ d ∈ c.left, CdFit d) ∧ ∀ d ∈ c.right, CdFit d
  fl : (∀ ts, sumT c.left = some ts → (flat ts).length ≤ n * (M + 2)) ∧ ∀ ts, sumT c.right = some ts → (flat ts).length ≤ n * (M + 2)
  nt : Neat R
  by_ : bytesR R = cnT c
  ok : cnOk c = true
  le : (toksR R).length ≤ n
  rd : ∀ (s : ByteArray) (L : List (Nat × Tok)) (e i : Nat) (rest : List AT), (abL s L).drop i = toksR R ++ rest → noSign rest → condB s L e 0 i = .ok c (i + (toksR R).length)
theorem cn_of {M : Nat} {c : CN} {d d' : Nat} {tl tr : List AT} (hM : 20 ≤ M) (hl : D 0 d tl c.left) (hr : D 0 d' tr c.right) (hd : d ≤ 16) (hd' : d' ≤ 16) (gl : ∀ a ∈ tl, GoodA a ∧ a.t.size ≤ M) (gr : ∀ a ∈ tr, GoodA a ∧ a.t.size ≤ M) (ho : 1 ≤ c.op ∧ c.op ≤ 6) : ∃ R, CnG M c (tl.length + 1 + tr.length) R := by
  obtain ⟨P, A, sa, fa, na, da, la, za⟩ := sum_printed hM hl gl
  obtain ⟨Q, B, sb, fb, nb, db, lb, zb⟩ := sum_printed hM hr gr
  obtain ⟨h1, h2, h3, h4, h5, h6⟩ := hd_is ho
  have et : toksR (A ++ none :: some (hdA c.op) :: none :: B) = toksR A ++ (hdA c.op :: toksR B) := by rw [toksR_append]; rfl
  have hlen : ∀ k : Nat, k ≤ tl.length + 1 + tr.length → k * (M + 2) ≤ (tl.length + 1 + tr.length) * (M + 2) := fun k h => Nat.mul_le_mul_right _ h
  refine ⟨A ++ none :: some (hdA c.op) :: none :: B, ⟨?_, ?_⟩, fun h => ⟨(hl.fits h gl).1, (hr.fits h gr).1⟩, ⟨fun ts q => ?_, fun ts q => ?_⟩, ⟨?_, fun R3 hc3 hn => ?_⟩, ?_, ?_, ?_, ?_⟩
  · have := hl.clen; omega
  · have := hr.clen; omega
  · rw [sa] at q; injection q with q; subst q; rw [fa]; have := hlen (toksR A).length (by omega); omega
  · rw [sb] at q; injection q with q; subst q; rw [fb]; have := hlen (toksR B).length (by omega); omega
  · obtain ⟨x, r, ex, h61⟩ := na.hd
    exact ⟨x, r ++ bytesR (none :: some (hdA c.op) :: none :: B), by rw [bytesR_append, ex]; rfl, h61⟩
  · rw [List.append_assoc]
    exact na.ch _ ⟨h1, (neut32 _).fol _, nb.ch R3 hc3 hn⟩ (neut32 _)
  · unfold cnT
    rw [sa, sb, ← h2, bytesR_append]
    show _ ++ 32 :: ((hdA c.op).t.data.toList ++ 32 :: bytesR B) = flat P ++ [32] ++ _ ++ [32] ++ flat Q
    rw [fa, fb]
    simp
  · unfold cnOk
    rw [sa, sb]
    simp [ho]
  · rw [et, List.length_append, List.length_cons]
    omega
  · intro s L e i rest hdr hns
    rw [et] at hdr
    have hA : (abL s L).drop i = toksR A ++ (hdA c.op :: (toksR B ++ rest)) := by rw [hdr]; simp
    have nA : noSign (hdA c.op :: (toksR B ++ rest)) := fun a r e => by injection e with e _; subst e; exact h5
    have hh := drop_on hA
    have hB : (abL s L).drop (i + (toksR A).length + 1) = toksR B ++ rest := by rw [← List.drop_drop, hh]; rfl
    obtain ⟨x, lx, ex⟩ := ab_at (drop_at hh 0)
    rw [Nat.add_zero] at lx
    have tx : textOf s x = (hdA c.op).t := congrArg AT.t ex
    unfold condB
    rcases sum_reads (s := s) (L := L) (e := e) (nest := 0) da hA (nA.op (by decide)) (nA.op (by decide)) with q | ⟨a, -, q⟩
    · rw [q]
      dsimp only
      have tk : takeB (inB holdsT s) L (i + (toksR A).length) = some x := by
        unfold takeB
        rw [lx]
        have : inB holdsT s x = true := by unfold inB; rw [tx]; exact h4
        simp [this]
      rw [tk]
      dsimp only
      rcases sum_reads (s := s) (L := L) (e := e) (nest := 0) db hB (hns.op (by decide)) (hns.op (by decide)) with q | ⟨a, -, q⟩
      · rw [q]
        dsimp only
        rw [tx, h3, et, List.length_append, List.length_cons]
        rw [show i + (toksR A).length + 1 + (toksR B).length = i + ((toksR A).length + ((toksR B).length + 1)) by omega]
      · omega
    · omega
section
variable {s : ByteArray} {L : List (Nat × Tok)} {e : Nat}
theorem hold_num {t : ByteArray} (h : holdsT.any (fun y => decide (y = t)) = true) : 1 ≤ 1 + idxI holdsT t ∧ 1 + idxI holdsT t ≤ 6 := by
  obtain ⟨-, h1, h2⟩ := idx_get h
  have : (holdsT.length : Int) = 6 := rfl
  omega
theorem cond_sound {M : Nat} (hM : 20 ≤ M) (hg : ∀ a ∈ abL s L, GoodA a ∧ a.t.size ≤ M) {i j : Nat} {c : CN} (hi : i ≤ L.length) (h : condB s L e 0 i = .ok c j) : i ≤ j ∧ ∃ R, CnG M c (j - i) R := by
  have hle := cond_le h hi
  unfold condB at h
  cases h1 : sumB s L e 0 i with
  | out => rw [h1] at h; cases h
  | stop a r => rw [h1] at h; cases h
  | ok l k =>
    rw [h1] at h
    dsimp only at h
    cases h2 : takeB (inB holdsT s) L k with
    | none => rw [h2] at h; cases h
    | some y =>
      rw [h2] at h
      dsimp only at h
      cases h3 : sumB s L e 0 (k + 1) with
      | out => rw [h3] at h; cases h
      | stop a r => rw [h3] at h; cases h
      | ok r m =>
        rw [h3] at h
        injection h with hc hj
        obtain ⟨l1, d1⟩ := sum_sound (Nat.zero_le _) h1
        obtain ⟨l2, d2⟩ := sum_sound (Nat.zero_le _) h3
        obtain ⟨ly, ky⟩ := take_some' h2
        have hlen : (abL s L).length = L.length := by unfold abL; rw [List.length_map]
        have hk1 : k ≤ L.length := sum_le h1 hi
        have hk := take_lt h2
        have hm : m ≤ L.length := sum_le h3 (by omega)
        subst hj
        have := cn_of (c := c) hM (by rw [← hc]; exact d1) (by rw [← hc]; exact d2) (by omega) (by omega) (fun a ha => hg a (sl_mem ha)) (fun a ha => hg a (sl_mem ha)) (by rw [← hc]; exact hold_num ky)
        obtain ⟨R, G⟩ := this
        rw [sl_len (by omega), sl_len (by omega)] at G
        have e : k - i + 1 + (m - (k + 1)) = m - i := by omega
        rw [e] at G
        exact ⟨by omega, R, G⟩
end
end Go.Proofs.YtadogobdlcionaaGreatDoor
