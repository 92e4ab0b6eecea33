/-
  Both epochs in memory, between two calls: each call, first of the one, then of the other.
-/
import Derived.Test.YtibmimdlgbhdnaaRefP
import Derived.Test.YtibmimdlgbhdnaaNilWalk
namespace Go.Proofs.Ytibmimdlgbhdnaa
open Go.ChangeShapes Go.WideShapes Go.ChangeAt Go.RowKit
set_option linter.unusedVariables false

structure Lay (w0 : World) (x lb rb ab base : Nat) : Prop where
  xr : x ≠ rb
  xa : x ≠ ab
  lr : lb ≠ rb
  la : lb ≠ ab
  bx : x < base
  bl : lb < base
  br : rb < base
  ba : ab < base
  hx : w0.heap.size ≤ x
  hl : w0.heap.size ≤ lb
  hr : w0.heap.size ≤ rb
  ha : w0.heap.size ≤ ab
structure Jo (w0 : World) (x lb rb ab n cap base : Nat) (n1 : Int) (P1 : Nat → Int) (Q1 : Nat → List (Int × Int × Int)) (n2 : Int) (P2 : Nat → Int) (Q2 : Nat → List (Int × Int × Int)) (wr : World) : Prop where
  ex : ∃ V U, Epo wr x lb n base n1 P1 V Q1 ∧ RefE wr rb ab n cap base n2 P2 U Q2
  bel : Below w0.heap.size w0 wr
section
variable {w0 wr W : World} {x lb rb ab n cap base : Nat} {n1 n1' n2 n2' now : Int} {P P1 P1' P2 P2' : Nat → Int} {V V' U U' : Nat → Value} {Q Q1 Q1' Q2 Q2' : Nat → List (Int × Int × Int)}
theorem own_differ (L : Lay w0 x lb rb ab base) (h : Epo wr x lb n base n1 P1 V Q1) (hr : RefE wr rb ab n cap base n2 P2 U Q2) (k : Nat) (h1 : EpoOwn x lb n V k) (h2 : RefOwn rb ab n U k) : False := by
  have := L.xr; have := L.xa; have := L.lr; have := L.la; have := L.bx; have := L.bl; have := L.br; have := L.ba
  rcases h1 with rfl | rfl | ⟨a, ha, e⟩
  · rcases h2 with h2 | h2 | ⟨b, hb, e2⟩
    · omega
    · omega
    · have := hr.rowx hb e2
      omega
  · rcases h2 with h2 | h2 | ⟨b, hb, e2⟩
    · omega
    · omega
    · have := hr.rowx hb e2
      omega
  · have := h.rowx ha e
    rcases h2 with h2 | h2 | ⟨b, hb, e2⟩
    · omega
    · omega
    · rcases own_apart (h.rows a ha) (hr.rows b hb) (by decide) with q | q
      · rw [e] at q
        cases q
      · exact q (by rw [e, e2])
theorem Jo.prog (L : Lay w0 x lb rb ab base) (h : Epo wr x lb n base n1 P1 V Q1) (hr : RefE wr rb ab n cap base n2 P2 U Q2) (hb : Below w0.heap.size w0 wr) (T : Turn (EpoOwn x lb n V) wr W) (h' : Epo W x lb n base n1' P1' V' Q1') : Jo w0 x lb rb ab n cap base n1' P1' Q1' n2 P2 Q2 W :=
  ⟨⟨V', U, h', hr.keep T (fun k _ h1 h2 => own_differ L h hr k h2 h1)⟩, hb.trans (T.below (fun k hk => ⟨by have := hb.size; omega, fun e => by
    have := L.hx; have := L.hl; have := L.bx
    rcases e with rfl | rfl | ⟨a, ha, e⟩
    · omega
    · omega
    · have := h.rowx ha e
      omega⟩))⟩
theorem Jo.refl (L : Lay w0 x lb rb ab base) (h : Epo wr x lb n base n1 P1 V Q1) (hr : RefE wr rb ab n cap base n2 P2 U Q2) (hb : Below w0.heap.size w0 wr) (T : Turn (RefOwn rb ab n U) wr W) (h' : RefE W rb ab n cap base n2' P2' U' Q2') : Jo w0 x lb rb ab n cap base n1 P1 Q1 n2' P2' Q2' W :=
  ⟨⟨V, U', h.keep T (fun k _ h1 h2 => own_differ L h hr k h1 h2), h'⟩, hb.trans (T.below (fun k hk => ⟨by have := hb.size; omega, fun e => by
    have := L.hr; have := L.ha; have := L.br
    rcases e with rfl | rfl | ⟨a, ha, e⟩
    · omega
    · omega
    · have := hr.rowx ha e
      omega⟩))⟩
theorem Jo.same (h : Jo w0 x lb rb ab n cap base n1 P1 Q1 n2 P2 Q2 wr) (T : Turn (fun _ => False) wr W) : Jo w0 x lb rb ab n cap base n1 P1 Q1 n2 P2 Q2 W := by
  obtain ⟨⟨V, U, h1, h2⟩, hb⟩ := h
  exact ⟨⟨V, U, h1.keep T (fun _ _ _ => id), h2.same T⟩, hb.trans (T.below (fun k hk => ⟨by have := hb.size; omega, id⟩))⟩
def PairE (w0 : World) (x lb rb ab n cap base : Nat) (now : Int) (P : Nat → Int) (Q : Nat → List (Int × Int × Int)) (n' : Int) (P' : Nat → Int) (Q' : Nat → List (Int × Int × Int)) (wr : World) (f d : Nat) (xs ys : Array Value) (v : Value) : Prop :=
  Calls Try.prog f xs wr (fun e W => e = .returned v ∧ Jo w0 x lb rb ab n cap base n' P' Q' now P Q W) ∧ ∀ W, Jo w0 x lb rb ab n cap base n' P' Q' now P Q W → Calls Try.prog d ys W (fun e W' => e = .returned v ∧ Jo w0 x lb rb ab n cap base n' P' Q' n' P' Q' W')
def PinsOk (n : Nat) (P : Nat → Int) : Prop := ∀ a, a < n → P a = -1 ∨ 0 ≤ P a
theorem in_or (n : Nat) (a : Int) : (a < 0 ∨ (n : Int) ≤ a) ∨ ∃ k : Nat, a = (k : Int) ∧ k < n := by
  by_cases h : a < 0 ∨ (n : Int) ≤ a
  · exact .inl h
  · exact .inr ⟨a.toNat, by omega, by omega⟩
theorem pin_pair (L : Lay w0 x lb rb ab base) (h : Jo w0 x lb rb ab n cap base now P Q now P Q wr) (hp : PinsOk n P) (a : Int) :
    ∃ (ok : Bool) (P' : Nat → Int), PinsOk n P' ∧ PairE w0 x lb rb ab n cap base now P Q now P' Q wr 33 34 #[.pointer (some ⟨x, 0, none⟩), .int .i64 a] #[.pointer (some ⟨rb, 0, none⟩), .int .i64 a] (.bool ok) := by
  obtain ⟨V, U, h1, h2⟩ := h.ex
  rcases in_or n a with ho | ⟨k, rfl, hk⟩
  · refine ⟨false, P, hp, ?_, fun W hW => ?_⟩
    · refine (pin_not1 (h1.has_no ho)).mono ?_
      rintro e W ⟨rfl, rfl⟩
      exact ⟨rfl, h⟩
    · obtain ⟨V', U', h1', h2'⟩ := hW.ex
      refine (h2'.pin_not ho).mono ?_
      rintro e W' ⟨rfl, rfl⟩
      exact ⟨rfl, hW⟩
  · by_cases hpk : P k = -1
    · refine ⟨true, upd P k now, fun b hb => ?_, ?_, fun W hW => ?_⟩
      · by_cases e : b = k
        · subst e
          rw [upd_at]
          exact .inr h1.nn.1
        · rw [upd_off _ _ e]
          exact hp b hb
      · refine (h1.pin_yes hk hpk).mono ?_
        rintro e W ⟨rfl, h1', T⟩
        exact ⟨rfl, Jo.prog L h1 h2 h.bel T h1'⟩
      · obtain ⟨V', U', h1', h2'⟩ := hW.ex
        have := h2'.pin hk (hp k hk)
        rw [if_pos hpk, decide_eq_true hpk] at this
        refine this.mono ?_
        rintro e W' ⟨rfl, h2'', T⟩
        exact ⟨rfl, Jo.refl L h1' h2' hW.bel T h2''⟩
    · refine ⟨false, P, hp, ?_, fun W hW => ?_⟩
      · refine (h1.pin_no hk hpk).mono ?_
        rintro e W ⟨rfl, rfl⟩
        exact ⟨rfl, h⟩
      · obtain ⟨V', U', h1', h2'⟩ := hW.ex
        have := h2'.pin hk (hp k hk)
        rw [if_neg hpk, decide_eq_false hpk] at this
        refine this.mono ?_
        rintro e W' ⟨rfl, h2'', T⟩
        exact ⟨rfl, Jo.refl L h1' h2' hW.bel T h2''⟩
theorem unpin_pair (L : Lay w0 x lb rb ab base) (h : Jo w0 x lb rb ab n cap base now P Q now P Q wr) (hp : PinsOk n P) (a : Int) :
    ∃ (ok : Bool) (P' : Nat → Int), PinsOk n P' ∧ PairE w0 x lb rb ab n cap base now P Q now P' Q wr 35 36 #[.pointer (some ⟨x, 0, none⟩), .int .i64 a] #[.pointer (some ⟨rb, 0, none⟩), .int .i64 a] (.bool ok) := by
  obtain ⟨V, U, h1, h2⟩ := h.ex
  rcases in_or n a with ho | ⟨k, rfl, hk⟩
  · refine ⟨false, P, hp, ?_, fun W hW => ?_⟩
    · refine (unpin_not wr _ a (pinned_not wr _ a (h1.has_no ho))).mono ?_
      rintro e W ⟨rfl, rfl⟩
      exact ⟨rfl, h⟩
    · obtain ⟨V', U', h1', h2'⟩ := hW.ex
      refine (h2'.unpin_not ho).mono ?_
      rintro e W' ⟨rfl, rfl⟩
      exact ⟨rfl, hW⟩
  · by_cases hpk : P k = -1
    · refine ⟨false, P, hp, ?_, fun W hW => ?_⟩
      · refine (unpin_not wr _ (k : Int) (h1.pinned_no hk hpk)).mono ?_
        rintro e W ⟨rfl, rfl⟩
        exact ⟨rfl, h⟩
      · obtain ⟨V', U', h1', h2'⟩ := hW.ex
        have := h2'.unpin hk (hp k hk)
        rw [if_pos hpk, decide_eq_false (by simpa using hpk)] at this
        refine this.mono ?_
        rintro e W' ⟨rfl, h2'', T⟩
        exact ⟨rfl, Jo.refl L h1' h2' hW.bel T h2''⟩
    · refine ⟨true, upd P k (-1), fun b hb => ?_, ?_, fun W hW => ?_⟩
      · by_cases e : b = k
        · subst e
          rw [upd_at]
          exact .inl rfl
        · rw [upd_off _ _ e]
          exact hp b hb
      · refine (h1.unpin_yes hk hpk).mono ?_
        rintro e W ⟨rfl, h1', T⟩
        exact ⟨rfl, Jo.prog L h1 h2 h.bel T h1'⟩
      · obtain ⟨V', U', h1', h2'⟩ := hW.ex
        have := h2'.unpin hk (hp k hk)
        rw [if_neg hpk, decide_eq_true hpk] at this
        refine this.mono ?_
        rintro e W' ⟨rfl, h2'', T⟩
        exact ⟨rfl, Jo.refl L h1' h2' hW.bel T h2''⟩
def LimOk (n i : Nat) (Q : Nat → List (Int × Int × Int)) : Prop := ∀ a, a < n → (Q a).length ≤ i
theorem Epo.not_own (h : Epo wr x lb n base n1 P1 V Q1) : ¬ EpoOwn x lb n V wr.heap.size := fun e => by
  have := h.bx; have := h.bl; have := h.bw
  rcases e with e | e | ⟨a, ha, e⟩
  · omega
  · omega
  · have := ((h.rows a ha).lt _ e).2
    omega
theorem retire_pair (L : Lay w0 x lb rb ab base) (h : Jo w0 x lb rb ab n cap base now P Q now P Q wr) (o : Obj) {i : Nat} (hq : LimOk n i Q) (hi : i ≤ 100) (a r0 r1 : Int) :
    ∃ (ok : Bool) (Q' : Nat → List (Int × Int × Int)), LimOk n (i + 1) Q' ∧ (Calls Try.prog 37 #[.pointer (some ⟨x, 0, none⟩), .int .i64 a, .agg #[.int .i64 r0, .int .i64 r1]] (wr.alloc o) fun e W => e = .returned (.bool ok) ∧ Jo w0 x lb rb ab n cap base now P Q' now P Q W ∧ ∀ c v, (wr.alloc o).cell? ⟨wr.heap.size, c, none⟩ = some v → W.cell? ⟨wr.heap.size, c, none⟩ = some v) ∧
      ∀ W, Jo w0 x lb rb ab n cap base now P Q' now P Q W → Calls Try.prog 38 #[.pointer (some ⟨rb, 0, none⟩), .int .i64 a, .agg #[.int .i64 r0, .int .i64 r1]] W fun e W' => e = .returned (.bool ok) ∧ Jo w0 x lb rb ab n cap base now P Q' now P Q' W' := by
  have hs := h.same ((Turn.refl _ wr).alloc o)
  obtain ⟨V, U, h10, h20⟩ := h.ex
  have h1 := h10.alloc o
  have h2 := h20.same ((Turn.refl _ wr).alloc o)
  rcases in_or n a with ho | ⟨k, rfl, hk⟩
  · refine ⟨false, Q, fun a ha => by have := hq a ha; omega, ?_, fun W hW => ?_⟩
    · refine ((nots_out h1 ho r0 r1).retire _ (Turn.refl _ _)).mono ?_
      rintro e W ⟨rfl, rfl⟩
      exact ⟨rfl, hs.same ((Turn.refl _ _).alloc _), fun c v hc => ((Turn.refl (fun _ => False) (wr.alloc o)).alloc _).cell id hc⟩
    · obtain ⟨V', U', h1', h2'⟩ := hW.ex
      refine (h2'.retire_not ho r0 r1).mono ?_
      rintro e W' ⟨rfl, rfl⟩
      exact ⟨rfl, hW.same ((Turn.refl _ W).alloc _)⟩
  · refine ⟨true, upd Q k (Q k ++ [(r0, r1, now)]), fun b hb => ?_, ?_, fun W hW => ?_⟩
    · by_cases e : b = k
      · subst e
        have := hq b hb
        rw [upd_at]
        simp
        omega
      · rw [upd_off _ _ e]
        have := hq b hb
        omega
    · refine (h1.retire hk r0 r1 (by have := hq k hk; omega)).mono ?_
      rintro e W ⟨rfl, v', h1', T⟩
      exact ⟨rfl, Jo.prog L h1 h2 hs.bel T h1', fun c v hc => T.cell h10.not_own hc⟩
    · obtain ⟨V', U', h1', h2'⟩ := hW.ex
      refine (h2'.retire hk r0 r1 (by have := hq k hk; omega)).mono ?_
      rintro e W' ⟨rfl, u', h2'', T⟩
      exact ⟨rfl, Jo.refl L h1' h2' hW.bel T h2''⟩
theorem advance_pair (L : Lay w0 x lb rb ab base) (h : Jo w0 x lb rb ab n cap base now P Q now P Q wr) (hp : PinsOk n P) (hn : 1 ≤ n) (hm : now < 1000) :
    ∃ (ok : Bool) (n' : Int), (n' = now ∨ n' = now + 1) ∧ PairE w0 x lb rb ab n cap base now P Q n' P Q wr 42 43 #[.pointer (some ⟨x, 0, none⟩)] #[.pointer (some ⟨rb, 0, none⟩)] (.bool ok) := by
  obtain ⟨V, U, h1, h2⟩ := h.ex
  by_cases hall : AdvB n P now
  · refine ⟨true, now + 1, .inr rfl, ?_, fun W hW => ?_⟩
    · refine (h1.advance_yes hn (by omega) hall).mono ?_
      rintro e W ⟨rfl, h1', T⟩
      exact ⟨rfl, Jo.prog L h1 h2 h.bel T h1'⟩
    · obtain ⟨V', U', h1', h2'⟩ := hW.ex
      refine (h2'.advance_yes (by omega) hp hall).mono ?_
      rintro e W' ⟨rfl, h2'', T⟩
      exact ⟨rfl, Jo.refl L h1' h2' hW.bel T h2''⟩
  · have hex : ∃ j, j < n ∧ P j ≠ -1 ∧ P j ≠ now := Classical.byContradiction fun hc => hall fun j hj => Classical.byContradiction fun hj2 => hc ⟨j, hj, fun e => hj2 (.inl e), fun e => hj2 (.inr e)⟩
    obtain ⟨j, hj, hj1, hj2⟩ := hex
    refine ⟨false, now, .inl rfl, ?_, fun W hW => ?_⟩
    · refine (h1.advance_no j hj hj1 hj2).mono ?_
      rintro e W ⟨rfl, rfl⟩
      exact ⟨rfl, h⟩
    · obtain ⟨V', U', h1', h2'⟩ := hW.ex
      refine (h2'.advance_no hp j hj hj1 hj2).mono ?_
      rintro e W' ⟨rfl, d, rfl⟩
      exact ⟨rfl, hW.same ((Turn.refl _ W).drewN d)⟩
/-- What both tell of an actor. -/
structure Asks (x rb : Nat) (a now at_ : Int) (is_ : Bool) (k : Int) (W : World) : Prop where
  p1 : Calls Try.prog 44 #[.pointer (some ⟨x, 0, none⟩), .int .i64 a] W fun e w' => e = .returned (.tuple #[.int .i64 at_, .bool is_]) ∧ W = w'
  p2 : Calls Try.prog 45 #[.pointer (some ⟨rb, 0, none⟩), .int .i64 a] W fun e w' => e = .returned (.tuple #[.int .i64 at_, .bool is_]) ∧ W = w'
  now1 : Calls Try.prog 46 #[.pointer (some ⟨x, 0, none⟩)] W fun e w' => e = .returned (.int .i64 now) ∧ W = w'
  now2 : W.cell? ⟨rb, 0, none⟩ = some (.int .i64 now)
  l1 : Calls Try.prog 47 #[.pointer (some ⟨x, 0, none⟩), .int .i64 a] W fun e w' => e = .returned (.int .i64 k) ∧ W = w'
  l2 : Calls Try.prog 48 #[.pointer (some ⟨rb, 0, none⟩), .int .i64 a] W fun e w' => e = .returned (.int .i64 k) ∧ W = w'
theorem jo_asks {now : Int} {P : Nat → Int} {Q : Nat → List (Int × Int × Int)} (hp : PinsOk n P) (a : Int) : ∃ at_ is_ k, ∀ W, Jo w0 x lb rb ab n cap base now P Q now P Q W → Asks x rb a now at_ is_ k W := by
  rcases in_or n a with ho | ⟨j, rfl, hj⟩
  · refine ⟨0, false, 0, fun W h => ?_⟩
    obtain ⟨V, U, h1, h2⟩ := h.ex
    exact ⟨pinned_not W _ a (h1.has_no ho), h2.pinned_not ho, h1.now_is, h2.c0, limbo_not W _ a (h1.has_no ho), h2.limbo_not ho⟩
  · by_cases hpk : P j = -1
    · refine ⟨0, false, ((Q j).length : Int), fun W h => ?_⟩
      obtain ⟨V, U, h1, h2⟩ := h.ex
      have q2 := h2.pinned hj (hp j hj)
      rw [if_pos hpk, decide_eq_false (by simpa using hpk)] at q2
      exact ⟨h1.pinned_no hj hpk, q2, h1.now_is, h2.c0, h1.limbo_is hj, h2.limbo hj⟩
    · refine ⟨P j, true, ((Q j).length : Int), fun W h => ?_⟩
      obtain ⟨V, U, h1, h2⟩ := h.ex
      have q2 := h2.pinned hj (hp j hj)
      rw [if_neg hpk, decide_eq_true hpk] at q2
      exact ⟨h1.pinned_yes hj hpk, q2, h1.now_is, h2.c0, h1.limbo_is hj, h2.limbo hj⟩
theorem ripe_pair (L : Lay w0 x lb rb ab base) (h : Jo w0 x lb rb ab n cap base now P Q now P Q wr) {i : Nat} (hq : LimOk n i Q) (hi : i ≤ 100) (a : Int) :
    ∃ (R : List (Int × Int)) (Q' : Nat → List (Int × Int × Int)), LimOk n (i + 1) Q' ∧ R.length ≤ 100 ∧ (Calls Try.prog 40 #[.pointer (some ⟨x, 0, none⟩), .int .i64 a] wr fun e W => ∃ v, e = .returned v ∧ W.ownsRow wr.heap.size 51 2 v R.length (cells2 R) ∧ Jo w0 x lb rb ab n cap base now P Q' now P Q W ∧ wr.heap.size ≤ W.heap.size) ∧
      ∀ W v1, Jo w0 x lb rb ab n cap base now P Q' now P Q W → W.ownsRow wr.heap.size 51 2 v1 R.length (cells2 R) → wr.heap.size ≤ W.heap.size → Calls Try.prog 41 #[.pointer (some ⟨rb, 0, none⟩), .int .i64 a] W fun e W' => ∃ v, e = .returned v ∧ W'.ownsRow W.heap.size 51 2 v R.length (cells2 R) ∧ W'.ownsRow wr.heap.size 51 2 v1 R.length (cells2 R) ∧ Jo w0 x lb rb ab n cap base now P Q' now P Q' W' := by
  obtain ⟨V, U, h1, h2⟩ := h.ex
  rcases in_or n a with ho | ⟨k, rfl, hk⟩
  · refine ⟨[], Q, fun a ha => by have := hq a ha; omega, by simp, ?_, fun W v1 hW hr hz => ?_⟩
    · refine ((nots_out h1 ho 0 0).ripe wr (Turn.refl _ _)).mono ?_
      rintro e W ⟨rfl, T⟩
      exact ⟨_, rfl, World.ownsRow_nil _ _ _ _, h.same T, T.size⟩
    · obtain ⟨V', U', h1', h2'⟩ := hW.ex
      refine (h2'.ripe_not ho).mono ?_
      rintro e W' ⟨rfl, rfl⟩
      exact ⟨_, rfl, World.ownsRow_nil _ _ _ _, hr, hW⟩
  · have hqk := hq k hk
    refine ⟨told now (Q k), upd Q k (kept now (Q k)), fun b hb => ?_, ?_, ?_, fun W v1 hW hr hz => ?_⟩
    · by_cases e : b = k
      · subst e
        have := List.length_filter_le (fun q => !rp now q) (Q b)
        rw [upd_at]
        unfold kept
        omega
      · rw [upd_off _ _ e]
        have := hq b hb
        omega
    · have := List.length_filter_le (rp now) (Q k)
      unfold told
      rw [List.length_map]
      omega
    · refine (h1.ripe hk (by omega)).mono ?_
      rintro e W ⟨vl, v', rfl, hr, h1', T⟩
      exact ⟨vl, rfl, hr, Jo.prog L h1 h2 h.bel T h1', T.size⟩
    · obtain ⟨V', U', h1', h2'⟩ := hW.ex
      refine (h2'.ripe hk (by omega)).mono ?_
      rintro e W' ⟨vl, u', rfl, hr2, h2'', T⟩
      refine ⟨vl, rfl, hr2, own_turn hr T (fun j hj e => ?_), Jo.refl L h1' h2' hW.bel T h2''⟩
      have hz2 := h1.bw
      have hbw := (hr.lt j hj).1
      have := L.br
      have := L.ba
      rcases e with rfl | rfl | ⟨b, hb, e⟩
      · omega
      · omega
      · rcases own_apart hr (h2'.rows b hb) (by decide) with q | q
        · rw [hj] at q
          cases q
        · exact q (by rw [hj, e])
end
end Go.Proofs.Ytibmimdlgbhdnaa
