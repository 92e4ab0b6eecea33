/-
  Both logs, side by side: one lemma a pair of calls.
-/
import Derived.Test.YteokdibfdahabaaLi
namespace Go.Proofs.Yteokdibfdahabaa
open Go.ChangeShapes Go.WideShapes Go.ChangeAt Go.RowKit
set_option linter.unusedVariables false
/-- What an act may change. -/
def Stp (c : Cf) (s : LSt) (kk : Nat) (tl : Int) (s' : LSt) : Prop :=
  (s'.tail = s.tail ∨ (s'.tail = s.tail + 1 ∧ kk ≤ 1 ∧ tl = (s.tail : Int))) ∧ (s.closed = true → s'.closed = true) ∧ (s'.low = s.low ∨ (s'.low = s.low + 1 ∧ readyB c s = true ∧ (kk = 7 ∨ kk = 8)))
theorem Stp.same {c : Cf} {s s' : LSt} {kk : Nat} {tl : Int} (h1 : s'.tail = s.tail) (h2 : s'.closed = s.closed) (h3 : s'.low = s.low) : Stp c s kk tl s' := ⟨.inl h1, fun h => by rw [h2]; exact h, .inl h3⟩
section
variable {w : World} {B : LB} {R : RB} {c : Cf} {s : LSt}
theorem Two.off_no {P : LSt → Prop} {w1 W w2 : World} (h : Two w B R c s) (T1 : Turn (fun _ => False) w w1) (T : Turn (fun _ => False) w1 W) (T2 : Turn (fun _ => False) W w2) (hP : P s) : Aft w B R c P w2 := by
  have T3 := T1.trans (T.trans T2)
  have k := h.keep T3
  exact ⟨R, s, rfl, rfl, k, hP, TS.no T3⟩
theorem Two.take (h : Two w B R c s) (t : Int) (cl : Bool) {kk : Nat} (hk : kk ≤ 1) :
    Calls Try.prog 22 #[.pointer (some ⟨B.l, 0, none⟩), .int .i64 t, .bool cl] w fun e w1 => ∃ r, e = .returned (.bool r) ∧ Turn (TS B c.sh R.base w) w w1 ∧
      ∀ W, Turn (fun _ => False) w1 W → Calls Try.prog 39 #[.pointer (some ⟨R.r, 0, none⟩), .int .i64 t, .bool cl] W fun e w2 => e = .returned (.bool r) ∧ Aft w B R c (Stp c s kk t) w2 := by
  have ht := h.tail
  have hsh := h.sh
  by_cases hm : MayTake c s t cl
  · refine (h.L.take_yes hm (by omega)).mono (fun e w1 ⟨he, L1, T1⟩ => ⟨true, he, T1.more (fun _ _ q => .inl q), fun W T => ?_⟩)
    have D := (h.D.past_log h.L T1).keep T
    refine (D.take_yes h.I.noTail (by omega) h.I.lt hm (by omega)).mono (fun e w2 ⟨he, R', hb, hr, D2, T2⟩ => ⟨he, h.aft hb hr T1 L1 T T2 D2 (h.I.take hm) ⟨.inr ⟨rfl, hk, hm.1⟩, fun q => by show (s.closed || cl) = true; rw [q]; rfl, .inl rfl⟩⟩)
  · refine (h.L.take_no hm).mono (fun e w1 ⟨he, T1⟩ => ⟨false, he, TS.no T1, fun W T => ?_⟩)
    have D := (h.D.keep T1).keep T
    exact (D.take_no h.I.lt (by omega) h.I.st hm).mono (fun e w2 ⟨he, T2⟩ => ⟨he, h.off_no T1 T T2 (Stp.same rfl rfl rfl)⟩)
theorem Two.fill (h : Two w B R c s) {a : Int} (ha : -1000 ≤ a) (p : Int × Int) (kk : Nat) (tl : Int) :
    Calls Try.prog 23 #[.pointer (some ⟨B.l, 0, none⟩), .int .i64 a, .agg (cmdL p).toArray] w fun e w1 => ∃ r, e = .returned (.bool r) ∧ Turn (TS B c.sh R.base w) w w1 ∧
      ∀ W, Turn (fun _ => False) w1 W → Calls Try.prog 40 #[.pointer (some ⟨R.r, 0, none⟩), .int .i64 a, .agg (cmdL p).toArray] W fun e w2 => e = .returned (.bool r) ∧ Aft w B R c (Stp c s kk tl) w2 := by
  by_cases hn : (s.tail : Int) ≤ a ∨ a < (s.low : Int) ∨ (s.X a).isSome = true
  · refine (h.L.fill_no (by omega) hn p).mono (fun e w1 ⟨he, T1⟩ => ⟨false, he, TS.no T1, fun W T => ?_⟩)
    have D := (h.D.keep T1).keep T
    exact (D.fill_no hn p).mono (fun e w2 ⟨he, T2⟩ => ⟨he, h.off_no T1 T T2 (Stp.same rfl rfl rfl)⟩)
  · obtain ⟨i, rfl⟩ : ∃ i : Nat, a = (i : Int) := ⟨a.toNat, by
      have : ¬ a < (s.low : Int) := fun q => hn (.inr (.inl q))
      omega⟩
    have h1 : s.low ≤ i := by
      have : ¬ (i : Int) < (s.low : Int) := fun q => hn (.inr (.inl q))
      omega
    have h2 : i < s.tail := by
      have : ¬ (s.tail : Int) ≤ (i : Int) := fun q => hn (.inl q)
      omega
    have hx : s.X (i : Int) = none := by
      cases e : s.X (i : Int) with
      | none => rfl
      | some p => exact absurd (.inr (.inr (by rw [e]; rfl))) hn
    refine (h.L.fill_yes h2 h1 (by have := h.I.ib; omega) hx p).mono (fun e w1 ⟨he, L1, T1⟩ => ⟨true, he, T1.more (fun _ _ q => .inl q), fun W T => ?_⟩)
    have D := (h.D.past_log h.L T1).keep T
    exact (D.fill_yes h1 h2 hx p).mono (fun e w2 ⟨he, R', hb, hr, D2, T2⟩ => ⟨he, h.aft hb hr T1 L1 T T2 D2 (h.I.fill h1 h2 p) (Stp.same rfl rfl rfl)⟩)
theorem Two.leave (h : Two w B R c s) (a : Int) (kk : Nat) (tl : Int) :
    Calls Try.prog 27 #[.pointer (some ⟨B.l, 0, none⟩), .int .i64 a] w fun e w1 => ∃ r, e = .returned (.bool r) ∧ Turn (TS B c.sh R.base w) w w1 ∧
      ∀ W, Turn (fun _ => False) w1 W → Calls Try.prog 42 #[.pointer (some ⟨R.r, 0, none⟩), .int .i64 a] W fun e w2 => e = .returned (.bool r) ∧ Aft w B R c (Stp c s kk tl) w2 := by
  have hsh := h.sh
  by_cases hw : IsW c.sh s.left a
  · obtain ⟨i, rfl, hi, hl⟩ := hw
    refine (h.L.leave_yes hi hl).mono (fun e w1 ⟨he, L1, T1⟩ => ⟨true, he, T1.more (fun _ _ q => .inl q), fun W T => ?_⟩)
    have D := (h.D.past_log h.L T1).keep T
    exact (D.leave_yes (by omega) hi hl).mono (fun e w2 ⟨he, D2, T2⟩ => ⟨he, h.aft rfl rfl T1 L1 T T2 D2 (h.I.leave i) (Stp.same rfl rfl rfl)⟩)
  · refine (h.L.leave_no hw).mono (fun e w1 ⟨he, hw1⟩ => ⟨false, he, by rw [← hw1]; exact Turn.refl _ _, fun W T => ?_⟩)
    subst hw1
    exact ((h.D.keep T).leave_no (by omega) hw).mono (fun e w2 ⟨he, hw2⟩ => ⟨he, h.off_no (Turn.refl _ _) T (by rw [← hw2]; exact Turn.refl _ _) (Stp.same rfl rfl rfl)⟩)
set_option maxRecDepth 100000 in
theorem LogAt.post_no (h : LogAt w B c s) {at_ : Int} (hn : ¬ IsW c.sh s.left at_) (v0 v1 v2 v3 : Value) :
    Calls Try.prog 24 #[.pointer (some ⟨B.l, 0, none⟩), .int .i64 at_, .agg #[v0, v1, v2, v3]] w fun e w' => e = .returned (.bool false) ∧ Turn (fun _ => False) w w' := by
  obtain ⟨W, hW⟩ : ∃ W, W = w.alloc (.cells #[v0, v1, v2, v3] 62) := ⟨_, rfl⟩
  have T : Turn (fun _ => False) w W := by rw [hW]; exact (Turn.refl _ w).alloc _
  have H := Lib.hid ((h.keep T).find_no hn)
  have K := Lib.hid T
  clear h hn T
  go_enter Try.func24, Try.ntmps24
  go_upto_region 1 with fail
  rw [← hW]
  clear hW
  go_wp2_with fail
  with_reducible refine H.out.mono ?_
  rintro e w1 ⟨rfl, rfl⟩
  go_wp2
  go_ret
  exact ⟨rfl, K.out⟩
theorem Two.post (h : Two w B R c s) (a : Int) {ad : Option Addr} {n m : Nat} {x : Int} (ho : OutV w (.slice ad n m) (some x)) (kk : Nat) (tl : Int) :
    Calls Try.prog 24 #[.pointer (some ⟨B.l, 0, none⟩), .int .i64 a, .agg #[.slice none 0 0, .slice ad n m, .slice none 0 0, .slice none 0 0]] w fun e w1 => ∃ r, e = .returned (.bool r) ∧ Turn (TS B c.sh R.base w) w w1 ∧
      ∀ W, Turn (fun _ => False) w1 W → ∀ ad n m, OutV W (.slice ad n m) (some x) → Calls Try.prog 41 #[.pointer (some ⟨R.r, 0, none⟩), .int .i64 a, .agg #[.slice none 0 0, .slice ad n m, .slice none 0 0, .slice none 0 0]] W fun e w2 => e = .returned (.bool r) ∧ Aft w B R c (Stp c s kk tl) w2 := by
  have hsh := h.sh
  have ht := h.tail
  by_cases hw : IsW c.sh s.left a
  · obtain ⟨i, rfl, hi, hl⟩ := hw
    have hc := h.I.cur i hi
    refine (h.L.post_is hi hl (by omega) ho (fun q => ?_)).mono (fun e w1 q => ?_)
    · obtain ⟨q1, q2, q3⟩ := h.I.X _ q
      have hrl := h.I.rl i hi
      have hib := h.I.ib
      refine ⟨by omega, by omega, ?_⟩
      cases e : s.Y i (s.cur i : Int) with
      | none => rfl
      | some o => have := ((h.I.Y i hi _).1 (by rw [e]; rfl)).2; omega
    · rcases q with ⟨hx, he, T1⟩ | ⟨hx, he, L1, T1⟩
      · refine ⟨false, he, TS.no T1, fun W T ad n m ho => ?_⟩
        refine (((h.D.keep T1).keep T).post_is (by omega) hi hl (by omega) ho).mono (fun e w2 q => ?_)
        rcases q with ⟨hl, he, T2⟩ | ⟨hl, he, _⟩
        · exact ⟨he, h.off_no T1 T T2 (Stp.same rfl rfl rfl)⟩
        · have := hl.2.2
          rw [hx] at this
          cases this
      · refine ⟨true, he, T1.more (fun _ _ q => .inl q), fun W T ad n m ho => ?_⟩
        refine (((h.D.past_log h.L T1).keep T).post_is (by omega) hi hl (by omega) ho).mono (fun e w2 q => ?_)
        rcases q with ⟨hl, he, T2⟩ | ⟨hl, he, D2, T2⟩
        · exact absurd (h.I.X _ hx) hl
        · exact ⟨he, h.aft rfl rfl T1 L1 T T2 D2 (h.I.post hi hl _) (Stp.same rfl rfl rfl)⟩
  · refine (h.L.post_no hw _ _ _ _).mono (fun e w1 ⟨he, T1⟩ => ⟨false, he, TS.no T1, fun W T ad n m ho => ?_⟩)
    exact (((h.D.keep T1).keep T).post_no (by omega) hw _ _ _ _).mono (fun e w2 ⟨he, T2⟩ => ⟨he, h.off_no T1 T T2 (Stp.same rfl rfl rfl)⟩)
theorem Two.rls (h : Two w B R c s) : ∀ k, k < c.sh → s.rl k ≤ s.low := fun k hk => by have := h.I.rl k hk; omega
theorem Two.reply (h : Two w B R c s) (n : Int) {kk : Nat} (hk : kk = 7 ∨ kk = 8) (tl : Int) :
    Calls Try.prog 25 #[.pointer (some ⟨B.l, 0, none⟩), .agg #[.int .i64 0, .int .i64 n, .slice none 0 0]] w fun e w1 => ∃ r, e = .returned (.bool r) ∧ Turn (TS B c.sh R.base w) w w1 ∧
      ∀ W, Turn (fun _ => False) w1 W → Calls Try.prog 43 #[.pointer (some ⟨R.r, 0, none⟩), .agg #[.int .i64 0, .int .i64 n, .slice none 0 0]] W fun e w2 => e = .returned (.bool r) ∧ Aft w B R c (Stp c s kk tl) w2 := by
  have hsh := h.sh
  have ht := h.tail
  have hlt := h.I.lt
  have hcn := h.I.cnt
  refine (h.L.reply_is 0 n (by omega) (by omega) (fun i hi => by have := h.rls i hi; omega)).mono (fun e w1 q => ?_)
  rcases q with ⟨hr, he, T1⟩ | ⟨hr, he, L1, T1⟩
  · refine ⟨false, he, TS.no T1, fun W T => ?_⟩
    refine (((h.D.keep T1).keep T).reply_is (by omega) (by omega) (h.I.X _) h.rls 0 n).mono (fun e w2 q => ?_)
    rcases q with ⟨_, he, T2⟩ | ⟨hr2, _⟩
    · exact ⟨he, h.off_no T1 T T2 (Stp.same rfl rfl rfl)⟩
    · rw [hr] at hr2
      cases hr2
  · refine ⟨true, he, T1.more (fun _ _ q => .inl q), fun W T => ?_⟩
    refine (((h.D.past_log h.L T1).keep T).reply_is (by omega) (by omega) (h.I.X _) h.rls 0 n).mono (fun e w2 q => ?_)
    rcases q with ⟨hr2, _⟩ | ⟨_, he, R', hb, hrr, D2, T2⟩
    · rw [hr] at hr2
      cases hr2
    · exact ⟨he, h.aft hb hrr T1 L1 T T2 D2 (h.I.reply hr 0 n) ⟨.inl rfl, fun q => q, .inr ⟨rfl, hr, hk⟩⟩⟩
theorem Two.answer (h : Two w B R c s) {a : Int} (h0 : (Lit.int .i64 a).wf = true) (kk : Nat) (tl : Int) :
    Calls Try.prog 26 #[.pointer (some ⟨B.l, 0, none⟩), .int .i64 a] w fun e w1 => ∃ (e1 n1 : Int) (r : Bool), e = .returned (.tuple #[.agg #[.int .i64 e1, .int .i64 n1, .slice none 0 0], .bool r]) ∧ Turn (TS B c.sh R.base w) w w1 ∧
      ∀ W, Turn (fun _ => False) w1 W → Calls Try.prog 44 #[.pointer (some ⟨R.r, 0, none⟩), .int .i64 a] W fun e w2 => e = .returned (.tuple #[.agg #[.int .i64 e1, .int .i64 n1, .slice none 0 0], .bool r]) ∧ Turn (RS R.base W) W w2 ∧ Aft w B R c (Stp c s kk tl) w2 := by
  refine (h.L.answer_is h0).mono (fun e w1 ⟨he, L1, T1⟩ => ⟨((s.G a).getD Nd.zero).err, ((s.G a).getD Nd.zero).n, (s.G a).isSome, he, T1.more (fun _ _ q => .inl q), fun W T => ?_⟩)
  refine (((h.D.past_log h.L T1).keep T).answer_is (fun q => by have := h.I.G a q; have := h.I.lt; omega)).mono (fun e w2 ⟨he, R', hb, hr, D2, T2⟩ => ⟨he, T2, h.aft hb hr T1 L1 T T2 D2 (h.I.ans a) (Stp.same rfl rfl rfl)⟩)
end
end Go.Proofs.Yteokdibfdahabaa
