/-
  A log in memory: what Cursor, Leave, Take, Fill, Look answer.
-/
import Derived.Test.YtgfobgabdafclaaGreatLg2
namespace Go.Proofs.YtgfobgabdafclaaGreat
open Go.ChangeShapes Go.WideShapes Go.ChangeAt Go.RowKit
set_option linter.unusedVariables false
section
variable {w w' : World} {B : LB} {c : Cf} {s : LSt}
def IsW (n : Nat) (left : Nat → Bool) (at_ : Int) : Prop := ∃ i : Nat, at_ = (i : Int) ∧ i < n ∧ left i = false
set_option maxRecDepth 100000 in
set_option maxHeartbeats 1000000 in
theorem LogAt.find_no (h : LogAt w B c s) {at_ : Int} (hn : ¬ IsW c.sh s.left at_) :
    Calls Tryz.prog 70 #[.pointer (some ⟨B.l, 0, none⟩), .int .i64 at_] w fun e w' => e = .returned (.pointer none) ∧ w = w' := by
  obtain ⟨cap, k12⟩ := h.k12
  by_cases h0 : at_ < 0
  · have t1 : decide (at_ < 0) = true := by simpa using h0
    clear h hn h0
    go_enter Tryz.func70, Tryz.ntmps70
    go_wp2
    go_ret
    exact ⟨rfl, rfl⟩
  · by_cases h1 : (c.sh : Int) ≤ at_
    · have t1 : decide (at_ < 0) = false := by simpa using h0
      have t2 : decide ((c.sh : Int) ≤ at_) = true := by simpa using h1
      clear h hn h0 h1
      go_enter Tryz.func70, Tryz.ntmps70
      go_wp2
      go_ret
      exact ⟨rfl, rfl⟩
    · obtain ⟨i, rfl⟩ : ∃ i : Nat, at_ = (i : Int) := ⟨at_.toNat, by omega⟩
      have hi : i < c.sh := by omega
      have hl : s.left i = true := by
        cases hl : s.left i with
        | true => rfl
        | false => exact absurd ⟨i, rfl, hi, hl⟩ hn
      have w1 := h.w1 i hi
      rw [hl] at w1
      have t1 : decide ((i : Int) < 0) = false := by simp
      have t2 : decide ((c.sh : Int) ≤ (i : Int)) = false := by simp; omega
      have t3 : decide (c.sh ≤ i) = false := by simp; omega
      have m1 : (0 : Int) ≤ (i : Int) := by omega
      have m2 : (i : Int) < (c.sh : Int) := by omega
      clear h hl hn h0 h1
      generalize c.sh = n at *
      clear hi
      go_enter Tryz.func70, Tryz.ntmps70
      go_wp2
      go_ret
      exact ⟨rfl, rfl⟩
set_option maxRecDepth 100000 in
theorem LogAt.cursor_yes (h : LogAt w B c s) {i : Nat} (hi : i < c.sh) (hl : s.left i = false) :
    Calls Tryz.prog 32 #[.pointer (some ⟨B.l, 0, none⟩), .int .i64 (i : Int)] w fun e w' => e = .returned (.int .i64 (s.cur i : Int)) ∧ w = w' := by
  have H := Lib.hid (h.find_yes hi hl)
  have w0 := h.w0 i hi
  clear h hi hl
  go_enter Tryz.func32, Tryz.ntmps32
  go_wp2_with fail
  with_reducible refine H.out.mono ?_
  rintro e w1 ⟨rfl, rfl⟩
  go_wp2
  go_ret
  exact ⟨rfl, rfl⟩
set_option maxRecDepth 100000 in
theorem LogAt.cursor_no (h : LogAt w B c s) {at_ : Int} (hn : ¬ IsW c.sh s.left at_) :
    Calls Tryz.prog 32 #[.pointer (some ⟨B.l, 0, none⟩), .int .i64 at_] w fun e w' => e = .returned (.int .i64 (-1)) ∧ w = w' := by
  have H := Lib.hid (h.find_no hn)
  clear h hn
  go_enter Tryz.func32, Tryz.ntmps32
  go_wp2_with fail
  with_reducible refine H.out.mono ?_
  rintro e w1 ⟨rfl, rfl⟩
  go_wp2
  go_ret
  exact ⟨rfl, rfl⟩
set_option maxRecDepth 100000 in
theorem LogAt.leave_yes (h : LogAt w B c s) {i : Nat} (hi : i < c.sh) (hl : s.left i = false) :
    Calls Tryz.prog 298 #[.pointer (some ⟨B.l, 0, none⟩), .int .i64 (i : Int)] w fun e w' => e = .returned (.bool true) ∧ LogAt w' B c { s with left := upd s.left i true } ∧ Turn (B.foot c.sh) w w' := by
  have H := Lib.hid (h.find_yes hi hl)
  have w1 := h.w1 i hi
  have fz := h.bw.fz
  have K := Lib.hid (And.intro (h.put_left hi true) ((Turn.put w B.wb (i * 3 + 1) (.bool true)).more (S' := B.foot c.sh) (fun k _ e => .inr (.inr (.inr (.inl e))))))
  clear h hi hl
  go_enter Tryz.func298, Tryz.ntmps298
  go_wp2_with fail
  with_reducible refine H.out.mono ?_
  rintro e w1 ⟨rfl, rfl⟩
  go_wp2
  go_ret
  exact ⟨rfl, K.out.1, K.out.2⟩
set_option maxRecDepth 100000 in
theorem LogAt.leave_no (h : LogAt w B c s) {at_ : Int} (hn : ¬ IsW c.sh s.left at_) :
    Calls Tryz.prog 298 #[.pointer (some ⟨B.l, 0, none⟩), .int .i64 at_] w fun e w' => e = .returned (.bool false) ∧ w = w' := by
  have H := Lib.hid (h.find_no hn)
  clear h hn
  go_enter Tryz.func298, Tryz.ntmps298
  go_wp2_with fail
  with_reducible refine H.out.mono ?_
  rintro e w1 ⟨rfl, rfl⟩
  go_wp2
  go_ret
  exact ⟨rfl, rfl⟩
/-- A stamp may be taken. -/
def MayTake (c : Cf) (s : LSt) (t : Int) (cl : Bool) : Prop := t = (s.tail : Int) ∧ t < c.st ∧ t - (s.low : Int) < (c.ib : Int) ∧ ¬ (cl = true ∧ s.closed = true)
set_option maxRecDepth 100000 in
set_option maxHeartbeats 2000000 in
theorem LogAt.take_yes (h : LogAt w B c s) {t : Int} {cl : Bool} (ht : MayTake c s t cl) (hb : s.tail < 1000) :
    Calls Tryz.prog 28 #[.pointer (some ⟨B.l, 0, none⟩), .int .i64 t, .bool cl] w fun e w' => e = .returned (.bool true) ∧ LogAt w' B c { s with tail := s.tail + 1, closed := s.closed || cl } ∧ Turn (B.foot c.sh) w w' := by
  obtain ⟨rfl, h1, h2, h3⟩ := ht
  have H := Lib.hid (fun W (T : Turn (fun _ => False) w W) => (h.keep T).low_is)
  have hl2 := h.com.l2
  have k1 := h.k1
  have k6 := h.k6
  have k9 := h.k9
  have k10 := h.k10
  have fz := h.bl.fz
  have e0 : ((s.tail : Int) != (s.tail : Int)) = false := by simp
  have e1 : decide (c.st ≤ (s.tail : Int)) = false := by simp; omega
  have e2 : wrap64 ((s.tail : Int) - (s.low : Int)) = (s.tail : Int) - (s.low : Int) := by unfold wrap64; omega
  have e3 : decide ((c.ib : Int) ≤ (s.tail : Int) - (s.low : Int)) = false := by simp; omega
  have e4 : wrap64 ((s.tail : Int) + 1) = (s.tail : Int) + 1 := by unfold wrap64; omega
  have K := Lib.hid (And.intro h hb)
  have NQ := Lib.hid (fun d : Nat => ((h.keep ((Turn.refl (fun _ => False) w).drewN d)).low_is).mono (fun e w' ⟨he, hw⟩ => show e = Ending.returned (.int .i64 (s.low : Int)) ∧ ∃ m, w' = w.drewN m from ⟨he, d, hw.symm⟩))
  clear h1 h2 hb hl2
  have hcd := h.k10
  clear h
  cases cl with
  | true =>
    have e5 : s.closed = false := by simpa using h3
    have CD := Lib.hid e5
    rw [e5] at k10
    clear h3 e5 hcd
    go_enter Tryz.func28, Tryz.ntmps28
    go_wp2_with fail
    go_quiet ((go_at_call 66; exact NQ.out _))
    go_wp2
    go_ret
    refine ⟨rfl, ?_, ?_⟩
    · rw [show (s.closed || true) = true by rw [CD.out]; rfl]
      exact ((K.out.1.keep ((Turn.refl (fun _ => False) w).drewN _)).put_tail (s.tail + 1) (by have := K.out.2; omega)).put_closed _
    · exact ((((Turn.refl (fun _ => False) w).drewN _).more (S' := B.foot c.sh) (fun _ _ f => f.elim)).trans ((Turn.put _ B.l 9 _).more (fun _ _ e => .inl e))).trans ((Turn.put _ B.l 10 _).more (fun _ _ e => .inl e))
  | false =>
    clear h3 hcd
    rcases Bool.eq_false_or_eq_true s.closed with e5 | e5
    · have CD := Lib.hid e5
      rw [e5] at k10
      clear e5
      go_enter Tryz.func28, Tryz.ntmps28
      go_wp2_with fail
      go_quiet ((go_at_call 66; exact NQ.out _))
      go_wp2
      go_ret
      refine ⟨rfl, ?_, ?_⟩
      · rw [show (s.closed || false) = true by rw [CD.out]; rfl]
        exact ((K.out.1.keep ((Turn.refl (fun _ => False) w).drewN _)).put_tail (s.tail + 1) (by have := K.out.2; omega)).put_closed _
      · exact ((((Turn.refl (fun _ => False) w).drewN _).more (S' := B.foot c.sh) (fun _ _ f => f.elim)).trans ((Turn.put _ B.l 9 _).more (fun _ _ e => .inl e))).trans ((Turn.put _ B.l 10 _).more (fun _ _ e => .inl e))
    · have CD := Lib.hid e5
      rw [e5] at k10
      clear e5
      go_enter Tryz.func28, Tryz.ntmps28
      go_wp2_with fail
      go_quiet ((go_at_call 66; exact NQ.out _))
      go_wp2
      go_ret
      refine ⟨rfl, ?_, ?_⟩
      · rw [show (s.closed || false) = false by rw [CD.out]; rfl]
        exact ((K.out.1.keep ((Turn.refl (fun _ => False) w).drewN _)).put_tail (s.tail + 1) (by have := K.out.2; omega)).put_closed _
      · exact ((((Turn.refl (fun _ => False) w).drewN _).more (S' := B.foot c.sh) (fun _ _ f => f.elim)).trans ((Turn.put _ B.l 9 _).more (fun _ _ e => .inl e))).trans ((Turn.put _ B.l 10 _).more (fun _ _ e => .inl e))
set_option maxRecDepth 100000 in
set_option maxHeartbeats 2000000 in
theorem LogAt.take_no (h : LogAt w B c s) {t : Int} {cl : Bool} (ht : ¬ MayTake c s t cl) :
    Calls Tryz.prog 28 #[.pointer (some ⟨B.l, 0, none⟩), .int .i64 t, .bool cl] w fun e w' => e = .returned (.bool false) ∧ Turn (fun _ => False) w w' := by
  have hl2 := h.com.l2
  have ht2 := h.st2
  have k1 := h.k1
  have k6 := h.k6
  have k9 := h.k9
  have k10 := h.k10
  have NQ := Lib.hid (fun d : Nat => ((h.keep ((Turn.refl (fun _ => False) w).drewN d)).low_is).mono (fun e w' ⟨he, hw⟩ => show e = Ending.returned (.int .i64 (s.low : Int)) ∧ ∃ m, w' = w.drewN m from ⟨he, d, hw.symm⟩))
  have TD := Lib.hid (fun d => (Turn.refl (fun _ => False) w).drewN d)
  clear h
  by_cases h0 : t = (s.tail : Int)
  · subst h0
    have e0 : ((s.tail : Int) != (s.tail : Int)) = false := by simp
    by_cases h1 : (s.tail : Int) < c.st
    · have e1 : decide (c.st ≤ (s.tail : Int)) = false := by simp; omega
      have e2 : wrap64 ((s.tail : Int) - (s.low : Int)) = (s.tail : Int) - (s.low : Int) := by unfold wrap64; omega
      by_cases h2 : (s.tail : Int) - (s.low : Int) < (c.ib : Int)
      · have e3 : decide ((c.ib : Int) ≤ (s.tail : Int) - (s.low : Int)) = false := by simp; omega
        obtain ⟨rfl, e5⟩ : cl = true ∧ s.closed = true := Classical.not_not.1 fun h3 => ht ⟨rfl, h1, h2, h3⟩
        rw [e5] at k10
        clear ht h1 h2 hl2 ht2 e5
        go_enter Tryz.func28, Tryz.ntmps28
        go_wp2_with fail
        go_quiet ((go_at_call 66; exact NQ.out _))
        go_wp2
        go_ret
        exact ⟨rfl, TD.out _⟩
      · have e3 : decide ((c.ib : Int) ≤ (s.tail : Int) - (s.low : Int)) = true := by simp; omega
        clear ht h1 h2 hl2 ht2
        go_enter Tryz.func28, Tryz.ntmps28
        go_wp2_with fail
        go_quiet ((go_at_call 66; exact NQ.out _))
        go_wp2
        go_ret
        exact ⟨rfl, TD.out _⟩
    · have e1 : decide (c.st ≤ (s.tail : Int)) = true := by simp; omega
      clear ht h1 hl2 ht2
      go_enter Tryz.func28, Tryz.ntmps28
      go_wp2_with fail
      go_quiet ((go_at_call 66; exact NQ.out _))
      go_wp2
      go_ret
      exact ⟨rfl, TD.out _⟩
  · have e0 : (t != (s.tail : Int)) = true := by simpa using h0
    clear ht h0 hl2 ht2
    go_enter Tryz.func28, Tryz.ntmps28
    go_wp2_with fail
    go_quiet ((go_at_call 66; exact NQ.out _))
    go_wp2
    go_ret
    exact ⟨rfl, TD.out _⟩
end
end Go.Proofs.YtgfobgabdafclaaGreat
