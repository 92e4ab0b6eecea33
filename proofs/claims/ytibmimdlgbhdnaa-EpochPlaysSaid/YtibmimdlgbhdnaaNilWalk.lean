/-
  The walk of EpochNil: epochs that are nil, and an actor outside.
-/
import Derived.Test.YtibmimdlgbhdnaaAwake
namespace Go.Proofs.Ytibmimdlgbhdnaa
open Go.ChangeShapes Go.WideShapes Go.ChangeAt Go.RowKit
set_option linter.unusedVariables false

theorem pin_not1 {w : World} {p : Option Addr} {a : Int} (H : Calls Try.prog 68 #[.pointer p, .int .i64 a] w fun e w' => e = .returned (.bool false) ∧ w = w') :
    Calls Try.prog 33 #[.pointer p, .int .i64 a] w fun e w' => e = .returned (.bool false) ∧ w = w' := by
  have H1 := Lib.hid (pinned_not w p a H)
  have H2 := Lib.hid H
  clear H
  go_enter Try.func33, Try.ntmps33
  go_wp2_with fail
  refine H1.out.mono ?_
  rintro e w1 ⟨rfl, rfl⟩
  go_wp2_with fail
  refine H2.out.mono ?_
  rintro e w1 ⟨rfl, rfl⟩
  go_wp2
  go_ret
  exact ⟨rfl, rfl⟩
theorem retire_not1 {w : World} {p : Option Addr} {a r0 r1 : Int} (H : Calls Try.prog 68 #[.pointer p, .int .i64 a] (w.alloc (.cells #[.int .i64 r0, .int .i64 r1] 51)) fun e w' => e = .returned (.bool false) ∧ (w.alloc (.cells #[.int .i64 r0, .int .i64 r1] 51)) = w') :
    Calls Try.prog 37 #[.pointer p, .int .i64 a, .agg #[.int .i64 r0, .int .i64 r1]] w fun e w' => e = .returned (.bool false) ∧ w' = w.alloc (.cells #[.int .i64 r0, .int .i64 r1] 51) := by
  have H1 := Lib.hid H
  clear H
  go_enter Try.func37, Try.ntmps37
  go_wp2_with fail
  refine H1.out.mono ?_
  rintro e w1 ⟨rfl, rfl⟩
  go_wp2
  go_ret
  exact ⟨rfl, rfl⟩
theorem ripe_not1 {w : World} {p : Option Addr} {a : Int} (H : Calls Try.prog 68 #[.pointer p, .int .i64 a] (w.alloc (.cells #[.pointer p] 42)) fun e w' => e = .returned (.bool false) ∧ (w.alloc (.cells #[.pointer p] 42)) = w') :
    Calls Try.prog 40 #[.pointer p, .int .i64 a] w fun e w' => e = .returned (.slice none 0 0) ∧ Turn (fun _ => False) w w' := by
  have H1 := Lib.hid H
  clear H
  go_enter Try.func40, Try.ntmps40
  go_wp2_with fail
  refine H1.out.mono ?_
  rintro e w1 ⟨rfl, rfl⟩
  go_wp2
  go_ret
  exact ⟨rfl, (Turn.refl _ w).alloc _⟩

/-- What is answered where there is no such actor. -/
structure Nots (T : World → Prop) (p : Option Addr) (a r0 r1 : Int) : Prop where
  pinned : ∀ w, T w → Calls Try.prog 44 #[.pointer p, .int .i64 a] w fun e w' => e = .returned (.tuple #[.int .i64 0, .bool false]) ∧ w = w'
  pin : ∀ w, T w → Calls Try.prog 33 #[.pointer p, .int .i64 a] w fun e w' => e = .returned (.bool false) ∧ w = w'
  unpin : ∀ w, T w → Calls Try.prog 35 #[.pointer p, .int .i64 a] w fun e w' => e = .returned (.bool false) ∧ w = w'
  retire : ∀ w, T w → Calls Try.prog 37 #[.pointer p, .int .i64 a, .agg #[.int .i64 r0, .int .i64 r1]] w fun e w' => e = .returned (.bool false) ∧ w' = w.alloc (.cells #[.int .i64 r0, .int .i64 r1] 51)
  ripe : ∀ w, T w → Calls Try.prog 40 #[.pointer p, .int .i64 a] w fun e w' => e = .returned (.slice none 0 0) ∧ Turn (fun _ => False) w w'
  limbo : ∀ w, T w → Calls Try.prog 47 #[.pointer p, .int .i64 a] w fun e w' => e = .returned (.int .i64 0) ∧ w = w'

theorem nots_of {T : World → Prop} {p : Option Addr} {a : Int} (hT : ∀ w o, T w → T (w.alloc o)) (H : ∀ w, T w → Calls Try.prog 68 #[.pointer p, .int .i64 a] w fun e w' => e = .returned (.bool false) ∧ w = w') (r0 r1 : Int) : Nots T p a r0 r1 where
  pinned w h := pinned_not w p a (H w h)
  pin w h := pin_not1 (H w h)
  unpin w h := unpin_not w p a (pinned_not w p a (H w h))
  retire w h := retire_not1 (H _ (hT _ _ h))
  ripe w h := ripe_not1 (H _ (hT _ _ h))
  limbo w h := limbo_not w p a (H w h)
theorem nots_nil (a r0 r1 : Int) : Nots (fun _ => True) none a r0 r1 := nots_of (fun _ _ _ => trivial) (fun w _ => has_nil w a) r0 r1
theorem nots_out {w : World} {x lb n base : Nat} {now : Int} {P : Nat → Int} {V : Nat → Value} {Q : Nat → List (Int × Int × Int)} (h : Epo w x lb n base now P V Q) {a : Int} (ha : a < 0 ∨ (n : Int) ≤ a) (r0 r1 : Int) :
    Nots (fun w' => Turn (fun _ => False) w w') (some ⟨x, 0, none⟩) a r0 r1 :=
  nots_of (fun w' o ht => ht.alloc o) (fun w' ht => (h.keep ht (fun _ _ _ => id)).has_no ha) r0 r1

set_option maxRecDepth 100000 in
set_option maxHeartbeats 2000000 in
theorem nil_walk (a0 r0 r1 : Int) (w : World) : Calls Try.prog 12 #[.int .i64 a0, .agg #[.int .i64 r0, .int .i64 r1]] w fun e w' => e = .returned (.bool true) ∧ Below w.heap.size w w' := by
  have N := Lib.hid (nots_nil a0 r0 r1)
  have H0 := Lib.hid (epo_new 3 (by decide) (by decide) (w.alloc (.cells #[.int .i64 r0, .int .i64 r1] 51)))
  have AW := Lib.hid epo_awake
  have T0 : Turn (fun _ => False) w (w.alloc (.cells #[.int .i64 r0, .int .i64 r1] 51)) := (Turn.refl _ w).alloc _
  have c0 : (w.alloc (.cells #[.int .i64 r0, .int .i64 r1] 51)).cell? ⟨w.heap.size, 0, none⟩ = some (.int .i64 r0) := World.cell?_alloc_new w #[.int .i64 r0, .int .i64 r1] 51 0
  have c1 : (w.alloc (.cells #[.int .i64 r0, .int .i64 r1] 51)).cell? ⟨w.heap.size, 1, none⟩ = some (.int .i64 r1) := World.cell?_alloc_new w #[.int .i64 r0, .int .i64 r1] 51 1
  have hz : (w.alloc (.cells #[.int .i64 r0, .int .i64 r1] 51)).heap.size = w.heap.size + 1 := by simp
  have G := Lib.hid (And.intro T0 (And.intro c0 (And.intro c1 hz)))
  clear T0 c0 c1 hz
  go_enter Try.func12, Try.ntmps12
  go_wp2_with fail
  generalize w.alloc (.cells #[.int .i64 r0, .int .i64 r1] 51) = wa at *
  have RC := Lib.hid (fun w' (ht : Turn (fun _ => False) wa w') => And.intro (ht.cell (fun e => e) G.out.2.1) (ht.cell (fun e => e) G.out.2.2.1))
  refine H0.out.mono ?_
  rintro e w1 ⟨rfl, h1, b1, z1⟩
  have T0 := Lib.hid (Turn.of_below (S := fun _ => False) b1)
  have T1 := Lib.hid (G.out.1.trans T0.out)
  have E1 := Lib.hid h1
  clear h1 b1 z1
  go_wp2_with fail
  refine (N.out.pinned _ trivial).mono ?_
  rintro e w2 ⟨rfl, rfl⟩
  go_wp2_with fail
  refine (N.out.pin _ trivial).mono ?_
  rintro e w2 ⟨rfl, rfl⟩
  go_wp2_with fail
  refine (N.out.unpin _ trivial).mono ?_
  rintro e w2 ⟨rfl, rfl⟩
  obtain ⟨c0, c1⟩ := RC.out _ T0.out
  go_wp2_with fail
  refine (N.out.retire _ trivial).mono ?_
  rintro e w2 ⟨rfl, rfl⟩
  clear c0 c1
  have T2 := Lib.hid (((Turn.refl _ w1).alloc (.cells #[.int .i64 r0, .int .i64 r1] 51)) : Turn (fun _ => False) _ _)
  generalize w1.alloc (.cells #[.int .i64 r0, .int .i64 r1] 51) = w2 at *
  go_wp2_with fail
  refine (advance_nil _).mono ?_
  rintro e w3 ⟨rfl, rfl⟩
  go_wp2_with fail
  refine (N.out.ripe _ trivial).mono ?_
  rintro e w3 ⟨rfl, t3⟩
  have T3 := Lib.hid (T2.out.trans t3)
  have E3 := Lib.hid (E1.out.keep T3.out (fun _ _ _ => id))
  clear t3
  go_wp2_with fail
  refine (now_nil _).mono ?_
  rintro e w4 ⟨rfl, rfl⟩
  go_wp2_with fail
  refine (N.out.limbo _ trivial).mono ?_
  rintro e w4 ⟨rfl, rfl⟩
  have T4 := Lib.hid (T1.out.trans T3.out)
  by_cases ha : 0 ≤ a0 ∧ a0 < 3
  · obtain ⟨n, rfl⟩ : ∃ n : Nat, a0 = (n : Int) := ⟨a0.toNat, by omega⟩
    have hn : n < 3 := by omega
    have hn3 : (n : Int) < 3 := ha.2
    clear ha
    go_wp2_with fail
    refine (AW.out _).mono ?_
    rintro e w5 ⟨rfl, b5⟩
    have t5 := Turn.of_below (S := fun _ => False) b5
    have T5 := Lib.hid (T4.out.trans t5)
    have C5 := Lib.hid ((E3.out.keep t5 (fun _ _ _ => id)).pin_yes hn rfl)
    have E5 := Lib.hid (E3.out.keep t5 (fun _ _ _ => id))
    clear b5 t5
    go_wp2_with fail
    refine C5.out.mono ?_
    rintro e w6 ⟨rfl, _, t6⟩
    have T6 := Lib.hid (E5.out.wide t6)
    clear t6
    go_wp2
    go_ret
    refine ⟨rfl, ?_⟩
    have hz := G.out.2.2.2
    exact (T5.out.below (B := w.heap.size) (fun k hk => ⟨hk, fun e => e⟩)).trans (T6.out.below (fun k hk => ⟨Nat.lt_of_lt_of_le hk T5.out.size, fun e => by unfold EpoS at e; omega⟩))
  · have ha' : a0 < 0 ∨ ((3 : Nat) : Int) ≤ a0 := by omega
    have M := Lib.hid (nots_out E3.out ha' r0 r1)
    have hb : decide ((0 : Int) ≤ a0) = false ∨ (decide ((0 : Int) ≤ a0) = true ∧ decide (a0 < 3) = false) := by
      by_cases h : (0 : Int) ≤ a0
      · exact .inr ⟨by simpa using h, by simp; omega⟩
      · exact .inl (by simpa using h)
    clear ha ha'
    rcases hb with hb | ⟨hb, hb2⟩
    all_goals
      go_wp2_with fail
      refine (M.out.pinned _ (Turn.refl _ _)).mono ?_
      rintro e w5 ⟨rfl, rfl⟩
      go_wp2_with fail
      refine (AW.out _).mono ?_
      rintro e w5 ⟨rfl, b5⟩
      have t5 := Lib.hid (Turn.of_below (S := fun _ => False) b5)
      clear b5
      go_wp2_with fail
      refine (M.out.pin _ t5.out).mono ?_
      rintro e w6 ⟨rfl, rfl⟩
      go_wp2_with fail
      refine (M.out.unpin _ t5.out).mono ?_
      rintro e w6 ⟨rfl, rfl⟩
      obtain ⟨c0, c1⟩ := RC.out _ ((T0.out.trans T3.out).trans t5.out)
      go_wp2_with fail
      refine (M.out.retire _ t5.out).mono ?_
      rintro e w6 ⟨rfl, rfl⟩
      clear c0 c1
      have T6 := Lib.hid (t5.out.alloc (.cells #[.int .i64 r0, .int .i64 r1] 51))
      generalize w5.alloc (.cells #[.int .i64 r0, .int .i64 r1] 51) = w6 at *
      go_wp2_with fail
      refine (M.out.ripe _ T6.out).mono ?_
      rintro e w7 ⟨rfl, t7⟩
      have T7 := Lib.hid (T6.out.trans t7)
      clear t7
      go_wp2_with fail
      refine (M.out.limbo _ T7.out).mono ?_
      rintro e w8 ⟨rfl, rfl⟩
      go_wp2
      go_ret
      exact ⟨rfl, (T4.out.trans T7.out).below (B := w.heap.size) (fun k hk => ⟨hk, fun e => e⟩)⟩
end Go.Proofs.Ytibmimdlgbhdnaa
