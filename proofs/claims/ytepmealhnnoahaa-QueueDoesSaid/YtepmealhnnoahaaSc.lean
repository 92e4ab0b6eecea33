/-
  A new desk; hits; rows merged of which there is one.
-/
import Derived.Test.YtepmealhnnoahaaSb
namespace Go.Proofs.Ytepmealhnnoahaa
set_option linter.unusedSimpArgs false
open Go.ChangeShapes Go.WideShapes Go.ChangeAt Go.RowKit
set_option linter.unusedVariables false
def noneS : Int → Option (List Fnd × Bool) := fun _ => none
theorem new_d (w : World) (a b c e s : Int) {qu ou : Int} (h1 : 1 ≤ qu) (h2 : qu ≤ 4096) (h3 : 1 ≤ ou) (h4 : ou ≤ 4096) :
    Calls Try.prog 10 #[.agg #[.int .i64 a, .int .i64 b, .int .i64 c, .int .i64 qu, .int .i64 e, .int .i64 ou, .int .i64 s]] w fun en w' => ∃ d mb P, en = .returned (.pointer (some ⟨d, 0, none⟩)) ∧ DAt w' d mb w.heap.size qu ou 0 0 noneS P ∧ (∀ k, P k → w.heap.size ≤ k) ∧ Turn (fun _ => False) w w' := by
  refine (new_yes w a b c e s h1 h2 h3 h4).mono ?_
  rintro en w' ⟨d, mb, rfl, hd, g1, g2, T⟩
  refine ⟨d, mb, _, rfl, ⟨⟨fun _ => none, fun _ => [], fun _ => False, 0, Nat.le_refl _, hd, ⟨fun i q h => (by cases h), fun i j q r k _ h => (by cases h), fun k h => h.elim, fun i q k h => (by cases h), fun i _ => rfl⟩, fun k h => h.elim, rfl, rfl⟩, T.size, h4⟩, fun k p => ?_, T⟩
  rcases p with rfl | rfl | p | ⟨i, q, h, _⟩
  · exact g1
  · exact g2
  · exact p.elim
  · cases h
/-- A hit of one event, at a slot. -/
def fndN (n : Int) : Fnd := ⟨[[n]], [(n, 0)]⟩
theorem found_new {w : World} {N : Nat → Prop} {b1 b2 b3 : Nat} {c1 c2 c3 : Nat} {n : Int} (hb : Blk w b1 46) (hb2 : Blk w b2 3) (hb3 : Blk w b3 38) (n1 : ¬ N b1) (n2 : ¬ N b2) (n3 : ¬ N b3)
    (r1 : w.rangeAt b1 0 [.slice (some ⟨b2, 0, none⟩) 1 c2]) (r2 : w.rangeAt b2 0 [.int .i64 n]) (r3 : w.rangeAt b3 0 [.int .i64 n, .int .i64 0]) : FoundAt w N (.slice (some ⟨b1, 0, none⟩) 1 c1) (.slice (some ⟨b3, 0, none⟩) 1 c3) (fndN n) := by
  refine ⟨⟨b1, c1, _, rfl, n1, hb, r1, rfl, fun j l u hl hu => ?_⟩, ⟨b3, c3, rfl, hb3, r3, rfl⟩, fun k hk => ?_, by simp [fndN], by simp [fndN], by simp [fndN], by simp [fndN]⟩
  · have hj := (List.getElem?_eq_some_iff.1 hl).1
    obtain rfl : j = 0 := by simp [fndN] at hj; omega
    simp [fndN] at hl hu
    subst hl; subst hu
    refine ⟨⟨b2, c2, rfl, hb2, r2, rfl⟩, fun k hk => ?_, by simp, by simp⟩
    have : b2 = k := by simpa [Value.ownBlock] using hk
    rw [← this]; exact n2
  · have : b3 = k := by simpa [Value.ownBlock] using hk
    rw [← this]; exact n3
def HitPost (w : World) (i n : Int) (e : Ending) (w' : World) : Prop :=
  ∃ x : Ht, e = .returned x.val ∧ x.id = i ∧ x.f = fndN n ∧ FoundAt w' (fun k => k < w.heap.size) (.slice x.sa x.sn x.sc) (.slice x.ra x.rn x.rc) x.f ∧ Turn (fun _ => False) w w'
set_option maxRecDepth 100000 in
set_option maxHeartbeats 4000000 in
theorem hit_is (w : World) (i n : Int) : Calls Try.prog 25 #[.int .i64 i, .int .i64 n] w (HitPost w i n) := by
  obtain ⟨c0, hc0⟩ : ∃ c0 : List Value, c0 = [.int .i64 i, .slice (some ⟨w.heap.size + 1 + 1, 0, none⟩) 1 1, .slice (some ⟨w.heap.size + 1 + 1 + 1, 0, none⟩) 1 1] := ⟨_, rfl⟩
  obtain ⟨W1, h1⟩ : ∃ W1, W1 = w.alloc (.cells c0.toArray 73) := ⟨_, rfl⟩
  obtain ⟨W2, h2⟩ : ∃ W2, W2 = W1.alloc (.cells #[.int .i64 n] 3) := ⟨_, rfl⟩
  obtain ⟨W3, h3⟩ : ∃ W3, W3 = W2.alloc (.cells #[.slice (some ⟨w.heap.size + 1, 0, none⟩) 1 1] 46) := ⟨_, rfl⟩
  obtain ⟨W4, h4⟩ : ∃ W4, W4 = W3.alloc (.cells #[.int .i64 n, .int .i64 0] 38) := ⟨_, rfl⟩
  have s1 : W1.heap.size = w.heap.size + 1 := by rw [h1, World.size_alloc]
  have s2 : W2.heap.size = w.heap.size + 1 + 1 := by rw [h2, World.size_alloc, s1]
  have s3 : W3.heap.size = w.heap.size + 1 + 1 + 1 := by rw [h3, World.size_alloc, s2]
  have T1 : Turn (fun _ => False) w W1 := by rw [h1]; exact (Turn.refl _ w).alloc _
  have T2 : Turn (fun _ => False) W1 W2 := by rw [h2]; exact (Turn.refl _ W1).alloc _
  have T3 : Turn (fun _ => False) W2 W3 := by rw [h3]; exact (Turn.refl _ W2).alloc _
  have T4 : Turn (fun _ => False) W3 W4 := by rw [h4]; exact (Turn.refl _ W3).alloc _
  have R1 : W1.rangeAt w.heap.size 0 c0 := by rw [h1]; exact range_new w c0 73
  have B2 : Blk W2 (w.heap.size + 1) 3 ∧ W2.rangeAt (w.heap.size + 1) 0 [.int .i64 n] := by rw [h2, ← s1]; exact ⟨Blk.new W1 [.int .i64 n] 3, range_new W1 [.int .i64 n] 3⟩
  have B3 : Blk W3 (w.heap.size + 1 + 1) 46 ∧ W3.rangeAt (w.heap.size + 1 + 1) 0 [.slice (some ⟨w.heap.size + 1, 0, none⟩) 1 1] := by rw [h3, ← s2]; exact ⟨Blk.new W2 [.slice (some ⟨w.heap.size + 1, 0, none⟩) 1 1] 46, range_new W2 [.slice (some ⟨w.heap.size + 1, 0, none⟩) 1 1] 46⟩
  have B4 : Blk W4 (w.heap.size + 1 + 1 + 1) 38 ∧ W4.rangeAt (w.heap.size + 1 + 1 + 1) 0 [.int .i64 n, .int .i64 0] := by rw [h4, ← s3]; exact ⟨Blk.new W3 [.int .i64 n, .int .i64 0] 38, range_new W3 [.int .i64 n, .int .i64 0] 38⟩
  have F : FoundAt W4 (fun k => k < w.heap.size) (.slice (some ⟨w.heap.size + 1 + 1, 0, none⟩) 1 1) (.slice (some ⟨w.heap.size + 1 + 1 + 1, 0, none⟩) 1 1) (fndN n) :=
    found_new (b2 := w.heap.size + 1) (c2 := 1) (B3.1.turn T4 id) ((B2.1.turn T3 id).turn T4 id) B4.1 (by omega) (by omega) (by omega) (range_turn B3.2 T4 id) (range_turn (range_turn B2.2 T3 id) T4 id) B4.2
  have R4 := range_turn (range_turn (range_turn R1 T2 id) T3 id) T4 id
  have FIN := Lib.hid (show FoundAt W4 (fun k => k < w.heap.size) (.slice (some ⟨w.heap.size + 1 + 1, 0, none⟩) 1 1) (.slice (some ⟨w.heap.size + 1 + 1 + 1, 0, none⟩) 1 1) (fndN n) ∧ Turn (fun _ => False) w W4 ∧ W4.rangeAt w.heap.size 0 [.int .i64 i, .slice (some ⟨w.heap.size + 1 + 1, 0, none⟩) 1 1, .slice (some ⟨w.heap.size + 1 + 1 + 1, 0, none⟩) 1 1] from ⟨F, ((T1.trans T2).trans T3).trans T4, by rw [← hc0]; exact R4⟩)
  have HW := Lib.hid (show W4 = (((w.alloc (.cells #[.int .i64 i, .slice (some ⟨w.heap.size + 1 + 1, 0, none⟩) 1 1, .slice (some ⟨w.heap.size + 1 + 1 + 1, 0, none⟩) 1 1] 73)).alloc (.cells #[.int .i64 n] 3)).alloc (.cells #[.slice (some ⟨w.heap.size + 1, 0, none⟩) 1 1] 46)).alloc (.cells #[.int .i64 n, .int .i64 0] 38) from by rw [h4, h3, h2, h1, hc0])
  clear hc0 h1 h2 h3 h4 s1 s2 s3 T1 T2 T3 T4 R1 B2 B3 B4 F R4
  go_enter Try.func25, Try.ntmps25
  go_wp2_with fail
  rw [← HW.out]
  exact bodyPost_ret (v := .agg #[.int .i64 i, .slice (some ⟨w.heap.size + 1 + 1, 0, none⟩) 1 1, .slice (some ⟨w.heap.size + 1 + 1 + 1, 0, none⟩) 1 1]) (res_cell (a := 4) rfl rfl (run_loadVar_mid _ w.heap.size 0 73 _ _ FIN.out.2.2 Try.underlying73 rfl size73)) rfl ⟨⟨i, _, 1, 1, _, 1, 1, fndN n⟩, rfl, rfl, rfl, FIN.out.1, FIN.out.2.1⟩
/-- Merged of one row alone: the row. -/
theorem mergeN_one : ∀ (l : List Ht) , mergeN ltH l.length [l] = l
  | [] => rfl
  | x :: l => by
    have hf : firstAt ltH [x :: l] = ((0 : Nat) : Int) := by
      have h1 : isFirst ltH [x :: l] 0 = true := by
        unfold isFirst
        simp [leastB, okB]
      exact firstAt_at (by simp) (by simp) h1
    rw [List.length_cons, mergeN_step hf (show [x :: l][0]? = some (x :: l) from rfl)]
    show x :: mergeN ltH l.length [l] = x :: l
    rw [mergeN_one l]
end Go.Proofs.Ytepmealhnnoahaa
