/-
  A log in memory: Answer.
-/
import Derived.Test.YteokdibfdahabaaLg5
namespace Go.Proofs.Yteokdibfdahabaa
open Go.ChangeShapes Go.WideShapes Go.ChangeAt Go.RowKit
set_option linter.unusedVariables false
section
variable {w w' : World} {B : LB} {c : Cf} {s : LSt}
theorem zero67 (w : World) : (zeroValue 67).run Try.prog w = .ok Nd.zero.val w := by
  unfold Nd.zero Nd.val
  go_simp
set_option maxRecDepth 100000 in
set_option maxHeartbeats 2000000 in
theorem LogAt.answer_is (h : LogAt w B c s) {at_ : Int} (h0 : (Lit.int .i64 at_).wf = true) :
    Calls Try.prog 26 #[.pointer (some ⟨B.l, 0, none⟩), .int .i64 at_] w fun e w' => e = .returned (.tuple #[((s.G at_).getD Nd.zero).val, .bool (s.G at_).isSome]) ∧ LogAt w' B c { s with G := updI s.G at_ none } ∧ Turn (B.foot c.sh) w w' := by
  obtain ⟨W, hW⟩ : ∃ W, W = w.alloc (.cells #[.int .i64 0, .int .i64 0, .slice none 0 0] 67) := ⟨_, rfl⟩
  have T : Turn (fun _ => False) w W := by rw [hW]; exact (Turn.refl _ w).alloc _
  have Bk : Blk W w.heap.size 67 := by rw [hW]; exact Blk.new w [.int .i64 0, .int .i64 0, .slice none 0 0] 67
  have C : W.rangeAt w.heap.size 0 [.int .i64 0, .int .i64 0, .slice none 0 0] := by rw [hW]; exact range_new w [.int .i64 0, .int .i64 0, .slice none 0 0] 67
  have hh := h.keep T
  obtain ⟨n, m, ha, hn⟩ := hh.ans
  have LOOK := ha.look (t := 90) (e := 67) Try.underlying3 Try.underlying90 (zero67 W) h0
  have k13 := hh.k13
  have KX := Lib.hid (And.intro T (And.intro Bk (And.intro C (And.intro hh h0))))
  obtain ⟨q, hq⟩ : ∃ q, (s.G at_).getD Nd.zero = q := ⟨_, rfl⟩
  obtain ⟨t, ht⟩ : ∃ t, (s.G at_).isSome = t := ⟨_, rfl⟩
  rw [hq, ht] at LOOK
  rw [hq, ht]
  obtain ⟨qe, qn⟩ := q
  unfold Nd.val at LOOK ⊢
  dsimp only at LOOK ⊢
  clear T Bk C hh h h0 ha hn hq ht
  go_enter Try.func26, Try.ntmps26
  go_upto_region 3 with fail
  rw [← hW]
  clear hW
  generalize hb : w.heap.size = b at *
  have HB := Lib.hid hb
  clear hb
  go_upto_region 4 with fail
  obtain ⟨W3, hW3⟩ : ∃ W3, W3 = W.alloc (.cells #[.int .i64 qe, .int .i64 qn, .slice none 0 0] 67) := ⟨_, rfl⟩
  rw [← hW3]
  have T3 : Turn (fun _ => False) W W3 := by rw [hW3]; exact (Turn.refl _ W).alloc _
  have C3 : W3.rangeAt W.heap.size 0 [.int .i64 qe, .int .i64 qn, .slice none 0 0] := by rw [hW3]; exact range_new W _ 67
  have B3 : Blk W3 W.heap.size 67 := by rw [hW3]; exact Blk.new W [.int .i64 qe, .int .i64 qn, .slice none 0 0] 67
  clear hW3
  generalize W.heap.size = b6 at *
  have h3 := KX.out.2.2.2.1.keep T3
  obtain ⟨n, m, ha, hn⟩ := h3.ans
  obtain ⟨W4, TAKE, N4, g4⟩ := ha.take (t := 90) (e := 67) Try.underlying3 Try.underlying90 KX.out.2.2.2.2 0
  have T4 : Turn (fun k => k = B.mb) W3 W4 := (Turn.refl _ W3).grown g4 (fun k hk => .inl (by cases hk; rfl))
  have h4 := Lib.hid (show LogAt W4 B c { s with G := updI s.G at_ none } from h3.put_ans T4 (k := s.cnt) ⟨n, _, N4, hn⟩)
  have k13 := T3.cell (fun f => f) k13
  have nb6 : b6 ≠ B.mb := ha.ne B3
  have nb : b ≠ B.mb := ha.ne (KX.out.2.1.turn T3 (fun f => f))
  have C4 := range_turn C3 T4 nb6
  have y0 : W4.cell? ⟨b6, 0, none⟩ = some (.int .i64 qe) := C4 0 _ rfl
  have y1 : W4.cell? ⟨b6, 1, none⟩ = some (.int .i64 qn) := C4 1 _ rfl
  have y2 : W4.cell? ⟨b6, 2, none⟩ = some (.slice none 0 0) := C4 2 _ rfl
  have R4 := range_turn (range_turn KX.out.2.2.1 T3 (fun f => f)) T4 nb
  have x0 : W4.cell? ⟨b, 0, none⟩ = some (.int .i64 0) := R4 0 _ rfl
  have x1 : W4.cell? ⟨b, 1, none⟩ = some (.int .i64 0) := R4 1 _ rfl
  have x2 : W4.cell? ⟨b, 2, none⟩ = some (.slice none 0 0) := R4 2 _ rfl
  have BB := (KX.out.2.1.turn T3 (fun f => f)).turn T4 nb
  have fz := BB.fz
  have hb1 := Lib.hid BB
  have TF := Lib.hid (((KX.out.1.trans T3).more (S' := B.foot c.sh) (fun _ _ f => f.elim)).trans (T4.more (fun _ _ e => .inr (.inr (.inr (.inr (.inl e)))))))
  clear h3 ha hn N4 g4 C4 R4 C3 B3 LOOK T3 T4 nb6 nb BB
  go_wp2
  refine bodyPost_ret (v := .tuple #[.agg #[.int .i64 qe, .int .i64 qn, .slice none 0 0], .bool t]) (by simp [results, Try.results26, go_sem, cell_off, x0, x1, x2]) rfl ⟨rfl, ?_, ?_⟩
  · have TS : Turn (fun k => k = b) W4 (((W4.setCell ⟨b, 0, none⟩ (.int .i64 qe)).setCell ⟨b, 1, none⟩ (.int .i64 qn)).setCell ⟨b, 2, none⟩ (.slice none 0 0)) := ((Turn.put _ _ _ _).trans (Turn.put _ _ _ _)).trans (Turn.put _ _ _ _)
    exact h4.out.turn TS (fun k hk e => h4.out.foot_ne hb1.out (by decide) (by decide) (by decide) (by decide) (by decide) (by decide) (e ▸ hk)) (fun k hk e => hk.ne hb1.out (by decide) e)
  · exact (((TF.out).setCell (p := ⟨b, 0, none⟩) (.inr (by rw [← HB.out]; exact Nat.le_refl _)) _).setCell (p := ⟨b, 1, none⟩) (.inr (by rw [← HB.out]; exact Nat.le_refl _)) _).setCell (p := ⟨b, 2, none⟩) (.inr (by rw [← HB.out]; exact Nat.le_refl _)) _
end
end Go.Proofs.Yteokdibfdahabaa
