/-
  StepGuards' walk.
-/
import Derived.Test.YtfidnahbhomomaaSm
import Derived.Test.YtfidnahbhomomaaRn
namespace Go.Proofs.Ytfidnahbhomomaa
open Go.ChangeShapes Go.WideShapes Go.ChangeAt Go.RowKit
set_option linter.unusedVariables false
set_option linter.unusedSimpArgs false
def gRule (least : Int) : Rul := ⟨6, [⟨7, 0, 0, 2⟩], [⟨6, least, 0, 0⟩]⟩
def gTab (p : Bool) (least : Int) : Tab := ⟨[⟨0, p, [], [⟨2, [gRule least]⟩]⟩, ⟨1, false, [], []⟩], 8, false⟩
def gCel (p : Bool) (least : Int) : Cel := ⟨0, p, [], [⟨2, [gRule least]⟩]⟩
def gEv (x : Int) : Ev := ⟨2, 0, x, 0, 0, 0⟩
theorem g_left {X : List (List Ev)} {x : Int} (h : setE X 2 = [gEv x]) : evalCd (envE X) [⟨7, 0, 0, 2⟩] = some x := by
  have hc : (envE X).cnt 2 = 1 := by show ((setE X 2).length : Int) = 1; rw [h]; rfl
  have hl : (envE X).last 2 0 = x := by show lastE (setE X 2) 0 = x; rw [h]; rfl
  have hs : stepCd (envE X) [] ⟨7, 0, 0, 2⟩ = some [x] := by
    show (if (envE X).cnt 2 = 0 ∨ (0 : Int) < 0 ∨ 4 ≤ (0 : Int) then none else some [(envE X).last 2 0]) = some [x]
    rw [hc, hl, if_neg (by decide)]
  show one? ((stepCd (envE X) [] ⟨7, 0, 0, 2⟩).bind (evalSt (envE X) [])) = some x
  rw [hs]
  rfl
theorem g_met {X : List (List Ev)} {x least : Int} (h : setE X 2 = [gEv x]) : allR X [gRule least] = decide (least ≤ x) := by
  show (holdsR X (gRule least) && true) = _
  unfold holdsR gRule
  dsimp only
  rw [g_left h]
  have hr : evalCd (envE X) [⟨6, least, 0, 0⟩] = some least := rfl
  rw [hr, Bool.and_true]
  rfl
theorem g_rule (least : Int) : RulesOk (orP 0 2) [gRule least] := ⟨(by show 1 ≤ 100; decide), fun r hr => by
  simp at hr
  subst hr
  refine ⟨⟨(by show (1 : Int) ≤ 6; decide), (by show (6 : Int) ≤ 6; decide)⟩, ⟨(by show 1 ≤ 100; decide), fun c hc _ => ?_⟩, ⟨(by show 1 ≤ 100; decide), fun c hc hop => ?_⟩⟩
  · have : c = ⟨7, 0, 0, 2⟩ := by simpa [gRule] using hc
    subst this
    exact .inr rfl
  · have : c = ⟨6, least, 0, 0⟩ := by simpa [gRule] using hc
    subst this
    rcases hop with h | h <;> exact absurd h (by show ¬ (6 : Int) = _; decide)⟩
theorem g_ok (p : Bool) (least : Int) : (gTab p least).ok := tab2_ok rfl (by decide) (by show (0 : Int) ≤ 0 ∧ (0 : Int) < 8; decide) (by decide) ⟨(by show 1 ≤ 100; decide), fun g h => by simp at h; subst h; exact ⟨(by show (0 : Int) ≤ 2; decide), (by show (2 : Int) < 8; decide)⟩⟩ (rules_ok_nil _) (rules_ok_nil _) (fun g h => by simp at h; subst h; exact g_rule least)
theorem g_first (p : Bool) (x least : Int) : stepR (gTab p least) [[Ev.zero]] 0 1 [[0]] false (gCel p least) (gEv x) = if p || !decide (least ≤ x) then [⟨0, [[0]], decide (least ≤ x)⟩] else [] := by
  have hg : gdB (gTab p least) [[Ev.zero]] (gCel p least) (gEv x) = decide (least ≤ x) := by
    show ((2 : Int) == 2 && allR (withE [[Ev.zero]] 2 (gEv x)) [gRule least] || false) = _
    rw [g_met (X := withE [[Ev.zero]] 2 (gEv x)) (x := x) rfl, Bool.or_false]
    rfl
  unfold stepR
  rw [if_neg (by show ¬ (8 : Int) ≤ 1 - 0; decide), hg]
  cases p <;> cases decide (least ≤ x) <;> rfl
theorem g_on (p m : Bool) (least : Int) : stepR (gTab p least) [[Ev.zero]] 0 2 [[0]] m (gCel p least) ⟨1, 0, 0, 0, 0, 0⟩ = ⟨0, [[0]], m⟩ :: if m then [] else [⟨1, putN [[0]] 1 2, false⟩] := by
  have hg : gdB (gTab p least) [[Ev.zero]] (gCel p least) ⟨1, 0, 0, 0, 0, 0⟩ = false := rfl
  unfold stepR
  rw [if_neg (by show ¬ (8 : Int) ≤ 2 - 0; decide), hg]
  cases p <;> cases m <;> rfl
theorem g_more (least : Int) : stepR (gTab true least) [[Ev.zero]] 0 2 [[0]] true (gCel true least) Ev.zero = [⟨0, [[0]], true⟩, ⟨0, putN [[0]] 0 2, false⟩] := by
  have hg : gdB (gTab true least) [[Ev.zero]] (gCel true least) Ev.zero = false := rfl
  unfold stepR
  rw [if_neg (by show ¬ (8 : Int) ≤ 2 - 0; decide), hg]
  rfl
theorem g_run {p m : Bool} {least : Int} {n : Nat} (h1 : 1 ≤ n) (hn : n ≤ 100000) (h : m = true → p = true) : RunOk (gTab p least) 0 [[0]] m n := by
  have R := run_first (T := gTab p least) h1 hn (by show (1 : Int) ≤ 8; decide) (by show 1 ≤ 2; decide)
  exact ⟨R.len, R.le, fun hm c hc => by
    have : c = gCel p least := by
      have : (gTab p least).cells[0]? = some (gCel p least) := rfl
      rw [this] at hc
      exact (Option.some.inj hc).symm
    rw [this]; exact h hm, R.row, R.ris, R.win, R.small⟩
theorem EvsAt.part {w : World} {b off off' n c : Nat} {l : List Ev} (h : EvsAt w (.slice (some ⟨b, off, none⟩) n c) l) (i k : Nat) (hk : i + k ≤ n) (hk1 : 1 ≤ k) (ho : off' = off + i * 6) {m : List Ev} (hm : m = (l.drop i).take k) : EvsAt w (.slice (some ⟨b, off', none⟩) k (c - i)) m := by
  subst hm ho
  obtain ⟨a', b', off2, cap, e, hcap, ha, hx⟩ := h
  have hn : n = l.length := slice_len e
  have hc : c = cap := by injection e
  have ha2 : some ⟨b, off, none⟩ = a' := by injection e
  subst hn hc ha2
  clear e
  have hlen : ((l.drop i).take k).length = k := by rw [List.length_take, List.length_drop]; omega
  obtain ⟨ha, hb⟩ := ha.resolve_left (fun e => by rw [e] at hk; simp at hk; omega)
  injection ha with ha
  injection ha with h1 h2
  subst h1 h2
  refine ⟨_, b, off + i * 6, c - i, by rw [hlen], by rw [hlen]; omega, .inr ⟨rfl, hb⟩, fun j e he => ?_⟩
  have hj := (List.getElem?_eq_some_iff.1 he).1
  rw [hlen] at hj
  rw [List.getElem?_take_of_lt hj, List.getElem?_drop] at he
  have := hx (i + j) e he
  rw [show off + i * 6 + j * 6 = off + (i + j) * 6 by omega]
  exact this
theorem g_cells (w : World) (p : Bool) (least : Int) : ∃ W, W = ((((((w.alloc (.cells #[.int .i64 7, .int .i64 0, .string ⟨#[]⟩, .int .i64 0, .int .i64 2] 65)).alloc (.cells #[.int .i64 6, .int .i64 least, .string ⟨#[]⟩, .int .i64 0, .int .i64 0] 65)).alloc (.cells #[.int .i64 6, .slice (some ⟨w.heap.size, 0, none⟩) 1 1, .slice (some ⟨w.heap.size + 1, 0, none⟩) 1 1] 68)).alloc (.cells #[.int .i64 6, .slice (some ⟨w.heap.size, 0, none⟩) 1 1, .slice (some ⟨w.heap.size + 1, 0, none⟩) 1 1] 68)).alloc (.cells #[.int .i64 2, .slice (some ⟨w.heap.size + 1 + 1 + 1, 0, none⟩) 1 1] 70)).alloc (.cells #[.int .i64 0, .bool p, .slice none 0 0, .slice (some ⟨w.heap.size + 1 + 1 + 1 + 1, 0, none⟩) 1 1, .int .i64 1, .bool false, .slice none 0 0, .slice none 0 0] 59)) ∧
    CellsAt W (.slice (some ⟨w.heap.size + 1 + 1 + 1 + 1 + 1, 0, none⟩) 2 2) (gTab p least).cells ∧ W.rangeAt (w.heap.size + 1 + 1) 0 [.int .i64 6, .slice (some ⟨w.heap.size, 0, none⟩) 1 1, .slice (some ⟨w.heap.size + 1, 0, none⟩) 1 1] ∧ CodesAt W (.slice (some ⟨w.heap.size, 0, none⟩) 1 1) (gRule least).left ∧ CodesAt W (.slice (some ⟨w.heap.size + 1, 0, none⟩) 1 1) (gRule least).right ∧ Turn (fun _ => False) w W ∧ W.heap.size = w.heap.size + 1 + 1 + 1 + 1 + 1 + 1 := by
  obtain ⟨W1, h1⟩ : ∃ W1, W1 = w.alloc (.cells #[.int .i64 7, .int .i64 0, .string ⟨#[]⟩, .int .i64 0, .int .i64 2] 65) := ⟨_, rfl⟩
  have s1 : W1.heap.size = w.heap.size + 1 := by rw [h1, World.size_alloc]
  have L1 := codes_new w ⟨7, 0, 0, 2⟩ ⟨#[]⟩
  have T1 : Turn (fun _ => False) w W1 := by rw [h1]; exact (Turn.refl _ w).alloc _
  have L1 : CodesAt W1 (.slice (some ⟨w.heap.size, 0, none⟩) 1 1) [⟨7, 0, 0, 2⟩] := by rw [h1]; exact L1
  rw [← h1]
  obtain ⟨W2, h2⟩ : ∃ W2, W2 = W1.alloc (.cells #[.int .i64 6, .int .i64 least, .string ⟨#[]⟩, .int .i64 0, .int .i64 0] 65) := ⟨_, rfl⟩
  have s2 : W2.heap.size = w.heap.size + 1 + 1 := by rw [h2, World.size_alloc, s1]
  have T2 : Turn (fun _ => False) W1 W2 := by rw [h2]; exact (Turn.refl _ W1).alloc _
  have R2 : CodesAt W2 (.slice (some ⟨w.heap.size + 1, 0, none⟩) 1 1) [⟨6, least, 0, 0⟩] := by rw [h2, ← s1]; exact codes_new W1 ⟨6, least, 0, 0⟩ ⟨#[]⟩
  rw [← h2]
  obtain ⟨W3, h3⟩ : ∃ W3, W3 = W2.alloc (.cells #[.int .i64 6, .slice (some ⟨w.heap.size, 0, none⟩) 1 1, .slice (some ⟨w.heap.size + 1, 0, none⟩) 1 1] 68) := ⟨_, rfl⟩
  have s3 : W3.heap.size = w.heap.size + 1 + 1 + 1 := by rw [h3, World.size_alloc, s2]
  have T3 : Turn (fun _ => False) W2 W3 := by rw [h3]; exact (Turn.refl _ W2).alloc _
  have G3 : W3.rangeAt (w.heap.size + 1 + 1) 0 [.int .i64 6, .slice (some ⟨w.heap.size, 0, none⟩) 1 1, .slice (some ⟨w.heap.size + 1, 0, none⟩) 1 1] := by rw [h3, ← s2]; exact range_new W2 [.int .i64 6, .slice (some ⟨w.heap.size, 0, none⟩) 1 1, .slice (some ⟨w.heap.size + 1, 0, none⟩) 1 1] 68
  rw [← h3]
  obtain ⟨W4, h4⟩ : ∃ W4, W4 = W3.alloc (.cells #[.int .i64 6, .slice (some ⟨w.heap.size, 0, none⟩) 1 1, .slice (some ⟨w.heap.size + 1, 0, none⟩) 1 1] 68) := ⟨_, rfl⟩
  have s4 : W4.heap.size = w.heap.size + 1 + 1 + 1 + 1 := by rw [h4, World.size_alloc, s3]
  have T4 : Turn (fun _ => False) W3 W4 := by rw [h4]; exact (Turn.refl _ W3).alloc _
  have R4 : RulesAt W4 (.slice (some ⟨w.heap.size + 1 + 1 + 1, 0, none⟩) 1 1) [gRule least] := by rw [h4, ← s3]; exact rules_new W3 (gRule least) _ _ (L1.turn (T2.trans T3)) (R2.turn T3)
  rw [← h4]
  obtain ⟨W5, h5⟩ : ∃ W5, W5 = W4.alloc (.cells #[.int .i64 2, .slice (some ⟨w.heap.size + 1 + 1 + 1, 0, none⟩) 1 1] 70) := ⟨_, rfl⟩
  have s5 : W5.heap.size = w.heap.size + 1 + 1 + 1 + 1 + 1 := by rw [h5, World.size_alloc, s4]
  have T5 : Turn (fun _ => False) W4 W5 := by rw [h5]; exact (Turn.refl _ W4).alloc _
  have R5 : GuardsAt W5 (.slice (some ⟨w.heap.size + 1 + 1 + 1 + 1, 0, none⟩) 1 1) [⟨2, [gRule least]⟩] := by rw [h5, ← s4]; exact guards_new W4 ⟨2, [gRule least]⟩ _ R4
  rw [← h5]
  have T6 : Turn (fun _ => False) W5 (W5.alloc (.cells #[.int .i64 0, .bool p, .slice none 0 0, .slice (some ⟨w.heap.size + 1 + 1 + 1 + 1, 0, none⟩) 1 1, .int .i64 1, .bool false, .slice none 0 0, .slice none 0 0] 59)) := (Turn.refl _ W5).alloc _
  have R6 := cells_two W5 (gCel p least) ⟨1, false, [], []⟩ (.slice none 0 0) (.slice none 0 0) (.slice (some ⟨w.heap.size + 1 + 1 + 1 + 1, 0, none⟩) 1 1) (.slice none 0 0) (rules_nil _) (rules_nil _) R5 (guards_nil _)
  rw [s5] at R6
  exact ⟨_, rfl, R6, range_turn G3 (T4.trans (T5.trans T6)) id, L1.turn (T2.trans (T3.trans (T4.trans (T5.trans T6)))), R2.turn (T3.trans (T4.trans (T5.trans T6))), T1.trans (T2.trans (T3.trans (T4.trans (T5.trans T6)))), by rw [World.size_alloc, s5]⟩
end Go.Proofs.Ytfidnahbhomomaa
