/-
  Lex: the tokens of a text.
  Parse: the query that a text is.
-/
import Derived.Test.YtadogobdlcionaaGreatDoorKae
import Derived.Test.YtadogobdlcionaaGreatDoorKaj
import Derived.Test.YtadogobdlcionaaGreatDoorKak
set_option linter.unusedSimpArgs false
namespace Go.Proofs.YtadogobdlcionaaGreatDoor
open Go.ChangeShapes Go.WideShapes Go.ChangeAt Go.RowKit Go.Shelf
set_option linter.unusedVariables false
attribute [local go_sem] Oper.semAt_some
def LexJ (w : World) (N : Nat) (s : ByteArray) (q : List (Nat × Tok) × Nat) (W : World) : Prop := ∃ v, LexI w W N s v q.1 q.2 ∧ N + 6 ≤ q.2
/-- What is left where the 201st token is met. -/
def LexX (w : World) (N : Nat) (pre : List (Nat × Tok)) (W : World) : Prop :=
  ∃ p x, pre = p ++ [x] ∧ p.length = 200 ∧ Turn (fun _ => False) w W ∧ (Blk W N 60 ∧ W.cell? ⟨N, 0, none⟩ = some (.slice none 0 0)) ∧ (Blk W (N + 1) 3 ∧ W.cell? ⟨N + 1, 0, none⟩ = some (.int .i64 (x.1 : Int))) ∧ (Blk W (N + 2) 48 ∧ W.cell? ⟨N + 2, 0, none⟩ = some (.int .i64 12))
theorem LexX.turn {w W W' : World} {N : Nat} {pre : List (Nat × Tok)} (h : LexX w N pre W) {S : Nat → Prop} (T : Turn S W W') (hS : ∀ k, S k → w.heap.size ≤ k) (h0 : ¬ S N ∧ ¬ S (N + 1) ∧ ¬ S (N + 2)) : LexX w N pre W' := by
  obtain ⟨p, x, e, l, tn, r2, r3, r4⟩ := h
  exact ⟨p, x, e, l, tn.comp T (fun i hi q => by have := hS i q; omega), ⟨r2.1.turn T h0.1, T.cell h0.1 r2.2⟩, ⟨r3.1.turn T h0.2.1, T.cell h0.2.1 r3.2⟩, ⟨r4.1.turn T h0.2.2, T.cell h0.2.2 r4.2⟩⟩
theorem not_deferred {W : World} {D k : Nat} {t : TypeId} (KD : W.heap[D]? = some (.deferred (some []))) (h : Blk W k t) : k ≠ D := fun e => by
  subst e
  obtain ⟨cs, hb⟩ := h
  rw [KD] at hb
  cases hb
theorem fin3 {W : World} {N b1 b2 D : Nat} {v0 v1 v2 : Value} {tmps : Array Value} (KD : W.heap[D]? = some (.deferred (some []))) (g0 : Blk W N 60 ∧ W.cell? ⟨N, 0, none⟩ = some v0) (g1 : Blk W b1 3 ∧ W.cell? ⟨b1, 0, none⟩ = some v1) (g2 : Blk W b2 48 ∧ W.cell? ⟨b2, 0, none⟩ = some v2)
    (h2 : tmps.getD 2 undef = .pointer (some ⟨N, 0, none⟩)) (h3 : tmps.getD 3 undef = .pointer (some ⟨b1, 0, none⟩)) (h4 : tmps.getD 4 undef = .pointer (some ⟨b2, 0, none⟩)) :
    (results Tryz.f31 tmps).run Tryz.prog (W.putObj D (.deferred none)) = .ok (.tuple #[v0, v1, v2]) (W.putObj D (.deferred none)) := by
  have T := putObj_turn (S := fun k => k = D) W D (.deferred none) rfl
  have c0 := T.cell (not_deferred KD g0.1) g0.2
  have c1 := T.cell (not_deferred KD g1.1) g1.2
  have c2 := T.cell (not_deferred KD g2.1) g2.2
  refine res_cell3 rfl h2 h3 h4 ?_ ?_ ?_
  all_goals go_simp
/-- Four puts to the results' boxes and the place. -/
theorem put_out {w W : World} {N b4 b1 b2 D : Nat} {v0 v1 v2 v4 : Value} {x0 x1 x2 : Value} (g0 : Blk W N 60 ∧ W.cell? ⟨N, 0, none⟩ = some x0) (g1 : Blk W b1 3 ∧ W.cell? ⟨b1, 0, none⟩ = some x1) (g2 : Blk W b2 48 ∧ W.cell? ⟨b2, 0, none⟩ = some x2) (b4w : w.heap.size ≤ b4 ∧ w.heap.size ≤ N ∧ w.heap.size ≤ b1 ∧ w.heap.size ≤ b2) (tn : Turn (fun _ => False) w W)
    (KD : W.heap[D]? = some (.deferred (some []))) (g4 : Blk W b4 3) (k1 : N ≠ b1) (k2 : N ≠ b2) (k3 : b1 ≠ b2) (k4 : b4 ≠ N) (k5 : b4 ≠ b1) (k6 : b4 ≠ b2) :
    ∃ Z, Z = ((((W.setCell ⟨b4, 0, none⟩ v4).setCell ⟨N, 0, none⟩ v0).setCell ⟨b1, 0, none⟩ v1).setCell ⟨b2, 0, none⟩ v2) ∧ (Blk Z N 60 ∧ Z.cell? ⟨N, 0, none⟩ = some v0) ∧ (Blk Z b1 3 ∧ Z.cell? ⟨b1, 0, none⟩ = some v1) ∧ (Blk Z b2 48 ∧ Z.cell? ⟨b2, 0, none⟩ = some v2) ∧ Turn (fun _ => False) w Z ∧ Z.heap[D]? = some (.deferred (some [])) ∧ Turn (fun k => k = b4 ∨ k = N ∨ k = b1 ∨ k = b2) W Z := by
  have T : Turn (fun k => k = b4 ∨ k = N ∨ k = b1 ∨ k = b2) W ((((W.setCell ⟨b4, 0, none⟩ v4).setCell ⟨N, 0, none⟩ v0).setCell ⟨b1, 0, none⟩ v1).setCell ⟨b2, 0, none⟩ v2) :=
    ((((Turn.put W b4 0 _).more (fun _ _ q => .inl q)).trans ((Turn.put _ N 0 _).more (fun _ _ q => .inr (.inl q)))).trans ((Turn.put _ b1 0 _).more (fun _ _ q => .inr (.inr (.inl q))))).trans ((Turn.put _ b2 0 _).more (fun _ _ q => .inr (.inr (.inr q))))
  refine ⟨_, rfl, ⟨(((g0.1.set _ _).set _ _).set _ _).set _ _, ?_⟩, ⟨(((g1.1.set _ _).set _ _).set _ _).set _ _, ?_⟩, ⟨(((g2.1.set _ _).set _ _).set _ _).set _ _, ?_⟩, tn.comp T (fun i hi q => by omega), ?_, T⟩
  · exact (cell_far _ _ _ _ _ _ k2.symm).trans ((cell_far _ _ _ _ _ _ k1.symm).trans (World.cell?_setCell_same _ _ _ ((cell_far _ _ _ _ _ _ k4).trans g0.2)))
  · exact (cell_far _ _ _ _ _ _ k3.symm).trans (World.cell?_setCell_same _ _ _ ((cell_far _ _ _ _ _ _ k1).trans ((cell_far _ _ _ _ _ _ k5).trans g1.2)))
  · exact World.cell?_setCell_same _ _ _ ((cell_far _ _ _ _ _ _ k3).trans ((cell_far _ _ _ _ _ _ k2).trans ((cell_far _ _ _ _ _ _ k6).trans g2.2)))
  · refine (T.block D (Array.getElem?_eq_some_iff.1 KD).1 (fun q => ?_)).trans KD
    rcases q with q | q | q | q
    · exact not_deferred KD g4 q.symm
    · exact not_deferred KD g0.1 q.symm
    · exact not_deferred KD g1.1 q.symm
    · exact not_deferred KD g2.1 q.symm
theorem wrap_add {i k : Nat} (h : i + k ≤ 140737488355328) : wrap64 ((i : Int) + (k : Int)) = ((i + k : Nat) : Int) := by unfold wrap64; omega
set_option maxRecDepth 100000 in
set_option maxHeartbeats 4000000 in
theorem lex_in (n : Nat) (hn : 6 ≤ n) (w : World) (s : ByteArray) (hs : s.size ≤ 140737488355328) (hE : ErrAt w) : CallsIn Fence.wide n Tryz.prog 31 #[.string s] w (LexPost w s) := by
  obtain ⟨W0, hW0⟩ : ∃ W, W = ((((w.alloc (.cells #[.slice none 0 0] 60)).alloc (.cells #[.int .i64 0] 3)).alloc (.cells #[.int .i64 0] 48)).alloc (.cells #[.slice none 0 0] 60)).alloc (.cells #[.int .i64 0] 3) := ⟨_, rfl⟩
  obtain ⟨W1, hW1⟩ : ∃ W, W = W0.alloc (.cells #[.string s] 9) := ⟨_, rfl⟩
  have T0 : Turn (fun _ => False) w W0 := by rw [hW0]; exact (((((Turn.refl _ w).alloc _).alloc _).alloc _).alloc _).alloc _
  have T1 : Turn (fun _ => False) W0 W1 := by rw [hW1]; exact (Turn.refl _ _).alloc _
  have z0 : W0.heap.size = w.heap.size + 5 := by rw [hW0]; simp
  have z1 : W1.heap.size = w.heap.size + 6 := by rw [hW1]; simp [z0]
  have I0 : LexI w W0 w.heap.size s (.slice none 0 0) [] (w.heap.size + 6 + 2) := by
    rw [hW0]
    exact ⟨⟨((((Blk.newA rfl).alloc _).alloc _).alloc _).alloc _, past (past (past (past (cell_new rfl rfl))))⟩, ⟨(((Blk.newA (by simp)).alloc _).alloc _).alloc _, past (past (past (cell_new (by simp) rfl)))⟩, ⟨((Blk.newA (by simp)).alloc _).alloc _, past (past (cell_new (by simp) rfl))⟩, ⟨(Blk.newA (by simp)).alloc _, past (cell_new (by simp) rfl)⟩, ⟨Blk.newA (by simp), cell_new (by simp) rfl⟩,
      World.ownsRow_nil _ _ _ _, fun k e => by simp [Value.ownBlock] at e, Nat.zero_le _, by rw [← hW0]; exact T0, Nat.le_refl _⟩
  have I1 : LexI w W1 w.heap.size s (.slice none 0 0) [] (w.heap.size + 6 + 2) := I0.turn T1 (fun k f => f.elim) ⟨fun f => f, fun f => f, fun f => f, fun f => f, fun f => f⟩ (fun _ _ f => f)
  have BS : Blk W1 W0.heap.size 9 := by rw [hW1]; exact Blk.newA rfl
  have CS : W1.cell? ⟨W0.heap.size, 0, none⟩ = some (.string s) := by rw [hW1]; exact cell_new rfl rfl
  have E1 : ErrAt W1 := (hE.turn T0 (fun f => f)).turn T1 (fun f => f)
  have GV := Lib.hid (fun (m : Nat) (hm : 1 ≤ m) => each_gives m hm hs BS CS E1 (by have := hE.1; omega))
  have EA := Lib.hid (each_is W0 s)
  have SK := Lib.hid (fun (w : World) (i : Nat) (hi : i ≤ s.size) => skip_is w s hi hs)
  have HI := Lib.hid (And.intro I1 (And.intro hE.1 (And.intro z0 z1)))
  have HS := Lib.hid hs
  clear I0 I1 T0 T1 BS CS E1 hE hs
  refine callsIn_of_wp_marks Tryz.func31 rfl trivial ?_ rfl
  simp only [Tryz.ntmps31, List.size_toArray, List.length_cons, List.length_nil, Nat.reduceAdd, Nat.reduceSub, Array.replicate_succ, Array.replicate_zero, List.push_toArray, List.append_toArray, List.nil_append, List.cons_append]
  gi_wp2_with fail
  rw [← hW0]
  clear hW0
  obtain ⟨sb, hsb⟩ : ∃ b, b = W0.heap.size := ⟨_, rfl⟩
  rw [← hsb] at GV EA
  have HSB := Lib.hid hsb
  clear hsb
  generalize h4 : w.heap.size + 1 + 1 + 1 + 1 = b4
  generalize h3 : w.heap.size + 1 + 1 + 1 = b3
  generalize h2 : w.heap.size + 1 + 1 = b2
  generalize h1 : w.heap.size + 1 = b1
  obtain ⟨N, hN⟩ : ∃ N, N = w.heap.size := ⟨_, rfl⟩
  rw [← hN] at h1 h2 h3 h4 HI ⊢
  have HB := Lib.hid (And.intro h1 (And.intro h2 (And.intro h3 (And.intro h4 hN))))
  clear h1 h2 h3 h4 hN
  refine ⟨trivial, fun _ => by omega, ?_⟩
  refine (callsIn_wide.2 EA.out).mono ?_
  rintro e w1 ⟨rfl, hw1⟩
  rw [← hW1] at hw1
  subst hw1
  clear hW1
  clear EA
  gi_wp2_with fail
  obtain ⟨AS, hAS⟩ : ∃ AS : Nat → (Nat × Tok) → Act → World → Prop, AS = fun z x a' W => ∃ b, a' = Act.mk #[Value.string s, undef, Value.pointer (some ⟨N, 0, none⟩), Value.pointer (some ⟨b1, 0, none⟩), Value.pointer (some ⟨b2, 0, none⟩), Value.pointer (some ⟨b3, 0, none⟩), Value.pointer (some ⟨b4, 0, none⟩), Value.pointer (some ⟨b, 0, none⟩), Value.string s, Value.func (Fn.func 75) #[] #[Value.pointer (some ⟨sb, 0, none⟩)],
    .agg #[.int .i64 (x.2.kind : Int), .int .i64 (x.1 : Int), .string (s.extract x.1 (x.1 + x.2.len)), .int .i64 (x.2.n : Int)], undef, undef, undef, undef, undef, undef, undef, undef, undef, undef, undef, undef, undef, undef, undef, undef, undef, undef, undef, undef, undef, undef, undef, undef, undef, undef] [] ∧ z ≤ b ∧ Blk W b 65 ∧ W.rangeAt b 0 (tokC s x) := ⟨_, rfl⟩
  have s1 := Lib.hid (show sb + 1 = w1.heap.size from by have := HI.out.2.2.1; have := HI.out.2.2.2; have := HSB.out; omega)
  have sN := Lib.hid (show sb = N + 5 from by have := HI.out.2.2.1; have := HSB.out; omega)
  refine range_s (n := n) (e := 65) (by omega) (gf := 75) (lb := #[.pointer (some ⟨sb, 0, none⟩)]) rfl (enters_of Tryz.func75 (by kernel_rfl) rfl) (GV.out (n - 1) (by omega)) (Below.refl _ _) (Turn.refl _ _) (fun _ => rfl) (fun h k => h.trans k) (fun W l o o' h1 h2 h3 => putObj_turn W l o' ⟨by have := s1.out; omega, by have := s1.out; have := HI.out.2.1; have := HB.out.2.2.2.2; omega⟩) grown_turn AS ?has (LexJ w N s) ?hI ?hIT ⟨_, by have := HI.out.1; rw [← s1.out, sN.out]; exact this, by have := s1.out; have := sN.out; simp only; omega⟩ (LexX w N) ?hIx ?assign ?body ?done ?stop
  case has =>
    rw [hAS]
    rintro z x a' W l' o o' ⟨b, rfl, hz, hb, hr⟩ h1 h2
    have hne : b ≠ l' := fun e => by
      subst e
      obtain ⟨cs, hb⟩ := hb
      rw [h1] at hb
      cases hb
      cases h2
    have T := putObj_turn (S := fun k => k = l') W l' o' rfl
    exact ⟨b, rfl, hz, hb.turn T hne, range_turn hr T hne⟩
  case hI =>
    rintro ⟨pre, m⟩ A B row ⟨v, h, h6⟩ hg hr
    exact ⟨v, h.own' hg (by have := h.a.1.lt; omega) (fun r e => ⟨by have := (hr r e).1; have := s1.out; have := sN.out; omega, (hr r e).2⟩), h6⟩
  case hIT =>
    rintro pre m _ A B row ⟨v, h, h6⟩ hg hr
    simp only at h6
    exact ⟨v, h.bears hg (by omega) (fun r e => (hr r e).1), h6⟩
  case hIx =>
    rintro pre A B row h hg hr
    refine h.turn (grown_turn' hg) (fun k e => by have := (hr k e).1; have := HB.out.2.2.2.2; have := s1.out; have := sN.out; omega) ⟨?_, ?_, ?_⟩
    all_goals (intro e; have := (hr _ e).1; have := s1.out; have := sN.out; omega)
  case assign =>
    intro lo x W K' hK
    have hK := Lib.hid hK
    unfold tokV tokL
    gi_wp2
    refine hK.out _ _ (World.grownBy_alloc W _ none) ?_
    rw [hAS]
    exact ⟨W.heap.size, rfl, Nat.le_refl _, Blk.newA rfl, range_new W (tokC s x) 65⟩
  case body =>
    rw [hAS]
    rintro lo pre x m z a' W ⟨v, h, h6⟩ hm2 hmz hzW ⟨b, rfl, hz, hb, hr⟩ hx
    simp only at h h6
    obtain ⟨a, cap, rfl, -⟩ := own_slice h.own
    have y0 : W.cell? ⟨b, 0, none⟩ = some (.int .i64 (x.2.kind : Int)) := hr 0 _ rfl
    have y1 : W.cell? ⟨b, 1, none⟩ = some (.int .i64 (x.1 : Int)) := hr 1 _ rfl
    have y2 : W.cell? ⟨b, 2, none⟩ = some (.string (s.extract x.1 (x.1 + x.2.len))) := hr 2 _ rfl
    have y3 : W.cell? ⟨b, 3, none⟩ = some (.int .i64 (x.2.n : Int)) := hr 3 _ rfl
    have e1 := HB.out.1
    have e2 := HB.out.2.1
    have e3 := HB.out.2.2.1
    have e4 := HB.out.2.2.2.1
    have c3 : W.cell? ⟨b3, 0, none⟩ = some (.slice a pre.length cap) := by rw [← e3]; exact h.l.2
    have c4 : W.cell? ⟨b4, 0, none⟩ = some (.int .i64 (endB pre : Int)) := by rw [← e4]; exact h.a.2
    have q0 : W.cell? ⟨N, 0, none⟩ = some (.slice none 0 0) := h.r2.2
    have q1 : W.cell? ⟨b1, 0, none⟩ = some (.int .i64 0) := by rw [← e1]; exact h.r3.2
    have q2 : W.cell? ⟨b2, 0, none⟩ = some (.int .i64 0) := by rw [← e2]; exact h.r4.2
    have f0 := h.r2.1.fz
    have f1 : ∀ i, W.frozen? ⟨b1, i, none⟩ = false := by rw [← e1]; exact h.r3.1.fz
    have f2 : ∀ i, W.frozen? ⟨b2, i, none⟩ = false := by rw [← e2]; exact h.r4.1.fz
    have f3 : ∀ i, W.frozen? ⟨b3, i, none⟩ = false := by rw [← e3]; exact h.l.1.fz
    have f4 : ∀ i, W.frozen? ⟨b4, i, none⟩ = false := by rw [← e4]; exact h.a.1.fz
    have HH := Lib.hid h
    have HX := Lib.hid (And.intro h6 (And.intro hm2 (And.intro hmz (And.intro hzW (And.intro hz (And.intro hb hx))))))
    have EE := Lib.hid (And.intro e1 (And.intro e2 (And.intro e3 e4)))
    by_cases hl : pre.length = 200
    · have u1 : ((pre.length : Int) == 200) = true := by simp; omega
      have u2 : ((pre.length : Int) = 200) = True := by simp; omega
      have k1 : N ≠ b1 := by omega
      have k2 : N ≠ b2 := by omega
      have k3 : b1 ≠ b2 := by omega
      have k4 : N ≠ b := by omega
      have k5 : b1 ≠ b := by omega
      have k6 : b2 ≠ b := by omega
      have TX : Turn (fun k => k = N ∨ k = b1 ∨ k = b2) W (((W.setCell ⟨N, 0, none⟩ (.slice none 0 0)).setCell ⟨b1, 0, none⟩ (.int .i64 (x.1 : Int))).setCell ⟨b2, 0, none⟩ (.int .i64 12)) :=
        (((Turn.put W N 0 _).more (fun _ _ q => .inl q)).trans ((Turn.put _ b1 0 _).more (fun _ _ q => .inr (.inl q)))).trans ((Turn.put _ b2 0 _).more (fun _ _ q => .inr (.inr q)))
      have TD : Turn (fun _ => False) (((W.setCell ⟨N, 0, none⟩ (.slice none 0 0)).setCell ⟨b1, 0, none⟩ (.int .i64 (x.1 : Int))).setCell ⟨b2, 0, none⟩ (.int .i64 12)) (((W.setCell ⟨N, 0, none⟩ (.slice none 0 0)).setCell ⟨b1, 0, none⟩ (.int .i64 (x.1 : Int))).setCell ⟨b2, 0, none⟩ (.int .i64 12)).drew := (Turn.refl _ _).drewN 1
      have hge := h.ge
      have LX : LexX w N (pre ++ [x]) (((W.setCell ⟨N, 0, none⟩ (.slice none 0 0)).setCell ⟨b1, 0, none⟩ (.int .i64 (x.1 : Int))).setCell ⟨b2, 0, none⟩ (.int .i64 12)) := by
        have g1 : N + 1 = b1 := e1
        have g2 : N + 2 = b2 := e2
        subst g1
        subst g2
        exact ⟨pre, x, rfl, hl, h.tn.comp TX (fun i hi q => by omega), ⟨((h.r2.1.set _ _).set _ _).set _ _, (cell_far _ _ _ _ _ _ (by omega)).trans ((cell_far _ _ _ _ _ _ (by omega)).trans (World.cell?_setCell_same _ _ _ q0))⟩,
          ⟨((h.r3.1.set _ _).set _ _).set _ _, (cell_far _ _ _ _ _ _ (by omega)).trans (World.cell?_setCell_same _ _ _ ((cell_far _ _ _ _ _ _ (by omega)).trans q1))⟩,
          ⟨((h.r4.1.set _ _).set _ _).set _ _, World.cell?_setCell_same _ _ _ ((cell_far _ _ _ _ _ _ (by omega)).trans ((cell_far _ _ _ _ _ _ (by omega)).trans q2))⟩⟩
      have HK := Lib.hid (keepsFrom_of (TX.trans (TD.more (S' := fun k => k = N ∨ k = b1 ∨ k = b2) (fun _ _ f => f.elim))) (fun k q => by
        rcases q with rfl | rfl | rfl
        · exact ⟨_, h.r2.1⟩
        · exact ⟨_, by rw [← e1]; exact h.r3.1⟩
        · exact ⟨_, by rw [← e2]; exact h.r4.1⟩) w1.heap.size)
      have LX2 := Lib.hid (LX.turn TD (fun k f => f.elim) ⟨fun f => f, fun f => f, fun f => f⟩)
      clear h h6 hm2 hmz hzW hz hb hx hr e1 e2 e3 e4 TX TD LX hge
      gi_wp2_with fail
      gi_region
      all_goals gi_wp2_with fail
      all_goals exact ⟨HK.out, LX2.out⟩
    · have u1 : ((pre.length : Int) == 200) = false := by simp; omega
      have u2 : ((pre.length : Int) = 200) = False := by simp; omega
      obtain ⟨a', c', W2, hrun, T2, hL⟩ := HH.out.push h6 (by omega) x (by have := HH.out.le; omega)
      have w6 : ∀ k, (Value.slice a pre.length cap).ownBlock = some k → N + 6 ≤ k ∧ k < m := fun k hk => ⟨(own_blk h.own hk).2, h.low k hk⟩
      have xm : x.1 + x.2.len ≤ s.size := by
        obtain ⟨r, hr⟩ := hx
        have : x ∈ toksB s.data.toList := by rw [← hr]; simp
        have := (eachB_mem _ _ _ _ this).1
        rw [← str_len] at this
        exact this
      have hsz : (s.extract x.1 (x.1 + x.2.len)).size = x.2.len := by rw [ByteArray.size_extract]; omega
      have nn : ∀ j, j < N + 6 ∨ m ≤ j → ¬ (Value.slice a pre.length cap).ownBlock = some j := fun j hj e => by have := w6 j e; omega
      have bb : m ≤ b := Nat.le_trans hmz hz
      have bl := hb.lt
      have y1' := T2.cell (nn b (.inr bb)) y1
      have y2' := T2.cell (nn b (.inr bb)) y2
      have c3' := T2.cell (nn b3 (.inl (by omega))) c3
      have c4' := T2.cell (nn b4 (.inl (by omega))) c4
      have f3' : ∀ i, W2.frozen? ⟨b3, i, none⟩ = false := by rw [← e3]; exact (h.l.1.turn T2 (nn _ (.inl (by omega)))).fz
      have f4' : ∀ i, W2.frozen? ⟨b4, i, none⟩ = false := by rw [← e4]; exact (h.a.1.turn T2 (nn _ (.inl (by omega)))).fz
      have hw2 := wrap_add (by have := HS.out; omega : x.1 + x.2.len ≤ 140737488355328)
      have hw : wrap64 ((x.1 : Int) + ((s.extract x.1 (x.1 + x.2.len)).size : Int)) = ((x.1 + x.2.len : Nat) : Int) := by rw [hsz]; exact hw2
      have m1 : b ≠ b3 := by omega
      have m2 : b ≠ b4 := by omega
      have m3 : b3 ≠ b4 := by omega
      have FL : LexI w ((W2.setCell ⟨b3, 0, none⟩ (.slice a' (pre.length + 1) c')).setCell ⟨b4, 0, none⟩ (.int .i64 ((x.1 + x.2.len : Nat) : Int))) N s (.slice a' (pre.length + 1) c') (pre ++ [x]) W2.heap.size := by rw [← e3, ← e4]; exact hL
      have TF : Turn (fun k => (Value.slice a pre.length cap).ownBlock = some k ∨ k = b3 ∨ k = b4) W ((W2.setCell ⟨b3, 0, none⟩ (.slice a' (pre.length + 1) c')).setCell ⟨b4, 0, none⟩ (.int .i64 ((x.1 + x.2.len : Nat) : Int))) :=
        ((T2.more (fun _ _ q => .inl q)).trans ((Turn.put _ b3 0 _).more (fun _ _ q => .inr (.inl q)))).trans ((Turn.put _ b4 0 _).more (fun _ _ q => .inr (.inr q)))
      have HK := Lib.hid (keepsFrom_of TF (fun k q => by
        rcases q with q | rfl | rfl
        · exact ⟨_, (own_blk h.own q).1⟩
        · exact ⟨_, by rw [← e3]; exact h.l.1⟩
        · exact ⟨_, by rw [← e4]; exact h.a.1⟩) (w.heap.size + 6))
      have HK2 := Lib.hid (keepsHi_of (m := m) TF (fun k q => by
        rcases q with q | rfl | rfl
        · exact (w6 k q).2
        · omega
        · omega))
      have HP := Lib.hid (show KpS sb W _ from TF.more (fun k _ q => by
        have := sN.out
        have := HI.out.2.1
        have := HB.out.2.2.2.2
        rcases q with q | rfl | rfl
        · have := (w6 k q).1; constructor <;> omega
        · constructor <;> omega
        · constructor <;> omega))
      obtain ⟨p, hp⟩ : ∃ p : Int, p = ((x.1 + x.2.len : Nat) : Int) := ⟨_, rfl⟩
      rw [← hp] at hw hw2 FL HK HK2 HP
      have FIN := Lib.hid (And.intro FL (Nat.le_trans h6 (Nat.le_trans (Nat.le_trans hmz hzW) T2.size)))
      have RUN := Lib.hid hrun
      clear h h6 hm2 hmz hzW hz hb hx hr e1 e2 e3 e4 hrun T2 hL w6 xm nn bb bl TF FL hp c4
      gi_wp2_with (gi_at_builtin; refine ri_append_run (by rfl) _ _ _ (by rfl) (by rfl) (by rfl) RUN.out ?_)
      refine ⟨HK.out, HP.out, HK2.out, .slice a' (pre.length + 1) c', ?_, ?_⟩
      · have := FIN.out.1
        simpa [World.setCell] using this
      · have := FIN.out.2
        simpa [World.setCell] using this
  case done =>
    rintro D m W hD ⟨v, h, h6⟩ hK
    simp only at h h6
    obtain ⟨a, cap, rfl, -⟩ := own_slice h.own
    have e1 := HB.out.1
    have e2 := HB.out.2.1
    have e3 := HB.out.2.2.1
    have e4 := HB.out.2.2.2.1
    have c3 : W.cell? ⟨b3, 0, none⟩ = some (.slice a (toksB s.data.toList).length cap) := by rw [← e3]; exact h.l.2
    have c4 : W.cell? ⟨b4, 0, none⟩ = some (.int .i64 (endB (toksB s.data.toList) : Int)) := by rw [← e4]; exact h.a.2
    have q0 : W.cell? ⟨N, 0, none⟩ = some (.slice none 0 0) := h.r2.2
    have q1 : W.cell? ⟨b1, 0, none⟩ = some (.int .i64 0) := by rw [← e1]; exact h.r3.2
    have q2 : W.cell? ⟨b2, 0, none⟩ = some (.int .i64 0) := by rw [← e2]; exact h.r4.2
    have f0 := h.r2.1.fz
    have f1 : ∀ i, W.frozen? ⟨b1, i, none⟩ = false := by rw [← e1]; exact h.r3.1.fz
    have f2 : ∀ i, W.frozen? ⟨b2, i, none⟩ = false := by rw [← e2]; exact h.r4.1.fz
    have f3 : ∀ i, W.frozen? ⟨b3, i, none⟩ = false := by rw [← e3]; exact h.l.1.fz
    have f4 : ∀ i, W.frozen? ⟨b4, i, none⟩ = false := by rw [← e4]; exact h.a.1.fz
    have k1 : N ≠ b1 := by omega
    have k2 : N ≠ b2 := by omega
    have k3 : b1 ≠ b2 := by omega
    have k4 : b4 ≠ N := by omega
    have k5 : b4 ≠ b1 := by omega
    have k6 : b4 ≠ b2 := by omega
    have k7 : b4 ≠ b3 := by omega
    have k8 : N ≠ b3 := by omega
    have k9 : b1 ≠ b3 := by omega
    have hle : endB (toksB s.data.toList) ≤ s.size := by
      rw [str_len]
      exact endB_le _ (fun x hx => (eachB_mem _ _ _ _ hx).1)
    have SK1 := Lib.hid (SK.out W _ hle)
    have HH := Lib.hid (And.intro h (And.intro hD (And.intro hK (And.intro e1 (And.intro e2 (And.intro e3 e4))))))
    have hsk := skipB_le (l := s.data.toList) (i := endB (toksB s.data.toList)) (by rw [← str_len]; exact hle)
    rw [← str_len] at hsk
    obtain ⟨sk, hsk2⟩ : ∃ k, k = skipB (endB (toksB s.data.toList)) s.data.toList := ⟨_, rfl⟩
    rw [← hsk2] at SK1 hsk
    have HE := Lib.hid (And.intro hsk2 hsk)
    clear h h6 hK e1 e2 e3 e4 hle hsk2 hD
    by_cases hlt : sk < s.size
    · have u1 : decide ((sk : Int) < (s.size : Int)) = true := decide_eq_true (by omega)
      have u2 : decide (sk < s.size) = true := decide_eq_true hlt
      clear hsk
      gi_wp2_with fail
      refine ⟨trivial, fun _ => by omega, ?_⟩
      refine (callsIn_wide.2 SK1.out).mono ?_
      rintro e w2 ⟨rfl, rfl⟩
      gi_wp2_with fail
      obtain ⟨hI, hDD, hK, e1, e2, e3, e4⟩ := HH.out
      have hge := hI.ge
      obtain ⟨Z, hZ, z0', z1', z2', tz, kd, -⟩ := put_out (v4 := .int .i64 (sk : Int)) (v0 := .slice none 0 0) (v1 := .int .i64 (sk : Int)) (v2 := .int .i64 10) hI.r2 (e1 ▸ hI.r3) (e2 ▸ hI.r4) (b4 := b4) (by omega) hI.tn hK (by rw [← e4]; exact hI.a.1) k1 k2 k3 k4 k5 k6
      have TD : Turn (fun _ => False) Z Z.drew := (Turn.refl _ _).drewN 1
      have kd2 : Z.drew.heap[D]? = some (.deferred (some [])) := kd
      have R3 := Lib.hid (And.intro (And.intro (z0'.1.turn TD (fun f => f)) (TD.cell (fun f => f) z0'.2)) (And.intro (And.intro (z1'.1.turn TD (fun f => f)) (TD.cell (fun f => f) z1'.2)) (And.intro (And.intro (z2'.1.turn TD (fun f => f)) (TD.cell (fun f => f) z2'.2)) (And.intro (tz.trans TD) (And.intro kd2 (And.intro hI.le (show w.heap.size ≤ D by have := s1.out; have := sN.out; omega)))))))
      rw [hZ] at R3
      clear hI hDD hK e1 e2 e3 e4 hge hZ z0' z1' z2' tz kd TD kd2
      gi_region
      all_goals gi_wp2_with fail
      all_goals (refine ⟨by simp, .inl ⟨_, _, rfl, run_takeDeferred R3.out.2.2.2.2.1, _, fin3 R3.out.2.2.2.2.1 R3.out.1 R3.out.2.1 R3.out.2.2.1 rfl rfl rfl, ?_⟩⟩)
      all_goals exact ⟨R3.out.2.2.2.1.comp (putObj_turn (S := fun k => k = D) _ D _ rfl) (fun i hi e => by have := R3.out.2.2.2.2.2.2; omega), .inr (.inl ⟨R3.out.2.2.2.2.2.1, by rw [← HE.out.1]; exact hlt, by rw [← HE.out.1]⟩)⟩
    · have u1 : decide ((sk : Int) < (s.size : Int)) = false := decide_eq_false (by omega)
      have u2 : decide (sk < s.size) = false := decide_eq_false hlt
      clear hsk
      gi_wp2_with fail
      refine ⟨trivial, fun _ => by omega, ?_⟩
      refine (callsIn_wide.2 SK1.out).mono ?_
      rintro e w2 ⟨rfl, rfl⟩
      obtain ⟨hI, hDD, hK, e1, e2, e3, e4⟩ := HH.out
      have hge := hI.ge
      obtain ⟨Z, hZ, z0', z1', z2', tz, kd, tw⟩ := put_out (v4 := .int .i64 (sk : Int)) (v0 := .slice a (toksB s.data.toList).length cap) (v1 := .int .i64 (s.size : Int)) (v2 := .int .i64 0) hI.r2 (e1 ▸ hI.r3) (e2 ▸ hI.r4) (b4 := b4) (by omega) hI.tn hK (by rw [← e4]; exact hI.a.1) k1 k2 k3 k4 k5 k6
      have ow := own_turn hI.own tw (fun k hk q => by have := (own_blk hI.own hk).2; omega)
      have ow2 := own_weak (own_turn ow (putObj_turn (S := fun k => k = D) Z D (.deferred none) rfl) (fun k hk q => not_deferred kd (own_blk ow hk).1 q)) (show w.heap.size ≤ N + 6 by omega)
      have R3 := Lib.hid (And.intro z0' (And.intro z1' (And.intro z2' (And.intro tz (And.intro kd (And.intro hI.le (And.intro (show w.heap.size ≤ D by have := s1.out; have := sN.out; omega) ow2)))))))
      rw [hZ] at R3
      clear hI hDD hK e1 e2 e3 e4 hge hZ z0' z1' z2' tz kd tw ow ow2
      gi_wp2_with fail
      refine ⟨by simp, .inl ⟨_, _, rfl, run_takeDeferred R3.out.2.2.2.2.1, _, fin3 R3.out.2.2.2.2.1 R3.out.1 R3.out.2.1 R3.out.2.2.1 rfl rfl rfl, ?_⟩⟩
      exact ⟨R3.out.2.2.2.1.comp (putObj_turn (S := fun k => k = D) _ D _ rfl) (fun i hi e => by have := R3.out.2.2.2.2.2.2.1; omega), .inr (.inr ⟨R3.out.2.2.2.2.2.1, by rw [← HE.out.1]; have := HE.out.2; omega, _, rfl, R3.out.2.2.2.2.2.2.2⟩)⟩
  case stop =>
    rintro D pre r W hD hpr ⟨p, x, rfl, lp, tn, r2, r3, r4⟩ hK
    have e1 := HB.out.1
    have e2 := HB.out.2.1
    have HH := Lib.hid (And.intro hD (And.intro hpr (And.intro lp (And.intro tn (And.intro r2 (And.intro r3 (And.intro r4 (And.intro hK (And.intro e1 e2)))))))))
    clear hD hpr lp tn r2 r3 r4 hK e1 e2
    gi_wp2_with fail
    obtain ⟨hD, hpr, lp, tn, r2, r3, r4, hK, e1, e2⟩ := HH.out
    refine ⟨by simp, .inl ⟨_, _, rfl, run_takeDeferred hK, _, fin3 hK r2 (e1 ▸ r3) (e2 ▸ r4) rfl rfl rfl, ?_⟩⟩
    exact ⟨tn.comp (putObj_turn (S := fun k => k = D) _ D _ rfl) (fun i hi e => by have := s1.out; have := sN.out; have := HB.out.2.2.2.2; omega), .inl ⟨x, r, p, by rw [← hpr, List.append_assoc]; rfl, lp, rfl⟩⟩
theorem lex_is (w : World) (s : ByteArray) (hs : s.size ≤ 140737488355328) (hE : ErrAt w) : Calls Tryz.prog 31 #[.string s] w (LexPost w s) := callsIn_wide.1 (lex_in 6 (Nat.le_refl _) w s hs hE)
end Go.Proofs.YtadogobdlcionaaGreatDoor
namespace Go.Proofs.YtadogobdlcionaaGreatDoor
open Go.ChangeShapes Go.WideShapes Go.ChangeAt Go.RowKit Go.Shelf
set_option linter.unusedVariables false
def zq : QU := ⟨[], [], 0, false⟩
/-- What Parse tells of a text: a query, a place, an error. -/
def parseB (s : ByteArray) : QU × Nat × Nat :=
  match (toksB s.data.toList)[200]? with
  | some x => (zq, x.1, 12)
  | none => if skipB (endB (toksB s.data.toList)) s.data.toList < s.size then (zq, skipB (endB (toksB s.data.toList)) s.data.toList, 10)
    else match queryB s (toksB s.data.toList) s.size with
      | .ok q _ => (q, s.size, 0)
      | .stop a r => (zq, a, r)
      | .out => (zq, 0, 0)
theorem PB.quiet {S : Nat → Prop} {W W' : World} {N : Nat} {xs : List Value} {a r : Int} (h : PB W N xs a r) (T : Turn S W W') (h0 : ¬ S N := by exact id) (h1 : ¬ S (N + 1) := by exact id) (h2 : ¬ S (N + 2) := by exact id) : PB W' N xs a r :=
  ⟨range_turn h.q T h0, h.bq.turn T h0, T.cell h1 h.a, h.ba.turn T h1, T.cell h2 h.r, h.br.turn T h2⟩
theorem PB.res {W : World} {N : Nat} {xs : List Value} {a r : Int} (h : PB W N xs a r) (a' r' : Int) : PB ((W.setCell ⟨N + 1, 0, none⟩ (.int .i64 a')).setCell ⟨N + 2, 0, none⟩ (.int .i64 r')) N xs a' r' := by
  have T2 := Turn.put W (N + 1) 0 (.int .i64 a')
  have T3 := Turn.put (W.setCell ⟨N + 1, 0, none⟩ (.int .i64 a')) (N + 2) 0 (.int .i64 r')
  exact ⟨range_turn (range_turn h.q T2 (by omega)) T3 (by omega), (h.bq.turn T2 (by omega)).turn T3 (by omega), T3.cell (by omega) (World.cell?_setCell_same _ _ _ h.a), (h.ba.set _ _).turn T3 (by omega), World.cell?_setCell_same _ _ _ (T2.cell (by omega) h.r), (h.br.turn T2 (by omega)).set _ _⟩
theorem store_end {W : World} {N : Nat} {x y x4 x5 : Int} {x0 x1 x2 x3 v0 v1 v2 v3 : Value} (h : PB W N [x0, x1, x2, x3] x4 x5) :
    PB ((((((W.setCell ⟨N, 0, none⟩ v0).setCell ⟨N, 1, none⟩ v1).setCell ⟨N, 2, none⟩ v2).setCell ⟨N, 3, none⟩ v3).setCell ⟨N + 1, 0, none⟩ (.int .i64 x)).setCell ⟨N + 2, 0, none⟩ (.int .i64 y)) N [v0, v1, v2, v3] x y ∧
    Turn (fun k => k = N ∨ k = N + 1 ∨ k = N + 2) W ((((((W.setCell ⟨N, 0, none⟩ v0).setCell ⟨N, 1, none⟩ v1).setCell ⟨N, 2, none⟩ v2).setCell ⟨N, 3, none⟩ v3).setCell ⟨N + 1, 0, none⟩ (.int .i64 x)).setCell ⟨N + 2, 0, none⟩ (.int .i64 y)) := by
  have R1 := World.rangeAt_setCells_same W N 0 [v0, v1, v2, v3] (range_there h.q rfl h.bq)
  have T1 : Turn (fun k => k = N) W (W.setCells N 0 [v0, v1, v2, v3]) := Turn.setCells _ 0 (Turn.refl _ _) (.inl rfl)
  have P1 : PB (W.setCells N 0 [v0, v1, v2, v3]) N [v0, v1, v2, v3] x4 x5 := ⟨R1, h.bq.setCells _ 0, T1.cell (by omega) h.a, h.ba.turn T1 (by omega), T1.cell (by omega) h.r, h.br.turn T1 (by omega)⟩
  refine ⟨P1.res x y, ?_⟩
  exact ((T1.more (S' := fun k => k = N ∨ k = N + 1 ∨ k = N + 2) (fun k _ q => .inl q)).setCell (p := ⟨_, 0, none⟩) (.inl (.inr (.inl rfl))) _).setCell (p := ⟨_, 0, none⟩) (.inl (.inr (.inr rfl))) _
theorem CnsO.low {b c : Nat} {W : World} {v : Value} {C : List CN} (h : CnsO b W v C) (hc : c ≤ b) : CnsO c W v C := by
  obtain ⟨xs, ho, hx⟩ := h
  refine ⟨xs, own_weak ho hc, fun k d hd => ?_⟩
  obtain ⟨lv, rv, a, b, d, e, f⟩ := hx k d hd
  exact ⟨lv, rv, a, b, d, e.low hc, f.low hc⟩
theorem zq_there (b : Nat) (w : World) : quV b zq w (.agg (quL (.slice none 0 0) (.slice none 0 0) 0 false).toArray) := ⟨_, _, rfl, World.ownsRow_nil .., [], World.ownsRow_nil .., by simp [zq]⟩
theorem results5 {w : World} {N : Nat} {ev cv : Value} {wd a r : Int} {by_ : Bool} {tmps : Array Value} (h : PB w N (quL ev cv wd by_) a r) (h2 : tmps.getD 2 undef = .pointer (some ⟨N, 0, none⟩)) (h3 : tmps.getD 3 undef = .pointer (some ⟨N + 1, 0, none⟩)) (h4 : tmps.getD 4 undef = .pointer (some ⟨N + 2, 0, none⟩)) :
    (results Tryz.f14 tmps).run Tryz.prog w = .ok (.tuple #[.agg (quL ev cv wd by_).toArray, .int .i64 a, .int .i64 r]) w := by
  have l1 := run_loadVar_mid w N 0 30 _ _ h.q Tryz.underlying30 rfl size27
  have la : (loadVar 3 ⟨N + 1, 0, none⟩).run Tryz.prog w = .ok (.int .i64 a) w := by have := h.a; simp [go_sem, this]
  have lr : (loadVar 48 ⟨N + 2, 0, none⟩).run Tryz.prog w = .ok (.int .i64 r) w := by have := h.r; simp [go_sem, this]
  unfold results
  rw [show Tryz.f14.results = #[.cell 2 30, .cell 3 3, .cell 4 48] from rfl]
  simp only [List.mapM_toArray, List.mapM_cons, List.mapM_nil, bind_assoc, pure_bind, map_eq_pure_bind, h2, h3, h4, asAddr]
  simp [Sem.run_bind, l1, la, lr]
set_option maxRecDepth 100000 in
set_option maxHeartbeats 4000000 in
theorem parse_is (w : World) (s : ByteArray) (hs : s.size ≤ 140737488355328) (hE : ErrAt w) :
    Calls Tryz.prog 14 #[.string s] w fun y w' => ∃ x, y = .returned (.tuple #[x, .int .i64 ((parseB s).2.1 : Int), .int .i64 ((parseB s).2.2 : Int)]) ∧ quV w.heap.size (parseB s).1 w' x ∧ Turn (fun _ => False) w w' := by
  have hmf : ∀ (fn : Fn) (first cap : Array Value) (w : World), (Instr.makeFunc fn first cap).run Tryz.prog w = .ok (.func fn first cap) w := fun _ _ _ _ => rfl
  obtain ⟨W, hW⟩ : ∃ W, W = ((w.alloc (.cells #[.slice none 0 0, .slice none 0 0, .int .i64 0, .bool false] 30)).alloc (.cells #[.int .i64 0] 3)).alloc (.cells #[.int .i64 0] 48) := ⟨_, rfl⟩
  have T0 : Turn (fun _ => False) w W := by rw [hW]; exact (((Turn.refl _ _).alloc _).alloc _).alloc _
  have PB0 : PB W w.heap.size (quL (.slice none 0 0) (.slice none 0 0) 0 false) 0 0 := by
    have a1 : Turn (fun _ => False) (w.alloc (.cells #[.slice none 0 0, .slice none 0 0, .int .i64 0, .bool false] 30)) W := by rw [hW]; exact ((Turn.refl _ _).alloc _).alloc _
    have a2 : Turn (fun _ => False) ((w.alloc (.cells #[.slice none 0 0, .slice none 0 0, .int .i64 0, .bool false] 30)).alloc (.cells #[.int .i64 0] 3)) W := by rw [hW]; exact (Turn.refl _ _).alloc _
    refine ⟨range_turn (range_new w (quL (.slice none 0 0) (.slice none 0 0) 0 false) 30) a1 id, (Blk.new w (quL (.slice none 0 0) (.slice none 0 0) 0 false) 30).turn a1 id, a2.cell id (cell_new (by rw [World.size_alloc]) rfl), ?_, ?_, ?_⟩
    · have := (Blk.new (w.alloc (.cells #[.slice none 0 0, .slice none 0 0, .int .i64 0, .bool false] 30)) [.int .i64 0] 3).turn a2 id
      rw [World.size_alloc] at this
      exact this
    · rw [hW]; exact cell_new (by rw [World.size_alloc, World.size_alloc]) rfl
    · have := Blk.new ((w.alloc (.cells #[.slice none 0 0, .slice none 0 0, .int .i64 0, .bool false] 30)).alloc (.cells #[.int .i64 0] 3)) [.int .i64 0] 48
      rw [World.size_alloc, World.size_alloc] at this
      rw [hW]; exact this
  have LX := Lib.hid (lex_is W s hs (hE.turn T0 id))
  have SZ : W.heap.size = w.heap.size + 3 := by rw [hW]; simp
  have F0 := Lib.hid (And.intro T0 (And.intro PB0 SZ))
  have HW := Lib.hid hW
  obtain ⟨R, hR⟩ : ∃ R, R = parseB s := ⟨_, rfl⟩
  rw [← hR]
  have HR := Lib.hid hR
  clear hW T0 PB0 SZ hR hE
  go_enter_defers Tryz.func14, Tryz.ntmps14
  go_upto_region 1 with fail
  rw [← HW.out]
  go_wp2_with fail
  with_reducible refine LX.out.mono ?_
  rintro y w1 ⟨T1, (⟨x, r, pre, e1, e2, rfl⟩ | ⟨e1, e2, rfl⟩ | ⟨e1, e2, v, rfl, e3⟩)⟩
  · obtain ⟨zA, hA⟩ : ∃ z : Int, z = (x.1 : Int) := ⟨_, rfl⟩
    rw [← hA]
    have PW : PB w1 w.heap.size (quL (.slice none 0 0) (.slice none 0 0) 0 false) 0 0 := F0.out.2.1.quiet T1
    have ya : w1.cell? ⟨w.heap.size + 1, 0, none⟩ = some (.int .i64 0) := PW.a
    have yr : w1.cell? ⟨w.heap.size + 1 + 1, 0, none⟩ = some (.int .i64 0) := PW.r
    have fa : ∀ i, w1.frozen? ⟨w.heap.size + 1, i, none⟩ = false := PW.ba.fz
    have fr : ∀ i, w1.frozen? ⟨w.heap.size + 1 + 1, i, none⟩ = false := PW.br.fz
    have PW2 := PW.res zA 12
    have TW := F0.out.1.trans T1
    obtain ⟨w2, hw2⟩ : ∃ X, X = (w1.setCell ⟨w.heap.size + 1, 0, none⟩ (.int .i64 zA)).setCell ⟨w.heap.size + 1 + 1, 0, none⟩ (.int .i64 12) := ⟨_, rfl⟩
    have T2 : Turn (fun _ => False) w w2 := by rw [hw2]; exact (TW.setCell (p := ⟨_, 0, none⟩) (.inr (Nat.le_succ _)) _).setCell (p := ⟨_, 0, none⟩) (.inr (Nat.le_add_right _ 2)) _
    rw [show w.heap.size + 2 = w.heap.size + 1 + 1 from rfl, ← hw2] at PW2
    have H2 := Lib.hid hw2
    have hRR : R = (zq, x.1, 12) := by
      rw [HR.out]
      unfold parseB
      rw [e1, List.getElem?_append_right (by omega), e2]; rfl
    have P2 := Lib.hid (And.intro PW2 (And.intro T2 (And.intro hRR hA)))
    have E1 := Lib.hid e1
    have E2 := Lib.hid e2
    clear hw2 PW PW2 TW T2 hRR hA e1 e2 T1
    go_upto_region 2 with fail
    rw [← H2.out]
    clear H2 ya yr fa fr
    have d1 : w2.cell? ⟨w.heap.size + 1, 0, none⟩ = some (.int .i64 zA) := P2.out.1.a
    have d2 : w2.cell? ⟨w.heap.size + 1 + 1, 0, none⟩ = some (.int .i64 12) := P2.out.1.r
    have y0 := P2.out.1.q 0 _ rfl
    have y1 := P2.out.1.q 1 _ rfl
    have y2 := P2.out.1.q 2 _ rfl
    have y3 := P2.out.1.q 3 _ rfl
    have f0 := P2.out.1.bq.fz
    have fa : ∀ i, w2.frozen? ⟨w.heap.size + 1, i, none⟩ = false := P2.out.1.ba.fz
    have fr : ∀ i, w2.frozen? ⟨w.heap.size + 1 + 1, i, none⟩ = false := P2.out.1.br.fz
    go_upto_region 3 with fail
    have sd0 : w2.drew.cell? ⟨w.heap.size + 1, 0, none⟩ = some (.int .i64 zA) := d1
    have sd1 : w2.drew.cell? ⟨w.heap.size + 1 + 1, 0, none⟩ = some (.int .i64 12) := d2
    go_region
    all_goals go_wp2_with fail
    all_goals
      obtain ⟨PE, TE⟩ := stop_end (x := zA) (y := 12) P2.out.1 P2.out.2.1
      rw [P2.out.2.2.1]
      have hAA := P2.out.2.2.2
      refine ⟨_, results5 PE rfl rfl rfl, _, ?_, zq_there _ _, TE.more (fun k hk q => by omega)⟩
      rw [hAA]
      rfl
  · obtain ⟨zA, hA⟩ : ∃ z : Int, z = (skipB (endB (toksB s.data.toList)) s.data.toList : Int) := ⟨_, rfl⟩
    rw [← hA]
    have PW : PB w1 w.heap.size (quL (.slice none 0 0) (.slice none 0 0) 0 false) 0 0 := F0.out.2.1.quiet T1
    have ya : w1.cell? ⟨w.heap.size + 1, 0, none⟩ = some (.int .i64 0) := PW.a
    have yr : w1.cell? ⟨w.heap.size + 1 + 1, 0, none⟩ = some (.int .i64 0) := PW.r
    have fa : ∀ i, w1.frozen? ⟨w.heap.size + 1, i, none⟩ = false := PW.ba.fz
    have fr : ∀ i, w1.frozen? ⟨w.heap.size + 1 + 1, i, none⟩ = false := PW.br.fz
    have PW2 := PW.res zA 10
    have TW := F0.out.1.trans T1
    obtain ⟨w2, hw2⟩ : ∃ X, X = (w1.setCell ⟨w.heap.size + 1, 0, none⟩ (.int .i64 zA)).setCell ⟨w.heap.size + 1 + 1, 0, none⟩ (.int .i64 10) := ⟨_, rfl⟩
    have T2 : Turn (fun _ => False) w w2 := by rw [hw2]; exact (TW.setCell (p := ⟨_, 0, none⟩) (.inr (Nat.le_succ _)) _).setCell (p := ⟨_, 0, none⟩) (.inr (Nat.le_add_right _ 2)) _
    rw [show w.heap.size + 2 = w.heap.size + 1 + 1 from rfl, ← hw2] at PW2
    have H2 := Lib.hid hw2
    have hRR : R = (zq, skipB (endB (toksB s.data.toList)) s.data.toList, 10) := by
      rw [HR.out]
      unfold parseB
      rw [List.getElem?_eq_none e1]; dsimp only; rw [if_pos e2]
    have P2 := Lib.hid (And.intro PW2 (And.intro T2 (And.intro hRR hA)))
    have E1 := Lib.hid e1
    have E2 := Lib.hid e2
    clear hw2 PW PW2 TW T2 hRR hA e1 e2 T1
    go_upto_region 2 with fail
    rw [← H2.out]
    clear H2 ya yr fa fr
    have d1 : w2.cell? ⟨w.heap.size + 1, 0, none⟩ = some (.int .i64 zA) := P2.out.1.a
    have d2 : w2.cell? ⟨w.heap.size + 1 + 1, 0, none⟩ = some (.int .i64 10) := P2.out.1.r
    have y0 := P2.out.1.q 0 _ rfl
    have y1 := P2.out.1.q 1 _ rfl
    have y2 := P2.out.1.q 2 _ rfl
    have y3 := P2.out.1.q 3 _ rfl
    have f0 := P2.out.1.bq.fz
    have fa : ∀ i, w2.frozen? ⟨w.heap.size + 1, i, none⟩ = false := P2.out.1.ba.fz
    have fr : ∀ i, w2.frozen? ⟨w.heap.size + 1 + 1, i, none⟩ = false := P2.out.1.br.fz
    go_upto_region 3 with fail
    have sd0 : w2.drew.cell? ⟨w.heap.size + 1, 0, none⟩ = some (.int .i64 zA) := d1
    have sd1 : w2.drew.cell? ⟨w.heap.size + 1 + 1, 0, none⟩ = some (.int .i64 10) := d2
    go_region
    all_goals go_wp2_with fail
    all_goals
      obtain ⟨PE, TE⟩ := stop_end (x := zA) (y := 10) P2.out.1 P2.out.2.1
      rw [P2.out.2.2.1]
      have hAA := P2.out.2.2.2
      refine ⟨_, results5 PE rfl rfl rfl, _, ?_, zq_there _ _, TE.more (fun k hk q => by omega)⟩
      rw [hAA]
      rfl
  · have PW : PB w1 w.heap.size (quL (.slice none 0 0) (.slice none 0 0) 0 false) 0 0 := F0.out.2.1.quiet T1
    have ya : w1.cell? ⟨w.heap.size + 1, 0, none⟩ = some (.int .i64 0) := PW.a
    have yr : w1.cell? ⟨w.heap.size + 1 + 1, 0, none⟩ = some (.int .i64 0) := PW.r
    have fa : ∀ i, w1.frozen? ⟨w.heap.size + 1, i, none⟩ = false := PW.ba.fz
    have fr : ∀ i, w1.frozen? ⟨w.heap.size + 1 + 1, i, none⟩ = false := PW.br.fz
    have PW2 := PW.res s.size 0
    have TW := F0.out.1.trans T1
    have T12 : Turn (fun k => k = w.heap.size + 1 ∨ k = w.heap.size + 1 + 1) w1 ((w1.setCell ⟨w.heap.size + 1, 0, none⟩ (.int .i64 (s.size : Int))).setCell ⟨w.heap.size + 1 + 1, 0, none⟩ (.int .i64 0)) := ((Turn.refl _ _).setCell (p := ⟨_, 0, none⟩) (.inl (.inl rfl)) _).setCell (p := ⟨_, 0, none⟩) (.inl (.inr rfl)) _
    obtain ⟨ga, gc, rfl, -⟩ := own_slice e3
    have o2 := own_turn e3 T12 (fun k hk q => by have := (own_blk e3 hk).2; have := F0.out.2.2; omega)
    obtain ⟨w2, hw2⟩ : ∃ X, X = (w1.setCell ⟨w.heap.size + 1, 0, none⟩ (.int .i64 (s.size : Int))).setCell ⟨w.heap.size + 1 + 1, 0, none⟩ (.int .i64 0) := ⟨_, rfl⟩
    rw [show w.heap.size + 2 = w.heap.size + 1 + 1 from rfl, ← hw2] at PW2
    rw [← hw2] at T12 o2
    have T2 : Turn (fun _ => False) w w2 := TW.comp T12 (fun k hk q => by omega)
    obtain ⟨w3, hw3⟩ : ∃ X, X = w2.alloc (.cells #[.slice ga (toksB s.data.toList).length gc, .int .i64 0, .int .i64 (s.size : Int), .int .i64 0] 89) := ⟨_, rfl⟩
    have T3 : Turn (fun _ => False) w2 w3 := by rw [hw3]; exact (Turn.refl _ _).alloc _
    have R3 : w3.rangeAt w2.heap.size 0 [.slice ga (toksB s.data.toList).length gc, .int .i64 0, .int .i64 (s.size : Int), .int .i64 0] := by rw [hw3]; exact range_new w2 [.slice ga (toksB s.data.toList).length gc, .int .i64 0, .int .i64 (s.size : Int), .int .i64 0] 89
    have B3 : Blk w3 w2.heap.size 89 := by rw [hw3]; exact Blk.new w2 [.slice ga (toksB s.data.toList).length gc, .int .i64 0, .int .i64 (s.size : Int), .int .i64 0] 89
    have PR := Lib.hid (query_is w3 (show ParAt w3 w2.heap.size W.heap.size s (toksB s.data.toList) (.slice ga (toksB s.data.toList).length gc) 0 s.size 0 from ⟨B3, R3 0 _ rfl, R3 1 _ rfl, R3 2 _ rfl, R3 3 _ rfl, own_turn o2 T3 (fun _ _ f => f), e1⟩))
    have P3 := Lib.hid (And.intro (PW2.quiet T3) (And.intro (T2.trans T3) (And.intro T2.size (show w2.heap.size < w3.heap.size from B3.lt))))
    have H2 := Lib.hid hw2
    have H3 := Lib.hid hw3
    have hRR : R = match queryB s (toksB s.data.toList) s.size with
        | .ok q _ => (q, s.size, 0)
        | .stop a r => (zq, a, r)
        | .out => (zq, 0, 0) := by
      rw [HR.out]
      unfold parseB
      rw [List.getElem?_eq_none e1]
      dsimp only
      rw [if_neg (by omega)]
    have HRR := Lib.hid hRR
    have N2 := Lib.hid (show w.heap.size + 3 ≤ w2.heap.size by have := F0.out.2.2; have := T1.size; have := T12.size; omega)
    clear hw2 PW PW2 TW T2 T12 hRR e1 e2 e3 o2 T1 T3 R3 B3 hw3
    generalize (toksB s.data.toList).length = nt at *
    go_upto_region 2 with fail
    rw [← H2.out]
    clear H2 ya yr fa fr
    have d2 : w2.cell? ⟨w.heap.size + 1 + 1, 0, none⟩ = some (.int .i64 0) := by rw [H3.out] at P3; exact (World.cell?_alloc_lt _ _ _ (by have := N2.out; show w.heap.size + 1 + 1 < w2.heap.size; omega)).symm.trans P3.out.1.r
    go_upto_region 6 with fail
    rw [← H3.out]
    clear H3 d2
    go_wp2_with fail
    with_reducible refine PR.out.mono ?_
    intro y w4 hy
    obtain ⟨rq, hrq⟩ : ∃ r, r = queryB s (toksB s.data.toList) s.size := ⟨_, rfl⟩
    rw [← hrq] at hy
    have hRR := HRR.out
    rw [← hrq] at hRR
    clear hrq HRR HR PR
    cases rq with
    | out => exact hy.elim
    | stop a r =>
      obtain ⟨rfl, T4⟩ := hy
      have hl := N2.out
      have G := Lib.hid (And.intro (P3.out.1.quiet T4 (by omega) (by omega) (by omega)) (And.intro (P3.out.2.1.comp T4 (fun k hk q => by have := P3.out.2.2.1; omega)) hRR))
      clear T4 hRR hl
      unfold stopE
      go_wp2_with fail
      refine leaves_cons (f := 32) (args := #[.pointer (some ⟨w.heap.size, 0, none⟩), .pointer (some ⟨w.heap.size + 1, 0, none⟩), .pointer (some ⟨w.heap.size + 2, 0, none⟩)]) (by simp) (by simp [go_sem]) ?_
      refine (catch_stop w.heap.size w4 a r [] G.out.1 rfl).mono ?_
      rintro e u' w5 ⟨rfl, rfl, PE, TE⟩
      rw [G.out.2.2]
      exact ⟨_, results5 PE rfl rfl rfl, _, rfl, zq_there _ _, G.out.2.1.comp TE (fun k hk q => by omega)⟩
    | ok q i =>
      obtain ⟨xv, rfl, ⟨ev, cv, rfl, hE, hC⟩, T4, P4⟩ := hy
      have hl := N2.out
      obtain ⟨ea, ec, rfl, -⟩ := own_slice hE
      obtain ⟨ca, cc, rfl⟩ : ∃ a c, cv = .slice a q.conds.length c := by
        obtain ⟨xs, ho, -⟩ := hC
        obtain ⟨a, c, h, -⟩ := own_slice ho
        exact ⟨a, c, h⟩
      have PB4 := P3.out.1.quiet T4 (by omega) (by omega) (by omega)
      have y0 := PB4.q 0 _ rfl
      have y1 := PB4.q 1 _ rfl
      have y2 := PB4.q 2 _ rfl
      have y3 := PB4.q 3 _ rfl
      have f0 := PB4.bq.fz
      have ya : w4.cell? ⟨w.heap.size + 1, 0, none⟩ = some (.int .i64 (s.size : Int)) := PB4.a
      have yr : w4.cell? ⟨w.heap.size + 1 + 1, 0, none⟩ = some (.int .i64 0) := PB4.r
      have fa : ∀ i, w4.frozen? ⟨w.heap.size + 1, i, none⟩ = false := PB4.ba.fz
      have fr : ∀ i, w4.frozen? ⟨w.heap.size + 1 + 1, i, none⟩ = false := PB4.br.fz
      have HE := Lib.hid hE
      have HC := Lib.hid hC
      have G := Lib.hid (And.intro PB4 (And.intro (P3.out.2.1.comp T4 (fun k hk q => by have := P3.out.2.2.1; omega)) hRR))
      clear T4 hRR P4 PB4 hE hC hl
      unfold quL
      go_wp2_with fail
      obtain ⟨PE, TE⟩ := store_end (x := s.size) (y := 0) (v0 := .slice ea q.elems.length ec) (v1 := .slice ca q.conds.length cc) (v2 := .int .i64 q.window) (v3 := .bool q.byKey) G.out.1
      have hl := N2.out
      have hlt := P3.out.2.2.2
      have hE2 := own_turn HE.out TE (fun k hk q => by have := (own_blk HE.out hk).2; omega)
      have hC2 := HC.out.turn TE (fun k hk q => by omega)
      refine leaves_cons (f := 32) (args := #[.pointer (some ⟨w.heap.size, 0, none⟩), .pointer (some ⟨w.heap.size + 1, 0, none⟩), .pointer (some ⟨w.heap.size + 2, 0, none⟩)]) (by simp) (by simp [go_sem]) ?_
      refine (catch_idle w.heap.size _).mono ?_
      rintro e u' w5 ⟨rfl, rfl, T5⟩
      rw [G.out.2.2]
      exact ⟨_, results5 (PE.quiet T5) rfl rfl rfl, _, rfl, ⟨_, _, rfl, own_weak (own_turn hE2 T5 (fun _ _ f => f)) (by omega), (hC2.turn T5 (fun _ _ f => f)).low (by omega)⟩, (G.out.2.1.comp TE (fun k hk q => by omega)).trans T5⟩
end Go.Proofs.YtadogobdlcionaaGreatDoor
