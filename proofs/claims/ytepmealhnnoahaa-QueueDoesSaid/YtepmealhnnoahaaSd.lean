/-
  The chapter's example.
-/
import Derived.Test.YtepmealhnnoahaaSc
namespace Go.Proofs.Ytepmealhnnoahaa
set_option linter.unusedSimpArgs false
open Go.ChangeShapes Go.WideShapes Go.ChangeAt Go.RowKit
set_option linter.unusedVariables false
def S1 : Int → Option (List Fnd × Bool) := updI noneS 1 (some ([], false))
theorem reg1 : regR 2 noneS 0 1 = ⟨S1, 1, 0, 1, [], []⟩ := rfl
def S2 : Int → Option (List Fnd × Bool) := updI S1 1 (some ([fndN 5], true))
def S3 : Int → Option (List Fnd × Bool) := updI S2 1 (some ([], true))
theorem updI_updI {α : Type} (f : Int → α) (i : Int) (a b : α) : updI (updI f i a) i b = updI f i b := by funext j; unfold updI; split <;> rfl
theorem pub2 {x y : Ht} (hx : x.id = 1) (hy : y.id = 1) (fx : x.f = fndN 5) (fy : y.f = fndN 6) : pubD 1 S1 [⟨[x, y], []⟩] = S2 ∧ pubG 1 S1 [⟨[x, y], []⟩] = [(6, 0)] ∧ mergedH [⟨[x, y], []⟩] = [x, y] := by
  have hm : mergedH [⟨[x, y], []⟩] = [x, y] := mergeN_one [x, y]
  have e1 : putD 1 S1 x = updI S1 1 (some ([fndN 5], false)) := by
    unfold putD
    rw [hx, fx]
    rfl
  have e2 : putD 1 (updI S1 1 (some ([fndN 5], false))) y = S2 := by
    unfold putD
    rw [hy, updI_at]
    dsimp only
    rw [if_pos (by simp), updI_updI]
    rfl
  have g1 : putG 1 S1 x = [] := by
    unfold putG
    rw [hx]
    rfl
  have g2 : putG 1 (updI S1 1 (some ([fndN 5], false))) y = [(6, 0)] := by
    unfold putG
    rw [hy, updI_at]
    dsimp only
    rw [if_pos (by simp), fy]
    rfl
  refine ⟨?_, ?_, hm⟩
  · unfold pubD
    rw [hm]
    show losesD (putD 1 (putD 1 S1 x) y) [] = S2
    rw [e1, e2]
    rfl
  · unfold pubG
    rw [hm]
    simp only [putsG]
    rw [g1, e1, g2]
    rfl
theorem pol3 : polR S2 1 1 5 = ⟨S3, 1, 0, 0, [[[5]]], [(5, 0)]⟩ := by
  unfold polR
  rw [if_neg (by decide), show S2 1 = some ([fndN 5], true) from updI_at _ _ _]
  dsimp only
  rw [if_neg (by simp)]
  rfl
theorem pol4 : polR S3 1 1 5 = ⟨S3, 1, 20, 0, [], []⟩ := by
  unfold polR
  rw [if_neg (by decide), show S3 1 = some ([], true) from updI_at _ _ _]
  dsimp only
  rw [if_pos ⟨rfl, rfl⟩]
theorem MRow.typed {N : Nat → Prop} {w : World} {b : Nat} {v : Value} {L : List (List (List Int))} (h : MRow w b N v L) : MRow w b (fun k => N k ∨ ¬ MTy w k) v L := by
  obtain ⟨ps, h1, h2, h3⟩ := h.ex
  exact ⟨ps, h1, h2, fun j l p hl hp => (h3 j l p hl hp).typed⟩
/-- What was told before stays, whatever is done. -/
theorem Did.mrow {w w' : World} {d mb base : Nat} {qu ou : Int} {cnt cnt0 m0 : Nat} {S0 : Int → Option (List Fnd × Bool)} {P P' : Nat → Prop} {r : Res} {av gv : Value} (D : Did w w' d mb base qu ou cnt P r av gv P') {b : Nat} {N : Nat → Prop} {v : Value} {L : List (List (List Int))} (h : MRow w b N v L) (hd : DAt w d mb base qu ou cnt0 m0 S0 P) : MRow w' b N v L := by
  have T : Turn (fun k => P k ∧ ¬ MTy w k) w w' := ⟨D.turn.os, D.turn.tape, D.turn.output, D.turn.size, fun k hk hz => by
    by_cases p : P k
    · exact D.ms k p (Classical.byContradiction fun t => hz ⟨p, t⟩)
    · exact D.turn.block k hk p⟩
  exact ((h.typed).turn T (fun k _ z => .inr z.2) (fun k hk z => hd.no (h.blk hk).1 (by decide) z.1)).weak (fun k q => .inl q)
theorem rowAt_lit {w : World} {b : Nat} {xs : List Ht} (hb : Blk w b 73) (hr : w.rangeAt b 0 (hcells xs)) : RowAt w (.slice (some ⟨b, 0, none⟩) xs.length xs.length) xs :=
  ⟨_, b, 0, _, rfl, Nat.le_refl _, .inr ⟨rfl, hb⟩, fun j x hj k v hv => by
    have := hr (j * 3 + k) v (hcells_at xs j x hj k v hv)
    rw [Nat.zero_add] at this ⊢
    exact this⟩
theorem refs_lit {w : World} {b cap : Nat} {l : List (Int × Int)} (hr : w.rangeAt b 0 (rcells l)) : RefsAt w (.slice (some ⟨b, 0, none⟩) l.length cap) l :=
  ⟨_, b, cap, rfl, .inr rfl, fun k p hp j v hv => by
    obtain ⟨c1, c2⟩ := rcells_at l k p hp
    match j, hv with
    | 0, hv => cases hv; have := hr (k * 2) _ c1; rw [Nat.zero_add] at this; exact this
    | 1, hv => cases hv; have := hr (k * 2 + 1) _ c2; rw [Nat.zero_add] at this; exact this⟩
theorem mats_lit {w : World} {b1 b2 b3 : Nat} {n : Int} (r1 : w.rangeAt b1 0 [.slice (some ⟨b2, 0, none⟩) 1 1]) (r2 : w.rangeAt b2 0 [.slice (some ⟨b3, 0, none⟩) 1 1]) (r3 : w.rangeAt b3 0 [.int .i64 n]) : MatsAt w (.slice (some ⟨b1, 0, none⟩) 1 1) [[[n]]] := by
  refine ⟨_, b1, 1, rfl, .inr rfl, fun k l hl => ?_⟩
  obtain rfl : k = 0 := by have := (List.getElem?_eq_some_iff.1 hl).1; simp at this; omega
  simp at hl
  subst hl
  refine ⟨_, r1 0 _ rfl, ⟨_, b2, 0, 1, rfl, .inr rfl, fun k l hl => ?_⟩, by simp, by simp⟩
  obtain rfl : k = 0 := by have := (List.getElem?_eq_some_iff.1 hl).1; simp at this; omega
  simp at hl
  subst hl
  refine ⟨_, r2 0 _ rfl, ⟨_, b3, 0, 1, rfl, trivial, .inr rfl, fun k x hx => ?_⟩⟩
  obtain rfl : k = 0 := by have := (List.getElem?_eq_some_iff.1 hx).1; simp at this; omega
  simp at hx
  subst hx
  exact r3 0 _ rfl
set_option maxRecDepth 100000 in
set_option maxHeartbeats 8000000 in
theorem queue_awake (w : World) : Calls Try.prog 9 #[] w fun e w' => e = .returned (.bool true) ∧ Turn (fun _ => False) w w' := by
  go_enter Try.func9, Try.ntmps9
  go_wp2_with fail
  with_reducible refine (new_d w 0 0 0 0 0 (qu := 2) (ou := 1) (by decide) (by decide) (by decide) (by decide)).mono ?_
  rintro en w1 ⟨d, mb, P, rfl, hd, hPw, T1⟩
  have C := hd.do_reg (stamp := 1) (i := 0) (n := 0) (s := 0) (g := 0) (by decide) (by decide) (.slice none 0 0)
  rw [reg1] at C
  unfold cmdL at C
  have C := Lib.hid C
  go_wp2_with fail
  with_reducible refine C.out.mono ?_
  clear C
  rintro en w2 ⟨av, gv, rfl, P2, D⟩
  obtain ⟨aa, ac, rfl⟩ := D.ans.sl
  obtain ⟨ga, gc, rfl, _⟩ := own_slice D.gone
  have TA : Turn (fun _ => False) w2 (w2.alloc (.cells #[.int .i64 0, .int .i64 1, .slice aa 0 ac] 53)) := (Turn.refl _ w2).alloc _
  have BA : Blk (w2.alloc (.cells #[.int .i64 0, .int .i64 1, .slice aa 0 ac] 53)) w2.heap.size 53 := Blk.new w2 [.int .i64 0, .int .i64 1, .slice aa 0 ac] 53
  have RA : (w2.alloc (.cells #[.int .i64 0, .int .i64 1, .slice aa 0 ac] 53)).rangeAt w2.heap.size 0 [.int .i64 0, .int .i64 1, .slice aa 0 ac] := range_new w2 [.int .i64 0, .int .i64 1, .slice aa 0 ac] 53
  have Tw2 : Turn (fun _ => False) w w2 := T1.comp D.turn (fun k hk p => by have := hPw k p; omega)
  have hd2 := D.desk.turn TA (fun _ _ q => q)
  have hPw2 : ∀ k, P2 k → w.heap.size ≤ k := fun k p => (D.own k p).elim (hPw k) (fun q => by have := T1.size; omega)
  have Tw3 := Tw2.trans TA
  have K1 := Lib.hid (And.intro hd2 (And.intro hPw2 (And.intro Tw3 (And.intro BA RA))))
  clear hd hPw T1 D Tw2 hd2 hPw2 Tw3 BA RA
  go_wp2_with fail
  generalize (w2.alloc (.cells #[.int .i64 0, .int .i64 1, .slice aa 0 ac] 53)) = w3 at *
  generalize w2.heap.size = ba at *
  clear TA
  with_reducible refine (hit_is w3 1 5).mono ?_
  rintro en w4 ⟨x, rfl, hx, fx, hfx, T4⟩
  go_wp2_with fail
  with_reducible refine (hit_is w4 1 6).mono ?_
  rintro en w5 ⟨y, rfl, hy, fy, hfy, T5⟩
  -- the row of hits, the out
  obtain ⟨w6, hw6⟩ : ∃ w6, w6 = w5.alloc (.cells (hcells [x, y]).toArray 73) := ⟨_, rfl⟩
  obtain ⟨w7, hw7⟩ : ∃ w7, w7 = w6.alloc (.cells #[.slice (some ⟨w5.heap.size, 0, none⟩) 2 2, .slice none 0 0, .slice none 0 0, .slice none 0 0] 68) := ⟨_, rfl⟩
  have T6 : Turn (fun _ => False) w5 w6 := by rw [hw6]; exact (Turn.refl _ w5).alloc _
  have T7 : Turn (fun _ => False) w6 w7 := by rw [hw7]; exact (Turn.refl _ w6).alloc _
  have s6 : w6.heap.size = w5.heap.size + 1 := by rw [hw6, World.size_alloc]
  have B6 : Blk w6 w5.heap.size 73 ∧ w6.rangeAt w5.heap.size 0 (hcells [x, y]) := by rw [hw6]; exact ⟨Blk.new w5 (hcells [x, y]) 73, range_new w5 (hcells [x, y]) 73⟩
  have B7 : Blk w7 (w5.heap.size + 1) 68 ∧ w7.rangeAt (w5.heap.size + 1) 0 [.slice (some ⟨w5.heap.size, 0, none⟩) 2 2, .slice none 0 0, .slice none 0 0, .slice none 0 0] := by
    rw [hw7, ← s6]
    exact ⟨Blk.new w6 [.slice (some ⟨w5.heap.size, 0, none⟩) 2 2, .slice none 0 0, .slice none 0 0, .slice none 0 0] 68, range_new w6 [.slice (some ⟨w5.heap.size, 0, none⟩) 2 2, .slice none 0 0, .slice none 0 0, .slice none 0 0] 68⟩
  obtain ⟨hd2, hPw2, Tw3, BA, RA⟩ := K1.out
  have T37 := (T4.trans T5).trans (T6.trans T7)
  have hd7 := hd2.turn T37 (fun _ _ q => q)
  have OUT : OutsAt w7 P2 (.slice (some ⟨w5.heap.size + 1, 0, none⟩) 1 1) [⟨[x, y], []⟩] := by
    refine ⟨_, w5.heap.size + 1, 0, 1, rfl, .inr ⟨rfl, B7.1⟩, fun k o hk => ?_⟩
    obtain rfl : k = 0 := by have := (List.getElem?_eq_some_iff.1 hk).1; simp at this; omega
    simp at hk
    subst hk
    exact ⟨_, _, none, 0, 0, none, 0, 0, B7.2, rowAt_lit (xs := [x, y]) (B6.1.turn T7 id) (range_turn B6.2 T7 id), none, 0, 0, 0, rfl, .inl rfl, fun j x h => by simp at h⟩
  have HIT : HitsAt w7 P2 [⟨[x, y], []⟩] := fun o ho z hz => by
    simp at ho
    subst ho
    simp at hz
    rcases hz with rfl | rfl
    · exact (hfx.turn (T5.trans (T6.trans T7)) (fun _ _ q => q.elim)).weak (fun k p => hd2.lt p)
    · exact (hfy.turn (T6.trans T7) (fun _ _ q => q.elim)).weak (fun k p => Nat.lt_of_lt_of_le (hd2.lt p) T4.size)
  obtain ⟨q1, q2, q3⟩ := pub2 hx hy fx fy
  have OK : OutsOk [⟨[x, y], []⟩] 1 := by
    refine ⟨by simp, fun o ho => ?_, fun o ho => ?_, fun o ho z hz => ?_, fun o ho z hz => ?_, ?_⟩
    · simp at ho; subst ho; simp
    · simp at ho; subst ho; simp
    · simp at ho; subst ho; simp at hz; rcases hz with rfl | rfl
      · rw [hx]; decide
      · rw [hy]; decide
    · simp at ho; subst ho; simp at hz
    · rw [q3]; simp [refSum, fx, fy, fndN]
  have C := hd7.do_pub (stamp := 2) (i := 0) (n := 0) (s := 9) (g := 0) OUT HIT OK (by rw [q3]; unfold maxLen; simp [lostL])
  rw [q1, q2, q3] at C
  unfold cmdL at C
  have C := Lib.hid C
  have K2 := Lib.hid (And.intro hPw2 (And.intro (Tw3.trans T37) (And.intro (BA.turn T37 id) (And.intro (range_turn RA T37 id) (hd7.no (BA.turn T37 id) (by decide))))))
  unfold hcells at hw6
  unfold hcells at hw6
  unfold hcells at hw6
  clear K1 hx fx hfx T4 hy fy hfy T5 T6 T7 s6 B6 B7 hd2 hPw2 Tw3 BA RA T37 hd7 OUT HIT OK q1 q2 q3
  unfold Ht.val
  go_wp2_with fail
  rw [← hw6, ← hw7]
  clear hw6 hw7
  with_reducible refine C.out.mono ?_
  clear C
  rintro en w8 ⟨av2, gv2, rfl, P3, D⟩
  obtain ⟨hPw2, Tw7, BA, RA, nba⟩ := K2.out
  obtain ⟨aa2, ac2, rfl⟩ := D.ans.sl
  obtain ⟨ga2, gc2, rfl, _⟩ := own_slice D.gone
  have hPw3 : ∀ k, P3 k → w.heap.size ≤ k := fun k p => (D.own k p).elim (hPw2 k) (fun q => by have := Tw7.size; omega)
  have TA : Turn (fun _ => False) w8 (w8.alloc (.cells #[.int .i64 0, .int .i64 2, .slice aa2 0 ac2] 53)) := (Turn.refl _ w8).alloc _
  have Tw8 : Turn (fun _ => False) w (w8.alloc (.cells #[.int .i64 0, .int .i64 2, .slice aa2 0 ac2] 53)) := (Tw7.comp D.turn (fun k hk p => by have := hPw2 k p; omega)).trans TA
  have BA8 := (BA.turn D.turn nba).turn TA id
  have RA8 := range_turn (range_turn RA D.turn nba) TA id
  have hd8 := (D.desk.more (cnt' := 100) (by simp [lostL])).turn TA (fun _ _ q => q)
  have nba8 := hd8.no BA8 (by decide)
  have RF := (refs_own D.gone).turn TA (fun _ _ q => q)
  have nG : ∀ k, (Value.slice ga2 2 gc2).ownBlock = some k → ¬ P3 k ∧ k < w8.heap.size := fun k hk => ⟨D.apart k hk, (D.gone.lt k hk).2⟩
  have C := hd8.do_pol (stamp := 3) (i := 1) (n := 5) (s := 0) (g := 0) (by decide) (by decide) (fun l' lo h => by
    have h : S2 1 = some (l', lo) := h
    rw [show S2 1 = some ([fndN 5], true) from updI_at _ _ _] at h
    cases h
    decide) (.slice none 0 0)
  dsimp only at C
  rw [pol3] at C
  unfold cmdL at C
  have C := Lib.hid C
  have K3 := Lib.hid (And.intro hPw3 (And.intro Tw8 (And.intro BA8 (And.intro RA8 (And.intro nba8 (And.intro RF (And.intro nG TA)))))))
  clear K2 hPw2 Tw7 BA RA nba hPw3 Tw8 BA8 RA8 nba8 RF nG hd8 D TA
  go_wp2_with fail
  with_reducible refine C.out.mono ?_
  clear C
  rintro en w9 ⟨av3, gv3, rfl, P4, D⟩
  obtain ⟨hPw3, Tw8, BA, RA, nba, RF, nG, TA8⟩ := K3.out
  generalize w8.alloc (.cells #[.int .i64 0, .int .i64 2, .slice aa2 0 ac2] 53) = w8' at *
  obtain ⟨aa3, ac3, rfl⟩ := D.ans.sl
  obtain ⟨ga3, gc3, rfl, _⟩ := own_slice D.gone
  have hPw4 : ∀ k, P4 k → w.heap.size ≤ k := fun k p => (D.own k p).elim (hPw3 k) (fun q => by have := Tw8.size; omega)
  have TA : Turn (fun _ => False) w9 (w9.alloc (.cells #[.int .i64 0, .int .i64 0, .slice aa3 1 ac3] 53)) := (Turn.refl _ w9).alloc _
  have BB : Blk (w9.alloc (.cells #[.int .i64 0, .int .i64 0, .slice aa3 1 ac3] 53)) w9.heap.size 53 := Blk.new w9 [.int .i64 0, .int .i64 0, .slice aa3 1 ac3] 53
  have RB : (w9.alloc (.cells #[.int .i64 0, .int .i64 0, .slice aa3 1 ac3] 53)).rangeAt w9.heap.size 0 [.int .i64 0, .int .i64 0, .slice aa3 1 ac3] := range_new w9 [.int .i64 0, .int .i64 0, .slice aa3 1 ac3] 53
  have Tw9 : Turn (fun _ => False) w (w9.alloc (.cells #[.int .i64 0, .int .i64 0, .slice aa3 1 ac3] 53)) := (Tw8.comp D.turn (fun k hk p => by have := hPw3 k p; omega)).trans TA
  have BA9 := (BA.turn D.turn nba).turn TA id
  have RA9 := range_turn (range_turn RA D.turn nba) TA id
  have hd9 := (D.desk.more (cnt' := 101) (by decide)).turn TA (fun _ _ q => q)
  have nba9 := hd9.no BA9 (by decide)
  have nbb9 := hd9.no BB (by decide)
  have RF9 := (RF.turn D.turn (fun k hk => (nG k hk).1)).turn TA (fun _ _ q => q)
  have RS9 := (refs_own D.gone).turn TA (fun _ _ q => q)
  have nG9 : ∀ k, (Value.slice ga2 2 gc2).ownBlock = some k → ¬ P4 k := fun k hk p => (D.own k p).elim (nG k hk).1 (fun q => by have := (nG k hk).2; have := TA8.size; omega)
  have nS9 := D.apart
  have MR9 := (D.ans).turn TA (fun _ _ q => q.elim) (fun _ _ q => q)
  have C := hd9.do_pol (stamp := 4) (i := 1) (n := 5) (s := 0) (g := 0) (by decide) (by decide) (fun l' lo h => by
    have h : S3 1 = some (l', lo) := h
    rw [show S3 1 = some ([], true) from updI_at _ _ _] at h
    cases h
    decide) (.slice none 0 0)
  dsimp only at C
  rw [pol4] at C
  unfold cmdL at C
  have C := Lib.hid C
  have K4 := Lib.hid (And.intro hPw4 (And.intro Tw9 (And.intro (And.intro BA9 (And.intro RA9 nba9)) (And.intro (And.intro BB (And.intro RB nbb9)) (And.intro (And.intro RF9 nG9) (And.intro (And.intro RS9 nS9) (And.intro MR9 hd9)))))))
  clear K3 hPw3 Tw8 BA RA nba RF nG TA8 hPw4 Tw9 BA9 RA9 nba9 BB RB nbb9 RF9 nG9 RS9 nS9 MR9 hd9 TA D
  go_wp2_with fail
  with_reducible refine C.out.mono ?_
  clear C
  rintro en w10 ⟨av4, gv4, rfl, P5, D⟩
  obtain ⟨aa4, ac4, rfl⟩ := D.ans.sl
  obtain ⟨ga4, gc4, rfl, _⟩ := own_slice D.gone
  obtain ⟨hPw4, Tw9, ⟨BA, RA, nba⟩, ⟨BB, RB, nbb⟩, ⟨RF, nG⟩, ⟨RS, nS⟩, MR, hd9⟩ := K4.out
  generalize hw9 : w9.alloc (.cells #[.int .i64 0, .int .i64 0, .slice aa3 1 ac3] 53) = w9' at *
  generalize w9.heap.size = bb at *
  have TA : Turn (fun _ => False) w10 (w10.alloc (.cells #[.int .i64 20, .int .i64 0, .slice aa4 0 ac4] 53)) := (Turn.refl _ w10).alloc _
  have RC : (w10.alloc (.cells #[.int .i64 20, .int .i64 0, .slice aa4 0 ac4] 53)).rangeAt w10.heap.size 0 [.int .i64 20, .int .i64 0, .slice aa4 0 ac4] := range_new w10 [.int .i64 20, .int .i64 0, .slice aa4 0 ac4] 53
  have TwA : Turn (fun _ => False) w (w10.alloc (.cells #[.int .i64 20, .int .i64 0, .slice aa4 0 ac4] 53)) := (Tw9.comp D.turn (fun k hk p => by have := hPw4 k p; omega)).trans TA
  have RAa := range_turn (range_turn RA D.turn nba) TA id
  have RBa := range_turn (range_turn RB D.turn nbb) TA id
  have RFa := (RF.turn D.turn nG).turn TA (fun _ _ q => q)
  have RSa := (RS.turn D.turn nS).turn TA (fun _ _ q => q)
  have MRa := (D.mrow MR hd9).turn TA (fun _ _ q => q.elim) (fun _ _ q => q)
  have K5 := Lib.hid (And.intro TwA (And.intro RAa (And.intro RBa (And.intro RC (And.intro RFa (And.intro RSa MRa))))))
  clear K4 hPw4 Tw9 BA RA nba BB RB nbb RF nG RS nS MR hd9 hw9 D TwA RAa RBa RC RFa RSa MRa TA
  go_wp2_with fail
  obtain ⟨TwA, RAa, RBa, RC, RFa, RSa, MRa⟩ := K5.out
  generalize hwA : w10.alloc (.cells #[.int .i64 20, .int .i64 0, .slice aa4 0 ac4] 53) = wA at *
  have sA : wA.heap.size = w10.heap.size + 1 := by rw [← hwA, World.size_alloc]
  rw [← sA]
  have T11 : Turn (fun _ => False) wA (wA.alloc (.cells #[.int .i64 6, .int .i64 0, .int .i64 9, .int .i64 0] 38)) := (Turn.refl _ wA).alloc _
  have C := srefs_is (v1 := .slice ga2 2 gc2) (l := [(6, 0), (9, 0)]) (m := [(6, 0), (9, 0)]) (v2 := .slice (some ⟨wA.heap.size, 0, none⟩) 2 2) (RFa.turn T11 (fun _ _ q => q)) (refs_lit (l := [(6, 0), (9, 0)]) (range_new wA [.int .i64 6, .int .i64 0, .int .i64 9, .int .i64 0] 38)) (by decide) (by decide)
  with_reducible refine C.mono ?_
  rintro en w12 ⟨t, rfl, ht, T12⟩
  obtain rfl := ht rfl
  have TA12 := T11.trans T12
  have K6 := Lib.hid (And.intro (TwA.trans TA12) (And.intro (range_turn RAa TA12 id) (And.intro (range_turn RBa TA12 id) (And.intro (range_turn RC TA12 id) (And.intro (RSa.turn TA12 (fun _ _ q => q)) (MRa.turn TA12 (fun _ _ q => q.elim) (fun _ _ q => q)))))))
  clear K5 TwA RAa RBa RC RFa RSa MRa hwA T11 C ht T12 TA12 sA
  generalize w10.heap.size = bc at *
  go_wp2_with fail
  obtain ⟨TwA, RAa, RBa, RC, RSa, MRa⟩ := K6.out
  have T13 : Turn (fun _ => False) w12 (w12.alloc (.cells #[.int .i64 5, .int .i64 0] 38)) := (Turn.refl _ w12).alloc _
  have C := srefs_is (v1 := .slice ga3 1 gc3) (l := [(5, 0)]) (m := [(5, 0)]) (v2 := .slice (some ⟨w12.heap.size, 0, none⟩) 1 1) (RSa.turn T13 (fun _ _ q => q)) (refs_lit (l := [(5, 0)]) (range_new w12 [.int .i64 5, .int .i64 0] 38)) (by decide) (by decide)
  with_reducible refine C.mono ?_
  rintro en w14 ⟨t, rfl, ht, T14⟩
  obtain rfl := ht rfl
  have TA14 := T13.trans T14
  have y2 : w14.cell? ⟨bb, 2, none⟩ = some (.slice aa3 1 ac3) := range_turn RBa TA14 id 2 _ rfl
  have K7 := Lib.hid (And.intro (TwA.trans TA14) (And.intro (range_turn RAa TA14 id) (And.intro (range_turn RC TA14 id) (MRa.turn TA14 (fun _ _ q => q.elim) (fun _ _ q => q)))))
  clear K6 TwA RAa RBa RC RSa MRa T13 C ht T14 TA14
  go_wp2_with fail
  obtain ⟨TwA, RAa, RC, MRa⟩ := K7.out
  obtain ⟨u1, h1⟩ : ∃ u1, u1 = w14.alloc (.cells #[.int .i64 5] 3) := ⟨_, rfl⟩
  obtain ⟨u2, h2⟩ : ∃ u2, u2 = u1.alloc (.cells #[.slice (some ⟨w14.heap.size, 0, none⟩) 1 1] 46) := ⟨_, rfl⟩
  obtain ⟨u3, h3⟩ : ∃ u3, u3 = u2.alloc (.cells #[.slice (some ⟨w14.heap.size + 1, 0, none⟩) 1 1] 69) := ⟨_, rfl⟩
  have s1 : u1.heap.size = w14.heap.size + 1 := by rw [h1, World.size_alloc]
  have s2 : u2.heap.size = w14.heap.size + 1 + 1 := by rw [h2, World.size_alloc, s1]
  have U1 : Turn (fun _ => False) w14 u1 := by rw [h1]; exact (Turn.refl _ w14).alloc _
  have U2 : Turn (fun _ => False) u1 u2 := by rw [h2]; exact (Turn.refl _ u1).alloc _
  have U3 : Turn (fun _ => False) u2 u3 := by rw [h3]; exact (Turn.refl _ u2).alloc _
  have r3 : u1.rangeAt w14.heap.size 0 [.int .i64 5] := by rw [h1]; exact range_new w14 [.int .i64 5] 3
  have r2 : u2.rangeAt (w14.heap.size + 1) 0 [.slice (some ⟨w14.heap.size, 0, none⟩) 1 1] := by rw [h2, ← s1]; exact range_new u1 [.slice (some ⟨w14.heap.size, 0, none⟩) 1 1] 46
  have r1 : u3.rangeAt (w14.heap.size + 1 + 1) 0 [.slice (some ⟨w14.heap.size + 1, 0, none⟩) 1 1] := by rw [h3, ← s2]; exact range_new u2 [.slice (some ⟨w14.heap.size + 1, 0, none⟩) 1 1] 69
  have ML := mats_lit r1 (range_turn r2 U3 id) (range_turn (range_turn r3 U2 id) U3 id)
  have U := U1.trans (U2.trans U3)
  have MB := mats_of (MRa.turn U (fun _ _ q => q.elim) (fun _ _ q => q)) (fun l hl => by simp at hl; subst hl; simp)
  rw [← h1, ← h2, ← h3]
  have C := rsame_is (v1 := .slice aa3 1 ac3) MB ML (by decide) (by decide)
  with_reducible refine C.mono ?_
  rintro en w15 ⟨t, rfl, ht, dn, rfl⟩
  obtain rfl := ht rfl
  have TD := U.trans ((Turn.refl (fun _ => False) u3).drewN dn)
  have z1 : (u3.drewN dn).cell? ⟨ba, 1, none⟩ = some (.int .i64 1) := range_turn RAa TD id 1 _ rfl
  have z2 : (u3.drewN dn).cell? ⟨bc, 0, none⟩ = some (.int .i64 20) := range_turn RC TD id 0 _ rfl
  have F := Lib.hid (TwA.trans TD)
  clear K7 TwA RAa RC MRa h1 h2 h3 s1 s2 U1 U2 U3 r1 r2 r3 ML U MB C ht TD
  go_wp2
  go_ret
  exact ⟨rfl, F.out⟩
end Go.Proofs.Ytepmealhnnoahaa
