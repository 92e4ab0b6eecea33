/-
  Matches that are asked for are told.
-/
import Derived.Test.YtepmealhnnoahaaQx
namespace Go.Proofs.Ytepmealhnnoahaa
open Go.ChangeShapes Go.WideShapes Go.ChangeAt Go.RowKit
set_option linter.unusedVariables false set_option linter.unusedSimpArgs false
theorem GoneAt.gbl {w : World} {base gb : Nat} {l : List (Int × Int)} (h : GoneAt w base gb l) : gb < w.heap.size ∧ Blk w gb 54 := by
  obtain ⟨_, _, hb, _⟩ := h
  exact ⟨hb.lt, hb⟩
theorem own_low {w : World} {b b' : Nat} {e : TypeId} {s n : Nat} {v : Value} {xs : List Value} (h : w.ownsRow b e s v n xs) (hb : b' ≤ b) : w.ownsRow b' e s v n xs := by
  refine ⟨h.1, ?_⟩
  rcases h.2 with e | ⟨g, c, cur, h1, h2, h3⟩
  · exact .inl e
  · exact .inr ⟨g, c, cur, h1, by omega, h3⟩
def PRel (W3 : World) (base gb b3 k : Nat) (M : Nat → Prop) (l : List (Int × Int)) (Fi : List Fnd) (gh : Nat) (v49 : Value) (wr : World) : Prop :=
  ∃ (j : Nat) (av : Value), v49 = .int .i64 (j : Int) ∧ j ≤ k ∧ gh = k - j ∧ GoneAt wr base gb (l ++ frefs (Fi.take j)) ∧ Turn (fun q => q = b3 ∨ q = gb ∨ GB W3 gb q) W3 wr ∧ (∀ q, GB wr gb q → GB W3 gb q ∨ W3.heap.size ≤ q) ∧
    Blk wr b3 53 ∧ wr.rangeAt b3 0 [.int .i64 0, .int .i64 0, av] ∧ MRow wr W3.heap.size (fun q => ¬ M q) av ((Fi.take j).map (·.sets))
section
variable {w : World} {d mb : Nat} {qu ou : Int} {cnt m : Nat} {Q : Int → Option Wt}
set_option maxRecDepth 100000 in
set_option maxHeartbeats 4000000 in
theorem DeskAt.poll_yes (h : DeskAt w d mb qu ou cnt m Q) {i most : Int} (hi : (Lit.int .i64 i).wf = true) (hm1 : 1 ≤ most) {bk : Option Nat} {n cap : Nat} {lo : Bool} (hq : Q i = some ⟨bk, n, cap, lo⟩) (hlo : 1 ≤ n ∨ lo = false) {k : Nat} (hk : min most (n : Int) = (k : Int)) (hcnt : cnt < maxLen)
    {base gbase gb : Nat} {M : Nat → Prop} {F : Int → List Fnd} (hh : HoldAt w base M Q F)
    {l : List (Int × Int)} (hg : GoneAt w gbase gb l) (hM : ∀ k, M k → k ≠ mb ∧ k ≠ gb ∧ ¬ GB w gb k) (hn : l.length + (frefs (F i)).length ≤ 1000000) (hN : n ≤ 1000000) :
    Calls Try.prog 32 #[.pointer (some ⟨d, 0, none⟩), .int .i64 i, .int .i64 most, .func (.func 28) #[] #[.pointer (some ⟨gb, 0, none⟩)]] w fun e w' => ∃ av, e = .returned (.agg #[.int .i64 0, .int .i64 0, av]) ∧
      DeskAt w' d mb qu ou (cnt + 1) m (updI Q i (some ⟨bk, n - k, cap, lo⟩)) ∧ HoldAt w' base M (updI Q i (some ⟨bk, n - k, cap, lo⟩)) (updI F i ((F i).drop k)) ∧ MRow w' w.heap.size (fun q => ¬ M q) av (((F i).take k).map (·.sets)) ∧
      GoneAt w' gbase gb (l ++ frefs ((F i).take k)) ∧ Turn (fun q => q = mb ∨ q = gb ∨ GB w gb q ∨ bk = some q) w w' ∧ (∀ q, GB w' gb q → GB w gb q ∨ w.heap.size ≤ q) := by
  obtain ⟨ad, had⟩ : ∃ ad : Option Addr, bk.map (fun b => (⟨b, 0, none⟩ : Addr)) = ad := ⟨_, rfl⟩
  obtain ⟨W, hW⟩ : ∃ W, W = w.alloc (.cells #[.int .i64 0, .int .i64 0, .slice none 0 0] 53) := ⟨_, rfl⟩
  have T : Turn (fun _ => False) w W := by rw [hW]; exact (Turn.refl _ w).alloc _
  have Bk : Blk W w.heap.size 53 := by rw [hW]; exact Blk.new w [.int .i64 0, .int .i64 0, .slice none 0 0] 53
  have C : W.rangeAt w.heap.size 0 [.int .i64 0, .int .i64 0, .slice none 0 0] := by rw [hW]; exact range_new w [.int .i64 0, .int .i64 0, .slice none 0 0] 53
  have hd1 := h.keep T
  have c7 := hd1.c7
  have LK := hd1.mp.look (t := 80) (e := 94) Try.underlying3 Try.underlying80 (zero94 W) hi
  rw [hq] at LK
  unfold Wt.val Wt.sl at LK
  dsimp only [Option.getD_some, Option.isSome_some] at LK
  rw [had] at LK
  have hsz : w.heap.size < W.heap.size := by rw [hW, World.size_alloc]; omega
  have t1 : decide (most < 1) = false := decide_eq_false (by omega)
  have TX : Turn (fun _ => False) W (W.alloc (.cells #[.slice ad n cap, .bool lo] 94)) := (Turn.refl _ W).alloc _
  have BX : Blk (W.alloc (.cells #[.slice ad n cap, .bool lo] 94)) W.heap.size 94 := Blk.new W [.slice ad n cap, .bool lo] 94
  have RX : (W.alloc (.cells #[.slice ad n cap, .bool lo] 94)).rangeAt W.heap.size 0 [.slice ad n cap, .bool lo] := range_new W [.slice ad n cap, .bool lo] 94
  go_enter Try.func32, Try.ntmps32
  go_upto_region 1 with fail
  rw [← hW]
  clear hW
  go_upto_region 4 with fail
  generalize (W.alloc (.cells #[.slice ad n cap, .bool lo] 94)) = W2 at *
  have z0 := RX 0 _ rfl
  have z1 := RX 1 _ rfl
  rw [Nat.zero_add] at z1
  clear LK c7
  go_upto_region 6 with fail
  go_cut [37] from 15 (fun v37 wx => v37 = .bool false ∧ wx = W2)
  case first =>
    by_cases hn0 : n = 0
    · subst hn0
      obtain rfl : lo = false := hlo.resolve_left (by omega)
      go_wp2_with fail
      go_meet
      case rel => exact ⟨rfl, rfl⟩
    · have e0 : ((n : Int) == 0) = false := by simp; omega
      go_wp2_with fail
      go_meet
      case rel => exact ⟨rfl, rfl⟩
  case rest =>
  obtain ⟨rfl, rfl⟩ := hcut
  have hcap : n ≤ cap ∧ cap ≤ maxLen := by
    obtain ⟨ps, _, ho, _⟩ := (hh.row i _ hq).2.ex
    unfold Wt.sl at ho
    dsimp only at ho
    rw [had] at ho
    have e1 := (hh.row i _ hq).1
    dsimp only at e1
    rcases ho.2 with ⟨e, _⟩ | ⟨g', cap', cu, e, hb, hg, hnc, hcm, hcs, ht⟩
    · simp at e
      obtain ⟨rfl, rfl, rfl⟩ := e
      exact ⟨Nat.le_refl _, by unfold maxLen; omega⟩
    · simp at e
      obtain ⟨_, rfl, rfl⟩ := e
      exact ⟨hnc, hcm⟩
  have hcap1 := hcap.1
  have hcap2 := hcap.2
  unfold maxLen at hcap2
  have hkn : k ≤ n := by omega
  have hkc : k ≤ cap := by omega
  clear hcap
  have TA : Turn (fun _ => False) wc (wc.alloc (.cells #[.int .i64 0, .int .i64 0, .slice none 0 0] 53)) := (Turn.refl _ wc).alloc _
  have BA : Blk (wc.alloc (.cells #[.int .i64 0, .int .i64 0, .slice none 0 0] 53)) wc.heap.size 53 := Blk.new wc [.int .i64 0, .int .i64 0, .slice none 0 0] 53
  have RA : (wc.alloc (.cells #[.int .i64 0, .int .i64 0, .slice none 0 0] 53)).rangeAt wc.heap.size 0 [.int .i64 0, .int .i64 0, .slice none 0 0] := range_new wc [.int .i64 0, .int .i64 0, .slice none 0 0] 53
  go_upto_region 9 with fail
  generalize (wc.alloc (.cells #[.int .i64 0, .int .i64 0, .slice none 0 0] 53)) = W3 at *
  have x0 := TA.cell id z0
  have x1 := TA.cell id z1
  clear RX z0 z1
  have hmin : (if (n : Int) < most then (n : Int) else most) = (k : Int) := by
    rw [← hk]
    split <;> omega
  have T3 : Turn (fun _ => False) w W3 := (T.trans TX).trans TA
  have hd3 := h.keep T3
  have hg3 := hg.turn T3 id (fun _ _ q => q)
  have hh3 := hh.turn T3 (fun _ _ q => q) (fun _ _ _ _ _ q => q)
  have gbe : ∀ q, GB W3 gb q → GB w gb q := fun q g => g.turn hg T3 id
  have R0 : PRel W3 gbase gb wc.heap.size k M l (F i) k (.int .i64 0) W3 := ⟨0, _, rfl, Nat.zero_le _, rfl, by simpa [frefs] using hg3, Turn.refl _ _, fun q g => .inl g, BA, RA, MRow.nil _ _ _⟩
  have gbl := hg.gbl
  have gkl : ∀ q, GB w gb q → q < w.heap.size := fun q g => (hg.blk g).1.lt
  have s1 : W.heap.size ≤ wc.heap.size := TX.size
  have s2 : wc.heap.size < W3.heap.size := BA.lt
  have bgk : ∀ q, bk = some q → q ≠ gb ∧ ¬ GB w gb q ∧ q < w.heap.size := fun q hq' => by
    have b71 := hh.blk hq (show (Wt.sl ⟨bk, n, cap, lo⟩).ownBlock = some q by rw [hq']; rfl)
    exact ⟨b71.ne gbl.2 (by decide), fun g => b71.ne (hg.blk g).1 (by decide) rfl, b71.lt⟩
  have e1 := (hh.row i _ hq).1
  have hrow3 := (hh3.row i _ hq).2
  dsimp only at e1
  have K := Lib.hid (show (l.length + (frefs (F i)).length ≤ 1000000 ∧ n = (F i).length ∧ n ≤ 1000000 ∧ k ≤ n) ∧ FRow W3 base M (Wt.sl ⟨bk, n, cap, lo⟩) (F i) ∧ Option.map (fun b => (⟨b, 0, none⟩ : Addr)) bk = ad ∧ (∀ q, bk = some q → q ≠ gb ∧ ¬ GB w gb q ∧ q < w.heap.size) ∧ (∀ q, M q → q ≠ mb ∧ q ≠ gb ∧ ¬ GB w gb q ∧ q < w.heap.size) ∧ (∀ q, GB W3 gb q → GB w gb q) ∧
      (∀ q, GB w gb q → q < w.heap.size) ∧ (w.heap.size < W.heap.size ∧ W.heap.size ≤ wc.heap.size ∧ wc.heap.size < W3.heap.size) ∧ gb < w.heap.size from
    ⟨⟨hn, e1, hN, hkn⟩, hrow3, had, bgk, fun q m => ⟨(hM q m).1, (hM q m).2.1, (hM q m).2.2, hh.mlt q m⟩, gbe, gkl, ⟨hsz, s1, s2⟩, gbl.1⟩)
  have H0 := Lib.hid hh
  have HG := Lib.hid (show Blk w gb 54 ∧ ∀ q, GB w gb q → Blk w q 38 from ⟨gbl.2, fun q g => (hg.blk g).1⟩)
  have HK := Lib.hid (show ∀ q, bk = some q → Blk w q 71 from fun q hq' => hh.blk hq (show (Wt.sl ⟨bk, n, cap, lo⟩).ownBlock = some q by rw [hq']; rfl))
  have HD := Lib.hid (And.intro h (And.intro hd3 (And.intro hh3 (And.intro hq (And.intro hcnt (And.intro hi T3))))))
  have B53 := Lib.hid (And.intro ((Bk.turn TX id).turn TA id) (And.intro (range_turn (range_turn C TX id) TA id) (And.intro (BX.turn TA id) BA)))
  have X := Lib.hid (And.intro x0 x1)
  clear T TX TA T3 hd1 hd3 hg3 hh3 gbe gbl gkl s1 s2 bgk e1 hrow3 Bk C BX BA RA x1 h hh hg hM had hq hk hi hcnt hlo hn hN t1 hm1 hsz
  generalize hb3 : wc.heap.size = b3 at *
  generalize hb2 : W.heap.size = b2 at *
  generalize hb1 : w.heap.size = b1 at *
  clear hb3 hb2
  go_upto_region 10 with fail
  clear hmin
  go_wp2_with fail
  clear x0
  go_loopg [49] k (fun gh v49 wr => PRel W3 gbase gb b3 k M l (F i) gh v49 wr)
  case atStart => exact R0
  case round =>
    clear R0
    obtain ⟨j, av, rfl, hj, hgh, hgo, hT, hB, hb53, hav, hMR⟩ := hrel
    by_cases hjk : j < k
    · have u1 : decide ((j : Int) < (k : Int)) = true := decide_eq_true (by omega)
      have u2 : decide (j < k) = true := decide_eq_true hjk
      obtain ⟨⟨hn, e1, hN, hkn⟩, hrow3, had, hR, hM, gbe, gkl, ⟨s1, s2, s3⟩, gbl⟩ := K.out
      obtain ⟨f, hf⟩ : ∃ f, (F i)[j]? = some f := ⟨_, List.getElem?_eq_getElem (by omega)⟩
      have nS : ∀ q, q < b1 → q ≠ gb → ¬ GB w gb q → ¬ (q = b3 ∨ q = gb ∨ GB W3 gb q) := fun q h1 h2 h3 e => by
        rcases e with e | e | e
        · omega
        · exact h2 e
        · exact h3 (gbe q e)
      have hroww := hrow3.turn hT (fun q m => nS q (hM q m).2.2.2 (hM q m).2.1 (hM q m).2.2.1) (fun q hk => by
        have hk' : bk = some q := by
          unfold Wt.sl at hk
          cases bk with
          | none => simp [Value.ownBlock] at hk
          | some b => simpa [Value.ownBlock] using hk
        exact nS q (hR q hk').2.2 (hR q hk').1 (hR q hk').2.1)
      obtain ⟨g, hbk⟩ : ∃ g, bk = some g := by
        obtain ⟨ps, _, ho, _⟩ := hrow3.ex
        obtain ⟨a, c, e, hs⟩ := own_slice ho
        obtain ⟨g, hs⟩ := hs (by omega)
        unfold Wt.sl at e
        cases bk with
        | none => simp at e; rw [hs] at e; simp at e
        | some b => exact ⟨b, rfl⟩
      subst hbk
      have had' : ad = some ⟨g, 0, none⟩ := by rw [← had]; rfl
      subst had'
      unfold Wt.sl at hroww
      dsimp only [Option.map_some] at hroww
      obtain ⟨vs, vr, hra, hfa⟩ := hroww.at hf
      have y0 : wr.cell? ⟨g, j * 2, none⟩ = some vs := hra 0 _ rfl
      have y1 : wr.cell? ⟨g, j * 2 + 1, none⟩ = some vr := hra 1 _ rfl
      obtain ⟨sb, sc, rfl⟩ := hfa.sets.sl
      obtain ⟨rb, rc, rfl⟩ := hfa.refs.sl
      obtain ⟨aa, ac, hav2⟩ := hMR.sl
      have hlj : ((List.take j (F i)).map (·.sets)).length ≤ 1000000 := by simp; omega
      generalize ((List.take j (F i)).map (·.sets)).length = nn at hav2
      subst hav2
      have j0 : (0 : Int) ≤ (j : Int) := by omega
      have j1 : (j : Int) < (k : Int) := by omega
      have j2 : k ≤ 1000000 := by omega
      have TA : Turn (fun _ => False) wr (wr.alloc (.cells #[.slice (some ⟨sb, 0, none⟩) f.sets.length sc, .slice (some ⟨rb, 0, none⟩) f.refs.length rc] 71)) := (Turn.refl _ wr).alloc _
      have RA : (wr.alloc (.cells #[.slice (some ⟨sb, 0, none⟩) f.sets.length sc, .slice (some ⟨rb, 0, none⟩) f.refs.length rc] 71)).rangeAt wr.heap.size 0 [.slice (some ⟨sb, 0, none⟩) f.sets.length sc, .slice (some ⟨rb, 0, none⟩) f.refs.length rc] := range_new wr [.slice (some ⟨sb, 0, none⟩) f.sets.length sc, .slice (some ⟨rb, 0, none⟩) f.refs.length rc] 71
      have BA : Blk (wr.alloc (.cells #[.slice (some ⟨sb, 0, none⟩) f.sets.length sc, .slice (some ⟨rb, 0, none⟩) f.refs.length rc] 71)) wr.heap.size 71 := Blk.new wr [.slice (some ⟨sb, 0, none⟩) f.sets.length sc, .slice (some ⟨rb, 0, none⟩) f.refs.length rc] 71
      go_upto_region 13 with fail
      generalize (wr.alloc (.cells #[.slice (some ⟨sb, 0, none⟩) f.sets.length sc, .slice (some ⟨rb, 0, none⟩) f.refs.length rc] 71)) = W4 at *
      have p0 := RA 0 _ rfl
      have p1 := RA 1 _ rfl
      rw [Nat.zero_add] at p1
      have p2 := range_turn hav TA id
      have q2 : W4.cell? ⟨b3, 2, none⟩ = some (.slice aa nn ac) := p2 2 _ rfl
      have hfa4 := hfa.turn TA (fun _ _ q => q.elim)
      have hMR4 := hMR.turn TA (fun _ _ q => q.elim) (fun _ _ q => q)
      have B4 := hb53.turn TA id
      have avb : ∀ q, (Value.slice aa nn ac).ownBlock = some q → Blk W4 q 69 ∧ W3.heap.size ≤ q := fun q hq => hMR4.blk hq
      have T34 := hT.trans (TA.more (S' := fun q => q = b3 ∨ q = gb ∨ GB W3 gb q) (fun _ _ q => q.elim))
      obtain ⟨v', W5, RUN, hMR5, T5, avf⟩ := hMR4.add T34.size (by simp; omega) hfa4.sets (fun q hq m => by
        have := (avb q hq).2
        have := (hM q m).2.2.2
        omega)
      have b3n : ¬ (Value.slice aa nn ac).ownBlock = some b3 := fun e => by have := (avb b3 e).2; omega
      have b4n : ¬ (Value.slice aa nn ac).ownBlock = some wr.heap.size := fun e => (avb _ e).1.ne BA (by decide) rfl
      have B5 := B4.turn T5 b3n
      have r5 := range_turn p2 T5 b3n
      have w0 : W5.cell? ⟨b3, 2, none⟩ = some (.slice aa nn ac) := r5 2 _ rfl
      have fz5 := B5.fz 2
      have p15 := T5.cell b4n p1
      have hgo4 := hgo.turn TA id (fun _ _ q => q)
      have gb5 := hgo4.gbl
      have ngb : ¬ (Value.slice aa nn ac).ownBlock = some gb := fun e => (avb _ e).1.ne gb5.2 (by decide) rfl
      have hgo5 := hgo4.turn T5 ngb (fun q g e => (avb _ e).1.ne (hgo4.blk g).1 (by decide) rfl)
      have gbe5 : ∀ q, GB W5 gb q → GB W3 gb q ∨ W3.heap.size ≤ q := fun q g => hB q ((g.turn hgo4 T5 ngb).turn hgo TA id)
      have T35 : Turn (fun q => q = b3 ∨ q = gb ∨ GB W3 gb q) W3 W5 := T34.comp T5 (fun q hq e => by have := (avb q e).2; omega)
      have hfr5 : RowV W5 38 2 f.refs.length (.slice (some ⟨rb, 0, none⟩) f.refs.length rc) (rcells f.refs) := (hfa4.turn T5 (fun q hq e m => by
        have := (avb q e).2
        have := (hM q m).2.2.2
        omega)).refs
      have b34 : b3 ≠ wr.heap.size := by have := hb53.lt; omega
      obtain ⟨va, vn, vc, hv⟩ : ∃ va vn vc, v' = .slice va vn vc := by
        obtain ⟨a, c, e⟩ := hMR5.sl
        exact ⟨a, _, c, e⟩
      subst hv
      have G := Lib.hid (show GoneAt W5 gbase gb (l ++ frefs (List.take j (F i))) ∧ (∀ q, GB W5 gb q → GB W3 gb q ∨ W3.heap.size ≤ q) ∧ Turn (fun q => q = b3 ∨ q = gb ∨ GB W3 gb q) W3 W5 ∧ RowV W5 38 2 f.refs.length (.slice (some ⟨rb, 0, none⟩) f.refs.length rc) (rcells f.refs) ∧ MRow W5 W3.heap.size (fun q => ¬ M q) (.slice va vn vc) ((List.take j (F i)).map (·.sets) ++ [f.sets]) ∧ Blk W5 b3 53 ∧ W5.rangeAt b3 0 [.int .i64 0, .int .i64 0, .slice aa nn ac] ∧
          (F i)[j]? = some f ∧ j < k from ⟨hgo5, gbe5, T35, hfr5, hMR5, B5, r5, hf, hjk⟩)
      have GH := Lib.hid hgh
      have RUN2 := Lib.hid RUN
      clear hj hgh hgo hT hB hb53 hav hMR hjk hn e1 hN hkn hrow3 had hR hM gbe gkl s1 s2 s3 gbl hf nS hroww y0 y1 hra hfa TA RA BA p1 p2 hfa4 hMR4 B4 avb T34 RUN hMR5 T5 avf b3n b4n B5 r5 hgo4 gb5 ngb hgo5 gbe5 T35 hfr5 hlj X
      generalize hb4 : wr.heap.size = b4 at *
      go_upto_region 14 with (at_builtin; refine rl_append_run (by rfl) _ _ _ (by rfl) (by rfl) (by rfl) RUN2.out ?_)
      obtain ⟨hgo5, gbe5, T35, hfr5, hMR5, B5, r5, hf, hjk⟩ := G.out
      obtain ⟨⟨hn, e1, hN, hkn⟩, hrow3, had, hR, hM, gbe, gkl, ⟨s1, s2, s3⟩, gbl⟩ := K.out
      have TP : Turn (fun q => q = b3) W5 (W5.setCell ⟨b3, 2, none⟩ (.slice va vn vc)) := Turn.put _ _ _ _
      have c0 : (W5.setCell ⟨b3, 2, none⟩ (.slice va vn vc)).cell? ⟨b3, 0, none⟩ = some (.int .i64 0) := (cell_off _ _ _ _ _ (by decide)).trans (r5 0 _ rfl)
      have c1 : (W5.setCell ⟨b3, 2, none⟩ (.slice va vn vc)).cell? ⟨b3, 1, none⟩ = some (.int .i64 0) := (cell_off _ _ _ _ _ (by decide)).trans (r5 1 _ rfl)
      have c2 : (W5.setCell ⟨b3, 2, none⟩ (.slice va vn vc)).cell? ⟨b3, 2, none⟩ = some (.slice va vn vc) := World.cell?_setCell_same _ _ _ w0
      have p16 := TP.cell (fun e => b34 e.symm) p15
      have B6 := B5.set ⟨b3, 2, none⟩ (.slice va vn vc)
      have n3 : gb ≠ b3 := by omega
      have hgo6 := hgo5.turn TP n3 (fun q g e => (hgo5.blk g).1.ne B5 (by decide) e)
      have gbe6 : ∀ q, GB (W5.setCell ⟨b3, 2, none⟩ (.slice va vn vc)) gb q → GB W3 gb q ∨ W3.heap.size ≤ q := fun q g => gbe5 q (g.turn hgo5 TP n3)
      have T36 : Turn (fun q => q = b3 ∨ q = gb ∨ GB W3 gb q) W3 (W5.setCell ⟨b3, 2, none⟩ (.slice va vn vc)) := T35.trans (TP.more (fun _ _ e => .inl e))
      have hfr6 := hfr5.turn TP (fun q hq e => by
        have eb : rb = q := by simpa [Value.ownBlock] using hq
        obtain ⟨rb', rc', e1, hb, _⟩ := hfr5
        simp at e1
        obtain ⟨rfl, rfl⟩ := e1
        exact hb.ne B5 (by decide) (eb.trans e))
      have hMR6 := hMR5.turn TP (fun q hq e m => by have := (hM q m).2.2.2; omega) (fun q hq e => (hMR5.blk hq).1.ne B5 (by decide) e)
      have LG := let_go hgo6 hfr6 (by
        have := frefs_take (F i) (j + 1)
        rw [frefs_step hf] at this
        simp only [List.length_append] at this ⊢
        omega)
      rw [List.append_assoc, ← frefs_step hf] at LG
      have emap : (List.take j (F i)).map (·.sets) ++ [f.sets] = (List.take (j + 1) (F i)).map (·.sets) := by
        rw [List.take_add_one, hf, List.map_append]
        rfl
      rw [emap] at hMR6
      generalize W5.setCell ⟨b3, 2, none⟩ (.slice va vn vc) = W6 at *
      have LG := Lib.hid LG
      have G6 := Lib.hid (And.intro hgo6 (And.intro gbe6 (And.intro T36 (And.intro hMR6 (And.intro B6 (And.intro c0 (And.intro c1 (And.intro c2 hjk))))))))
      clear G hgo5 gbe5 T35 hfr5 hMR5 B5 r5 hf hjk hn e1 hN hkn hrow3 had hR hM gbe gkl s1 s2 s3 gbl TP c0 c1 c2 p15 B6 hgo6 gbe6 T36 hfr6 hMR6 emap RUN2 fz5 n3 w0 q2 p0
      go_wp2_with fail
      with_reducible refine LG.out.mono ?_
      clear LG p16
      rintro en W7 ⟨rfl, q1, q2, q3⟩
      go_wp2_with fail
      go_roundg (k - (j + 1))
      case measure => have := G6.out.2.2.2.2.2.2.2.2; have := GH.out; omega
      case rel =>
        obtain ⟨hgo6, gbe6, T36, hMR6, B6, c0, c1, c2, hjk⟩ := G6.out
        obtain ⟨⟨hn, e1, hN, hkn⟩, hrow3, had, hR, hM, gbe, gkl, ⟨s1, s2, s3⟩, gbl⟩ := K.out
        have n3 : ¬ (b3 = gb ∨ GB W6 gb b3) := fun e => by
          rcases e with e | e
          · omega
          · exact (hgo6.blk e).1.ne B6 (by decide) rfl
        refine ⟨j + 1, .slice va vn vc, congrArg (Value.int .i64) (by omega), by omega, rfl, q1, T36.comp q2 (fun q hq e => ?_), fun q g => ?_, B6.turn q2 n3, fun x u hx => ?_, hMR6.turn q2 (fun q hq e m => ?_) (fun q hq e => ?_)⟩
        · rcases e with e | e
          · exact .inr (.inl e)
          · rcases gbe6 q e with e | e
            · exact .inr (.inr e)
            · omega
        · rcases q3 q g with e | e
          · exact gbe6 q e
          · have := T36.size
            exact .inr (by omega)
        · match x, hx with
          | 0, hx => cases hx; exact q2.cell n3 c0
          | 1, hx => cases hx; exact q2.cell n3 c1
          | 2, hx => cases hx; exact q2.cell n3 c2
        · rcases e with e | e
          · exact (hM q m).2.1 e
          · rcases gbe6 q e with e | e
            · exact (hM q m).2.2.1 (gbe q e)
            · have := (hM q m).2.2.2
              omega
        · rcases e with e | e
          · exact (hMR6.blk hq).1.ne hgo6.gbl.2 (by decide) e
          · exact (hMR6.blk hq).1.ne (hgo6.blk e).1 (by decide) rfl
    · obtain rfl : j = k := by omega
      have u1 : decide ((j : Int) < (j : Int)) = false := decide_eq_false (by omega)
      have u2 : decide (j < j) = false := decide_eq_false (by omega)
      obtain ⟨⟨hn, e1, hN, hkn⟩, hrow3, had, hR, hM, gbe, gkl, ⟨s1, s2, s3⟩, gbl⟩ := K.out
      obtain ⟨h, hd3, hh3, hq, hcnt, hi, T3⟩ := HD.out
      obtain ⟨B31, r31, B32, B33⟩ := B53.out
      have nS : ∀ q, q < b1 → q ≠ gb → ¬ GB w gb q → ¬ (q = b3 ∨ q = gb ∨ GB W3 gb q) := fun q h1 h2 h3 e => by
        rcases e with e | e | e
        · omega
        · exact h2 e
        · exact h3 (gbe q e)
      have nS2 : ∀ q, b1 ≤ q → q ≠ b3 → ¬ (q = b3 ∨ q = gb ∨ GB W3 gb q) := fun q h1 h2 e => by
        rcases e with e | e | e
        · exact h2 e
        · omega
        · have := gkl _ (gbe q e); omega
      have adb : ∀ q, ad = some ⟨q, 0, none⟩ → bk = some q := fun q e => by
        rw [← had] at e
        cases bk with
        | none => simp at e
        | some b => simp at e; rw [e]
      have n23 : b2 ≠ b3 := B32.ne B33 (by decide)
      have n13 : b1 ≠ b3 := by omega
      have n12 : b1 ≠ b2 := by omega
      have hroww : FRow wr base M (.slice ad n cap) (F i) := by
        have := hrow3.turn hT (fun q m => nS q (hM q m).2.2.2 (hM q m).2.1 (hM q m).2.2.1) (fun q hk => by
          have hk' : bk = some q := by
            unfold Wt.sl at hk
            cases bk with
            | none => simp [Value.ownBlock] at hk
            | some b => simpa [Value.ownBlock] using hk
          exact nS q (hR q hk').2.2 (hR q hk').1 (hR q hk').2.1)
        unfold Wt.sl at this
        dsimp only at this
        rw [had] at this
        exact this
      have mno : ∀ q, M q → ad ≠ some ⟨q, 0, none⟩ := fun q m e => hh3.mno i _ q hq (show (Wt.sl ⟨bk, n, cap, lo⟩).ownBlock = some q by rw [adb q e]; rfl) m
      have DEL := Lib.hid (hroww.del (k := j) e1 hkn (by omega) hN mno)
      have x0 := hT.cell (nS2 b2 (by omega) n23) X.out.1
      have x1 := hT.cell (nS2 b2 (by omega) n23) X.out.2
      have B2w := B32.turn hT (nS2 b2 (by omega) n23)
      have B1w := B31.turn hT (nS2 b1 (by omega) n13)
      have r1w := range_turn r31 hT (nS2 b1 (by omega) n13)
      obtain ⟨aa, nn, ac, hav2⟩ : ∃ aa nn ac, av = .slice aa nn ac := by
        obtain ⟨a, c, e⟩ := hMR.sl
        exact ⟨a, _, c, e⟩
      subst hav2
      have G := Lib.hid (And.intro hgo (And.intro hT (And.intro hB (And.intro hb53 (And.intro hav hMR)))))
      have E := Lib.hid (And.intro B2w (And.intro B1w (And.intro r1w (And.intro nS (And.intro nS2 (And.intro adb (And.intro mno (And.intro n23 (And.intro n13 n12)))))))))
      have X1 := Lib.hid x1
      clear hj hgh hgo hT hB hb53 hav hMR hjk hn e1 hN hkn hrow3 had hR hM gbe gkl s1 s2 s3 gbl h hd3 hh3 hq hcnt hi T3 B31 r31 B32 B33 nS nS2 adb mno n23 n13 n12 hroww B2w B1w r1w x1
      go_upto_region 16 with fail
      go_wp2_with fail
      with_reducible refine DEL.out.mono ?_
      clear DEL
      rintro en W7 ⟨rfl, hrow7, TD⟩
      obtain ⟨B2w, B1w, r1w, nS, nS2, adb, mno, n23, n13, n12⟩ := E.out
      obtain ⟨⟨hn, e1, hN, hkn⟩, hrow3, had, hR, hM, gbe, gkl, ⟨s1, s2, s3⟩, gbl⟩ := K.out
      have nA : ∀ q, b1 ≤ q → ¬ (ad = some ⟨q, 0, none⟩) := fun q hq e => by have := (hR q (adb q e)).2.2; omega
      have z0 := TD.cell (nA b2 (by omega)) x0
      have z1 := TD.cell (nA b2 (by omega)) X1.out
      have B27 := B2w.turn TD (nA b2 (by omega))
      have fz := B27.fz 0
      have TP : Turn (fun q => q = b2) W7 (W7.setCell ⟨b2, 0, none⟩ (.slice ad (n - j) cap)) := Turn.put _ _ _ _
      have y0 : (W7.setCell ⟨b2, 0, none⟩ (.slice ad (n - j) cap)).cell? ⟨b2, 0, none⟩ = some (.slice ad (n - j) cap) := World.cell?_setCell_same _ _ _ z0
      have y1 : (W7.setCell ⟨b2, 0, none⟩ (.slice ad (n - j) cap)).cell? ⟨b2, 1, none⟩ = some (.bool lo) := (cell_off _ _ _ _ _ (by decide)).trans z1
      have B28 := B27.set ⟨b2, 0, none⟩ (.slice ad (n - j) cap)
      have H7 := Lib.hid (And.intro hrow7 (And.intro TD (And.intro TP (And.intro y0 (And.intro y1 (And.intro B28 (And.intro B27 nA)))))))
      clear hrow7 TD TP y0 y1 B28 B27 nA z1 x0 hn e1 hN hkn hrow3 had hR hM gbe gkl s1 s2 s3 gbl B2w B1w r1w nS nS2 adb mno n23 n13 n12
      go_upto_region 17 with fail
      clear z0 fz
      obtain ⟨hrow7, TD, TP, y0, y1, B28, B27, nA⟩ := H7.out
      generalize (W7.setCell ⟨b2, 0, none⟩ (.slice ad (n - j) cap)) = W8 at *
      obtain ⟨B2w, B1w, r1w, nS, nS2, adb, mno, n23, n13, n12⟩ := E.out
      obtain ⟨⟨hn, e1, hN, hkn⟩, hrow3, had, hR, hM, gbe, gkl, ⟨s1, s2, s3⟩, gbl⟩ := K.out
      obtain ⟨h, hd3, hh3, hq, hcnt, hi, T3⟩ := HD.out
      obtain ⟨hgo, hT, hB, hb53, hav, hMR⟩ := G.out
      have T7 : Turn (fun q => q = gb ∨ GB w gb q ∨ bk = some q) w W7 := ((T3.more (S' := fun q => q = gb ∨ GB w gb q ∨ bk = some q) (fun _ _ q => q.elim)).comp hT (fun q hq e => by
        rcases e with e | e | e
        · omega
        · exact .inl e
        · exact .inr (.inl (gbe q e)))).comp TD (fun q _ e => .inr (.inr (adb q e)))
      have T8 : Turn (fun q => q = gb ∨ GB w gb q ∨ bk = some q) w W8 := T7.comp TP (fun q hq e => by omega)
      have TR : Turn (fun _ => False) W8 W8.drew := (Turn.refl _ W8).drewN 1
      have gw : Blk w gb 54 ∧ ∀ q, GB w gb q → Blk w q 38 := HG.out
      have bkw : ∀ q, bk = some q → Blk w q 71 := HK.out
      have nD : ¬ (d = gb ∨ GB w gb d ∨ bk = some d) := fun e => by
        rcases e with e | e | e
        · exact h.bl.ne gw.1 (by decide) e
        · exact h.bl.ne (gw.2 d e) (by decide) rfl
        · exact h.bl.ne (bkw d e) (by decide) rfl
      have nB : ¬ (mb = gb ∨ GB w gb mb ∨ bk = some mb) := fun e => by
        rcases e with e | e | e
        · exact h.ne gw.1 e.symm
        · exact h.ne (gw.2 mb e) rfl
        · exact h.ne (bkw mb e) rfl
      have hd8 := (h.turn T8 nD nB).keep TR
      obtain ⟨W9, hr9, hp9, T9⟩ := hd8.put hcnt hi ⟨bk, n - j, cap, lo⟩
      rw [hq] at hp9
      have hr : (Instr.mapUpdate 80 (.map (some mb)) (.int .i64 i) (.agg #[.slice ad (n - j) cap, .bool lo])).run Try.prog W8.drew = .ok () W9 := by
        unfold Wt.val Wt.sl at hr9
        dsimp only at hr9
        rw [had] at hr9
        exact hr9
      have p7 : W8.drew.cell? ⟨d, 7, none⟩ = some (.map (some mb)) := hd8.c7
      have q0 : W8.drew.cell? ⟨b2, 0, none⟩ = some (.slice ad (n - j) cap) := y0
      have q1 : W8.drew.cell? ⟨b2, 1, none⟩ = some (.bool lo) := y1
      have m2 : b2 ≠ mb := by have := h.mp.lt; omega
      have P9 : W9.cell? ⟨d, 7, none⟩ = some (.map (some mb)) ∧ W9.cell? ⟨b2, 0, none⟩ = some (.slice ad (n - j) cap) ∧ W9.cell? ⟨b2, 1, none⟩ = some (.bool lo) := ⟨T9.cell (h.ne h.bl) p7, T9.cell m2 q0, T9.cell m2 q1⟩
      -- what is there behind it
      have hgl := hgo.gbl
      have hgo7 := hgo.turn TD (fun e => (hR gb (adb gb e)).1 rfl) (fun q g e => by
        rcases hB q g with g2 | g2
        · exact (hR q (adb q e)).2.1 (gbe q g2)
        · have := (hR q (adb q e)).2.2; omega)
      have gb7 : ∀ q, GB W7 gb q → GB w gb q ∨ b1 ≤ q := fun q g => (hB q (g.turn hgo TD (fun e => (hR gb (adb gb e)).1 rfl))).imp (gbe q) (fun e => by omega)
      have g2 : gb ≠ b2 := by omega
      have hgo8 := (hgo7.turn TP g2 (fun q g e => (hgo7.blk g).1.ne B27 (by decide) e))
      have gb8 : ∀ q, GB W8 gb q → GB w gb q ∨ b1 ≤ q := fun q g => gb7 q (g.turn hgo7 TP g2)
      have hgo8d := hgo8.turn TR id (fun _ _ q => q)
      have gm : gb ≠ mb := fun e => nB (.inl e.symm)
      have hgo9 := hgo8d.turn T9 gm (fun q g e => hd8.ne (hgo8d.blk g).1 e)
      have gb9 : ∀ q, GB W9 gb q → GB w gb q ∨ b1 ≤ q := fun q g => gb8 q ((g.turn hgo8d T9 gm).turn hgo8 TR id)
      have hM7 := hMR.turn TD (fun q _ e m => mno q m e) (fun q hq e => by have := (hMR.blk hq).2; have := (hR q (adb q e)).2.2; omega)
      have hM8 := (hM7.turn TP (fun q _ e m => by have := (hM q m).2.2.2; omega) (fun q hq e => (hM7.blk hq).1.ne B27 (by decide) e)).turn TR (fun _ _ q => q.elim) (fun _ _ q => q)
      have hM9 := hM8.turn T9 (fun q _ e m => (hM q m).1 e) (fun q hq e => hd8.ne (hM8.blk hq).1 e)
      have b37 := (hb53.turn TD (nA b3 (by omega))).turn TP n23.symm
      have m3 : b3 ≠ mb := by have := h.mp.lt; omega
      have m1 : b1 ≠ mb := by have := h.mp.lt; omega
      have b39 := (b37.turn TR id).turn T9 m3
      have r39 := range_turn (range_turn (range_turn (range_turn hav TD (nA b3 (by omega))) TP n23.symm) TR id) T9 m3
      have b19 := (((B1w.turn TD (nA b1 (by omega))).turn TP n12).turn TR id).turn T9 m1
      have r19 := range_turn (range_turn (range_turn (range_turn r1w TD (nA b1 (by omega))) TP n12) TR id) T9 m1
      have T9' : Turn (fun q => q = mb ∨ q = gb ∨ GB w gb q ∨ bk = some q) w W9 := ((T8.trans (TR.more (fun _ _ q => q.elim))).more (fun _ _ q => .inr q)).trans (T9.more (fun _ _ q => .inl q))
      have hrow8 := (hrow7.turn TP (fun q m e => by have := (hM q m).2.2.2; omega) (fun q hk e => by
        have ea : ad = some ⟨q, 0, none⟩ := by
          cases had2 : ad with
          | none => rw [had2] at hk; simp [Value.ownBlock] at hk
          | some p =>
            rw [had2] at hk
            rw [← had] at had2
            cases bk with
            | none => simp at had2
            | some b =>
              simp at had2
              subst had2
              simpa [Value.ownBlock] using hk
        exact nA b2 (by omega) (e ▸ ea))).turn TR (fun _ _ q => q) (fun _ _ q => q)
      have hrow9 := hrow8.turn T9 (fun q m e => (hM q m).1 e) (fun q hk e => by
        obtain ⟨ps, _, ho, _⟩ := hrow8.ex
        rcases ho.2 with ⟨e2, _⟩ | ⟨g', cap', cur, e2, _, hgg, _⟩
        · rw [e2] at hk; simp [Value.ownBlock] at hk
        · rw [e2] at hk
          have : g' = q := by simpa [Value.ownBlock] using hk
          subst this
          exact hd8.ne (show Blk W8.drew g' 71 from ⟨_, hgg⟩) e)
      rw [← had] at hrow9
      have hh9 := (H0.out).drop (S := fun q => q = mb ∨ q = gb ∨ GB w gb q ∨ bk = some q) (k := j) hq hkn hrow9 T9' (fun q m e => by
        rcases e with e | e | e | e
        · exact (hM q m).1 e
        · exact (hM q m).2.1 e
        · exact (hM q m).2.2.1 e
        · exact (H0.out).mno i _ q hq (show (Wt.sl ⟨bk, n, cap, lo⟩).ownBlock = some q by rw [e]; rfl) m) (fun x r q hne hr hk e => by
        have b71 := (H0.out).blk hr hk
        rcases e with e | e | e | e
        · exact h.ne b71 e
        · exact b71.ne gw.1 (by decide) e
        · exact b71.ne (gw.2 q e) (by decide) rfl
        · exact (H0.out).apart x i r _ q hne hr hq hk (show (Wt.sl ⟨bk, n, cap, lo⟩).ownBlock = some q by rw [e]; rfl))
      have cs3 : ([.int .i64 0, .int .i64 0, .slice aa nn ac] : List Value).length = 3 := rfl
      have TH := Lib.hid (show W9.there b1 0 3 from range_there r19 rfl b19)
      have FIN := Lib.hid (show DeskAt (W9.setCells b1 0 [.int .i64 0, .int .i64 0, .slice aa nn ac]) d mb qu ou (cnt + 1) m (updI Q i (some ⟨bk, n - j, cap, lo⟩)) ∧ HoldAt (W9.setCells b1 0 [.int .i64 0, .int .i64 0, .slice aa nn ac]) base M (updI Q i (some ⟨bk, n - j, cap, lo⟩)) (updI F i ((F i).drop j)) ∧
          MRow (W9.setCells b1 0 [.int .i64 0, .int .i64 0, .slice aa nn ac]) w.heap.size (fun q => ¬ M q) (.slice aa nn ac) (((F i).take j).map (·.sets)) ∧ GoneAt (W9.setCells b1 0 [.int .i64 0, .int .i64 0, .slice aa nn ac]) gbase gb (l ++ frefs ((F i).take j)) ∧
          Turn (fun q => q = mb ∨ q = gb ∨ GB w gb q ∨ bk = some q) w (W9.setCells b1 0 [.int .i64 0, .int .i64 0, .slice aa nn ac]) ∧ (∀ q, GB (W9.setCells b1 0 [.int .i64 0, .int .i64 0, .slice aa nn ac]) gb q → GB w gb q ∨ w.heap.size ≤ q) from by
        have TS : Turn (fun k => k = b1) W9 (W9.setCells b1 0 [.int .i64 0, .int .i64 0, .slice aa nn ac]) := Turn.setCells _ 0 (Turn.refl _ _) (.inl rfl)
        have x1 : gb ≠ b1 := by omega
        have hdl := h.bl.lt
        have hml := h.mp.lt
        refine ⟨hp9.turn TS (by omega) (by omega), hh9.turn TS (fun q m e => by have := (hM q m).2.2.2; omega) (fun x r q hr hk e => (hh9.blk hr hk).ne b19 (by decide) e), ?_, hgo9.turn TS x1 (fun q g e => (hgo9.blk g).1.ne b19 (by decide) e), T9'.comp TS (fun q hq e => by omega), fun q g => (gb9 q (g.turn hgo9 TS x1)).imp id (fun e => by omega)⟩
        have := hM9.turn TS (fun q _ e m => by have := (hM q m).2.2.2; omega) (fun q hq e => (hM9.blk hq).1.ne b19 (by decide) e)
        obtain ⟨ps, g1, g2, g3⟩ := this.ex
        exact ⟨ps, g1, own_low g2 (by omega), g3⟩)
      have HR := Lib.hid hr
      have R39 := Lib.hid r39
      clear hrow7 TD TP y0 y1 B28 B27 nA hn e1 hN hkn hrow3 had hR hM gbe gkl s1 s2 s3 gbl B2w B1w r1w nS nS2 adb mno n23 n13 n12 h hd3 hh3 hq hcnt hi T3 hgo hT hB hb53 hav hMR T7 T8 TR gw bkw nD nB hd8 hr9 hp9 T9 hr m2 hgl hgo7 gb7 g2 hgo8 gb8 hgo8d gm hgo9 gb9 hM7 hM8 hM9 b37 m3 m1 b39 b19 r19 T9' hrow8 hrow9 hh9 cs3 r39 G E K H7 HD B53 X X1
      refine wp_region_held_drew (S := (fun w' => w'.cell? ⟨d, 7, none⟩ = some (.map (some mb)) ∧ w'.cell? ⟨b2, 0, none⟩ = some (.slice ad (n - j) cap) ∧ w'.cell? ⟨b2, 1, none⟩ = some (.bool lo))) (by kernel_rfl) ?hs0 (fun hS0 => ?_)
      case hs0 => ((try dsimp only); first | with_reducible exact ⟨p7, q0, q1⟩ | with_reducible exact P9 | exact ⟨p7, q0, q1⟩ | exact P9)
      refine wpAnyH_take (i := 0) (oi := { dst := some 70, op := Op.move (Operand.tmp 0), type := 25, pos := "queue.go:134", after := #[], guard := none }) (v := ?_) rfl (by kernel_rfl) (by kernel_rfl) (by kernel_rfl) (fun _ _ _ h => h) (Or.inl ⟨by rfl, ?hy1⟩) hS0 ?_
      case hy1 => (intro w hSw; (try dsimp only at hSw); go_simp; try with_reducible rfl)
      try simp only [Act.put, List.setIfInBounds_toArray, List.set_cons_zero, List.set_cons_succ]
      refine wpAnyH_take (i := 1) (oi := { dst := some 71, op := Op.nilCheck (Operand.tmp 70), type := 0, pos := "queue.go:134", after := #[{ on := 0, ground := Ground.data }], guard := none }) (v := ?_) rfl (by kernel_rfl) (by kernel_rfl) (by kernel_rfl) (fun _ _ _ h => h) (Or.inl ⟨by rfl, ?hy2⟩) hS0 ?_
      case hy2 => (intro w hSw; (try dsimp only at hSw); go_simp; try with_reducible rfl)
      try simp only [Act.put, List.setIfInBounds_toArray, List.set_cons_zero, List.set_cons_succ]
      refine wpAnyH_take (i := 2) (oi := { dst := some 72, op := Op.fieldAddr 82 (Operand.tmp 71) 1, type := 0, pos := "queue.go:134", after := #[{ on := 1, ground := Ground.data }], guard := none }) (v := ?_) rfl (by kernel_rfl) (by kernel_rfl) (by kernel_rfl) (fun _ _ _ h => h) (Or.inl ⟨by rfl, ?hy3⟩) hS0 ?_
      case hy3 => (intro w hSw; (try dsimp only at hSw); go_simp; try with_reducible rfl)
      try simp only [Act.put, List.setIfInBounds_toArray, List.set_cons_zero, List.set_cons_succ]
      refine wpAnyH_take (i := 3) (oi := { dst := some 73, op := Op.load 80 (Operand.tmp 72), type := 80, pos := "queue.go:134", after := #[{ on := 2, ground := Ground.data }], guard := none }) (v := ?_) rfl (by kernel_rfl) (by kernel_rfl) (by kernel_rfl) (fun _ _ _ h => h) (Or.inl ⟨by rfl, ?hy4⟩) hS0 ?_
      case hy4 => (intro w hSw; (try dsimp only at hSw); go_simp; try with_reducible rfl)
      try simp only [Act.put, List.setIfInBounds_toArray, List.set_cons_zero, List.set_cons_succ]
      refine wpAnyH_take (i := 4) (oi := { dst := some 74, op := Op.move (Operand.tmp 1), type := 3, pos := "queue.go:134", after := #[], guard := none }) (v := ?_) rfl (by kernel_rfl) (by kernel_rfl) (by kernel_rfl) (fun _ _ _ h => h) (Or.inl ⟨by rfl, ?hy5⟩) hS0 ?_
      case hy5 => (intro w hSw; (try dsimp only at hSw); go_simp; try with_reducible rfl)
      try simp only [Act.put, List.setIfInBounds_toArray, List.set_cons_zero, List.set_cons_succ]
      refine wpAnyH_take (i := 5) (oi := { dst := some 75, op := Op.load 94 (Operand.tmp 9), type := 94, pos := "queue.go:134", after := #[], guard := none }) (v := ?_) rfl (by kernel_rfl) (by kernel_rfl) (by kernel_rfl) (fun _ _ _ h => h) (Or.inl ⟨by rfl, ?hy6⟩) hS0 ?_
      case hy6 => (intro w hSw; (try dsimp only at hSw); go_simp; try with_reducible rfl)
      try simp only [Act.put, List.setIfInBounds_toArray, List.set_cons_zero, List.set_cons_succ]
      refine wpAnyH_ready (rs := [6]) (by kernel_rfl) (by simp) ?_
      refine AllReadyH.cons (o := { dst := none, op := Op.mapUpdate 80 (Operand.tmp 73) (Operand.tmp 74) (Operand.tmp 75), type := 0, pos := "queue.go:134", after := #[{ on := 3, ground := Ground.data }, { on := 4, ground := Ground.data }, { on := 5, ground := Ground.data }, { on := 0, ground := Ground.phase }, { on := 1, ground := Ground.phase }, { on := 2, ground := Ground.phase }, { on := 3, ground := Ground.phase }, { on := 4, ground := Ground.phase }, { on := 5, ground := Ground.phase }], guard := none }) rfl (fun K hK => ?_) ?_
      · (have hr := HR.out); go_simp
        refine hK.out _ _ ?hs7 (fun hS7 => ?_)
        case hs7 => ((try dsimp only); first | with_reducible exact ⟨p7, q0, q1⟩ | with_reducible exact P9 | exact ⟨p7, q0, q1⟩ | exact P9)
        clear hK K hS0
        refine wpAnyH_done (by kernel_rfl) ?_ _
        go_upto_region 18 with fail
        refine wp_region_lit ?_
        refine wpList_load_mid rfl 53 _ rfl b3 0 rfl [.int .i64 0, .int .i64 0, .slice aa nn ac] _ R39.out Try.underlying53 rfl size53 ?_
        try simp only [Act.put, List.setIfInBounds_toArray, List.set_cons_zero, List.set_cons_succ]
        refine wpList_store_mid rfl 53 _ _ rfl b1 0 ([.int .i64 0, .int .i64 0, .slice aa nn ac] : List Value).toArray rfl rfl TH.out size53 (by simp [Value.oneCell']) ?_
        try simp only [Act.put, List.setIfInBounds_toArray, List.set_cons_zero, List.set_cons_succ]
        go_wp2_with fail
        exact bodyPost_ret (v := .agg #[.int .i64 0, .int .i64 0, .slice aa nn ac]) (res_cell (a := 8) rfl rfl (run_loadVar_mid _ b1 0 53 [.int .i64 0, .int .i64 0, .slice aa nn ac] _ (World.rangeAt_setCells_same _ b1 0 [.int .i64 0, .int .i64 0, .slice aa nn ac] TH.out) Try.underlying53 rfl size53)) rfl ⟨_, rfl, FIN.out⟩
        
      exact AllReadyH.nil
end
end Go.Proofs.Ytepmealhnnoahaa
