/-
  A query is ended: what waits of it is let go.
-/
import Derived.Test.YtepmealhnnoahaaQs
namespace Go.Proofs.Ytepmealhnnoahaa
open Go.ChangeShapes Go.WideShapes Go.ChangeAt Go.RowKit
set_option linter.unusedVariables false set_option linter.unusedSimpArgs false
def frefs : List Fnd → List (Int × Int)
  | [] => []
  | f :: l => f.refs ++ frefs l
theorem frefs_app : ∀ (l m : List Fnd), frefs (l ++ m) = frefs l ++ frefs m
  | [], m => rfl
  | f :: l, m => by simp only [List.cons_append, frefs]; rw [frefs_app l m, List.append_assoc]
theorem frefs_step {F : List Fnd} {j : Nat} {f : Fnd} (h : F[j]? = some f) : frefs (F.take (j + 1)) = frefs (F.take j) ++ f.refs := by
  rw [List.take_add_one, h, frefs_app]
  simp [frefs]
theorem frefs_take (F : List Fnd) (j : Nat) : (frefs (F.take j)).length ≤ (frefs F).length := by
  have : F = F.take j ++ F.drop j := (List.take_append_drop j F).symm
  conv => rhs; rw [this, frefs_app]
  simp
/-- A query less. -/
theorem HoldAt.gone {M : Nat → Prop} {w : World} {base : Nat} {Q : Int → Option Wt} {F : Int → List Fnd} (h : HoldAt w base M Q F) (i : Int) : HoldAt w base M (updI Q i none) (updI F i []) := by
  have K : ∀ (j : Int) (r : Wt), updI Q i none j = some r → j ≠ i ∧ Q j = some r := fun j r hr => by
    unfold updI at hr
    split at hr
    · cases hr
    · rename_i e; exact ⟨e, hr⟩
  refine ⟨fun j r hr => ?_, fun j l r s k hne hr hs hk => ?_, h.mlt, fun j r k hr hk => ?_, fun j hj => ?_⟩
  · obtain ⟨e, hr'⟩ := K j r hr
    rw [updI_off _ _ e]
    exact h.row j r hr'
  · exact h.apart j l r s k hne (K j r hr).2 (K l s hs).2 hk
  · exact h.mno j r k (K j r hr).2 hk
  · unfold updI at hj ⊢
    split at hj
    · rename_i e; rw [if_pos e]
    · rename_i e; rw [if_neg e]; exact h.gap j hj
theorem build53z (w : World) : (Instr.build 53 #[]).run Try.prog w = .ok (.agg #[.int .i64 0, .int .i64 0, .slice none 0 0]) w := run_build w 53 _ _ (by kernel_rfl)
section
variable {w : World} {d mb : Nat} {qu ou : Int} {cnt m : Nat} {Q : Int → Option Wt}
theorem DeskAt.take (h : DeskAt w d mb qu ou cnt m Q) {i : Int} (hi : (Lit.int .i64 i).wf = true) (ty : TypeId) :
    ∃ w', (Builtin.delete_ #[80, 3] ty #[.map (some mb), .int .i64 i]).run Try.prog w = .ok (.tuple #[]) w' ∧ DeskAt w' d mb qu ou cnt (if (Q i).isSome then m - 1 else m) (updI Q i none) ∧ Turn (fun k => k = mb) w w' := by
  obtain ⟨w', hr, hm, hg⟩ := h.mp.take (t := 80) (e := 94) Try.underlying3 Try.underlying80 hi ty
  have T : Turn (fun k => k = mb) w w' := (Turn.refl _ w).grown hg (fun k hk => .inl (by cases hk; rfl))
  have nd := h.ne h.bl
  exact ⟨w', hr, ⟨h.bl.turn T nd, T.cell nd h.c3, T.cell nd h.c5, T.cell nd h.c7, hm⟩, T⟩
def URel (W3 : World) (base gb n : Nat) (l : List (Int × Int)) (Fi : List Fnd) (gh : Nat) (v31 : Value) (wr : World) : Prop :=
  ∃ j : Nat, v31 = .int .i64 (j : Int) ∧ j ≤ n ∧ gh = n - j ∧ GoneAt wr base gb (l ++ frefs (Fi.take j)) ∧ Turn (fun k => k = gb ∨ GB W3 gb k) W3 wr ∧ (∀ k, GB wr gb k → GB W3 gb k ∨ W3.heap.size ≤ k)
set_option maxRecDepth 100000 in
set_option maxHeartbeats 4000000 in
theorem DeskAt.unregister_yes (h : DeskAt w d mb qu ou cnt m Q) {i : Int} (hi : (Lit.int .i64 i).wf = true) {bk : Option Nat} {n cap : Nat} {lo : Bool} (hq : Q i = some ⟨bk, n, cap, lo⟩) {base gbase gb : Nat} {M : Nat → Prop} {F : Int → List Fnd} (hh : HoldAt w base M Q F)
    {l : List (Int × Int)} (hg : GoneAt w gbase gb l) (hM : ∀ k, M k → k ≠ mb ∧ k ≠ gb ∧ ¬ GB w gb k) (hR : ∀ k, bk = some k → ¬ GB w gb k) (hn : l.length + (frefs (F i)).length ≤ 1000000) (hN : n ≤ 1000000) :
    Calls Try.prog 30 #[.pointer (some ⟨d, 0, none⟩), .int .i64 i, .func (.func 28) #[] #[.pointer (some ⟨gb, 0, none⟩)]] w fun e w' => e = .returned (.agg (ansL 0 0).toArray) ∧
      DeskAt w' d mb qu ou cnt (m - 1) (updI Q i none) ∧ GoneAt w' gbase gb (l ++ frefs (F i)) ∧ Turn (fun k => k = mb ∨ k = gb ∨ GB w gb k) w w' ∧ (∀ k, GB w' gb k → GB w gb k ∨ w.heap.size ≤ k) := by
  obtain ⟨cs, hcs⟩ : ∃ cs, ansL 0 0 = cs := ⟨_, rfl⟩
  have HCS := Lib.hid hcs
  rw [hcs]
  clear hcs
  obtain ⟨ad, had⟩ : ∃ ad : Option Addr, bk.map (fun b => (⟨b, 0, none⟩ : Addr)) = ad := ⟨_, rfl⟩
  obtain ⟨W, hW⟩ : ∃ W, W = w.alloc (.cells #[.int .i64 0, .int .i64 0, .slice none 0 0] 53) := ⟨_, rfl⟩
  have T : Turn (fun _ => False) w W := by rw [hW]; exact (Turn.refl _ w).alloc _
  have Bk : Blk W w.heap.size 53 := by rw [hW]; exact Blk.new w [.int .i64 0, .int .i64 0, .slice none 0 0] 53
  have C : W.rangeAt w.heap.size 0 [.int .i64 0, .int .i64 0, .slice none 0 0] := by rw [hW]; exact range_new w [.int .i64 0, .int .i64 0, .slice none 0 0] 53
  have hd1 := h.keep T
  have c7 := hd1.c7
  have LK := hd1.mp.look (t := 80) (e := 94) Try.underlying3 Try.underlying80 (zero94 W) hi
  rw [hq] at LK
  unfold Wt.val Wt.sl at LK
  dsimp only [Option.getD_some, Option.isSome_some] at LK
  rw [had] at LK
  have HC := Lib.hid (show cs.length = 3 ∧ cs.toArray.all (·.oneCell') = true by rw [← HCS.out]; exact ansL_is 0 0)
  have BU := Lib.hid (show ∀ w, (Instr.build 53 #[]).run Try.prog w = .ok (.agg cs.toArray) w from fun w => by rw [← HCS.out]; exact build53z w)
  have TX : Turn (fun _ => False) W (W.alloc (.cells #[.slice ad n cap, .bool lo] 94)) := (Turn.refl _ W).alloc _
  have BX : Blk (W.alloc (.cells #[.slice ad n cap, .bool lo] 94)) W.heap.size 94 := Blk.new W [.slice ad n cap, .bool lo] 94
  have RX : (W.alloc (.cells #[.slice ad n cap, .bool lo] 94)).rangeAt W.heap.size 0 [.slice ad n cap, .bool lo] := range_new W [.slice ad n cap, .bool lo] 94
  have hsz : w.heap.size < W.heap.size := by rw [hW, World.size_alloc]; omega
  go_enter Try.func30, Try.ntmps30
  go_upto_region 1 with fail
  rw [← hW]
  clear hW
  go_upto_region 4 with fail
  generalize (W.alloc (.cells #[.slice ad n cap, .bool lo] 94)) = W2 at *
  have T2 := T.trans TX
  have hd2 := h.keep T2
  have c7 := hd2.c7
  obtain ⟨W3, RUN, hd3, T3⟩ := hd2.take hi 0
  have nb2 := hd2.ne BX
  have nb1 := hd2.ne (Bk.turn TX id)
  have z0 := T3.cell nb2 (RX 0 _ rfl)
  have hlt3 := Nat.lt_of_lt_of_le BX.lt T3.size
  have hlt2 : W.heap.size ≤ W2.heap.size := TX.size
  have gbl : gb < w.heap.size := by obtain ⟨_, _, hb, _⟩ := hg; exact hb.lt
  have gkl : ∀ k, GB w gb k → k < w.heap.size := fun k g => (hg.blk g).1.lt
  have T23 := (T2.more (S' := fun k => k = mb) (fun _ _ q => q.elim)).trans T3
  have ngm : gb ≠ mb := by obtain ⟨_, _, hb, _⟩ := hg; exact h.ne hb
  have ngk : ∀ k, GB w gb k → k ≠ mb := fun k g => h.ne (hg.blk g).1
  have hg3 : GoneAt W3 gbase gb l := hg.turn T23 ngm ngk
  have gbe : ∀ k, GB W3 gb k → GB w gb k := fun k g => g.turn hg T23 ngm
  obtain ⟨e1, hrow⟩ := hh.row i _ hq
  have hrow3 := hrow.turn T23 (fun k q => (hM k q).1) (fun k hk => h.ne (hh.blk hq hk))
  dsimp only at e1
  have C3 := range_turn (range_turn C TX id) T3 nb1
  have B3 := (Bk.turn TX id).turn T3 nb1
  have R0 : URel W3 gbase gb n l (F i) n (.int .i64 0) W3 := ⟨0, rfl, Nat.zero_le _, rfl, by simpa [frefs] using hg3, Turn.refl _ _, fun k q => .inl q⟩
  have HD := Lib.hid (show DeskAt W3 d mb qu ou cnt (m - 1) (updI Q i none) by rw [hq] at hd3; exact hd3)
  have K := Lib.hid (show (l.length + (frefs (F i)).length ≤ 1000000 ∧ n = (F i).length ∧ n ≤ 1000000) ∧ FRow W3 base M (Wt.sl ⟨bk, n, cap, lo⟩) (F i) ∧ Option.map (fun b => (⟨b, 0, none⟩ : Addr)) bk = ad ∧ (∀ k, bk = some k → k ≠ gb ∧ ¬ GB w gb k) ∧ (∀ k, M k → k ≠ gb ∧ ¬ GB w gb k) ∧ (∀ k, GB W3 gb k → GB w gb k) from
    ⟨⟨hn, e1, hN⟩, hrow3, had, fun k hk => ⟨fun e => by
      have b71 := hh.blk hq (show (Wt.sl ⟨bk, n, cap, lo⟩).ownBlock = some k by rw [hk]; rfl)
      obtain ⟨_, _, hb, _⟩ := hg
      exact b71.ne hb (by decide) e, hR k hk⟩, fun k q => (hM k q).2, gbe⟩)
  have KF := Lib.hid (And.intro h (And.intro T23 (And.intro C3 (And.intro B3 (And.intro gbl (And.intro gkl hsz))))))
  have KD := Lib.hid (show ∀ k, k = gb ∨ GB w gb k → k ≠ d ∧ k ≠ mb from fun k q => ⟨fun e => by
    rcases q with q | q
    · obtain ⟨_, _, hb, _⟩ := hg
      exact hb.ne h.bl (by decide) (q.symm.trans e)
    · exact (hg.blk q).1.ne h.bl (by decide) e, fun e => q.elim (fun q => ngm (q.symm.trans e)) (fun q => ngk k q e)⟩)
  clear h hd1 hd2 hd3 T2 T3 T TX BX RX nb1 nb2 C Bk hg hg3 gbe hh hq hM hR hn hrow hrow3 e1 had T23 C3 B3 ngm ngk gbl gkl LK hsz hlt2 hN
  generalize hb2 : W.heap.size = b2 at *
  generalize hb1 : w.heap.size = b1 at *
  clear hb2
  go_upto_region 5 with fail
  clear RUN c7
  go_wp2_with fail
  go_loopg [31] n (fun gh v31 wr => URel W3 gbase gb n l (F i) gh v31 wr)
  case atStart => exact R0
  case round =>
    clear R0
    obtain ⟨j, rfl, hj, hgh, hgo, hT, hB⟩ := hrel
    by_cases hjn : j < n
    · have u1 : decide ((j : Int) < (n : Int)) = true := decide_eq_true (by omega)
      have u2 : decide (j < n) = true := decide_eq_true hjn
      obtain ⟨⟨hn, e1, hN⟩, hrow3, had, hR, hM, gbe⟩ := K.out
      obtain ⟨f, hf⟩ : ∃ f, (F i)[j]? = some f := ⟨_, List.getElem?_eq_getElem (by omega)⟩
      have hroww := hrow3.turn hT (fun k q => fun e => e.elim (hM k q).1 (fun g => (hM k q).2 (gbe k g))) (fun k hk e => by
        have hk' : bk = some k := by
          unfold Wt.sl at hk
          cases bk with
          | none => simp [Value.ownBlock] at hk
          | some b => simpa [Value.ownBlock] using hk
        exact e.elim (hR k hk').1 (fun g => (hR k hk').2 (gbe k g)))
      obtain ⟨g, hbk⟩ : ∃ g, bk = some g := by
        obtain ⟨ps, _, ho, _⟩ := hrow3.ex
        obtain ⟨a, c, e, hs⟩ := own_slice ho
        obtain ⟨g, hs⟩ := hs (by omega)
        unfold Wt.sl at e
        cases bk with
        | none => simp at e; rw [hs] at e; simp at e
        | some b => exact ⟨b, rfl⟩
      subst hbk
      have had' : ad = some ⟨g, 0, none⟩ := by rw [← had]; rfl
      subst had'
      unfold Wt.sl at hroww
      dsimp only [Option.map_some] at hroww
      obtain ⟨vs, vr, hra, hfa⟩ := hroww.at hf
      have y0 : wr.cell? ⟨g, j * 2, none⟩ = some vs := hra 0 _ rfl
      have y1 : wr.cell? ⟨g, j * 2 + 1, none⟩ = some vr := hra 1 _ rfl
      obtain ⟨sb, sc, rfl⟩ := hfa.sets.sl
      obtain ⟨rb, rc, rfl⟩ := hfa.refs.sl
      have LG := Lib.hid (show ∀ w4, Turn (fun _ => False) wr w4 → Calls Try.prog 28 #[.slice (some ⟨rb, 0, none⟩) f.refs.length rc, .pointer (some ⟨gb, 0, none⟩)] w4 fun e w' => e = .returned (.tuple #[]) ∧ GoneAt w' gbase gb (l ++ frefs ((F i).take (j + 1))) ∧ Turn (fun k => k = gb ∨ GB W3 gb k) W3 w' ∧ (∀ k, GB w' gb k → GB W3 gb k ∨ W3.heap.size ≤ k) from fun w4 t => by
        have hgo4 := hgo.turn t id (fun _ _ q => q)
        refine (let_go hgo4 (hfa.refs.turn t (fun _ _ q => q)) ?_).mono ?_
        · have := frefs_take (F i) (j + 1)
          rw [frefs_step hf] at this
          simp only [List.length_append] at this ⊢
          omega
        · rintro e w' ⟨rfl, h1, h2, h3⟩
          rw [List.append_assoc, ← frefs_step hf] at h1
          have hgb4 : ∀ k, GB w4 gb k → GB W3 gb k ∨ W3.heap.size ≤ k := fun k q => hB k (q.turn hgo t id)
          refine ⟨rfl, h1, (hT.trans (t.more (fun _ _ q => q.elim))).comp h2 (fun k hk q => q.imp id (fun q => (hgb4 k q).elim id (fun q => by omega))), fun k q => (h3 k q).elim (hgb4 k) (fun q => .inr ?_)⟩
          have := hT.size
          have := t.size
          omega)
      have G := Lib.hid (And.intro hjn hgh)
      have j0 : (0 : Int) ≤ (j : Int) := by omega
      have j1 : (j : Int) < (n : Int) := by omega
      clear hj hgh hgo hT hB hn e1 hrow3 had hR hM gbe hf hroww hra hfa K
      go_wp2_with fail
      have TA : Turn (fun _ => False) wr (wr.alloc (.cells #[.slice (some ⟨sb, 0, none⟩) f.sets.length sc, .slice (some ⟨rb, 0, none⟩) f.refs.length rc] 71)) := (Turn.refl _ wr).alloc _
      with_reducible refine (LG.out _ TA).mono ?_
      clear LG y0 y1 TA
      rintro en W4 ⟨rfl, q1, q2, q3⟩
      go_wp2_with fail
      go_roundg (n - (j + 1))
      case measure => have := G.out.1; have := G.out.2; omega
      case rel => exact ⟨j + 1, congrArg (Value.int .i64) (by omega), by have := G.out.1; omega, rfl, q1, q2, q3⟩
    · obtain rfl : j = n := by omega
      have u1 : decide ((j : Int) < (j : Int)) = false := decide_eq_false (by omega)
      have u2 : decide (j < j) = false := decide_eq_false (by omega)
      obtain ⟨⟨hn, e1, hN⟩, hrow3, had, hR, hM, gbe⟩ := K.out
      obtain ⟨h, T23, C3, B3, gbl, gkl, hsz⟩ := KF.out
      have sz := T23.size
      have nS : ¬ (b1 = gb ∨ GB W3 gb b1) := fun q => q.elim (fun e => by omega) (fun g => by have := gkl _ (gbe _ g); omega)
      have nD : ∀ k, (k = gb ∨ GB W3 gb k) → k < w.heap.size := fun k q => q.elim (fun e => by omega) (fun g => by have := gkl _ (gbe _ g); omega)
      have Br : Blk wr b1 53 := B3.turn hT nS
      have TH := Lib.hid (show wr.there b1 0 3 from range_there (range_turn C3 hT nS) rfl Br)
      have hdr : DeskAt wr d mb qu ou cnt (m - 1) (updI Q i none) := HD.out.turn hT (fun q => (KD.out d (q.imp id (gbe d))).1 rfl) (fun q => (KD.out mb (q.imp id (gbe mb))).2 rfl)
      have TT : Turn (fun k => k = mb ∨ k = gb ∨ GB w gb k) w wr := (T23.more (fun _ _ q => .inl q)).trans (hT.more (fun k _ q => .inr (q.imp id (gbe k))))
      have FIN := Lib.hid (show DeskAt (wr.setCells b1 0 cs) d mb qu ou cnt (m - 1) (updI Q i none) ∧ GoneAt (wr.setCells b1 0 cs) gbase gb (l ++ frefs (F i)) ∧ Turn (fun k => k = mb ∨ k = gb ∨ GB w gb k) w (wr.setCells b1 0 cs) ∧ (∀ k, GB (wr.setCells b1 0 cs) gb k → GB w gb k ∨ w.heap.size ≤ k) from by
        have TS : Turn (fun k => k = b1) wr (wr.setCells b1 0 cs) := Turn.setCells cs 0 (Turn.refl _ _) (.inl rfl)
        have e2 : (F i).take j = F i := by rw [e1]; exact List.take_length
        rw [e2] at hgo
        have x1 : gb ≠ b1 := fun e => nS (.inl e.symm)
        have hgw : ∀ k, GB wr gb k → GB w gb k ∨ w.heap.size ≤ k := fun k q => (hB k q).imp (gbe k) (fun q => by omega)
        refine ⟨hdr.turn TS (fun e => ?_) (fun e => ?_), hgo.turn TS x1 (fun k g e => ?_), TT.comp TS (fun k hk e => by omega), fun k q => hgw k (q.turn hgo TS x1)⟩
        · have := h.bl.lt; omega
        · have := h.mp.lt; omega
        · exact (hgo.blk g).1.ne Br (by decide) e)
      clear hj hgh hgo hT hB hn e1 hN hrow3 had hR hM gbe h T23 C3 B3 gbl gkl hsz sz nS Br hdr TT K KF KD HD
      go_upto_region 10 with fail
      refine wp_region_lit ?_
      refine rl_build rfl 53 _ rfl (vs := #[]) (v := .agg cs.toArray) (by simp) (BU.out _) ?_
      try simp only [Act.put, List.setIfInBounds_toArray, List.set_cons_zero, List.set_cons_succ]
      refine wpList_store_mid rfl 53 _ _ rfl b1 0 cs.toArray rfl rfl (by rw [List.size_toArray, HC.out.1]; exact TH.out) (by rw [List.size_toArray, HC.out.1]; exact size53) HC.out.2 ?_
      try simp only [Act.put, List.setIfInBounds_toArray, List.set_cons_zero, List.set_cons_succ]
      go_wp2_with fail
      exact bodyPost_ret (v := .agg cs.toArray) (res_cell (a := 6) rfl rfl (run_loadVar_mid _ b1 0 53 cs _ (World.rangeAt_setCells_same _ b1 0 cs (by rw [HC.out.1]; exact TH.out)) Try.underlying53 rfl (by rw [HC.out.1]; exact size53))) rfl ⟨rfl, FIN.out⟩
end
end Go.Proofs.Ytepmealhnnoahaa
