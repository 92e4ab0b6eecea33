/-
  The document's own desk does a command, whatever it is.
  Both desks side by side: what holds between two commands.
  A desk goes on as the document says: the walk.
-/
import Derived.Test.YtepmealhnnoahaaVb
import Derived.Test.YtepmealhnnoahaaSf
namespace Go.Proofs.Ytepmealhnnoahaa
set_option linter.unusedSimpArgs false
open Go.ChangeShapes Go.WideShapes Go.ChangeAt Go.RowKit
set_option linter.unusedVariables false
section
variable {w w' W V W5 : World} {r base cb rb tb : Nat} {qu ou : Int} {N N' E : Nat → Prop} {ids ids' : List Int} {S S' : DS} {cs : List Value} {e : Ending} {R : Res}
theorem ErrPost.post {er : Int} (p : ErrPost er w e w') (h : DocAt w r base qu ou N N ids S) (m : Nat) : DoPost w r base qu ou N ids ⟨S, m, er, 0, [], []⟩ e w' := by
  obtain ⟨rfl, T⟩ := p
  exact ⟨none, none, 0, 0, rfl, (h.other (fun k n => .inl n) (fun k e => e)).turn T id (fun _ _ f => f) (fun _ _ f => f.elim) (fun _ f => f.elim), MRow.nil _ _ _, ⟨rfl, .inl ⟨rfl, rfl⟩⟩, T.more (fun _ _ f => f.elim)⟩
theorem DocAt.polls (h : DocAt w r base qu ou N N ids S) (hids : ids.length ≤ 1000) (hN : ∀ q, N q → q < w.heap.size) (i n s g : Int) (hb : ∀ l lo, S i = some (l, lo) → l.length ≤ 100000 ∧ (frefs l).length ≤ 100000) (m : Nat) :
    Calls Try.prog 35 #[.pointer (some ⟨r, 0, none⟩), .agg (cmdL 4 i n s g).toArray] w (DoPost w r base qu ou N ids (polR S m i n)) := by
  unfold polR
  by_cases hn : n < 1
  · rw [if_pos hn]
    exact (dpoll_few w r i n s g hn).mono (fun e w' p => p.post h m)
  · rw [if_neg hn]
    cases hs : S i with
    | none => exact (h.poll_none hids i n s g hn hs).mono (fun e w' p => p.post h m)
    | some p =>
      obtain ⟨l, lo⟩ := p
      dsimp only
      by_cases he : l = [] ∧ lo = true
      · rw [if_pos he]
        obtain ⟨rfl, rfl⟩ := he
        exact (h.poll_lost hids i n s g hn hs).mono (fun e w' p => p.post h m)
      · rw [if_neg he]
        refine h.poll_some hids hN i n s g hn hs ?_ (hb l lo hs) (c := min n.toNat l.length) (by omega) m
        by_cases hl : l.length = 0
        · right
          have : l = [] := List.eq_nil_of_length_eq_zero hl
          cases lo with
          | false => rfl
          | true => exact absurd ⟨this, rfl⟩ he
        · exact .inl hl
theorem MRow.low {w : World} {b b' : Nat} {N : Nat → Prop} {v : Value} {L : List (List (List Int))} (h : MRow w b N v L) (hb : b' ≤ b) : MRow w b' N v L := by
  obtain ⟨ps, h1, h2, h3⟩ := h.ex
  exact ⟨ps, h1, own_low h2 hb, h3⟩
/-- The answer of a call that is handed on. -/
theorem D0.conv (Z : D0 w cb rb tb cs W) (h : DocAt w r base qu ou N N ids S) (D : DoPost W r base qu ou (fun q => N q ∨ (w.heap.size ≤ q ∧ q < W.heap.size)) ids' R e w') :
    ∃ (aa ga : Option Addr) (ac gc : Nat), e = .returned (.agg #[.int .i64 R.err, .int .i64 R.num, .slice aa R.ms.length ac, .slice ga R.gone.length gc]) ∧ w'.there rb 0 4 ∧
      DoPost w r base qu ou N ids' R (.returned (.agg #[.int .i64 R.err, .int .i64 R.num, .slice aa R.ms.length ac, .slice ga R.gone.length gc])) (w'.setCells rb 0 [.int .i64 R.err, .int .i64 R.num, .slice aa R.ms.length ac, .slice ga R.gone.length gc]) := by
  obtain ⟨aa, ga, ac, gc, rfl, hd, hm, hg, T⟩ := D
  have bW := h.bl.turn Z.turn id
  have zt : ∀ {b : Nat} {t : TypeId}, Blk W b t → (t ≠ 33 ∧ t ≠ 91 ∧ t ≠ 71) → ¬ ZD r base (fun q => N q ∨ (w.heap.size ≤ q ∧ q < W.heap.size)) W b := fun hb ht => zd_ty hb bW ht
  have brb := Z.brb.turn T (zt Z.brb (by decide))
  have T2 : Turn (fun q => q = rb) w' (w'.setCells rb 0 [.int .i64 R.err, .int .i64 R.num, .slice aa R.ms.length ac, .slice ga R.gone.length gc]) := Turn.setCells _ _ (Turn.refl _ _) (.inl rfl)
  have zr : ∀ {b : Nat} {t : TypeId}, Blk w' b t → t ≠ 58 → ¬ b = rb := fun hb ht e => hb.ne brb ht e
  have sz := Z.turn.size
  have TZ : Turn (ZD r base N W) W w' := T.more (fun q _ z => z.imp id (fun z => z.imp id (fun z => ⟨z.1, z.2.1, fun n => z.2.2 (.inl n)⟩)))
  have hd2 : DocAt w' r base qu ou N (fun q => N q ∨ w.heap.size ≤ q) ids' R.S := (hd.other (fun k n => .inl (.inl n)) (fun k e => by
    rcases e with e | e
    · exact .inl (.inl (.inl e))
    · by_cases hk : k < W.heap.size
      · exact .inl (.inl (.inr ⟨e, hk⟩))
      · exact .inl (.inr (by omega))))
  have hm2 : MRow w' w.heap.size (fun q => N q ∨ w.heap.size ≤ q) (.slice aa R.ms.length ac) R.ms := (hm.weak (fun k e => by
    rcases e with e | e
    · exact .inl (.inl e)
    · by_cases hk : k < W.heap.size
      · exact .inl (.inr ⟨e, hk⟩)
      · exact .inr (by omega))).low sz
  exact ⟨aa, ga, ac, gc, rfl, range_there (range_turn Z.rr T (zt Z.brb (by decide))) rfl brb, aa, ga, ac, gc, rfl, hd2.turn T2 (zr hd2.bl (by decide)) (fun k hk => zr hk (by decide)) (fun k hk z => absurd z (zr hk (by decide))) (fun k z t => absurd z (t.ne brb (by decide))),
    hm2.turn T2 (fun k _ z => .inr (by rw [z]; exact Z.new.2.1)) (fun q hq => zr (hm2.blk hq).1 (by decide)), own_turn (own_low hg sz) T2 (fun q hq => zr (own_blkD hg hq).1 (by decide)),
    ((Z.turn.more (fun _ _ f => f.elim)).comp TZ (fun q hq z => ZD_back (Z.turn.more (fun _ _ f => f.elim)) hq z)).comp T2 (fun q hq e => by have := Z.new.2.1; omega)⟩

set_option maxRecDepth 100000 in
set_option maxHeartbeats 4000000 in
theorem DocAt.do_pol (h : DocAt w r base qu ou N N ids S) (hids : ids.length ≤ 1000) (hN : ∀ q, N q → q < w.heap.size) {stamp i n s g : Int} (hb : ∀ l lo, S i = some (l, lo) → l.length ≤ 100000 ∧ (frefs l).length ≤ 100000) (v : Value) (m : Nat) :
    Calls Try.prog 14 #[.pointer (some ⟨r, 0, none⟩), .int .i64 stamp, .agg (cmdL 4 i n s g).toArray, v] w (DoPost w r base qu ou N ids (polR S m i n)) := by
  obtain ⟨R, hR⟩ : ∃ R, (polR S m i n) = R := ⟨_, rfl⟩
  obtain ⟨W1, hW1⟩ : ∃ W1, W1 = (w.alloc (.cells (cmdL 4 i n s g).toArray 43)).alloc (.cells #[.int .i64 0, .int .i64 0, .slice none 0 0, .slice none 0 0] 58) := ⟨_, rfl⟩
  obtain ⟨W2, hW2⟩ : ∃ W2, W2 = W1.alloc (.cells #[.int .i64 0, .int .i64 0, .slice none 0 0, .slice none 0 0] 58) := ⟨_, rfl⟩
  obtain ⟨Z, T1, R1⟩ := do_open w (cmdL 4 i n s g) W1 W2 hW1 hW2
  have c1 : W1.cell? ⟨w.heap.size, 1, none⟩ = some (.int .i64 i) := R1 1 _ rfl
  have c0 : W2.cell? ⟨w.heap.size, 0, none⟩ = some (.int .i64 4) := Z.cmd 0 _ rfl
  have FD := Lib.hid ((h.turn T1 id (fun _ _ f => f) (fun _ _ f => f.elim) (fun _ f => f.elim)).find hids i)
  have h2 := (h.other (N' := fun q => N q ∨ (w.heap.size ≤ q ∧ q < W2.heap.size)) (E' := fun q => N q ∨ (w.heap.size ≤ q ∧ q < W2.heap.size)) (fun k n => n.imp id And.left) (fun k n => n.imp id And.left)).turn Z.turn id (fun _ _ f => f) (fun _ _ f => f.elim) (fun _ f => f.elim)
  have hN2 : ∀ q, (N q ∨ (w.heap.size ≤ q ∧ q < W2.heap.size)) → q < W2.heap.size := fun q z => z.elim (fun n => Nat.lt_of_lt_of_le (hN q n) Z.turn.size) And.right
  have PC := h2.polls hids hN2 i n s g hb m
  have CONV := Lib.hid (fun e w' (D : DoPost W2 r base qu ou (fun q => N q ∨ (w.heap.size ≤ q ∧ q < W2.heap.size)) ids R e w') => Z.conv h D)
  have RC := Z.cmd
  rw [hR] at PC ⊢
  have HW1 := Lib.hid hW1
  have HW2 := Lib.hid hW2
  clear hW1 hW2
  clear Z T1 R1 h hids hN h2 hN2 hR
  unfold cmdL at HW1 RC PC ⊢
  have RCH := Lib.hid RC
  have PCH := Lib.hid PC
  clear RC PC
  go_enter Try.func14, Try.ntmps14
  go_upto_region 1 with fail
  rw [← HW1.out]
  clear HW1
  generalize w.heap.size + 1 = rb at *
  go_wp2_with fail
  with_reducible refine FD.out.mono ?_
  rintro en W5 ⟨rfl, rfl⟩
  go_upto_region 3 with fail
  rw [← HW2.out]
  clear HW2 FD c1
  go_wp2_with (((with_reducible show wpList _ _ _ ({ dst := some 116, op := Op.load 43 _, type := _, pos := _, after := _, guard := _ } :: _) _ _); refine wpList_load_mid rfl 43 _ rfl w.heap.size 0 rfl _ _ RCH.out Try.underlying43 rfl size43 ?_))
  with_reducible refine PCH.out.mono ?_
  rintro en w5 D
  obtain ⟨aa, ga, ac, gc, rfl, th, FIN⟩ := CONV.out _ _ D
  have TH := Lib.hid th
  have FIN := Lib.hid FIN
  clear D th c0 PCH RCH CONV
  generalize R.ms.length = nm at *
  generalize R.gone.length = ng at *
  generalize hE1 : R.err = er at *
  generalize hE2 : R.num = nu at *
  go_wp2_with (((with_reducible show wpList _ _ _ ({ dst := none, op := Op.store 58 _ _, type := _, pos := _, after := _, guard := _ } :: _) _ _); refine wpList_store_mid rfl 58 _ _ rfl rb 0 #[.int .i64 er, .int .i64 nu, .slice aa nm ac, .slice ga ng gc] rfl rfl TH.out size58 (by simp [Value.oneCell']) ?_))
  exact bodyPost_ret (v := .agg #[.int .i64 er, .int .i64 nu, .slice aa nm ac, .slice ga ng gc]) (res_cell (a := 8) rfl rfl (run_loadVar_mid _ rb 0 58 _ _ (World.rangeAt_setCells_same _ rb 0 _ TH.out) Try.underlying58 rfl size58)) rfl FIN.out
set_option maxRecDepth 100000 in
set_option maxHeartbeats 4000000 in
theorem DocAt.do_pub (h : DocAt w r base qu ou N N ids S) (hids : ids.length ≤ 1000) (hN : ∀ q, N q → q < w.heap.size) {stamp i n s g : Int} {v : Value} {Os : List OutV} (hO : OutsAt w N v Os) (hH : HitsAt w N Os) (hl : Os.length ≤ 3) (hh : ∀ o ∈ Os, o.hits.length ≤ 6) (hl1 : ∀ o ∈ Os, o.lost.length ≤ 1) (hr2 : ∀ o ∈ Os, ∀ x ∈ o.hits, x.f.refs.length ≤ 2) (hsort : ∀ o ∈ Os, SortH o.hits) (hI : ∀ i l lo, S i = some (l, lo) → l.length ≤ 10000) (hou : 0 ≤ ou ∧ ou ≤ 4096) (m : Nat) :
    Calls Try.prog 14 #[.pointer (some ⟨r, 0, none⟩), .int .i64 stamp, .agg (cmdL 1 0 0 s g).toArray, v] w (DoPost w r base qu ou N ids (⟨pubD ou S Os, m, 0, stamp, [], pubG ou S Os ++ [(s, g)]⟩ : Res)) := by
  obtain ⟨R, hR⟩ : ∃ R, (⟨pubD ou S Os, m, 0, stamp, [], pubG ou S Os ++ [(s, g)]⟩ : Res) = R := ⟨_, rfl⟩
  obtain ⟨W1, hW1⟩ : ∃ W1, W1 = (w.alloc (.cells (cmdL 1 0 0 s g).toArray 43)).alloc (.cells #[.int .i64 0, .int .i64 0, .slice none 0 0, .slice none 0 0] 58) := ⟨_, rfl⟩
  obtain ⟨W2, hW2⟩ : ∃ W2, W2 = W1.alloc (.cells #[.int .i64 0, .int .i64 0, .slice none 0 0, .slice none 0 0] 58) := ⟨_, rfl⟩
  obtain ⟨Z, T1, R1⟩ := do_open w (cmdL 1 0 0 s g) W1 W2 hW1 hW2
  have c1 : W1.cell? ⟨w.heap.size, 1, none⟩ = some (.int .i64 0) := R1 1 _ rfl
  have c0 : W2.cell? ⟨w.heap.size, 0, none⟩ = some (.int .i64 1) := Z.cmd 0 _ rfl
  have FD := Lib.hid ((h.turn T1 id (fun _ _ f => f) (fun _ _ f => f.elim) (fun _ f => f.elim)).find hids 0)
  have h2 := (h.other (N' := fun q => N q ∨ (w.heap.size ≤ q ∧ q < W2.heap.size)) (E' := fun q => N q ∨ (w.heap.size ≤ q ∧ q < W2.heap.size)) (fun k n => n.imp id And.left) (fun k n => n.imp id And.left)).turn Z.turn id (fun _ _ f => f) (fun _ _ f => f.elim) (fun _ f => f.elim)
  have hN2 : ∀ q, (N q ∨ (w.heap.size ≤ q ∧ q < W2.heap.size)) → q < W2.heap.size := fun q z => z.elim (fun n => Nat.lt_of_lt_of_le (hN q n) Z.turn.size) And.right
  have PC : Calls Try.prog 34 #[.pointer (some ⟨r, 0, none⟩), .int .i64 stamp, .agg (cmdL 1 0 0 s g).toArray, v] W2 (DoPost W2 r base qu ou (fun q => N q ∨ (w.heap.size ≤ q ∧ q < W2.heap.size)) ids (⟨pubD ou S Os, m, 0, stamp, [], pubG ou S Os ++ [(s, g)]⟩ : Res)) := by
    refine (h2.publish hids hN2 (hO.next Z.turn (fun _ _ f => f) (fun _ _ f => f) (fun _ _ _ f => f) (fun k n => n.imp id And.left)) (hH.next Z.turn (fun _ _ f => f.elim) (fun k n => n.imp id And.left)) hl hh hl1 hr2 hI hou stamp s g).mono ?_
    rintro e w' ⟨ga, gc, rfl, d1, d2, d3⟩
    rw [(pub_same hsort S ou).1] at d1
    rw [(pub_same hsort S ou).2] at d2 ⊢
    exact ⟨none, ga, 0, gc, rfl, d1, MRow.nil _ _ _, d2, d3⟩
  have CONV := Lib.hid (fun e w' (D : DoPost W2 r base qu ou (fun q => N q ∨ (w.heap.size ≤ q ∧ q < W2.heap.size)) ids R e w') => Z.conv h D)
  have RC := Z.cmd
  rw [hR] at PC ⊢
  have HW1 := Lib.hid hW1
  have HW2 := Lib.hid hW2
  clear hW1 hW2
  clear Z T1 R1 h hids hN h2 hN2 hR
  unfold cmdL at HW1 RC PC ⊢
  have RCH := Lib.hid RC
  have PCH := Lib.hid PC
  clear RC PC
  go_enter Try.func14, Try.ntmps14
  go_upto_region 1 with fail
  rw [← HW1.out]
  clear HW1
  generalize w.heap.size + 1 = rb at *
  go_wp2_with fail
  with_reducible refine FD.out.mono ?_
  rintro en W5 ⟨rfl, rfl⟩
  go_upto_region 3 with fail
  rw [← HW2.out]
  clear HW2 FD c1
  go_wp2_with (((with_reducible show wpList _ _ _ ({ dst := some 110, op := Op.load 43 _, type := _, pos := _, after := _, guard := _ } :: _) _ _); refine wpList_load_mid rfl 43 _ rfl w.heap.size 0 rfl _ _ RCH.out Try.underlying43 rfl size43 ?_))
  with_reducible refine PCH.out.mono ?_
  rintro en w5 D
  obtain ⟨aa, ga, ac, gc, rfl, th, FIN⟩ := CONV.out _ _ D
  have TH := Lib.hid th
  have FIN := Lib.hid FIN
  clear D th c0 PCH RCH CONV
  generalize R.ms.length = nm at *
  generalize R.gone.length = ng at *
  generalize hE1 : R.err = er at *
  generalize hE2 : R.num = nu at *
  go_wp2_with (((with_reducible show wpList _ _ _ ({ dst := none, op := Op.store 58 _ _, type := _, pos := _, after := _, guard := _ } :: _) _ _); refine wpList_store_mid rfl 58 _ _ rfl rb 0 #[.int .i64 er, .int .i64 nu, .slice aa nm ac, .slice ga ng gc] rfl rfl TH.out size58 (by simp [Value.oneCell']) ?_))
  exact bodyPost_ret (v := .agg #[.int .i64 er, .int .i64 nu, .slice aa nm ac, .slice ga ng gc]) (res_cell (a := 8) rfl rfl (run_loadVar_mid _ rb 0 58 _ _ (World.rangeAt_setCells_same _ rb 0 _ TH.out) Try.underlying58 rfl size58)) rfl FIN.out
/-- Do, whatever is asked. -/
theorem DocAt.does (h : DocAt w r base qu ou N N ids S) (hids : ids.length ≤ 1000) (hN : ∀ q, N q → q < w.heap.size) {stamp k i n s g : Int} {v : Value} {Os : List OutV} (hst : S stamp = none) (hb : ∀ i l lo, S i = some (l, lo) → l.length ≤ 10000 ∧ (frefs l).length ≤ 100000) (hou : 0 ≤ ou ∧ ou ≤ 4096)
    (hp : k = 1 → (i = 0 ∧ n = 0) ∧ OutsAt w N v Os ∧ HitsAt w N Os ∧ Os.length ≤ 3 ∧ (∀ o ∈ Os, o.hits.length ≤ 6) ∧ (∀ o ∈ Os, o.lost.length ≤ 1) ∧ (∀ o ∈ Os, ∀ x ∈ o.hits, x.f.refs.length ≤ 2) ∧ ∀ o ∈ Os, SortH o.hits) :
    Calls Try.prog 14 #[.pointer (some ⟨r, 0, none⟩), .int .i64 stamp, .agg (cmdL k i n s g).toArray, v] w (DoPost w r base qu ou N (idsR qu S ids stamp k i) (doR qu ou S ids.length stamp k i n s g Os)) := by
  have hb2 : ∀ l lo, S i = some (l, lo) → l.length ≤ 100000 ∧ (frefs l).length ≤ 100000 := fun l lo e => by have := hb i l lo e; omega
  unfold doR idsR
  by_cases k2 : k = 2
  · subst k2
    rw [if_pos rfl, if_pos rfl]
    unfold regR
    by_cases hq : (ids.length : Int) < qu
    · rw [if_pos hq, if_pos hq, hst]
      exact h.do_reg hids hq hst v _
    · rw [if_neg hq, if_neg hq]
      exact h.do_full hids hN (by omega) v _
  rw [if_neg k2, if_neg k2]
  by_cases k3 : k = 3
  · subst k3
    rw [if_pos rfl, if_pos rfl]
    unfold unrR
    cases hs : S i with
    | none => exact h.do_unr_none hids hN hs v _
    | some p =>
      obtain ⟨l, lo⟩ := p
      exact h.do_unr hids hs (hb2 l lo hs) v _
  rw [if_neg k3, if_neg k3]
  by_cases k1 : k = 1
  · subst k1
    rw [if_pos rfl]
    obtain ⟨⟨rfl, rfl⟩, p1, p2, p3, p4, p5, p6, p7⟩ := hp rfl
    exact h.do_pub hids hN (i := 0) (n := 0) p1 p2 p3 p4 p5 p6 p7 (fun i l lo e => (hb i l lo e).1) hou _
  rw [if_neg k1]
  by_cases k4 : k = 4
  · subst k4
    rw [if_pos rfl]
    exact h.do_pol hids hN hb2 v _
  rw [if_neg k4]
  by_cases k5 : k = 5
  · subst k5
    rw [if_pos rfl]
    exact h.do_close hids hN v _
  rw [if_neg k5]
  exact h.do_else hids hN ⟨k1, k2, k3, k4, k5⟩ v _
end
end Go.Proofs.Ytepmealhnnoahaa
namespace Go.Proofs.Ytepmealhnnoahaa
set_option linter.unusedSimpArgs false
open Go.ChangeShapes Go.WideShapes Go.ChangeAt Go.RowKit
set_option linter.unusedVariables false
theorem doc_new (w : World) (qu ou : Int) (N E : Nat → Prop) {base : Nat} (hb : base ≤ w.heap.size) : DocAt (w.alloc (.cells #[.int .i64 0, .int .i64 0, .int .i64 0, .int .i64 qu, .int .i64 0, .int .i64 ou, .int .i64 0, .slice none 0 0] 33)) w.heap.size base qu ou N E [] noneS := by
  have R := range_new w [.int .i64 0, .int .i64 0, .int .i64 0, .int .i64 qu, .int .i64 0, .int .i64 ou, .int .i64 0, .slice none 0 0] 33
  refine ⟨Blk.new w [.int .i64 0, .int .i64 0, .int .i64 0, .int .i64 qu, .int .i64 0, .int .i64 ou, .int .i64 0, .slice none 0 0] 33, R 3 _ rfl, R 5 _ rfl, ⟨.slice none 0 0, fun _ => .slice none 0 0, R 7 _ rfl, .inl ⟨rfl, .inl ⟨rfl, rfl⟩⟩, fun j hj => absurd hj (Nat.not_lt_zero j), fun i j k hi => absurd hi (Nat.not_lt_zero i)⟩, List.nodup_nil, fun i => ⟨fun h => by simp at h, fun h => by cases h⟩, ?_⟩
  rw [World.size_alloc]
  omega
/-- Queries have numbers from 0 to i. -/
def DomI (i : Nat) (S : DS) : Prop := ∀ j, S j ≠ none → 0 ≤ j ∧ j ≤ (i : Int)
section
variable {S : DS} {ou qu : Int} {j : Int}
theorem upd_dom {p : List Fnd × Bool} {i : Int} {v : Option (List Fnd × Bool)} (hs : S i = some p) (h : updI S i v j ≠ none) : S j ≠ none := by
  by_cases e : j = i
  · subst e; rw [hs]; simp
  · rwa [updI_off _ _ e] at h
theorem put_dom {x : Ht} (h : putD ou S x j ≠ none) : S j ≠ none := by
  cases hs : S x.id with
  | none => rwa [(put_none (ou := ou) hs).1] at h
  | some p =>
    obtain ⟨l, lo⟩ := p
    cases lo with
    | true => rwa [(put_lost (ou := ou) hs).1] at h
    | false =>
      by_cases hf : ou ≤ (l.length : Int)
      · rw [(put_full hs hf).1] at h
        exact upd_dom hs h
      · rw [(put_yes hs hf).1] at h
        exact upd_dom hs h
theorem puts_dom : ∀ (H : List Ht) {S : DS}, putsD ou S H j ≠ none → S j ≠ none
  | [], S, h => h
  | x :: H, S, h => put_dom (puts_dom H (S := putD ou S x) h)
theorem lose_dom {i : Int} (h : loseD S i j ≠ none) : S j ≠ none := by
  cases hs : S i with
  | none => rwa [lose_no hs] at h
  | some p =>
    obtain ⟨l, lo⟩ := p
    rw [lose_yes2 hs] at h
    exact upd_dom hs h
theorem loses_dom : ∀ (l : List Int) {S : DS}, losesD S l j ≠ none → S j ≠ none
  | [], S, h => h
  | x :: l, S, h => lose_dom (loses_dom l (S := loseD S x) h)
theorem does_dom {m : Nat} {stamp k i n s g : Int} {Os : List OutV} (h : (doR qu ou S m stamp k i n s g Os).S j ≠ none) : S j ≠ none ∨ j = stamp := by
  unfold doR at h
  split at h
  · unfold regR at h
    split at h
    · by_cases e : j = stamp
      · exact .inr e
      · exact .inl (by dsimp only at h; rwa [updI_off _ _ e] at h)
    · exact .inl h
  · split at h
    · unfold unrR at h
      split at h
      · exact .inl h
      · rename_i l lo hs
        exact .inl (upd_dom hs h)
    · split at h
      · exact .inl (puts_dom _ (loses_dom _ h))
      · split at h
        · unfold polR at h
          split at h
          · exact .inl h
          · split at h
            · exact .inl h
            · rename_i l lo hs
              split at h
              · exact .inl h
              · exact .inl (upd_dom hs h)
        · split at h
          · exact .inl h
          · exact .inl h
theorem DomI.does {q : Nat} (h : DomI q S) {m : Nat} {k i n s g : Int} {Os : List OutV} : DomI (q + 1) (doR qu ou S m ((q : Int) + 1) k i n s g Os).S := fun j hj => by
  rcases does_dom hj with e | e
  · have := h j e; omega
  · omega
theorem DomI.free {q : Nat} (h : DomI q S) : S ((q : Int) + 1) = none := Classical.byContradiction fun e => by
  have := h _ e
  omega
theorem DomI.dom {q : Nat} (h : DomI q S) (hq : q ≤ 40) : DomS S := fun j hj => by
  have := h j hj
  omega
end
theorem cmd_zero (a : ActV) (stamp : Int) (h : (cmdOf a stamp).k = 1) : (cmdOf a stamp).i = 0 ∧ (cmdOf a stamp).n = 0 := by
  unfold cmdOf at h ⊢
  repeat' split at h
  all_goals first
    | (exfalso; dsimp only at h; omega)
    | (rw [if_neg (by assumption), if_neg (by assumption), if_neg (by assumption), if_neg (by assumption), if_neg (by assumption)]; exact ⟨rfl, rfl⟩)
theorem MRow.zd {w w' : World} {r base b : Nat} {N N' : Nat → Prop} {v : Value} {L : List (List (List Int))} (h : MRow w b N v L) (hr : Blk w r 33) (T : Turn (ZD r base N' w) w w') : MRow w' b N v L := by
  have zt : ∀ {b : Nat} {t : TypeId}, Blk w b t → (t ≠ 33 ∧ t ≠ 91 ∧ t ≠ 71) → ¬ ZD r base N' w b := fun hb ht => zd_ty hb hr ht
  have tm : ∀ k, MTy w k → ¬ ZD r base N' w k := fun k t => by
    rcases t with t | t | t
    · exact zt t (by decide)
    · exact zt t (by decide)
    · exact zt t (by decide)
  obtain ⟨ps, p1, p2, p3⟩ := h.ex
  exact ⟨ps, p1, own_turn p2 T (fun q hq => zt (own_blkD p2 hq).1 (by decide)), fun j l p hl hp => ((p3 j l p hl hp).typed.turn T (fun k _ z => by
    by_cases t : MTy w k
    · exact absurd z (tm k t)
    · exact .inr t)).weak (fun k q => .inl q)⟩
/-- The document's desk, behind a command of the program's. -/
theorem DocAt.after {X w4 : World} {r d mb base b2 cnt m : Nat} {qu ou qu' ou' : Int} {P P' : Nat → Prop} {ids : List Int} {S S' : DS} (h : DocAt X r b2 qu ou P P ids S) (dd : DAt X d mb base qu' ou' cnt m S' P) (T : Turn P X w4) (own : ∀ k, P' k → P k ∨ X.heap.size ≤ k) : DocAt w4 r b2 qu ou P' P' ids S :=
  ((h.other (N' := fun k => P k ∨ P' k) (E' := fun k => P k ∨ P' k) (fun k n => n.elim .inl (own k)) (fun k n => n.elim .inl (own k))).turn T (dd.no h.bl (by decide)) (fun k hk => dd.no hk (by decide)) (fun k _ p => .inl p) (fun k p _ => .inl p)).other (fun k n => .inl (.inr n)) (fun k n => .inl (.inr n))
/-- The program's desk, behind a command of the document's. -/
theorem DAt.zd {w w' : World} {r d mb base b2 cnt m : Nat} {qu ou : Int} {P : Nat → Prop} {S : DS} (dd : DAt w d mb base qu ou cnt m S P) (bl : Blk w r 33) (T : Turn (ZD r b2 P w) w w') : DAt w' d mb base qu ou cnt m S P :=
  dd.turn T (fun k p z => by
    rcases z with z | ⟨z, _⟩ | ⟨_, _, z⟩
    · exact dd.no bl (by decide) (z ▸ p)
    · exact dd.no z (by decide) p
    · exact z p)
/-- Between two commands: both desks, told by one S. -/
structure BSt (w : World) (x y : Int) (d r b1 b2 i md : Nat) (ids : List Int) (S : DS) (P : Nat → Prop) (wr : World) : Prop where
  dd : DAt wr d md b1 (quOf x) (ouOf y) (i * 30) ids.length S P
  dc : DocAt wr r b2 (quOf x) (ouOf y) P P ids S
  op : ∀ k, P k → w.heap.size ≤ k
  rb : w.heap.size ≤ r ∧ w.heap.size ≤ b2
  iS : InvS (ouOf y) S
  dm : DomI i S
  mq : (ids.length : Int) ≤ quOf x
  turn : Turn (fun _ => False) w wr
theorem BSt.turns {w wr W : World} {x y : Int} {d r b1 b2 i md : Nat} {ids : List Int} {S : DS} {P : Nat → Prop} (B : BSt w x y d r b1 b2 i md ids S P wr) (T : Turn (fun _ => False) wr W) : BSt w x y d r b1 b2 i md ids S P W :=
  ⟨B.dd.turn T (fun _ _ f => f), B.dc.turn T id (fun _ _ f => f) (fun _ _ f => f.elim) (fun _ f => f.elim), B.op, B.rb, B.iS, B.dm, B.mq, B.turn.trans T⟩
theorem BSt.ids {w wr : World} {x y : Int} {d r b1 b2 i md : Nat} {ids : List Int} {S : DS} {P : Nat → Prop} (B : BSt w x y d r b1 b2 i md ids S P wr) : ids.length ≤ 1000 := by
  have := B.mq
  have := quOf_le x
  omega
theorem BSt.two {w wr : World} {x y : Int} {d r b1 b2 i md : Nat} {ids : List Int} {S : DS} {P : Nat → Prop} (B : BSt w x y d r b1 b2 i md ids S P wr) : ∀ i l lo, S i = some (l, lo) → l.length ≤ 10000 ∧ (frefs l).length ≤ 20000 := fun i l lo e => by
  obtain ⟨h1, h2⟩ := B.iS i l lo e
  have h3 : ∀ (l : List Fnd), (∀ f ∈ l, f.refs.length ≤ 2) → (frefs l).length ≤ 2 * l.length := fun l => by
    induction l with
    | nil => intro _; simp [frefs]
    | cons f l ih =>
      intro h
      have h1 := h f (by simp)
      have h2 := ih (fun y hy => h y (by simp [hy]))
      simp only [frefs, List.length_append, List.length_cons] at h2 ⊢
      omega
  have := h3 l (fun f hf => (h2 f hf).1)
  have := ouOf_le y
  omega
theorem BSt.step {w wr X w4 w5 w6 W : World} {x y : Int} {d r b1 b2 i md : Nat} {ids : List Int} {S : DS} {P P2 : Nat → Prop} (B : BSt w x y d r b1 b2 i md ids S P wr) (TX : Turn (fun _ => False) wr X) {a : ActV} {st : Int} {Os : List OutV} (hOf : OutsOf a st Os) {ck ci cn cs cg : Int} {R1 : Res} {av gv : Value} {e : Ending}
    (D1 : Did X w4 d md b1 (quOf x) (ouOf y) (i * 30 + (mergedH Os).length + (lostL Os).length + 1) P R1 av gv P2) (hR : doR (quOf x) (ouOf y) S ids.length ((i : Int) + 1) ck ci cn cs cg Os = R1) (T5 : Turn (fun _ => False) w4 w5)
    (D2 : DoPost w5 r b2 (quOf x) (ouOf y) P2 (idsR (quOf x) S ids ((i : Int) + 1) ck ci) R1 e w6) (T7 : Turn (fun _ => False) w6 W) :
    BSt w x y d r b1 b2 (i + 1) md (idsR (quOf x) S ids ((i : Int) + 1) ck ci) R1.S P2 W := by
  have hX := B.turns TX
  have d4 := hX.dc.after hX.dd D1.turn D1.own
  have d5 := d4.turn T5 id (fun _ _ f => f) (fun _ _ f => f.elim) (fun _ f => f.elim)
  obtain ⟨aa, ga, ac, gc, he, hd, hm, hg, T⟩ := D2
  have q1 := quOf_le x
  have q2 := ouOf_le y
  have iv := B.iS.does (by omega) B.mq (stamp := (i : Int) + 1) (k := ck) (i := ci) (n := cn) (s := cs) (g := cg) hOf
  have il := idsR_len B.dc (stamp := (i : Int) + 1) (k := ck) (i := ci) (n := cn) (s := cs) (g := cg) (Os := Os) B.dm.free
  have idm := B.dm.does (qu := quOf x) (ou := ouOf y) (m := ids.length) (k := ck) (i := ci) (n := cn) (s := cs) (g := cg) (Os := Os)
  rw [hR] at iv il idm
  have mg := hOf.merged
  have dd5 := (D1.desk.more (cnt' := (i + 1) * 30) (by omega)).turn T5 (fun _ _ f => f)
  have dd6 := (dd5.zd d5.bl T).turn T7 (fun _ _ f => f)
  rw [il] at dd6 iv
  refine ⟨dd6, (hd.other (fun k n => .inl n) (fun k n => .inl (.inl n))).turn T7 id (fun _ _ f => f) (fun _ _ f => f.elim) (fun _ f => f.elim), fun k p => (D1.own k p).elim (B.op k) (fun h => Nat.le_trans hX.turn.size h), B.rb, iv.1, idm, iv.2, ?_⟩
  have t4 : Turn (fun _ => False) w w5 := (hX.turn.comp D1.turn (fun k hk p => by have := B.op k p; omega)).trans T5
  exact (t4.comp T (fun k hk z => by
    rcases z with z | ⟨_, z⟩ | ⟨_, z, _⟩
    · have := B.rb.1; omega
    · have := B.rb.2; omega
    · have := B.rb.2; omega)).trans T7
end Go.Proofs.Ytepmealhnnoahaa
namespace Go.Proofs.Ytepmealhnnoahaa
set_option linter.unusedSimpArgs false
open Go.ChangeShapes Go.WideShapes Go.ChangeAt Go.RowKit
set_option linter.unusedVariables false
def DqRel (w : World) (x y : Int) (d r b1 b2 : Nat) (L : List ActV) (gh : Nat) (v8 : Value) (wr : World) : Prop :=
  ∃ (i md : Nat) (ids : List Int) (S : DS) (P : Nat → Prop), v8 = .int .i64 (i : Int) ∧ i ≤ min L.length 40 ∧ gh = min L.length 40 - i ∧ BSt w x y d r b1 b2 i md ids S P wr
def IeRel (w8 : World) (gh : Nat) (v16 : Value) (wr : World) : Prop :=
  ∃ k : Nat, v16 = .int .i64 ((k : Int) - 1) ∧ k ≤ 14 ∧ gh = 14 - k ∧ Turn (fun _ => False) w8 wr
theorem wf_low {i : Int} (h0 : -1000 ≤ i) (h1 : i < 1000000) : (Lit.int .i64 i).wf = true := by
  simp only [Lit.wf, Bool.and_eq_true, decide_eq_true_eq]
  have a1 : IntKind.i64.min = -9223372036854775808 := rfl
  have a2 : IntKind.i64.max = 9223372036854775807 := rfl
  omega
theorem gone_le {S : DS} {qu ou : Int} (hB : ∀ i l lo, S i = some (l, lo) → l.length ≤ 10000 ∧ (frefs l).length ≤ 20000) {a : ActV} {st : Int} {Os : List OutV} (hO : OutsOf a st Os) {m : Nat} {stamp k i n s g : Int} : (doR qu ou S m stamp k i n s g Os).gone.length ≤ 30000 := by
  have hp : (pubG ou S Os ++ [(s, g)]).length ≤ 30000 := by
    have h1 := putsG_le ou (mergedH Os) S
    have h2 := refSum_le (H := mergedH Os) (fun x hx => by
      obtain ⟨_, _, j, e⟩ := hO.mem2 x hx
      rw [e]
      exact (fndC_refs st j).2.1)
    have h3 := hO.merged
    rw [List.length_append]
    unfold pubG
    simp only [List.length_cons, List.length_nil]
    omega
  have z : ([] : List (Int × Int)).length ≤ 30000 := by simp
  unfold doR
  split
  · unfold regR
    split
    · exact z
    · exact z
  · split
    · unfold unrR
      split
      · exact z
      · rename_i l lo hs
        have := (hB i l lo hs).2
        dsimp only
        omega
    · split
      · exact hp
      · split
        · unfold polR
          split
          · exact z
          · split
            · exact z
            · rename_i l lo hs
              split
              · exact z
              · have := (hB i l lo hs).2
                have := frefs_take l (min n.toNat l.length)
                dsimp only
                omega
        · split
          · exact z
          · exact z
theorem wrap_dec {k : Nat} (h : k < 1000) : wrap64 (k : Int) = ((k + 1 : Nat) : Int) - 1 := by unfold wrap64; omega
theorem kk_lt {k : Nat} (h : k < 14) : (k : Int) - 1 < 13 := by omega
theorem kk_ge {k : Nat} (h : ¬ k < 14) : ¬ (k : Int) - 1 < 13 := by omega
theorem kk_big {k : Nat} (h : k < 14) : k < 1000 := by omega
theorem kk_wf {k : Nat} (h : k < 14) : (Lit.int .i64 ((k : Int) - 1)).wf = true := wf_low (by omega) (by omega)
theorem b33 (a b c qu e ou s : Int) (w : World) : (Instr.build 33 #[(0, .agg #[.int .i64 a, .int .i64 b, .int .i64 c, .int .i64 qu, .int .i64 e, .int .i64 ou, .int .i64 s])]).run Try.prog w = .ok (.agg #[.int .i64 a, .int .i64 b, .int .i64 c, .int .i64 qu, .int .i64 e, .int .i64 ou, .int .i64 s, .slice none 0 0]) w := run_build w 33 _ _ (by kernel_rfl)
set_option maxRecDepth 100000 in
set_option maxHeartbeats 16000000 in
theorem does_walk (x y : Int) (sa : Option Addr) (cap : Nat) (L : List ActV) (w : World) (hA : ActsAt w sa L) : Calls Try.prog 3 #[.agg #[.int .i64 x, .int .i64 y], .slice sa L.length cap] w fun e w' => e = .returned (.bool true) ∧ Below w.heap.size w w' := by
  have q1 := quOf_le x
  have q2 := ouOf_le y
  have HA := Lib.hid hA
  clear hA
  go_enter Try.func3, Try.ntmps3
  go_wp2_with fail
  with_reducible refine (queue_awake _).mono ?_
  rintro en w1 ⟨rfl, T1⟩
  have r0 : w1.rangeAt w.heap.size 0 [.int .i64 x, .int .i64 y] := range_turn (range_new w [.int .i64 x, .int .i64 y] 22) T1 id
  have y0 : w1.cell? ⟨w.heap.size, 0, none⟩ = some (.int .i64 x) := r0 0 _ rfl
  have y1 : w1.cell? ⟨w.heap.size, 1, none⟩ = some (.int .i64 y) := r0 1 _ rfl
  have T01 : Turn (fun _ => False) w w1 := ((Turn.refl _ w).alloc _).trans T1
  clear T1
  go_wp2_with fail
  with_reducible refine (config_of w1 x y).mono ?_
  rintro en w2 ⟨rfl, T2⟩
  clear y0 y1
  go_wp2_with fail
  with_reducible refine (new_d w2 0 0 0 0 0 (qu := quOf x) (ou := ouOf y) q1.1 (by omega) q2.1 (by omega)).mono ?_
  rintro en w4 ⟨d, md, P, rfl, hd, hPw, T4⟩
  have T24 := T2.trans T4
  have y0 : w4.cell? ⟨w.heap.size, 0, none⟩ = some (.int .i64 x) := T24.cell id (r0 0 _ rfl)
  have y1 : w4.cell? ⟨w.heap.size, 1, none⟩ = some (.int .i64 y) := T24.cell id (r0 1 _ rfl)
  go_wp2_with fail
  with_reducible refine (config_of w4 x y).mono ?_
  rintro en w5 ⟨rfl, T5⟩
  clear y0 y1 r0
  have T02 := T01.trans T2
  have T04 := T02.trans T4
  have T05 := T04.trans T5
  have TD : Turn (fun _ => False) w5 (w5.alloc (.cells #[.int .i64 0, .int .i64 0, .int .i64 0, .int .i64 (quOf x), .int .i64 0, .int .i64 (ouOf y), .int .i64 0, .slice none 0 0] 33)) := (Turn.refl _ w5).alloc _
  have R0 : DqRel w x y d w5.heap.size w2.heap.size w5.heap.size L (min L.length 40) (.int .i64 0) (w5.alloc (.cells #[.int .i64 0, .int .i64 0, .int .i64 0, .int .i64 (quOf x), .int .i64 0, .int .i64 (ouOf y), .int .i64 0, .slice none 0 0] 33)) := ⟨0, md, [], noneS, P, rfl, Nat.zero_le _, rfl, ⟨(hd.turn T5 (fun _ _ f => f)).turn TD (fun _ _ f => f), doc_new w5 (quOf x) (ouOf y) P P (Nat.le_refl _), fun k p => Nat.le_trans T02.size (hPw k p), ⟨T05.size, T05.size⟩, (fun i l lo h => by cases h), (fun j h => absurd rfl h), by simp; omega, T05.trans TD⟩⟩
  go_upto_region 4 with (first | (refine rl_build rfl 33 _ rfl (vs := #[(0, .agg #[.int .i64 0, .int .i64 0, .int .i64 0, .int .i64 (quOf x), .int .i64 0, .int .i64 (ouOf y), .int .i64 0])]) (v := .agg #[.int .i64 0, .int .i64 0, .int .i64 0, .int .i64 (quOf x), .int .i64 0, .int .i64 (ouOf y), .int .i64 0, .slice none 0 0]) (by simp [Act.eval]) (b33 _ _ _ _ _ _ _ _) ?_))
  clear hd hPw T4 T2 T01 T24 q1 q2 T5 T02 T04 T05 TD
  generalize (w5.alloc (.cells #[.int .i64 0, .int .i64 0, .int .i64 0, .int .i64 (quOf x), .int .i64 0, .int .i64 (ouOf y), .int .i64 0, .slice none 0 0] 33)) = w6 at *
  generalize w2.heap.size = b1 at *
  generalize w5.heap.size = b2 at *
  generalize hr : b2 = r at R0 ⊢
  clear hr
  go_wp2_with fail
  go_loopg [8] (min L.length 40) (fun gh v8 wr => DqRel w x y d r b1 r L gh v8 wr)
  case atStart => exact R0
  case round =>
    clear R0
    obtain ⟨i, md, ids, S, P, rfl, hi, hg, B⟩ := hrel
    by_cases hlt : i < min L.length 40
    · have q1 := quOf_le x
      have q2 := ouOf_le y
      have u1 : decide ((i : Int) < (L.length : Int)) = true := decide_eq_true (by omega)
      have u2 : decide (i < L.length) = true := decide_eq_true (by omega)
      have u3 : decide ((i : Int) < 40) = true := decide_eq_true (by omega)
      have j0 : (0 : Int) ≤ (i : Int) := by omega
      have j1 : (i : Int) < (L.length : Int) := by omega
      obtain ⟨a, hai⟩ : ∃ a, L[i]? = some a := ⟨_, List.getElem?_eq_getElem (by omega)⟩
      obtain ⟨ab, ao, e1, e2⟩ := HA.out
      have ea := e1.resolve_left (fun e => by rw [e] at hai; simp at hai)
      subst ea
      obtain ⟨ha, hc, la, lc, hr, nh, nl⟩ := e2 i a hai
      have hr1 := range_turn hr B.turn id
      have z0 : wr.cell? ⟨ab, ao + i * 6, none⟩ = some (.int .i64 a.kind) := hr1 0 _ rfl
      have z1 : wr.cell? ⟨ab, ao + i * 6 + 1, none⟩ = some (.int .i64 a.id) := hr1 1 _ rfl
      have z2 : wr.cell? ⟨ab, ao + i * 6 + 2, none⟩ = some (.int .i64 a.num) := hr1 2 _ rfl
      have z3 : wr.cell? ⟨ab, ao + i * 6 + 3, none⟩ = some (.slice ha a.hits.length hc) := hr1 3 _ rfl
      have z4 : wr.cell? ⟨ab, ao + i * 6 + 4, none⟩ = some (.slice la a.lost.length lc) := hr1 4 _ rfl
      have z5 : wr.cell? ⟨ab, ao + i * 6 + 5, none⟩ = some (.int .i64 a.shard) := hr1 5 _ rfl
      have es : wrap64 ((i : Int) + 1) = (i : Int) + 1 := by unfold wrap64; omega
      have C := cmd_is wr a (hc := hc) (lc := lc) (nh.turn B.turn) (nl.turn B.turn) ((i : Int) + 1) (by omega)
      unfold CmdPost at C
      have cwf := cmd_wf a ((i : Int) + 1)
      have czz := cmd_zero a ((i : Int) + 1)
      obtain ⟨⟨ck, ci, cn, cs, cg⟩, hcm⟩ : ∃ c, cmdOf a ((i : Int) + 1) = c := ⟨_, rfl⟩
      rw [hcm] at C cwf czz
      dsimp only [CmdV.cells, cmdL] at C cwf czz
      have C := Lib.hid C
      have G0 := Lib.hid (And.intro hi (And.intro hg (And.intro B (And.intro hlt (And.intro cwf czz)))))
      have HS0 := Lib.hid (show (Lit.int .i64 ((i : Int) + 1)).wf = true from wf_of (by omega) (by omega))
      clear hi hg B hlt e1 e2 hai hr hr1 nh nl hcm cwf czz q1 q2
      go_wp2_with fail
      with_reducible refine C.out.mono ?_
      clear C z0 z1 z2 z3 z4 z5
      rintro en w2 ⟨va, vc, Os, rfl, hO, hF, hOf, T2⟩
      obtain ⟨X, hX⟩ : ∃ X, X = w2.alloc (.cells #[.int .i64 ck, .int .i64 ci, .int .i64 cn, .int .i64 0, .int .i64 0, .int .i64 0, .int .i64 0, .int .i64 0, .int .i64 0, .int .i64 cs, .int .i64 cg, .slice none 0 0, .int .i64 0, .bool false] 43) := ⟨_, rfl⟩
      have TX : Turn (fun _ => False) w2 X := by rw [hX]; exact (Turn.refl _ w2).alloc _
      have bX : Blk X w2.heap.size 43 := by rw [hX]; exact Blk.new w2 (cmdL ck ci cn cs cg) 43
      have rX : X.rangeAt w2.heap.size 0 (cmdL ck ci cn cs cg) := by rw [hX]; exact range_new w2 (cmdL ck ci cn cs cg) 43
      have T2X := T2.trans TX
      have hON : OutsAt X (fun k => k < wr.heap.size) (.slice va Os.length vc) Os := hO.next TX (fun _ _ f => f) (fun _ _ f => f) (fun _ _ _ f => f) (fun k p => .inl p)
      have hFN : HitsAt X (fun k => k < wr.heap.size) Os := hF.next TX (fun _ _ f => f.elim) (fun k p => .inl p)
      have hHX := Lib.hid hX
      obtain ⟨hi, hg, B, hlt, cwf, czz⟩ := G0.out
      have q1 := quOf_le x
      have q2 := ouOf_le y
      have BX := B.turns T2X
      have ownP : ∀ k, P k → k < wr.heap.size := fun k p => B.dd.lt p
      have hO1 : OutsAt X P (.slice va Os.length vc) Os := hON.next (Turn.refl (fun _ => False) X) (fun _ _ f => f) (fun _ _ f => f) (fun _ _ _ f => f) (fun k p => .inl (ownP k p))
      have hF1 : HitsAt X P Os := hFN.next (Turn.refl (fun _ => False) X) (fun _ _ f => f.elim) (fun k p => .inl (ownP k p))
      have mg := hOf.merged
      have D1 := DAt.does (stamp := (i : Int) + 1) (k := ck) (i := ci) (n := cn) (s := cs) (g := cg) (v := .slice va Os.length vc) (Os := Os) BX.dd HS0.out (wf_of cwf.1 (by omega)) (fun l' lo e => by
        obtain ⟨h1, h2⟩ := B.two ci l' lo e
        omega) (fun _ => ⟨hO1, hF1, hOf.ok⟩) (by unfold maxLen; omega)
      obtain ⟨R1, hR1⟩ : ∃ R, doR (quOf x) (ouOf y) S ids.length ((i : Int) + 1) ck ci cn cs cg Os = R := ⟨_, rfl⟩
      obtain ⟨ids2, hI2⟩ : ∃ I, idsR (quOf x) S ids ((i : Int) + 1) ck ci = I := ⟨_, rfl⟩
      have ms1 := does_ms (qu := quOf x) B.iS (by omega) (m := ids.length) (stamp := (i : Int) + 1) (k := ck) (i := ci) (n := cn) (s := cs) (g := cg) (Os := Os)
      have gl1 := (does_held (f := fun _ => 1) (qu := quOf x) (ou := ouOf y) (B.dm.dom (by omega)) (m := ids.length) (stamp := (i : Int) + 1) (k := ck) (i := ci) (n := cn) (s := cs) (g := cg) (Os := Os) (by omega))
      rw [hR1] at D1 ms1 gl1
      unfold cmdL at D1
      have D1 := Lib.hid D1
      have RX := rX
      unfold cmdL at RX
      have RX := Lib.hid RX
      have H1 := Lib.hid (And.intro T2X (And.intro bX (And.intro rX (And.intro hOf (And.intro hON (And.intro hFN (And.intro hR1 (And.intro ms1 hI2))))))))
      clear T2 TX bX rX T2X hON hFN hO hF hOf hX hi hg B hlt cwf czz q1 q2 BX ownP hO1 hF1 mg hR1 ms1 gl1 hI2
      go_upto_region 8 with fail
      rw [← hHX.out]
      clear hHX
      generalize w2.heap.size = xb at *
      go_wp2_with (((with_reducible show wpList _ _ _ ({ dst := some 49, op := Op.load 43 _, type := _, pos := _, after := _, guard := _ } :: _) _ _); refine wpList_load_mid rfl 43 _ rfl xb 0 rfl _ _ RX.out Try.underlying43 rfl size43 ?_))
      with_reducible refine D1.out.mono ?_
      clear D1
      rintro en w4 ⟨av, gv, rfl, P2, D1⟩
      obtain ⟨aa, ac, rfl⟩ := D1.ans.sl
      obtain ⟨la4, lc4, rfl, -⟩ := own_slice D1.gone
      go_upto_region 9 with fail
      obtain ⟨w5, hw5⟩ : ∃ W, W = w4.alloc (.cells #[.int .i64 R1.err, .int .i64 R1.num, .slice aa R1.ms.length ac] 53) := ⟨_, rfl⟩
      rw [← hw5]
      have T5 : Turn (fun _ => False) w4 w5 := by rw [hw5]; exact (Turn.refl _ w4).alloc _
      have RA : w5.rangeAt w4.heap.size 0 [.int .i64 R1.err, .int .i64 R1.num, .slice aa R1.ms.length ac] := by rw [hw5]; exact range_new w4 [.int .i64 R1.err, .int .i64 R1.num, .slice aa R1.ms.length ac] 53
      have BA : Blk w5 w4.heap.size 53 := by rw [hw5]; exact Blk.new w4 [.int .i64 R1.err, .int .i64 R1.num, .slice aa R1.ms.length ac] 53
      clear hw5
      generalize w4.heap.size = ba at *
      obtain ⟨T2X, bX, rX, hOf, hON, hFN, hR1, ms1, hI2⟩ := H1.out
      obtain ⟨hi, hg, B, hlt, cwf, czz⟩ := G0.out
      have q2 := ouOf_le y
      have BX := B.turns T2X
      have ownP : ∀ k, P k → k < wr.heap.size := fun k p => B.dd.lt p
      have hno : ∀ {b : Nat} {t : TypeId}, Blk X b t → (t ≠ 82 ∧ t ≠ 71 ∧ t ≠ 46 ∧ t ≠ 3 ∧ t ≠ 38) → ¬ P b := fun hb ht => BX.dd.no hb ht
      have own2 : ∀ k, P2 k → k < wr.heap.size ∨ X.heap.size ≤ k := fun k p => (D1.own k p).imp (ownP k) id
      have hO2 : OutsAt w5 P2 (.slice va Os.length vc) Os := (hON.next D1.turn (fun k hk => hno hk (by decide)) (fun k hk => hno hk (by decide)) (fun k _ n p => n (ownP k p)) own2).next T5 (fun _ _ f => f) (fun _ _ f => f) (fun _ _ _ f => f) (fun k q => .inl q)
      have hF2 : HitsAt w5 P2 Os := (hFN.next D1.turn (fun k _ p => ownP k p) own2).next T5 (fun _ _ f => f.elim) (fun k q => .inl q)
      have dd5 := D1.desk.turn T5 (fun _ _ f => f)
      have d5 := (BX.dc.after BX.dd D1.turn D1.own).turn T5 id (fun _ _ f => f) (fun _ _ f => f.elim) (fun _ f => f.elim)
      have hmem := hOf.mem
      have D2 := d5.does (stamp := (i : Int) + 1) (k := ck) (i := ci) (n := cn) (s := cs) (g := cg) (v := .slice va Os.length vc) (Os := Os) B.ids (fun q p => dd5.lt p) B.dm.free (fun i l lo e => by have := B.two i l lo e; omega) (by omega)
        (fun hk => ⟨czz hk, hO2, hF2, hOf.len, fun o ho => (hmem o ho).1, fun o ho => (hmem o ho).2.1, fun o ho x hx => by
          obtain ⟨_, _, j, e3⟩ := (hmem o ho).2.2.1 x hx
          rw [e3]
          exact (fndC_refs _ j).2.1, outs_sort hOf⟩)
      rw [hR1, hI2] at D2
      unfold cmdL at D2
      have D2 := Lib.hid D2
      have RX5 := Lib.hid (range_turn (range_turn RX.out D1.turn (hno bX (by decide))) T5 id)
      have K5 := Lib.hid (And.intro D1 (And.intro T5 (And.intro RA (And.intro BA (And.intro dd5 d5)))))
      clear T5 RA BA T2X bX rX hOf hON hFN hR1 ms1 hi hg B hlt cwf czz q2 BX ownP hno own2 hO2 hF2 dd5 d5 hmem D1 RX hI2
      go_wp2_with (((with_reducible show wpList _ _ _ ({ dst := some 57, op := Op.load 43 _, type := _, pos := _, after := _, guard := _ } :: _) _ _); refine wpList_load_mid rfl 43 _ rfl xb 0 rfl _ _ RX5.out Try.underlying43 rfl size43 ?_))
      with_reducible refine D2.out.mono ?_
      clear D2
      rintro en w6 D2
      have HD2 := Lib.hid D2
      obtain ⟨ab2, lb4, ac2, ld4, rfl, hd6, hm6, hg6, T6⟩ := D2
      go_upto_region 10 with fail
      obtain ⟨w7, hw7⟩ : ∃ W, W = w6.alloc (.cells #[.int .i64 R1.err, .int .i64 R1.num, .slice ab2 R1.ms.length ac2, .slice lb4 R1.gone.length ld4] 58) := ⟨_, rfl⟩
      rw [← hw7]
      have T7 : Turn (fun _ => False) w6 w7 := by rw [hw7]; exact (Turn.refl _ w6).alloc _
      have RB : w7.rangeAt w6.heap.size 0 [.int .i64 R1.err, .int .i64 R1.num, .slice ab2 R1.ms.length ac2, .slice lb4 R1.gone.length ld4] := by rw [hw7]; exact range_new w6 [.int .i64 R1.err, .int .i64 R1.num, .slice ab2 R1.ms.length ac2, .slice lb4 R1.gone.length ld4] 58
      clear hw7
      generalize w6.heap.size = bb at *
      obtain ⟨D1, T5, RA, BA, dd5, d5⟩ := K5.out
      obtain ⟨T2X, bX, rX, hOf, hON, hFN, hR1, ms1, hI2⟩ := H1.out
      obtain ⟨hi, hg, B, hlt, cwf, czz⟩ := G0.out
      have zt : ∀ {b : Nat} {t : TypeId}, Blk w5 b t → (t ≠ 33 ∧ t ≠ 91 ∧ t ≠ 71) → ¬ ZD r r P2 w5 b := fun hb ht => zd_ty hb d5.bl ht
      have ra7 := range_turn (range_turn RA T6 (zt BA (by decide))) T7 id
      have a0 : w7.cell? ⟨ba, 0, none⟩ = some (.int .i64 R1.err) := ra7 0 _ rfl
      have a1 : w7.cell? ⟨ba, 1, none⟩ = some (.int .i64 R1.num) := ra7 1 _ rfl
      have a2 : w7.cell? ⟨ba, 2, none⟩ = some (.slice aa R1.ms.length ac) := ra7 2 _ rfl
      have c0 : w7.cell? ⟨bb, 0, none⟩ = some (.int .i64 R1.err) := RB 0 _ rfl
      have c1 : w7.cell? ⟨bb, 1, none⟩ = some (.int .i64 R1.num) := RB 1 _ rfl
      have c2 : w7.cell? ⟨bb, 2, none⟩ = some (.slice ab2 R1.ms.length ac2) := RB 2 _ rfl
      have mrow5 := (((D1.ans.turn T5 (fun _ _ f => f.elim) (fun _ _ f => f)).zd d5.bl T6).turn T7 (fun _ _ f => f.elim) (fun _ _ f => f))
      have SM := Lib.hid (same_ans (e1 := R1.err) (n1 := R1.num) (e2 := R1.err) (n2 := R1.num) mrow5 (hm6.turn T7 (fun _ _ f => f.elim) (fun _ _ f => f)) ms1.1 ms1.1 ms1.2 ms1.2)
      have g5 := own_turn D1.gone T5 (fun _ _ f => f)
      have g7 := own_turn (own_turn g5 T6 (fun q hq => zt (own_blkD g5 hq).1 (by decide))) T7 (fun _ _ f => f)
      have h7 := own_turn hg6 T7 (fun _ _ f => f)
      have BS := Lib.hid (show ∀ W, Turn (fun _ => False) w7 W → BSt w x y d r b1 r (i + 1) md ids2 R1.S P2 W from fun W TW => by
        have h2 := HD2.out
        rw [← hI2] at h2
        have h3 := B.step T2X hOf D1 hR1 T5 h2 (T7.trans TW)
        rw [hI2] at h3
        exact h3)
      have gln : R1.gone.length ≤ 1000000 := by
        have h1 := gone_le (qu := quOf x) (ou := ouOf y) B.two hOf (m := ids.length) (stamp := (i : Int) + 1) (k := ck) (i := ci) (n := cn) (s := cs) (g := cg)
        rw [hR1] at h1
        exact Nat.le_trans h1 (by decide)
      have SR := Lib.hid (fun W (TW : Turn (fun _ => False) w7 W) => srefs_is ((refs_own g7).turn TW (fun _ _ f => f)) ((refs_own h7).turn TW (fun _ _ f => f)) gln gln)
      have KC := Lib.hid (show ∀ W, Turn (fun _ => False) w7 W → W.cell? ⟨bb, 3, none⟩ = some (.slice lb4 R1.gone.length ld4) from fun W TW => TW.cell id (RB 3 _ rfl))
      have G1 := Lib.hid (And.intro hg hlt)
      clear T7 RB D1 T5 RA BA dd5 d5 T2X bX rX hOf hON hFN hR1 ms1 hI2 hi hg B hlt cwf czz zt ra7 mrow5 g5 g7 h7 gln hd6 hm6 hg6 T6 HD2 K5 H1 G0 HS0 RX5
      generalize R1.ms.length = nm1 at *
      generalize R1.gone.length = ng1 at *
      go_wp2_with fail
      with_reducible refine SM.out.mono ?_
      rintro en w8 ⟨t, rfl, ht, T8⟩
      obtain rfl : t = true := ht (by first | trivial | exact ⟨rfl, rfl, rfl⟩ | simp)
      clear ht SM a0 a1 a2 c0 c1 c2
      have k3 := KC.out w8 T8
      go_wp2_with fail
      with_reducible refine (SR.out w8 T8).mono ?_
      rintro en w9 ⟨t, rfl, ht, T9⟩
      obtain rfl : t = true := ht (by first | trivial | rfl | simp)
      clear ht SR k3 KC
      have B9 := Lib.hid (BS.out w9 (T8.trans T9))
      clear BS T8 T9
      go_upto_region 12 with fail
      have iq : (i : Int) < 40 := by have := G1.out.2; omega
      obtain ⟨qa, qc, k7⟩ : ∃ qa qc, w9.cell? ⟨r, 7, none⟩ = some (.slice qa ids2.length qc) := by
        obtain ⟨v, U, X⟩ := B9.out.dc.x
        obtain ⟨a, c, rfl, -⟩ := X.own.sl
        exact ⟨a, c, X.c7⟩
      have DOM := B9.out.dm.dom (by omega)
      obtain ⟨hw, hhw⟩ : ∃ hw, heldW (fun _ => 1) R1.S = hw := ⟨_, rfl⟩
      have HK := Lib.hid (show ∀ W, Turn (fun _ => False) w9 W → W.cell? ⟨r, 7, none⟩ = some (.slice qa ids2.length qc) ∧ Turn (fun _ => False) w9 W from fun W TW => ⟨TW.cell id k7, TW⟩)
      have HE1 := Lib.hid (show ∀ W, Turn (fun _ => False) w9 W → Calls Try.prog 17 #[.pointer (some ⟨d, 0, none⟩)] W fun e w' => e = .returned (.int .i64 (hw : Int)) ∧ Turn (fun _ => False) W w' from fun W TW => by
        have := (B9.out.turns TW).dd.held DOM B9.out.two
        rwa [hhw] at this)
      have HE2 := Lib.hid (show ∀ W, Turn (fun _ => False) w9 W → Calls Try.prog 18 #[.pointer (some ⟨r, 0, none⟩)] W fun e w' => e = .returned (.int .i64 (hw : Int)) ∧ W = w' from fun W TW => by
        have := (B9.out.turns TW).dc.held B9.out.ids DOM B9.out.two
        rwa [hhw] at this)
      have HLV := Lib.hid (show ∀ W, Turn (fun _ => False) w9 W → Calls Try.prog 19 #[.pointer (some ⟨d, 0, none⟩)] W fun e w' => e = .returned (.int .i64 (ids2.length : Int)) ∧ W = w' from fun W TW => (B9.out.turns TW).dd.live)
      have tn : ((hw : Int) != (hw : Int)) = false := by simp
      have tl : ((ids2.length : Int) != (ids2.length : Int)) = false := by simp
      have TD : Turn (fun _ => False) w9 w9.drew := (Turn.refl _ w9).drewN 1
      have sD := HK.out w9.drew TD
      clear hhw DOM k7 iq
      refine wp_region_held_drew (S := (fun w' => w'.cell? ⟨r, 7, none⟩ = some (.slice qa ids2.length qc) ∧ Turn (fun _ => False) w9 w')) (by kernel_rfl) ?hs0 (fun hS0 => ?_)
      case hs0 => ((try dsimp only); first | with_reducible exact sD | with_reducible exact sA | with_reducible exact sB | with_reducible exact sC)
      refine wpAnyH_take (i := 0) (oi := { dst := some 68, op := Op.move (Operand.tmp 14), type := 4, pos := "law.go:91", after := #[], guard := none }) (v := ?_) rfl (by kernel_rfl) (by kernel_rfl) (by kernel_rfl) (fun _ _ _ h => h) (Or.inl ⟨by rfl, ?hy1⟩) hS0 ?_
      case hy1 => (intro w hSw; (try dsimp only at hSw); go_simp; try with_reducible rfl)
      try simp only [Act.put, List.setIfInBounds_toArray, List.set_cons_zero, List.set_cons_succ]
      refine wpAnyH_take (i := 1) (oi := { dst := some 69, op := Op.unOp UnOp.not 4 (Operand.tmp 68), type := 4, pos := "law.go:91", after := #[{ on := 0, ground := Ground.data }], guard := none }) (v := ?_) rfl (by kernel_rfl) (by kernel_rfl) (by kernel_rfl) (fun _ _ _ h => h) (Or.inl ⟨by rfl, ?hy2⟩) hS0 ?_
      case hy2 => (intro w hSw; (try dsimp only at hSw); go_simp; try with_reducible rfl)
      try simp only [Act.put, List.setIfInBounds_toArray, List.set_cons_zero, List.set_cons_succ]
      refine wpAnyH_take (i := 2) (oi := { dst := some 70, op := Op.move (Operand.tmp 69), type := 4, pos := "law.go:91", after := #[{ on := 1, ground := Ground.data }], guard := none }) (v := ?_) rfl (by kernel_rfl) (by kernel_rfl) (by kernel_rfl) (fun _ _ _ h => h) (Or.inl ⟨by rfl, ?hy3⟩) hS0 ?_
      case hy3 => (intro w hSw; (try dsimp only at hSw); go_simp; try with_reducible rfl)
      try simp only [Act.put, List.setIfInBounds_toArray, List.set_cons_zero, List.set_cons_succ]
      refine wpAnyH_take (i := 3) (oi := { dst := some 71, op := Op.move (Operand.tmp 15), type := 4, pos := "law.go:91", after := #[{ on := 2, ground := Ground.guard }], guard := some (2, false) }) (v := ?_) rfl (by kernel_rfl) (by kernel_rfl) (by kernel_rfl) (fun _ _ _ h => h) (Or.inl ⟨by rfl, ?hy4⟩) hS0 ?_
      case hy4 => (intro w hSw; (try dsimp only at hSw); go_simp; try with_reducible rfl)
      try simp only [Act.put, List.setIfInBounds_toArray, List.set_cons_zero, List.set_cons_succ]
      refine wpAnyH_take (i := 4) (oi := { dst := some 72, op := Op.unOp UnOp.not 4 (Operand.tmp 71), type := 4, pos := "law.go:91", after := #[{ on := 3, ground := Ground.data }, { on := 2, ground := Ground.guard }], guard := some (2, false) }) (v := ?_) rfl (by kernel_rfl) (by kernel_rfl) (by kernel_rfl) (fun _ _ _ h => h) (Or.inl ⟨by rfl, ?hy5⟩) hS0 ?_
      case hy5 => (intro w hSw; (try dsimp only at hSw); go_simp; try with_reducible rfl)
      try simp only [Act.put, List.setIfInBounds_toArray, List.set_cons_zero, List.set_cons_succ]
      refine wpAnyH_take (i := 5) (oi := { dst := some 73, op := Op.pick (Operand.tmp 70) (Operand.const (Value.bool true)) (Operand.tmp 72), type := 4, pos := "law.go:91", after := #[{ on := 2, ground := Ground.data }, { on := 4, ground := Ground.data }], guard := none }) (v := ?_) rfl (by kernel_rfl) (by kernel_rfl) (by kernel_rfl) (fun _ _ _ h => h) (Or.inl ⟨by rfl, ?hy6⟩) hS0 ?_
      case hy6 => (intro w hSw; (try dsimp only at hSw); go_simp; try with_reducible rfl)
      try simp only [Act.put, List.setIfInBounds_toArray, List.set_cons_zero, List.set_cons_succ]
      refine wpAnyH_take (i := 6) (oi := { dst := some 74, op := Op.move (Operand.tmp 73), type := 4, pos := "law.go:91", after := #[{ on := 5, ground := Ground.data }, { on := 2, ground := Ground.chain }], guard := none }) (v := ?_) rfl (by kernel_rfl) (by kernel_rfl) (by kernel_rfl) (fun _ _ _ h => h) (Or.inl ⟨by rfl, ?hy7⟩) hS0 ?_
      case hy7 => (intro w hSw; (try dsimp only at hSw); go_simp; try with_reducible rfl)
      try simp only [Act.put, List.setIfInBounds_toArray, List.set_cons_zero, List.set_cons_succ]
      refine wpAnyH_take (i := 7) (oi := { dst := some 75, op := Op.move (Operand.tmp 6), type := 25, pos := "law.go:91", after := #[{ on := 6, ground := Ground.guard }], guard := some (6, false) }) (v := ?_) rfl (by kernel_rfl) (by kernel_rfl) (by kernel_rfl) (fun _ _ _ h => h) (Or.inl ⟨by rfl, ?hy8⟩) hS0 ?_
      case hy8 => (intro w hSw; (try dsimp only at hSw); go_simp; try with_reducible rfl)
      try simp only [Act.put, List.setIfInBounds_toArray, List.set_cons_zero, List.set_cons_succ]
      refine wpAnyH_take (i := 9) (oi := { dst := some 77, op := Op.move (Operand.tmp 7), type := 30, pos := "law.go:91", after := #[{ on := 6, ground := Ground.guard }], guard := some (6, false) }) (v := ?_) rfl (by kernel_rfl) (by kernel_rfl) (by kernel_rfl) (fun _ _ _ h => h) (Or.inl ⟨by rfl, ?hy9⟩) hS0 ?_
      case hy9 => (intro w hSw; (try dsimp only at hSw); go_simp; try with_reducible rfl)
      try simp only [Act.put, List.setIfInBounds_toArray, List.set_cons_zero, List.set_cons_succ]
      refine wpAnyH_ready (rs := [8]) (by kernel_rfl) (by simp) ?_
      refine AllReadyH.cons (o := { dst := some 76, op := Op.call { callee := Callee.value (Operand.func 17), args := #[Operand.tmp 75], argTypes := #[25] }, type := 3, pos := "law.go:91", after := #[{ on := 7, ground := Ground.data }, { on := 6, ground := Ground.chain }, { on := 6, ground := Ground.guard }], guard := some (6, false) }) rfl (fun K hK => ?_) ?_
      · go_simp; with_reducible refine (HE1.out _ sD.2).mono ?_; rintro e Wa ⟨rfl, Ta⟩; have sA := HK.out _ (sD.2.trans Ta); go_simp
        refine hK.out _ _ ?hs10 (fun hS10 => ?_)
        case hs10 => ((try dsimp only); first | with_reducible exact sD | with_reducible exact sA | with_reducible exact sB | with_reducible exact sC)
        clear hK K hS0
        refine wpAnyH_ready (rs := [10]) (by kernel_rfl) (by simp) ?_
        refine AllReadyH.cons (o := { dst := some 78, op := Op.call { callee := Callee.value (Operand.func 18), args := #[Operand.tmp 77], argTypes := #[30] }, type := 3, pos := "law.go:91", after := #[{ on := 9, ground := Ground.data }, { on := 8, ground := Ground.chain }, { on := 6, ground := Ground.guard }], guard := some (6, false) }) rfl (fun K hK => ?_) ?_
        · go_simp; with_reducible refine (HE2.out _ sA.2).mono ?_; rintro e Wb ⟨rfl, rfl⟩; go_simp
          refine hK.out _ _ ?hs11 (fun hS11 => ?_)
          case hs11 => ((try dsimp only); first | with_reducible exact sD | with_reducible exact sA | with_reducible exact sB | with_reducible exact sC)
          clear hK K hS10
          refine wpAnyH_take (i := 11) (oi := { dst := some 79, op := Op.binOp BinOp.neq 3 (Operand.tmp 76) (Operand.tmp 78) 3, type := 4, pos := "law.go:91", after := #[{ on := 8, ground := Ground.data }, { on := 10, ground := Ground.data }, { on := 6, ground := Ground.guard }], guard := some (6, false) }) (v := ?_) rfl (by kernel_rfl) (by kernel_rfl) (by kernel_rfl) (fun _ _ _ h => h) (Or.inl ⟨by rfl, ?hy12⟩) hS11 ?_
          case hy12 => (intro w hSw; (try dsimp only at hSw); go_simp; try with_reducible rfl)
          try simp only [Act.put, List.setIfInBounds_toArray, List.set_cons_zero, List.set_cons_succ]
          refine wpAnyH_take (i := 12) (oi := { dst := some 80, op := Op.pick (Operand.tmp 74) (Operand.const (Value.bool true)) (Operand.tmp 79), type := 4, pos := "law.go:91", after := #[{ on := 6, ground := Ground.data }, { on := 11, ground := Ground.data }], guard := none }) (v := ?_) rfl (by kernel_rfl) (by kernel_rfl) (by kernel_rfl) (fun _ _ _ h => h) (Or.inl ⟨by rfl, ?hy13⟩) hS11 ?_
          case hy13 => (intro w hSw; (try dsimp only at hSw); go_simp; try with_reducible rfl)
          try simp only [Act.put, List.setIfInBounds_toArray, List.set_cons_zero, List.set_cons_succ]
          refine wpAnyH_take (i := 13) (oi := { dst := some 81, op := Op.move (Operand.tmp 80), type := 4, pos := "law.go:91", after := #[{ on := 12, ground := Ground.data }, { on := 10, ground := Ground.chain }], guard := none }) (v := ?_) rfl (by kernel_rfl) (by kernel_rfl) (by kernel_rfl) (fun _ _ _ h => h) (Or.inl ⟨by rfl, ?hy14⟩) hS11 ?_
          case hy14 => (intro w hSw; (try dsimp only at hSw); go_simp; try with_reducible rfl)
          try simp only [Act.put, List.setIfInBounds_toArray, List.set_cons_zero, List.set_cons_succ]
          refine wpAnyH_take (i := 14) (oi := { dst := some 82, op := Op.move (Operand.tmp 6), type := 25, pos := "law.go:91", after := #[{ on := 13, ground := Ground.guard }], guard := some (13, false) }) (v := ?_) rfl (by kernel_rfl) (by kernel_rfl) (by kernel_rfl) (fun _ _ _ h => h) (Or.inl ⟨by rfl, ?hy15⟩) hS11 ?_
          case hy15 => (intro w hSw; (try dsimp only at hSw); go_simp; try with_reducible rfl)
          try simp only [Act.put, List.setIfInBounds_toArray, List.set_cons_zero, List.set_cons_succ]
          refine wpAnyH_take (i := 16) (oi := { dst := some 84, op := Op.move (Operand.tmp 7), type := 30, pos := "law.go:91", after := #[{ on := 13, ground := Ground.guard }], guard := some (13, false) }) (v := ?_) rfl (by kernel_rfl) (by kernel_rfl) (by kernel_rfl) (fun _ _ _ h => h) (Or.inl ⟨by rfl, ?hy16⟩) hS11 ?_
          case hy16 => (intro w hSw; (try dsimp only at hSw); go_simp; try with_reducible rfl)
          try simp only [Act.put, List.setIfInBounds_toArray, List.set_cons_zero, List.set_cons_succ]
          refine wpAnyH_take (i := 17) (oi := { dst := some 85, op := Op.nilCheck (Operand.tmp 84), type := 0, pos := "law.go:91", after := #[{ on := 16, ground := Ground.data }, { on := 13, ground := Ground.guard }], guard := some (13, false) }) (v := ?_) rfl (by kernel_rfl) (by kernel_rfl) (by kernel_rfl) (fun _ _ _ h => h) (Or.inl ⟨by rfl, ?hy17⟩) hS11 ?_
          case hy17 => (intro w hSw; (try dsimp only at hSw); go_simp; try with_reducible rfl)
          try simp only [Act.put, List.setIfInBounds_toArray, List.set_cons_zero, List.set_cons_succ]
          refine wpAnyH_take (i := 18) (oi := { dst := some 86, op := Op.fieldAddr 33 (Operand.tmp 85) 1, type := 0, pos := "law.go:91", after := #[{ on := 17, ground := Ground.data }, { on := 13, ground := Ground.guard }], guard := some (13, false) }) (v := ?_) rfl (by kernel_rfl) (by kernel_rfl) (by kernel_rfl) (fun _ _ _ h => h) (Or.inl ⟨by rfl, ?hy18⟩) hS11 ?_
          case hy18 => (intro w hSw; (try dsimp only at hSw); go_simp; try with_reducible rfl)
          try simp only [Act.put, List.setIfInBounds_toArray, List.set_cons_zero, List.set_cons_succ]
          refine wpAnyH_take (i := 19) (oi := { dst := some 87, op := Op.load 31 (Operand.tmp 86), type := 31, pos := "law.go:91", after := #[{ on := 18, ground := Ground.data }, { on := 13, ground := Ground.guard }], guard := some (13, false) }) (v := ?_) rfl (by kernel_rfl) (by kernel_rfl) (by kernel_rfl) (fun _ _ _ h => h) (Or.inl ⟨by rfl, ?hy19⟩) hS11 ?_
          case hy19 => (intro w hSw; (try dsimp only at hSw); go_simp; try with_reducible rfl)
          try simp only [Act.put, List.setIfInBounds_toArray, List.set_cons_zero, List.set_cons_succ]
          refine wpAnyH_take (i := 20) (oi := { dst := some 88, op := Op.call { callee := Callee.builtin Builtin.len, args := #[Operand.tmp 87], argTypes := #[31] }, type := 3, pos := "law.go:91", after := #[{ on := 19, ground := Ground.data }, { on := 13, ground := Ground.guard }], guard := some (13, false) }) (v := ?_) rfl (by kernel_rfl) (by kernel_rfl) (by kernel_rfl) (fun _ _ _ h => h) (Or.inl ⟨by rfl, ?hy20⟩) hS11 ?_
          case hy20 => (intro w hSw; (try dsimp only at hSw); go_simp; try with_reducible rfl)
          try simp only [Act.put, List.setIfInBounds_toArray, List.set_cons_zero, List.set_cons_succ]
          refine wpAnyH_ready (rs := [15]) (by kernel_rfl) (by simp) ?_
          refine AllReadyH.cons (o := { dst := some 83, op := Op.call { callee := Callee.value (Operand.func 19), args := #[Operand.tmp 82], argTypes := #[25] }, type := 3, pos := "law.go:91", after := #[{ on := 14, ground := Ground.data }, { on := 13, ground := Ground.chain }, { on := 13, ground := Ground.guard }], guard := some (13, false) }) rfl (fun K hK => ?_) ?_
          · go_simp; with_reducible refine (HLV.out _ sA.2).mono ?_; rintro e Wb ⟨rfl, rfl⟩; have sC := sA; go_simp
            refine hK.out _ _ ?hs21 (fun hS21 => ?_)
            case hs21 => ((try dsimp only); first | with_reducible exact sD | with_reducible exact sA | with_reducible exact sB | with_reducible exact sC)
            clear hK K hS11
            refine wpAnyH_take (i := 21) (oi := { dst := some 89, op := Op.binOp BinOp.neq 3 (Operand.tmp 83) (Operand.tmp 88) 3, type := 4, pos := "law.go:91", after := #[{ on := 15, ground := Ground.data }, { on := 20, ground := Ground.data }, { on := 13, ground := Ground.guard }], guard := some (13, false) }) (v := ?_) rfl (by kernel_rfl) (by kernel_rfl) (by kernel_rfl) (fun _ _ _ h => h) (Or.inl ⟨by rfl, ?hy22⟩) hS21 ?_
            case hy22 => (intro w hSw; (try dsimp only at hSw); go_simp; try with_reducible rfl)
            try simp only [Act.put, List.setIfInBounds_toArray, List.set_cons_zero, List.set_cons_succ]
            refine wpAnyH_take (i := 22) (oi := { dst := some 90, op := Op.pick (Operand.tmp 81) (Operand.const (Value.bool true)) (Operand.tmp 89), type := 4, pos := "law.go:91", after := #[{ on := 13, ground := Ground.data }, { on := 21, ground := Ground.data }], guard := none }) (v := ?_) rfl (by kernel_rfl) (by kernel_rfl) (by kernel_rfl) (fun _ _ _ h => h) (Or.inl ⟨by rfl, ?hy23⟩) hS21 ?_
            case hy23 => (intro w hSw; (try dsimp only at hSw); go_simp; try with_reducible rfl)
            try simp only [Act.put, List.setIfInBounds_toArray, List.set_cons_zero, List.set_cons_succ]
            refine wpAnyH_done (by kernel_rfl) ?_ _
            have B10 := Lib.hid (B9.out.turns sC.2)
            have R5 : IeRel Wa 14 (.int .i64 (-1)) Wa := ⟨0, rfl, Nat.zero_le _, rfl, Turn.refl _ _⟩
            clear sA sC sD TD HE1 HE2 HLV HK B9 tn tl Ta
            go_wp2_with fail
            go_loopg [16] 14 (fun gh v16 wv => IeRel Wa gh v16 wv)
            case atStart => exact R5
            case round =>
              clear R5
              obtain ⟨k, rfl, hk, hgk, TV⟩ := hrel
              rename World => wv
              have C8 := B10.out.turns TV
              by_cases hk6 : k < 14
              · have t1 : decide ((k : Int) - 1 < 13) = true := decide_eq_true (kk_lt hk6)
                have e2 := wrap_dec (kk_big hk6)
                have wfk := kk_wf hk6
                have N1 := Lib.hid (C8.dd.waiting wfk)
                have N2 := Lib.hid (C8.dc.waiting C8.ids ((k : Int) - 1))
                have N3 := Lib.hid (C8.dd.lost wfk)
                have N4 := Lib.hid (C8.dc.lost C8.ids ((k : Int) - 1))
                have STEP := Lib.hid (show ∀ W, Turn (fun _ => False) wv W → IeRel Wa (14 - (k + 1)) (.int .i64 (((k + 1 : Nat) : Int) - 1)) W from fun W t => ⟨k + 1, rfl, hk6, rfl, TV.trans t⟩)
                have G5 := Lib.hid (And.intro hgk hk6)
                clear hk hgk TV hk6 C8 wfk
                generalize lenS R1.S ((k : Int) - 1) = ln at *
                generalize lostS R1.S ((k : Int) - 1) = lb at *
                have tn : ((ln : Int) != (ln : Int)) = false := by simp
                have tb : (lb != lb) = false := by cases lb <;> rfl
                go_wp2_with fail
                with_reducible refine N1.out.mono ?_
                rintro en W1 ⟨rfl, rfl⟩
                go_wp2_with fail
                with_reducible refine N2.out.mono ?_
                rintro en W1 ⟨rfl, rfl⟩
                go_wp2_with fail
                with_reducible refine N3.out.mono ?_
                rintro en W1 ⟨rfl, rfl⟩
                go_wp2_with fail
                with_reducible refine N4.out.mono ?_
                rintro en W1 ⟨rfl, rfl⟩
                go_wp2_with fail
                go_roundg (14 - (k + 1))
                case measure => have := G5.out.1; have := G5.out.2; omega
                case rel => first | exact STEP.out _ (Turn.refl _ _) | (rw [e2]; exact STEP.out _ (Turn.refl _ _))
              · have t1 : decide ((k : Int) - 1 < 13) = false := decide_eq_false (kk_ge hk6)
                have FIN := Lib.hid (show DqRel w x y d r b1 r L (min L.length 40 - (i + 1)) (.int .i64 ((i : Int) + 1)) wv from ⟨i + 1, md, ids2, R1.S, P2, congrArg (Value.int .i64) (Int.natCast_succ i).symm, G1.out.2, rfl, C8⟩)
                clear hk hgk TV hk6 C8
                go_wp2_with fail
                go_roundg (min L.length 40 - (i + 1))
                case measure => have := G1.out.1; have := G1.out.2; omega
                case rel => first | exact FIN.out | (rw [es]; exact FIN.out)
          exact AllReadyH.nil
        exact AllReadyH.nil
      exact AllReadyH.nil
    · have FIN := Lib.hid (show Below w.heap.size w wr from B.turn.below (fun k hk => ⟨hk, id⟩))
      by_cases h4 : i < L.length
      · have u1 : decide ((i : Int) < (L.length : Int)) = true := decide_eq_true (Int.ofNat_lt.2 h4)
        have u2 : decide (i < L.length) = true := decide_eq_true h4
        have u3 : decide ((i : Int) < 40) = false := decide_eq_false (by omega)
        clear hi hg hlt B HA h4
        go_wp2
        go_ret
        exact ⟨rfl, FIN.out⟩
      · have u1 : decide ((i : Int) < (L.length : Int)) = false := decide_eq_false (fun h => h4 (Int.ofNat_lt.1 h))
        have u2 : decide (i < L.length) = false := decide_eq_false h4
        clear hi hg hlt B HA h4
        go_wp2
        go_ret
        exact ⟨rfl, FIN.out⟩
end Go.Proofs.Ytepmealhnnoahaa
