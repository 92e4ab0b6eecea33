/-
  A desk does a stamped command.
-/
import Derived.Test.YtepmealhnnoahaaRj
namespace Go.Proofs.Ytepmealhnnoahaa
set_option linter.unusedSimpArgs false
open Go.ChangeShapes Go.WideShapes Go.ChangeAt Go.RowKit
set_option linter.unusedVariables false
/-- A command by what is asked: its kind, an id, how many, a ref. -/
def cmdL (k i n s g : Int) : List Value := [.int .i64 k, .int .i64 i, .int .i64 n, .int .i64 0, .int .i64 0, .int .i64 0, .int .i64 0, .int .i64 0, .int .i64 0, .int .i64 s, .int .i64 g, .slice none 0 0, .int .i64 0, .bool false]
def doR (qu ou : Int) (S : Int → Option (List Fnd × Bool)) (m : Nat) (stamp k i n s g : Int) (Os : List OutV) : Res :=
  if k = 2 then regR qu S m stamp else if k = 3 then unrR S m i else if k = 1 then ⟨pubD ou S Os, m, 0, stamp, [], pubG ou S Os ++ [(s, g)]⟩ else if k = 4 then polR S m i n else if k = 5 then ⟨S, m, 0, stamp, [], []⟩ else ⟨S, m, 1, 0, [], []⟩
section
variable {w w' : World} {d mb base : Nat} {qu ou : Int} {cnt m : Nat} {S : Int → Option (List Fnd × Bool)} {P : Nat → Prop}
theorem DAt.registerA {l : List (Int × Int)} {gbase gb : Nat} (h : DAt w d mb base qu ou cnt m S P) {i : Int} (hi : (Lit.int .i64 i).wf = true) (hcnt : cnt < maxLen) (hg : GoneAt w gbase gb l) (hgp : ∀ k, P k → k ≠ gb ∧ ¬ GB w gb k) :
    Calls Try.prog 29 #[.pointer (some ⟨d, 0, none⟩), .int .i64 i] w fun e w' => ∃ aa an ac, e = .returned (.agg #[.int .i64 (regR qu S m i).err, .int .i64 (regR qu S m i).num, .slice aa an ac]) ∧ ∃ P', Aft w w' d mb base qu ou (cnt + 1) (regR qu S m i).m (regR qu S m i).S P P' gbase gb (l ++ (regR qu S m i).gone) ∧
      MRow w' w.heap.size (fun q => ¬ P' q) (.slice aa an ac) (regR qu S m i).ms := by
  have e1 : (regR qu S m i).gone = [] ∧ (regR qu S m i).ms = [] := by unfold regR; split <;> exact ⟨rfl, rfl⟩
  rw [e1.1, e1.2, List.append_nil]
  refine (h.register (qu := qu) hi hcnt).mono ?_
  rintro e W' ⟨rfl, hd, T⟩
  have pm := h.pm
  have nm := hgp mb pm
  obtain ⟨g1, g2⟩ := gone_same hg T (fun q => nm.1 q.symm) (fun k g q => nm.2 (q ▸ g))
  exact ⟨none, 0, 0, rfl, P, ⟨hd, g1, T.more (fun k _ q => .inl (by rw [q]; exact pm)), fun k p => .inl p, fun k g => .inl (g2 k g), fun k p => ⟨(hgp k p).1, fun g => (hgp k p).2 (g2 k g)⟩, fun k p t => T.block k t.lt (fun q => by
    obtain ⟨⟨Q, F, M, c, _, h2, _⟩, _, _⟩ := h
    exact t.nmb h2 q), hgp⟩, MRow.nil _ _ _⟩
theorem DAt.unregisterA {l : List (Int × Int)} {gbase gb : Nat} (h : DAt w d mb base qu ou cnt m S P) {i : Int} (hi : (Lit.int .i64 i).wf = true) (hg : GoneAt w gbase gb l) (hgp : ∀ k, P k → k ≠ gb ∧ ¬ GB w gb k) (hn : ∀ l' lo, S i = some (l', lo) → l.length + (frefs l').length ≤ 1000000 ∧ l'.length ≤ 1000000) :
    Calls Try.prog 30 #[.pointer (some ⟨d, 0, none⟩), .int .i64 i, .func (.func 28) #[] #[.pointer (some ⟨gb, 0, none⟩)]] w fun e w' => ∃ aa an ac, e = .returned (.agg #[.int .i64 (unrR S m i).err, .int .i64 (unrR S m i).num, .slice aa an ac]) ∧ ∃ P', Aft w w' d mb base qu ou (cnt + 1) (unrR S m i).m (unrR S m i).S P P' gbase gb (l ++ (unrR S m i).gone) ∧
      MRow w' w.heap.size (fun q => ¬ P' q) (.slice aa an ac) (unrR S m i).ms := by
  have e1 : (unrR S m i).ms = [] := by unfold unrR; split <;> rfl
  rw [e1]
  refine (h.unregister hi hg hgp hn).mono ?_
  rintro e W' ⟨rfl, P', A⟩
  exact ⟨none, 0, 0, rfl, P', A, MRow.nil _ _ _⟩
theorem DAt.pollA {l : List (Int × Int)} {gbase gb : Nat} (h : DAt w d mb base qu ou cnt m S P) {i most : Int} (hi : (Lit.int .i64 i).wf = true) (hcnt : cnt < maxLen) (hg : GoneAt w gbase gb l) (hgp : ∀ k, P k → k ≠ gb ∧ ¬ GB w gb k) (hn : ∀ l' lo, S i = some (l', lo) → l.length + (frefs l').length ≤ 1000000 ∧ l'.length ≤ 1000000) :
    Calls Try.prog 32 #[.pointer (some ⟨d, 0, none⟩), .int .i64 i, .int .i64 most, .func (.func 28) #[] #[.pointer (some ⟨gb, 0, none⟩)]] w fun e w' => ∃ aa an ac, e = .returned (.agg #[.int .i64 (polR S m i most).err, .int .i64 (polR S m i most).num, .slice aa an ac]) ∧ ∃ P', Aft w w' d mb base qu ou (cnt + 1) (polR S m i most).m (polR S m i most).S P P' gbase gb (l ++ (polR S m i most).gone) ∧
      MRow w' w.heap.size (fun q => ¬ P' q) (.slice aa an ac) (polR S m i most).ms := by
  refine (h.poll hi hcnt hg hgp hn).mono ?_
  rintro e W' ⟨av, rfl, P', A, hM⟩
  obtain ⟨a, c, rfl⟩ := hM.sl
  exact ⟨a, _, c, rfl, P', A, hM⟩
theorem run_eql_map_nil (mb : Nat) (w : World) : (binOp BinOp.eql 80 (.map (some mb)) (.map none)).run Try.prog w = .ok (.bool false) w := by kernel_rfl
/-- What a command leaves. -/
structure Did (w w' : World) (d mb base : Nat) (qu ou : Int) (cnt : Nat) (P : Nat → Prop) (r : Res) (av gv : Value) (P' : Nat → Prop) : Prop where
  desk : DAt w' d mb base qu ou cnt r.m r.S P'
  turn : Turn P w w'
  ms : ∀ k, P k → MTy w k → w'.heap[k]? = w.heap[k]?
  own : ∀ k, P' k → P k ∨ w.heap.size ≤ k
  ans : MRow w' w.heap.size (fun q => ¬ P' q) av r.ms
  gone : w'.ownsRow w.heap.size 38 2 gv r.gone.length (rcells r.gone)
  apart : ∀ k, gv.ownBlock = some k → ¬ P' k
/-- .. while the call is at it: its blocks are c (the command), b8 and b12 (answers), gb (what is let go). -/
structure Mid (w wx : World) (d mb base : Nat) (qu ou : Int) (cnt : Nat) (P : Nat → Prop) (r : Res) (b8 b12 gb : Nat) (av : Value) (P' : Nat → Prop) : Prop where
  aft : Aft w wx d mb base qu ou cnt r.m r.S P P' w.heap.size gb r.gone
  ans : MRow wx w.heap.size (fun q => ¬ P' q) av r.ms
  bl8 : Blk wx b8 53
  bl12 : Blk wx b12 53
  c8 : wx.rangeAt b8 0 [.int .i64 0, .int .i64 0, .slice none 0 0]
  c12 : wx.rangeAt b12 0 [.int .i64 r.err, .int .i64 r.num, av]
theorem Mid.did {wx : World} {r : Res} {b8 b12 gb : Nat} {av gv : Value} {P' : Nat → Prop} (h : Mid w wx d mb base qu ou cnt P r b8 b12 gb av P') (h8 : w.heap.size ≤ b8) (hgb : w.heap.size ≤ gb) (hv : wx.cell? ⟨gb, 0, none⟩ = some gv) {W' : World} (T : Turn (fun k => k = b8) wx W') :
    Did w W' d mb base qu ou cnt P r av gv P' := by
  have n8 : ¬ P' b8 := h.aft.desk.no h.bl8 (by decide)
  have g8 : gb ≠ b8 := h.aft.gone.gbl.2.ne h.bl8 (by decide)
  obtain ⟨v, c0, B, ho, _⟩ := h.aft.gone
  rw [hv] at c0
  cases c0
  have hT : Turn P w wx := h.aft.turn.more (fun k hk q => by
    rcases q with q | q | ⟨u, q, _⟩
    · exact q
    · omega
    · have := block_lt_of_cell q
      dsimp only at this
      omega)
  refine ⟨h.aft.desk.turn T (fun k p e => n8 (e ▸ p)), hT.comp T (fun k hk e => by omega), fun k p t => (T.block k (Nat.lt_of_lt_of_le t.lt h.aft.turn.size) (fun e => by have := t.lt; omega)).trans (h.aft.ms k p t), h.aft.own, h.ans.turn T (fun k _ e p => n8 (e ▸ p)) (fun k hk e => (h.ans.blk hk).1.ne h.bl8 (by decide) e), own_turn ho T (fun k hk e => (own_blk ho hk).1.ne h.bl8 (by decide) e), fun k hk p => (h.aft.apart k p).2 ⟨gv, hv, hk⟩⟩
set_option maxRecDepth 100000 in
set_option maxHeartbeats 4000000 in
theorem DAt.do_close (h : DAt w d mb base qu ou cnt m S P) {stamp i n s g : Int} (v : Value) :
    Calls Try.prog 13 #[.pointer (some ⟨d, 0, none⟩), .int .i64 stamp, .agg (cmdL 5 i n s g).toArray, v] w fun e w' => ∃ av gv, e = .returned (.tuple #[.agg #[.int .i64 ((⟨S, m, 0, stamp, [], []⟩ : Res)).err, .int .i64 ((⟨S, m, 0, stamp, [], []⟩ : Res)).num, av], gv]) ∧ ∃ P', Did w w' d mb base qu ou (cnt) P ((⟨S, m, 0, stamp, [], []⟩ : Res)) av gv P' := by
  obtain ⟨W0, hW0⟩ : ∃ W0, W0 = (w.alloc (.cells (cmdL 5 i n s g).toArray 43)).alloc (.cells #[.int .i64 0, .int .i64 0, .slice none 0 0] 53) := ⟨_, rfl⟩
  have T0 : Turn (fun _ => False) w W0 := by rw [hW0]; exact ((Turn.refl _ w).alloc _).alloc _
  have R43 : W0.rangeAt w.heap.size 0 (cmdL 5 i n s g) := by rw [hW0]; exact range_turn (range_new w (cmdL 5 i n s g) 43) ((Turn.refl (fun _ => False) _).alloc _) id
  have B8 : Blk W0 (w.heap.size + 1) 53 := by
    rw [hW0]
    have := Blk.new (w.alloc (.cells (cmdL 5 i n s g).toArray 43)) [.int .i64 0, .int .i64 0, .slice none 0 0] 53
    simpa using this
  have R8 : W0.rangeAt (w.heap.size + 1) 0 [.int .i64 0, .int .i64 0, .slice none 0 0] := by
    rw [hW0]
    have := range_new (w.alloc (.cells (cmdL 5 i n s g).toArray 43)) [.int .i64 0, .int .i64 0, .slice none 0 0] 53
    simpa using this
  obtain ⟨W1, hW1⟩ : ∃ W1, W1 = (W0.alloc (.cells #[.slice none 0 0] 54)).alloc (.cells #[.int .i64 0, .int .i64 0, .slice none 0 0] 53) := ⟨_, rfl⟩
  have T1 : Turn (fun _ => False) W0 W1 := by rw [hW1]; exact ((Turn.refl _ W0).alloc _).alloc _
  have BG : Blk W1 W0.heap.size 54 := by rw [hW1]; exact (Blk.new W0 [.slice none 0 0] 54).turn ((Turn.refl (fun _ => False) _).alloc _) id
  have CG : W1.cell? ⟨W0.heap.size, 0, none⟩ = some (.slice none 0 0) := by rw [hW1]; exact past (range_new W0 [.slice none 0 0] 54 0 _ rfl)
  have B12 : Blk W1 (W0.heap.size + 1) 53 := by
    rw [hW1]
    have := Blk.new (W0.alloc (.cells #[.slice none 0 0] 54)) [.int .i64 0, .int .i64 0, .slice none 0 0] 53
    simpa using this
  have R12 : W1.rangeAt (W0.heap.size + 1) 0 [.int .i64 0, .int .i64 0, .slice none 0 0] := by
    rw [hW1]
    have := range_new (W0.alloc (.cells #[.slice none 0 0] 54)) [.int .i64 0, .int .i64 0, .slice none 0 0] 53
    simpa using this
  have TT := T0.trans T1
  have sz0 := B8.lt
  have hd1 := h.turn TT (fun _ _ q => q)
  have hG : ∀ k, ¬ GB W1 W0.heap.size k := fun k ⟨u, hu, hk⟩ => by
    rw [CG] at hu
    cases hu
    simp [Value.ownBlock] at hk
  have hg1 : GoneAt W1 w.heap.size W0.heap.size [] := ⟨_, CG, BG, ⟨rfl, .inl ⟨rfl, rfl⟩⟩, TT.size⟩
  have hgp : ∀ k, P k → k ≠ W0.heap.size ∧ ¬ GB W1 W0.heap.size k := fun k p => ⟨fun e => by have := h.lt p; omega, hG k⟩
  have A0 : Aft w W1 d mb base qu ou cnt m S P P w.heap.size W0.heap.size [] := ⟨hd1, hg1, TT.more (fun _ _ q => q.elim), fun k p => .inl p, fun k q => absurd q (hG k), hgp, fun k _ t => TT.block k t.lt id, fun k p => ⟨fun e => by have := h.lt p; omega, fun ⟨u, q, _⟩ => by
    have := block_lt_of_cell q
    dsimp only at this
    omega⟩⟩
  have c7 : W0.cell? ⟨d, 7, none⟩ = some (.map (some mb)) := by
    obtain ⟨⟨Q, F, M, c, h1, h2, h3⟩, hb, hc⟩ := h
    exact (h2.keep T0).c7
  have r1 := range_turn R43 T1 id
  have k0 : W1.cell? ⟨w.heap.size, 0, none⟩ = some (.int .i64 5) := r1 0 _ rfl

  have MID0 := Lib.hid (show (∀ k, ¬ GB W1 W0.heap.size k) ∧ W1.rangeAt (w.heap.size + 1) 0 [.int .i64 0, .int .i64 0, .slice none 0 0] ∧ Blk W1 (w.heap.size + 1) 53 ∧ w.heap.size ≤ W0.heap.size ∧ Blk W1 (W0.heap.size + 1) 53 ∧ W1.rangeAt (W0.heap.size + 1) 0 [.int .i64 0, .int .i64 0, .slice none 0 0] ∧ w.heap.size + 1 < W0.heap.size from ⟨hG, range_turn R8 T1 id, B8.turn T1 id, T0.size, B12, R12, sz0⟩)
  have X := Lib.hid (And.intro h (And.intro hd1 (And.intro hg1 (And.intro hgp A0))))
  clear T0 R43 B8 R8 T1 BG CG B12 R12 TT hd1 hG hg1 hgp A0 r1 sz0 h
  have HE := run_eql_map_nil mb
  unfold cmdL at hW0 ⊢
  go_enter Try.func13, Try.ntmps13
  go_upto_region 1 with fail
  rw [← hW0]
  clear hW0
  go_upto_region 6 with fail
  rw [← hW1]
  clear hW1 c7
  generalize hb1 : w.heap.size + 1 = b8 at *
  generalize hg0 : W0.heap.size = gb at *
  generalize hb12 : gb + 1 = b12 at *
  obtain ⟨hG, R8, B8, hsz, B12, R12, hlt8⟩ := MID0.out
  have y1 : W1.cell? ⟨b12, 1, none⟩ = some (.int .i64 0) := R12 1 _ rfl
  have fz := B12.fz 1
  obtain ⟨h, hd1, hg1, hgp, A0⟩ := X.out
  have TP : Turn (fun k => k = b12) W1 (W1.setCell ⟨b12, 1, none⟩ (.int .i64 stamp)) := Turn.put _ _ _ _
  have MD : Mid w (W1.setCell ⟨b12, 1, none⟩ (.int .i64 stamp)) d mb base qu ou cnt P ⟨S, m, 0, stamp, [], []⟩ b8 b12 gb (.slice none 0 0) P := by
    refine ⟨A0.quiet TP (fun k p e => hd1.no B12 (by decide) (e ▸ p)) (by omega) (fun k g => absurd g (hG k)) (fun k hk e => by omega), MRow.nil _ _ _, B8.set _ _, B12.set _ _, range_turn R8 TP (by omega), fun j u hu => ?_⟩
    match j, hu with
    | 0, hu => cases hu; exact (cell_off _ _ _ _ _ (by decide)).trans (R12 0 _ rfl)
    | 1, hu => cases hu; exact World.cell?_setCell_same _ _ _ y1
    | 2, hu => cases hu; exact (cell_off _ _ _ _ _ (by decide)).trans (R12 2 _ rfl)
  clear hG R8 hsz R12 h hd1 hg1 hgp A0 TP B8 B12 hlt8
  generalize hV : W1.setCell ⟨b12, 1, none⟩ (.int .i64 stamp) = V at MD
  have HV := Lib.hid hV
  clear hV
  go_upto_region 20 with fail
  rw [HV.out]
  clear y1 fz k0
  obtain ⟨aa, an, ac, MD⟩ : ∃ aa an ac, Mid w V d mb base qu ou cnt P ⟨S, m, 0, stamp, [], []⟩ b8 b12 gb (.slice aa an ac) P := ⟨none, 0, 0, MD⟩
  obtain ⟨gv, cg, ⟨BGx, _⟩⟩ := (show ∃ gv, V.cell? ⟨gb, 0, none⟩ = some gv ∧ (Blk V gb 54 ∧ True) from by
    obtain ⟨gv, h1, h2, _⟩ := MD.aft.gone
    exact ⟨gv, h1, h2, trivial⟩)
  obtain ⟨ga, gn, gc, rfl⟩ : ∃ ga gn gc, gv = .slice ga gn gc := by
    obtain ⟨v, h1, _, h3, _⟩ := MD.aft.gone
    rw [cg] at h1
    cases h1
    obtain ⟨a, c, e, _⟩ := own_slice h3
    exact ⟨a, _, c, e⟩
  have c12 := MD.c12
  have n12 : b8 ≠ b12 := by have := MID0.out.2.2.2.2.2.2; omega
  have n8g : gb ≠ b8 := BGx.ne MD.bl8 (by decide)
  have TV : Turn (fun _ => False) V V.drew := (Turn.refl _ V).drewN 1
  have T8 : Turn (fun k => k = b8) V (V.drew.setCells b8 0 [.int .i64 ((⟨S, m, 0, stamp, [], []⟩ : Res)).err, .int .i64 ((⟨S, m, 0, stamp, [], []⟩ : Res)).num, .slice aa an ac]) := (TV.more (fun _ _ q => q.elim)).trans (Turn.setCells _ 0 (Turn.refl _ _) (.inl rfl))
  have P1 : V.drew.cell? ⟨gb, 0, none⟩ = some (.slice ga gn gc) ∧ V.drew.rangeAt b12 0 [.int .i64 ((⟨S, m, 0, stamp, [], []⟩ : Res)).err, .int .i64 ((⟨S, m, 0, stamp, [], []⟩ : Res)).num, .slice aa an ac] := ⟨cg, c12⟩
  have P2 : (V.drew.setCells b8 0 [.int .i64 ((⟨S, m, 0, stamp, [], []⟩ : Res)).err, .int .i64 ((⟨S, m, 0, stamp, [], []⟩ : Res)).num, .slice aa an ac]).cell? ⟨gb, 0, none⟩ = some (.slice ga gn gc) ∧ (V.drew.setCells b8 0 [.int .i64 ((⟨S, m, 0, stamp, [], []⟩ : Res)).err, .int .i64 ((⟨S, m, 0, stamp, [], []⟩ : Res)).num, .slice aa an ac]).rangeAt b12 0 [.int .i64 ((⟨S, m, 0, stamp, [], []⟩ : Res)).err, .int .i64 ((⟨S, m, 0, stamp, [], []⟩ : Res)).num, .slice aa an ac] := ⟨T8.cell n8g cg, range_turn c12 T8 (fun e => n12 e.symm)⟩
  have TH := Lib.hid (show V.drew.there b8 0 3 from range_there (range_turn MD.c8 TV id) rfl (MD.bl8.turn TV id))
  have DID := Lib.hid (MD.did (by omega) MID0.out.2.2.2.1 cg T8)
  clear MD cg c12 T8 TV BGx
  refine wp_region_held_drew (S := (fun w' => w'.cell? ⟨gb, 0, none⟩ = some (.slice ga gn gc) ∧ w'.rangeAt b12 0 [.int .i64 ((⟨S, m, 0, stamp, [], []⟩ : Res)).err, .int .i64 ((⟨S, m, 0, stamp, [], []⟩ : Res)).num, .slice aa an ac])) (by kernel_rfl) ?hs0 (fun hS0 => ?_)
  case hs0 => ((try dsimp only); first | with_reducible exact P1 | with_reducible exact P2 | exact P1 | exact P2)
  refine wpAnyH_take (i := 0) (oi := { dst := some 66, op := Op.load 53 (Operand.tmp 12), type := 53, pos := "queue.go:58", after := #[], guard := none }) (v := .agg #[.int .i64 ((⟨S, m, 0, stamp, [], []⟩ : Res)).err, .int .i64 ((⟨S, m, 0, stamp, [], []⟩ : Res)).num, .slice aa an ac]) rfl (by kernel_rfl) (by kernel_rfl) (by kernel_rfl) (fun _ _ _ h => h) (yieldsIf_load_mid rfl 53 _ rfl b12 0 rfl [.int .i64 ((⟨S, m, 0, stamp, [], []⟩ : Res)).err, .int .i64 ((⟨S, m, 0, stamp, [], []⟩ : Res)).num, .slice aa an ac] _ (fun _ hSw => hSw.2) Try.underlying53 rfl size53) hS0 ?_
  try simp only [Act.put, List.setIfInBounds_toArray, List.set_cons_zero, List.set_cons_succ]
  refine wpAnyH_take (i := 1) (oi := { dst := some 67, op := Op.load 54 (Operand.tmp 10), type := 54, pos := "queue.go:58", after := #[{ on := 2, ground := Ground.gcOnly Departure.lateStores }], guard := none }) (v := ?_) rfl (by kernel_rfl) (by kernel_rfl) (by kernel_rfl) (fun _ _ _ h => h) (Or.inl ⟨by rfl, ?hy2⟩) hS0 ?_
  case hy2 => (intro w hSw; (try dsimp only at hSw); go_simp; try with_reducible rfl)
  try simp only [Act.put, List.setIfInBounds_toArray, List.set_cons_zero, List.set_cons_succ]
  refine wpAnyH_ready (rs := [2]) (by kernel_rfl) (by simp) ?_
  refine AllReadyH.cons (o := { dst := none, op := Op.store 53 (Operand.tmp 8) (Operand.tmp 66), type := 0, pos := "queue.go:58", after := #[{ on := 0, ground := Ground.data }, { on := 0, ground := Ground.phase }, { on := 1, ground := Ground.textOnly Departure.lateStores }], guard := none }) rfl (fun K hK => ?_) ?_
  · refine wp_store_mid 53 _ _ rfl b8 0 #[.int .i64 ((⟨S, m, 0, stamp, [], []⟩ : Res)).err, .int .i64 ((⟨S, m, 0, stamp, [], []⟩ : Res)).num, .slice aa an ac] rfl rfl TH.out size53 (by simp [Value.oneCell']) ?_
    refine hK.out _ _ ?hs3 (fun hS3 => ?_)
    case hs3 => ((try dsimp only); first | with_reducible exact P1 | with_reducible exact P2 | exact P1 | exact P2)
    clear hK K hS0
    refine wpAnyH_take (i := 3) (oi := { dst := some 9, op := Op.assign (Operand.tmp 67), type := 54, pos := "queue.go:58", after := #[{ on := 1, ground := Ground.data }, { on := 2, ground := Ground.chain }, { on := 0, ground := Ground.phase }, { on := 1, ground := Ground.phase }, { on := 2, ground := Ground.phase }], guard := none }) (v := ?_) rfl (by kernel_rfl) (by kernel_rfl) (by kernel_rfl) (fun _ _ _ h => h) (Or.inl ⟨by rfl, ?hy4⟩) hS3 ?_
    case hy4 => (intro w hSw; (try dsimp only at hSw); go_simp; try with_reducible rfl)
    try simp only [Act.put, List.setIfInBounds_toArray, List.set_cons_zero, List.set_cons_succ]
    refine wpAnyH_done (by kernel_rfl) ?_ _
    go_wp2_with fail
    exact bodyPost_ret (v := .tuple #[.agg #[.int .i64 ((⟨S, m, 0, stamp, [], []⟩ : Res)).err, .int .i64 ((⟨S, m, 0, stamp, [], []⟩ : Res)).num, .slice aa an ac], .slice ga gn gc]) (res_cell_tmp (a := 8) (k := 9) rfl rfl rfl (run_loadVar_mid _ b8 0 53 _ _ (World.rangeAt_setCells_same _ b8 0 _ TH.out) Try.underlying53 rfl size53)) rfl ⟨_, _, rfl, _, DID.out⟩
  exact AllReadyH.nil
set_option maxRecDepth 100000 in
set_option maxHeartbeats 4000000 in
theorem DAt.do_reg (h : DAt w d mb base qu ou cnt m S P) {stamp i n s g : Int} (hs : (Lit.int .i64 stamp).wf = true) (hcnt : cnt < maxLen) (v : Value) :
    Calls Try.prog 13 #[.pointer (some ⟨d, 0, none⟩), .int .i64 stamp, .agg (cmdL 2 i n s g).toArray, v] w fun e w' => ∃ av gv, e = .returned (.tuple #[.agg #[.int .i64 (regR qu S m stamp).err, .int .i64 (regR qu S m stamp).num, av], gv]) ∧ ∃ P', Did w w' d mb base qu ou (cnt + 1) P (regR qu S m stamp) av gv P' := by
  obtain ⟨W0, hW0⟩ : ∃ W0, W0 = (w.alloc (.cells (cmdL 2 i n s g).toArray 43)).alloc (.cells #[.int .i64 0, .int .i64 0, .slice none 0 0] 53) := ⟨_, rfl⟩
  have T0 : Turn (fun _ => False) w W0 := by rw [hW0]; exact ((Turn.refl _ w).alloc _).alloc _
  have R43 : W0.rangeAt w.heap.size 0 (cmdL 2 i n s g) := by rw [hW0]; exact range_turn (range_new w (cmdL 2 i n s g) 43) ((Turn.refl (fun _ => False) _).alloc _) id
  have B8 : Blk W0 (w.heap.size + 1) 53 := by
    rw [hW0]
    have := Blk.new (w.alloc (.cells (cmdL 2 i n s g).toArray 43)) [.int .i64 0, .int .i64 0, .slice none 0 0] 53
    simpa using this
  have R8 : W0.rangeAt (w.heap.size + 1) 0 [.int .i64 0, .int .i64 0, .slice none 0 0] := by
    rw [hW0]
    have := range_new (w.alloc (.cells (cmdL 2 i n s g).toArray 43)) [.int .i64 0, .int .i64 0, .slice none 0 0] 53
    simpa using this
  obtain ⟨W1, hW1⟩ : ∃ W1, W1 = (W0.alloc (.cells #[.slice none 0 0] 54)).alloc (.cells #[.int .i64 0, .int .i64 0, .slice none 0 0] 53) := ⟨_, rfl⟩
  have T1 : Turn (fun _ => False) W0 W1 := by rw [hW1]; exact ((Turn.refl _ W0).alloc _).alloc _
  have BG : Blk W1 W0.heap.size 54 := by rw [hW1]; exact (Blk.new W0 [.slice none 0 0] 54).turn ((Turn.refl (fun _ => False) _).alloc _) id
  have CG : W1.cell? ⟨W0.heap.size, 0, none⟩ = some (.slice none 0 0) := by rw [hW1]; exact past (range_new W0 [.slice none 0 0] 54 0 _ rfl)
  have B12 : Blk W1 (W0.heap.size + 1) 53 := by
    rw [hW1]
    have := Blk.new (W0.alloc (.cells #[.slice none 0 0] 54)) [.int .i64 0, .int .i64 0, .slice none 0 0] 53
    simpa using this
  have R12 : W1.rangeAt (W0.heap.size + 1) 0 [.int .i64 0, .int .i64 0, .slice none 0 0] := by
    rw [hW1]
    have := range_new (W0.alloc (.cells #[.slice none 0 0] 54)) [.int .i64 0, .int .i64 0, .slice none 0 0] 53
    simpa using this
  have TT := T0.trans T1
  have sz0 := B8.lt
  have hd1 := h.turn TT (fun _ _ q => q)
  have hG : ∀ k, ¬ GB W1 W0.heap.size k := fun k ⟨u, hu, hk⟩ => by
    rw [CG] at hu
    cases hu
    simp [Value.ownBlock] at hk
  have hg1 : GoneAt W1 w.heap.size W0.heap.size [] := ⟨_, CG, BG, ⟨rfl, .inl ⟨rfl, rfl⟩⟩, TT.size⟩
  have hgp : ∀ k, P k → k ≠ W0.heap.size ∧ ¬ GB W1 W0.heap.size k := fun k p => ⟨fun e => by have := h.lt p; omega, hG k⟩
  have A0 : Aft w W1 d mb base qu ou cnt m S P P w.heap.size W0.heap.size [] := ⟨hd1, hg1, TT.more (fun _ _ q => q.elim), fun k p => .inl p, fun k q => absurd q (hG k), hgp, fun k _ t => TT.block k t.lt id, fun k p => ⟨fun e => by have := h.lt p; omega, fun ⟨u, q, _⟩ => by
    have := block_lt_of_cell q
    dsimp only at this
    omega⟩⟩
  have c7 : W0.cell? ⟨d, 7, none⟩ = some (.map (some mb)) := by
    obtain ⟨⟨Q, F, M, c, h1, h2, h3⟩, hb, hc⟩ := h
    exact (h2.keep T0).c7
  have r1 := range_turn R43 T1 id
  have k0 : W1.cell? ⟨w.heap.size, 0, none⟩ = some (.int .i64 2) := r1 0 _ rfl

  have MID0 := Lib.hid (show (∀ k, ¬ GB W1 W0.heap.size k) ∧ W1.rangeAt (w.heap.size + 1) 0 [.int .i64 0, .int .i64 0, .slice none 0 0] ∧ Blk W1 (w.heap.size + 1) 53 ∧ w.heap.size ≤ W0.heap.size ∧ Blk W1 (W0.heap.size + 1) 53 ∧ W1.rangeAt (W0.heap.size + 1) 0 [.int .i64 0, .int .i64 0, .slice none 0 0] ∧ w.heap.size + 1 < W0.heap.size from ⟨hG, range_turn R8 T1 id, B8.turn T1 id, T0.size, B12, R12, sz0⟩)
  have X := Lib.hid (And.intro h (And.intro hd1 (And.intro hg1 (And.intro hgp A0))))
  clear T0 R43 B8 R8 T1 BG CG B12 R12 TT hd1 hG hg1 hgp A0 r1 sz0 h
  have HE := run_eql_map_nil mb
  unfold cmdL at hW0 ⊢
  go_enter Try.func13, Try.ntmps13
  go_upto_region 1 with fail
  rw [← hW0]
  clear hW0
  go_upto_region 6 with fail
  rw [← hW1]
  clear hW1 c7
  generalize hb1 : w.heap.size + 1 = b8 at *
  generalize hg0 : W0.heap.size = gb at *
  generalize hb12 : gb + 1 = b12 at *
  obtain ⟨hG, R8, B8, hsz, B12, R12, hlt8⟩ := MID0.out
  obtain ⟨h, hd1, hg1, hgp, A0⟩ := X.out
  have C := Lib.hid (hd1.registerA hs hcnt hg1 hgp)
  have h0 := Aft.refl hd1 hg1 hgp
  have KB := Lib.hid (show ∀ (cnt' m' : Nat) (S' : Int → Option (List Fnd × Bool)) (P' : Nat → Prop) (l' : List (Int × Int)) (W2 : World), Aft W1 W2 d mb base qu ou cnt' m' S' P P' w.heap.size gb l' → (W2.rangeAt b8 0 [.int .i64 0, .int .i64 0, .slice none 0 0] ∧ Blk W2 b8 53) ∧ (W2.rangeAt b12 0 [.int .i64 0, .int .i64 0, .slice none 0 0] ∧ Blk W2 b12 53) from fun _ _ _ _ _ _ A => by
    have n8 := h0.no B8 (by decide)
    have n12 := h0.no B12 (by decide)
    exact ⟨⟨range_turn R8 A.turn n8, B8.turn A.turn n8⟩, range_turn R12 A.turn n12, B12.turn A.turn n12⟩)
  clear hG R8 B8 hsz B12 R12 hlt8 h hd1 hg1 hgp A0 h0
  go_wp2_with fail
  with_reducible refine C.out.mono ?_
  clear C
  rintro en W2 ⟨aa, an, ac, rfl, P', A1, hMR⟩
  obtain ⟨⟨R8, B8⟩, R12, B12⟩ := KB.out _ _ _ _ _ _ A1
  have y0 : W2.cell? ⟨b12, 0, none⟩ = some (.int .i64 0) := R12 0 _ rfl
  have y1 : W2.cell? ⟨b12, 1, none⟩ = some (.int .i64 0) := R12 1 _ rfl
  have y2 : W2.cell? ⟨b12, 2, none⟩ = some (.slice none 0 0) := R12 2 _ rfl
  have fz0 := B12.fz 0
  have fz1 := B12.fz 1
  have fz2 := B12.fz 2
  have A2 := X.out.2.2.2.2.step A1
  have TP : Turn (fun k => k = b12) W2 (W2.setCells b12 0 [.int .i64 (regR qu S m stamp).err, .int .i64 (regR qu S m stamp).num, .slice aa an ac]) := Turn.setCells _ 0 (Turn.refl _ _) (.inl rfl)
  have MD : Mid w (W2.setCells b12 0 [.int .i64 (regR qu S m stamp).err, .int .i64 (regR qu S m stamp).num, .slice aa an ac]) d mb base qu ou (cnt + 1) P (regR qu S m stamp) b8 b12 gb (.slice aa an ac) P' := by
    have hlt8 := MID0.out.2.2.2.2.2.2
    have hsz := MID0.out.2.2.2.1
    refine ⟨A2.quiet TP (fun k p e => A2.desk.no B12 (by decide) (e ▸ p)) (by omega) (fun k g e => (A2.gone.blk g).1.ne B12 (by decide) e) (fun k hk e => by omega), ?_, Blk.setCells _ _ B8, Blk.setCells _ _ B12, range_turn R8 TP (by omega), World.rangeAt_setCells_same _ b12 0 _ (range_there R12 rfl B12)⟩
    have := hMR.turn TP (fun k _ e p => A2.desk.no B12 (by decide) (e ▸ p)) (fun k hk e => (hMR.blk hk).1.ne B12 (by decide) e)
    obtain ⟨ps, g1, g2, g3⟩ := this.ex
    exact ⟨ps, g1, own_low g2 (by have := X.out.2.2.2.2.turn.size; omega), g3⟩
  have MD := Lib.hid MD
  clear A1 hMR R8 B8 R12 B12 A2 TP
  go_upto_region 20 with fail
  clear y0 y1 y2 fz0 fz1 fz2 k0 KB
  have MD := MD.out
  refine (show Code.wp _ _ _ _ (W2.setCells b12 0 [.int .i64 (regR qu S m stamp).err, .int .i64 (regR qu S m stamp).num, .slice aa an ac]) from ?_)
  generalize W2.setCells b12 0 [.int .i64 (regR qu S m stamp).err, .int .i64 (regR qu S m stamp).num, .slice aa an ac] = V at *
  obtain ⟨gv, cg, ⟨BGx, _⟩⟩ := (show ∃ gv, V.cell? ⟨gb, 0, none⟩ = some gv ∧ (Blk V gb 54 ∧ True) from by
    obtain ⟨gv, h1, h2, _⟩ := MD.aft.gone
    exact ⟨gv, h1, h2, trivial⟩)
  obtain ⟨ga, gn, gc, rfl⟩ : ∃ ga gn gc, gv = .slice ga gn gc := by
    obtain ⟨v, h1, _, h3, _⟩ := MD.aft.gone
    rw [cg] at h1
    cases h1
    obtain ⟨a, c, e, _⟩ := own_slice h3
    exact ⟨a, _, c, e⟩
  have c12 := MD.c12
  have n12 : b8 ≠ b12 := by have := MID0.out.2.2.2.2.2.2; omega
  have n8g : gb ≠ b8 := BGx.ne MD.bl8 (by decide)
  have TV : Turn (fun _ => False) V V.drew := (Turn.refl _ V).drewN 1
  have T8 : Turn (fun k => k = b8) V (V.drew.setCells b8 0 [.int .i64 (regR qu S m stamp).err, .int .i64 (regR qu S m stamp).num, .slice aa an ac]) := (TV.more (fun _ _ q => q.elim)).trans (Turn.setCells _ 0 (Turn.refl _ _) (.inl rfl))
  have P1 : V.drew.cell? ⟨gb, 0, none⟩ = some (.slice ga gn gc) ∧ V.drew.rangeAt b12 0 [.int .i64 (regR qu S m stamp).err, .int .i64 (regR qu S m stamp).num, .slice aa an ac] := ⟨cg, c12⟩
  have P2 : (V.drew.setCells b8 0 [.int .i64 (regR qu S m stamp).err, .int .i64 (regR qu S m stamp).num, .slice aa an ac]).cell? ⟨gb, 0, none⟩ = some (.slice ga gn gc) ∧ (V.drew.setCells b8 0 [.int .i64 (regR qu S m stamp).err, .int .i64 (regR qu S m stamp).num, .slice aa an ac]).rangeAt b12 0 [.int .i64 (regR qu S m stamp).err, .int .i64 (regR qu S m stamp).num, .slice aa an ac] := ⟨T8.cell n8g cg, range_turn c12 T8 (fun e => n12 e.symm)⟩
  have TH := Lib.hid (show V.drew.there b8 0 3 from range_there (range_turn MD.c8 TV id) rfl (MD.bl8.turn TV id))
  have DID := Lib.hid (MD.did (by omega) MID0.out.2.2.2.1 cg T8)
  clear MD cg c12 T8 TV BGx
  refine wp_region_held_drew (S := (fun w' => w'.cell? ⟨gb, 0, none⟩ = some (.slice ga gn gc) ∧ w'.rangeAt b12 0 [.int .i64 (regR qu S m stamp).err, .int .i64 (regR qu S m stamp).num, .slice aa an ac])) (by kernel_rfl) ?hs0 (fun hS0 => ?_)
  case hs0 => ((try dsimp only); first | with_reducible exact P1 | with_reducible exact P2 | exact P1 | exact P2)
  refine wpAnyH_take (i := 0) (oi := { dst := some 66, op := Op.load 53 (Operand.tmp 12), type := 53, pos := "queue.go:58", after := #[], guard := none }) (v := .agg #[.int .i64 (regR qu S m stamp).err, .int .i64 (regR qu S m stamp).num, .slice aa an ac]) rfl (by kernel_rfl) (by kernel_rfl) (by kernel_rfl) (fun _ _ _ h => h) (yieldsIf_load_mid rfl 53 _ rfl b12 0 rfl [.int .i64 (regR qu S m stamp).err, .int .i64 (regR qu S m stamp).num, .slice aa an ac] _ (fun _ hSw => hSw.2) Try.underlying53 rfl size53) hS0 ?_
  try simp only [Act.put, List.setIfInBounds_toArray, List.set_cons_zero, List.set_cons_succ]
  refine wpAnyH_take (i := 1) (oi := { dst := some 67, op := Op.load 54 (Operand.tmp 10), type := 54, pos := "queue.go:58", after := #[{ on := 2, ground := Ground.gcOnly Departure.lateStores }], guard := none }) (v := ?_) rfl (by kernel_rfl) (by kernel_rfl) (by kernel_rfl) (fun _ _ _ h => h) (Or.inl ⟨by rfl, ?hy2⟩) hS0 ?_
  case hy2 => (intro w hSw; (try dsimp only at hSw); go_simp; try with_reducible rfl)
  try simp only [Act.put, List.setIfInBounds_toArray, List.set_cons_zero, List.set_cons_succ]
  refine wpAnyH_ready (rs := [2]) (by kernel_rfl) (by simp) ?_
  refine AllReadyH.cons (o := { dst := none, op := Op.store 53 (Operand.tmp 8) (Operand.tmp 66), type := 0, pos := "queue.go:58", after := #[{ on := 0, ground := Ground.data }, { on := 0, ground := Ground.phase }, { on := 1, ground := Ground.textOnly Departure.lateStores }], guard := none }) rfl (fun K hK => ?_) ?_
  · refine wp_store_mid 53 _ _ rfl b8 0 #[.int .i64 (regR qu S m stamp).err, .int .i64 (regR qu S m stamp).num, .slice aa an ac] rfl rfl TH.out size53 (by simp [Value.oneCell']) ?_
    refine hK.out _ _ ?hs3 (fun hS3 => ?_)
    case hs3 => ((try dsimp only); first | with_reducible exact P1 | with_reducible exact P2 | exact P1 | exact P2)
    clear hK K hS0
    refine wpAnyH_take (i := 3) (oi := { dst := some 9, op := Op.assign (Operand.tmp 67), type := 54, pos := "queue.go:58", after := #[{ on := 1, ground := Ground.data }, { on := 2, ground := Ground.chain }, { on := 0, ground := Ground.phase }, { on := 1, ground := Ground.phase }, { on := 2, ground := Ground.phase }], guard := none }) (v := ?_) rfl (by kernel_rfl) (by kernel_rfl) (by kernel_rfl) (fun _ _ _ h => h) (Or.inl ⟨by rfl, ?hy4⟩) hS3 ?_
    case hy4 => (intro w hSw; (try dsimp only at hSw); go_simp; try with_reducible rfl)
    try simp only [Act.put, List.setIfInBounds_toArray, List.set_cons_zero, List.set_cons_succ]
    refine wpAnyH_done (by kernel_rfl) ?_ _
    go_wp2_with fail
    exact bodyPost_ret (v := .tuple #[.agg #[.int .i64 (regR qu S m stamp).err, .int .i64 (regR qu S m stamp).num, .slice aa an ac], .slice ga gn gc]) (res_cell_tmp (a := 8) (k := 9) rfl rfl rfl (run_loadVar_mid _ b8 0 53 _ _ (World.rangeAt_setCells_same _ b8 0 _ TH.out) Try.underlying53 rfl size53)) rfl ⟨_, _, rfl, _, DID.out⟩
  exact AllReadyH.nil
set_option maxRecDepth 100000 in
set_option maxHeartbeats 4000000 in
theorem DAt.do_unr (h : DAt w d mb base qu ou cnt m S P) {stamp i n s g : Int} (hi : (Lit.int .i64 i).wf = true) (hn : ∀ l' lo, S i = some (l', lo) → (frefs l').length ≤ 1000000 ∧ l'.length ≤ 1000000) (v : Value) :
    Calls Try.prog 13 #[.pointer (some ⟨d, 0, none⟩), .int .i64 stamp, .agg (cmdL 3 i n s g).toArray, v] w fun e w' => ∃ av gv, e = .returned (.tuple #[.agg #[.int .i64 (unrR S m i).err, .int .i64 (unrR S m i).num, av], gv]) ∧ ∃ P', Did w w' d mb base qu ou (cnt + 1) P (unrR S m i) av gv P' := by
  obtain ⟨W0, hW0⟩ : ∃ W0, W0 = (w.alloc (.cells (cmdL 3 i n s g).toArray 43)).alloc (.cells #[.int .i64 0, .int .i64 0, .slice none 0 0] 53) := ⟨_, rfl⟩
  have T0 : Turn (fun _ => False) w W0 := by rw [hW0]; exact ((Turn.refl _ w).alloc _).alloc _
  have R43 : W0.rangeAt w.heap.size 0 (cmdL 3 i n s g) := by rw [hW0]; exact range_turn (range_new w (cmdL 3 i n s g) 43) ((Turn.refl (fun _ => False) _).alloc _) id
  have B8 : Blk W0 (w.heap.size + 1) 53 := by
    rw [hW0]
    have := Blk.new (w.alloc (.cells (cmdL 3 i n s g).toArray 43)) [.int .i64 0, .int .i64 0, .slice none 0 0] 53
    simpa using this
  have R8 : W0.rangeAt (w.heap.size + 1) 0 [.int .i64 0, .int .i64 0, .slice none 0 0] := by
    rw [hW0]
    have := range_new (w.alloc (.cells (cmdL 3 i n s g).toArray 43)) [.int .i64 0, .int .i64 0, .slice none 0 0] 53
    simpa using this
  obtain ⟨W1, hW1⟩ : ∃ W1, W1 = (W0.alloc (.cells #[.slice none 0 0] 54)).alloc (.cells #[.int .i64 0, .int .i64 0, .slice none 0 0] 53) := ⟨_, rfl⟩
  have T1 : Turn (fun _ => False) W0 W1 := by rw [hW1]; exact ((Turn.refl _ W0).alloc _).alloc _
  have BG : Blk W1 W0.heap.size 54 := by rw [hW1]; exact (Blk.new W0 [.slice none 0 0] 54).turn ((Turn.refl (fun _ => False) _).alloc _) id
  have CG : W1.cell? ⟨W0.heap.size, 0, none⟩ = some (.slice none 0 0) := by rw [hW1]; exact past (range_new W0 [.slice none 0 0] 54 0 _ rfl)
  have B12 : Blk W1 (W0.heap.size + 1) 53 := by
    rw [hW1]
    have := Blk.new (W0.alloc (.cells #[.slice none 0 0] 54)) [.int .i64 0, .int .i64 0, .slice none 0 0] 53
    simpa using this
  have R12 : W1.rangeAt (W0.heap.size + 1) 0 [.int .i64 0, .int .i64 0, .slice none 0 0] := by
    rw [hW1]
    have := range_new (W0.alloc (.cells #[.slice none 0 0] 54)) [.int .i64 0, .int .i64 0, .slice none 0 0] 53
    simpa using this
  have TT := T0.trans T1
  have sz0 := B8.lt
  have hd1 := h.turn TT (fun _ _ q => q)
  have hG : ∀ k, ¬ GB W1 W0.heap.size k := fun k ⟨u, hu, hk⟩ => by
    rw [CG] at hu
    cases hu
    simp [Value.ownBlock] at hk
  have hg1 : GoneAt W1 w.heap.size W0.heap.size [] := ⟨_, CG, BG, ⟨rfl, .inl ⟨rfl, rfl⟩⟩, TT.size⟩
  have hgp : ∀ k, P k → k ≠ W0.heap.size ∧ ¬ GB W1 W0.heap.size k := fun k p => ⟨fun e => by have := h.lt p; omega, hG k⟩
  have A0 : Aft w W1 d mb base qu ou cnt m S P P w.heap.size W0.heap.size [] := ⟨hd1, hg1, TT.more (fun _ _ q => q.elim), fun k p => .inl p, fun k q => absurd q (hG k), hgp, fun k _ t => TT.block k t.lt id, fun k p => ⟨fun e => by have := h.lt p; omega, fun ⟨u, q, _⟩ => by
    have := block_lt_of_cell q
    dsimp only at this
    omega⟩⟩
  have c7 : W0.cell? ⟨d, 7, none⟩ = some (.map (some mb)) := by
    obtain ⟨⟨Q, F, M, c, h1, h2, h3⟩, hb, hc⟩ := h
    exact (h2.keep T0).c7
  have r1 := range_turn R43 T1 id
  have k0 : W1.cell? ⟨w.heap.size, 0, none⟩ = some (.int .i64 3) := r1 0 _ rfl
  have k1 : W1.cell? ⟨w.heap.size, 1, none⟩ = some (.int .i64 i) := r1 1 _ rfl
  have MID0 := Lib.hid (show (∀ k, ¬ GB W1 W0.heap.size k) ∧ W1.rangeAt (w.heap.size + 1) 0 [.int .i64 0, .int .i64 0, .slice none 0 0] ∧ Blk W1 (w.heap.size + 1) 53 ∧ w.heap.size ≤ W0.heap.size ∧ Blk W1 (W0.heap.size + 1) 53 ∧ W1.rangeAt (W0.heap.size + 1) 0 [.int .i64 0, .int .i64 0, .slice none 0 0] ∧ w.heap.size + 1 < W0.heap.size from ⟨hG, range_turn R8 T1 id, B8.turn T1 id, T0.size, B12, R12, sz0⟩)
  have X := Lib.hid (And.intro h (And.intro hd1 (And.intro hg1 (And.intro hgp A0))))
  clear T0 R43 B8 R8 T1 BG CG B12 R12 TT hd1 hG hg1 hgp A0 r1 sz0 h
  have HE := run_eql_map_nil mb
  unfold cmdL at hW0 ⊢
  go_enter Try.func13, Try.ntmps13
  go_upto_region 1 with fail
  rw [← hW0]
  clear hW0
  go_upto_region 6 with fail
  rw [← hW1]
  clear hW1 c7
  generalize hb1 : w.heap.size + 1 = b8 at *
  generalize hg0 : W0.heap.size = gb at *
  generalize hb12 : gb + 1 = b12 at *
  obtain ⟨hG, R8, B8, hsz, B12, R12, hlt8⟩ := MID0.out
  obtain ⟨h, hd1, hg1, hgp, A0⟩ := X.out
  have C := Lib.hid (hd1.unregisterA hi hg1 hgp (fun l' lo e => by have := hn l' lo e; simpa using this))
  have h0 := Aft.refl hd1 hg1 hgp
  have KB := Lib.hid (show ∀ (cnt' m' : Nat) (S' : Int → Option (List Fnd × Bool)) (P' : Nat → Prop) (l' : List (Int × Int)) (W2 : World), Aft W1 W2 d mb base qu ou cnt' m' S' P P' w.heap.size gb l' → (W2.rangeAt b8 0 [.int .i64 0, .int .i64 0, .slice none 0 0] ∧ Blk W2 b8 53) ∧ (W2.rangeAt b12 0 [.int .i64 0, .int .i64 0, .slice none 0 0] ∧ Blk W2 b12 53) from fun _ _ _ _ _ _ A => by
    have n8 := h0.no B8 (by decide)
    have n12 := h0.no B12 (by decide)
    exact ⟨⟨range_turn R8 A.turn n8, B8.turn A.turn n8⟩, range_turn R12 A.turn n12, B12.turn A.turn n12⟩)
  clear hG R8 B8 hsz B12 R12 hlt8 h hd1 hg1 hgp A0 h0
  go_wp2_with fail
  with_reducible refine C.out.mono ?_
  clear C
  rintro en W2 ⟨aa, an, ac, rfl, P', A1, hMR⟩
  obtain ⟨⟨R8, B8⟩, R12, B12⟩ := KB.out _ _ _ _ _ _ A1
  have y0 : W2.cell? ⟨b12, 0, none⟩ = some (.int .i64 0) := R12 0 _ rfl
  have y1 : W2.cell? ⟨b12, 1, none⟩ = some (.int .i64 0) := R12 1 _ rfl
  have y2 : W2.cell? ⟨b12, 2, none⟩ = some (.slice none 0 0) := R12 2 _ rfl
  have fz0 := B12.fz 0
  have fz1 := B12.fz 1
  have fz2 := B12.fz 2
  have A2 := X.out.2.2.2.2.step A1
  have TP : Turn (fun k => k = b12) W2 (W2.setCells b12 0 [.int .i64 (unrR S m i).err, .int .i64 (unrR S m i).num, .slice aa an ac]) := Turn.setCells _ 0 (Turn.refl _ _) (.inl rfl)
  have MD : Mid w (W2.setCells b12 0 [.int .i64 (unrR S m i).err, .int .i64 (unrR S m i).num, .slice aa an ac]) d mb base qu ou (cnt + 1) P (unrR S m i) b8 b12 gb (.slice aa an ac) P' := by
    have hlt8 := MID0.out.2.2.2.2.2.2
    have hsz := MID0.out.2.2.2.1
    refine ⟨A2.quiet TP (fun k p e => A2.desk.no B12 (by decide) (e ▸ p)) (by omega) (fun k g e => (A2.gone.blk g).1.ne B12 (by decide) e) (fun k hk e => by omega), ?_, Blk.setCells _ _ B8, Blk.setCells _ _ B12, range_turn R8 TP (by omega), World.rangeAt_setCells_same _ b12 0 _ (range_there R12 rfl B12)⟩
    have := hMR.turn TP (fun k _ e p => A2.desk.no B12 (by decide) (e ▸ p)) (fun k hk e => (hMR.blk hk).1.ne B12 (by decide) e)
    obtain ⟨ps, g1, g2, g3⟩ := this.ex
    exact ⟨ps, g1, own_low g2 (by have := X.out.2.2.2.2.turn.size; omega), g3⟩
  have MD := Lib.hid MD
  clear A1 hMR R8 B8 R12 B12 A2 TP
  go_upto_region 20 with fail
  clear y0 y1 y2 fz0 fz1 fz2 k0 KB
  have MD := MD.out
  refine (show Code.wp _ _ _ _ (W2.setCells b12 0 [.int .i64 (unrR S m i).err, .int .i64 (unrR S m i).num, .slice aa an ac]) from ?_)
  generalize W2.setCells b12 0 [.int .i64 (unrR S m i).err, .int .i64 (unrR S m i).num, .slice aa an ac] = V at *
  obtain ⟨gv, cg, ⟨BGx, _⟩⟩ := (show ∃ gv, V.cell? ⟨gb, 0, none⟩ = some gv ∧ (Blk V gb 54 ∧ True) from by
    obtain ⟨gv, h1, h2, _⟩ := MD.aft.gone
    exact ⟨gv, h1, h2, trivial⟩)
  obtain ⟨ga, gn, gc, rfl⟩ : ∃ ga gn gc, gv = .slice ga gn gc := by
    obtain ⟨v, h1, _, h3, _⟩ := MD.aft.gone
    rw [cg] at h1
    cases h1
    obtain ⟨a, c, e, _⟩ := own_slice h3
    exact ⟨a, _, c, e⟩
  have c12 := MD.c12
  have n12 : b8 ≠ b12 := by have := MID0.out.2.2.2.2.2.2; omega
  have n8g : gb ≠ b8 := BGx.ne MD.bl8 (by decide)
  have TV : Turn (fun _ => False) V V.drew := (Turn.refl _ V).drewN 1
  have T8 : Turn (fun k => k = b8) V (V.drew.setCells b8 0 [.int .i64 (unrR S m i).err, .int .i64 (unrR S m i).num, .slice aa an ac]) := (TV.more (fun _ _ q => q.elim)).trans (Turn.setCells _ 0 (Turn.refl _ _) (.inl rfl))
  have P1 : V.drew.cell? ⟨gb, 0, none⟩ = some (.slice ga gn gc) ∧ V.drew.rangeAt b12 0 [.int .i64 (unrR S m i).err, .int .i64 (unrR S m i).num, .slice aa an ac] := ⟨cg, c12⟩
  have P2 : (V.drew.setCells b8 0 [.int .i64 (unrR S m i).err, .int .i64 (unrR S m i).num, .slice aa an ac]).cell? ⟨gb, 0, none⟩ = some (.slice ga gn gc) ∧ (V.drew.setCells b8 0 [.int .i64 (unrR S m i).err, .int .i64 (unrR S m i).num, .slice aa an ac]).rangeAt b12 0 [.int .i64 (unrR S m i).err, .int .i64 (unrR S m i).num, .slice aa an ac] := ⟨T8.cell n8g cg, range_turn c12 T8 (fun e => n12 e.symm)⟩
  have TH := Lib.hid (show V.drew.there b8 0 3 from range_there (range_turn MD.c8 TV id) rfl (MD.bl8.turn TV id))
  have DID := Lib.hid (MD.did (by omega) MID0.out.2.2.2.1 cg T8)
  clear MD cg c12 T8 TV BGx
  refine wp_region_held_drew (S := (fun w' => w'.cell? ⟨gb, 0, none⟩ = some (.slice ga gn gc) ∧ w'.rangeAt b12 0 [.int .i64 (unrR S m i).err, .int .i64 (unrR S m i).num, .slice aa an ac])) (by kernel_rfl) ?hs0 (fun hS0 => ?_)
  case hs0 => ((try dsimp only); first | with_reducible exact P1 | with_reducible exact P2 | exact P1 | exact P2)
  refine wpAnyH_take (i := 0) (oi := { dst := some 66, op := Op.load 53 (Operand.tmp 12), type := 53, pos := "queue.go:58", after := #[], guard := none }) (v := .agg #[.int .i64 (unrR S m i).err, .int .i64 (unrR S m i).num, .slice aa an ac]) rfl (by kernel_rfl) (by kernel_rfl) (by kernel_rfl) (fun _ _ _ h => h) (yieldsIf_load_mid rfl 53 _ rfl b12 0 rfl [.int .i64 (unrR S m i).err, .int .i64 (unrR S m i).num, .slice aa an ac] _ (fun _ hSw => hSw.2) Try.underlying53 rfl size53) hS0 ?_
  try simp only [Act.put, List.setIfInBounds_toArray, List.set_cons_zero, List.set_cons_succ]
  refine wpAnyH_take (i := 1) (oi := { dst := some 67, op := Op.load 54 (Operand.tmp 10), type := 54, pos := "queue.go:58", after := #[{ on := 2, ground := Ground.gcOnly Departure.lateStores }], guard := none }) (v := ?_) rfl (by kernel_rfl) (by kernel_rfl) (by kernel_rfl) (fun _ _ _ h => h) (Or.inl ⟨by rfl, ?hy2⟩) hS0 ?_
  case hy2 => (intro w hSw; (try dsimp only at hSw); go_simp; try with_reducible rfl)
  try simp only [Act.put, List.setIfInBounds_toArray, List.set_cons_zero, List.set_cons_succ]
  refine wpAnyH_ready (rs := [2]) (by kernel_rfl) (by simp) ?_
  refine AllReadyH.cons (o := { dst := none, op := Op.store 53 (Operand.tmp 8) (Operand.tmp 66), type := 0, pos := "queue.go:58", after := #[{ on := 0, ground := Ground.data }, { on := 0, ground := Ground.phase }, { on := 1, ground := Ground.textOnly Departure.lateStores }], guard := none }) rfl (fun K hK => ?_) ?_
  · refine wp_store_mid 53 _ _ rfl b8 0 #[.int .i64 (unrR S m i).err, .int .i64 (unrR S m i).num, .slice aa an ac] rfl rfl TH.out size53 (by simp [Value.oneCell']) ?_
    refine hK.out _ _ ?hs3 (fun hS3 => ?_)
    case hs3 => ((try dsimp only); first | with_reducible exact P1 | with_reducible exact P2 | exact P1 | exact P2)
    clear hK K hS0
    refine wpAnyH_take (i := 3) (oi := { dst := some 9, op := Op.assign (Operand.tmp 67), type := 54, pos := "queue.go:58", after := #[{ on := 1, ground := Ground.data }, { on := 2, ground := Ground.chain }, { on := 0, ground := Ground.phase }, { on := 1, ground := Ground.phase }, { on := 2, ground := Ground.phase }], guard := none }) (v := ?_) rfl (by kernel_rfl) (by kernel_rfl) (by kernel_rfl) (fun _ _ _ h => h) (Or.inl ⟨by rfl, ?hy4⟩) hS3 ?_
    case hy4 => (intro w hSw; (try dsimp only at hSw); go_simp; try with_reducible rfl)
    try simp only [Act.put, List.setIfInBounds_toArray, List.set_cons_zero, List.set_cons_succ]
    refine wpAnyH_done (by kernel_rfl) ?_ _
    go_wp2_with fail
    exact bodyPost_ret (v := .tuple #[.agg #[.int .i64 (unrR S m i).err, .int .i64 (unrR S m i).num, .slice aa an ac], .slice ga gn gc]) (res_cell_tmp (a := 8) (k := 9) rfl rfl rfl (run_loadVar_mid _ b8 0 53 _ _ (World.rangeAt_setCells_same _ b8 0 _ TH.out) Try.underlying53 rfl size53)) rfl ⟨_, _, rfl, _, DID.out⟩
  exact AllReadyH.nil
set_option maxRecDepth 100000 in
set_option maxHeartbeats 4000000 in
theorem DAt.do_pol (h : DAt w d mb base qu ou cnt m S P) {stamp i n s g : Int} (hi : (Lit.int .i64 i).wf = true) (hcnt : cnt < maxLen) (hn : ∀ l' lo, S i = some (l', lo) → (frefs l').length ≤ 1000000 ∧ l'.length ≤ 1000000) (v : Value) :
    Calls Try.prog 13 #[.pointer (some ⟨d, 0, none⟩), .int .i64 stamp, .agg (cmdL 4 i n s g).toArray, v] w fun e w' => ∃ av gv, e = .returned (.tuple #[.agg #[.int .i64 (polR S m i n).err, .int .i64 (polR S m i n).num, av], gv]) ∧ ∃ P', Did w w' d mb base qu ou (cnt + 1) P (polR S m i n) av gv P' := by
  obtain ⟨W0, hW0⟩ : ∃ W0, W0 = (w.alloc (.cells (cmdL 4 i n s g).toArray 43)).alloc (.cells #[.int .i64 0, .int .i64 0, .slice none 0 0] 53) := ⟨_, rfl⟩
  have T0 : Turn (fun _ => False) w W0 := by rw [hW0]; exact ((Turn.refl _ w).alloc _).alloc _
  have R43 : W0.rangeAt w.heap.size 0 (cmdL 4 i n s g) := by rw [hW0]; exact range_turn (range_new w (cmdL 4 i n s g) 43) ((Turn.refl (fun _ => False) _).alloc _) id
  have B8 : Blk W0 (w.heap.size + 1) 53 := by
    rw [hW0]
    have := Blk.new (w.alloc (.cells (cmdL 4 i n s g).toArray 43)) [.int .i64 0, .int .i64 0, .slice none 0 0] 53
    simpa using this
  have R8 : W0.rangeAt (w.heap.size + 1) 0 [.int .i64 0, .int .i64 0, .slice none 0 0] := by
    rw [hW0]
    have := range_new (w.alloc (.cells (cmdL 4 i n s g).toArray 43)) [.int .i64 0, .int .i64 0, .slice none 0 0] 53
    simpa using this
  obtain ⟨W1, hW1⟩ : ∃ W1, W1 = (W0.alloc (.cells #[.slice none 0 0] 54)).alloc (.cells #[.int .i64 0, .int .i64 0, .slice none 0 0] 53) := ⟨_, rfl⟩
  have T1 : Turn (fun _ => False) W0 W1 := by rw [hW1]; exact ((Turn.refl _ W0).alloc _).alloc _
  have BG : Blk W1 W0.heap.size 54 := by rw [hW1]; exact (Blk.new W0 [.slice none 0 0] 54).turn ((Turn.refl (fun _ => False) _).alloc _) id
  have CG : W1.cell? ⟨W0.heap.size, 0, none⟩ = some (.slice none 0 0) := by rw [hW1]; exact past (range_new W0 [.slice none 0 0] 54 0 _ rfl)
  have B12 : Blk W1 (W0.heap.size + 1) 53 := by
    rw [hW1]
    have := Blk.new (W0.alloc (.cells #[.slice none 0 0] 54)) [.int .i64 0, .int .i64 0, .slice none 0 0] 53
    simpa using this
  have R12 : W1.rangeAt (W0.heap.size + 1) 0 [.int .i64 0, .int .i64 0, .slice none 0 0] := by
    rw [hW1]
    have := range_new (W0.alloc (.cells #[.slice none 0 0] 54)) [.int .i64 0, .int .i64 0, .slice none 0 0] 53
    simpa using this
  have TT := T0.trans T1
  have sz0 := B8.lt
  have hd1 := h.turn TT (fun _ _ q => q)
  have hG : ∀ k, ¬ GB W1 W0.heap.size k := fun k ⟨u, hu, hk⟩ => by
    rw [CG] at hu
    cases hu
    simp [Value.ownBlock] at hk
  have hg1 : GoneAt W1 w.heap.size W0.heap.size [] := ⟨_, CG, BG, ⟨rfl, .inl ⟨rfl, rfl⟩⟩, TT.size⟩
  have hgp : ∀ k, P k → k ≠ W0.heap.size ∧ ¬ GB W1 W0.heap.size k := fun k p => ⟨fun e => by have := h.lt p; omega, hG k⟩
  have A0 : Aft w W1 d mb base qu ou cnt m S P P w.heap.size W0.heap.size [] := ⟨hd1, hg1, TT.more (fun _ _ q => q.elim), fun k p => .inl p, fun k q => absurd q (hG k), hgp, fun k _ t => TT.block k t.lt id, fun k p => ⟨fun e => by have := h.lt p; omega, fun ⟨u, q, _⟩ => by
    have := block_lt_of_cell q
    dsimp only at this
    omega⟩⟩
  have c7 : W0.cell? ⟨d, 7, none⟩ = some (.map (some mb)) := by
    obtain ⟨⟨Q, F, M, c, h1, h2, h3⟩, hb, hc⟩ := h
    exact (h2.keep T0).c7
  have r1 := range_turn R43 T1 id
  have k0 : W1.cell? ⟨w.heap.size, 0, none⟩ = some (.int .i64 4) := r1 0 _ rfl
  have k1 : W1.cell? ⟨w.heap.size, 1, none⟩ = some (.int .i64 i) := r1 1 _ rfl
  have k2 : W1.cell? ⟨w.heap.size, 2, none⟩ = some (.int .i64 n) := r1 2 _ rfl
  have MID0 := Lib.hid (show (∀ k, ¬ GB W1 W0.heap.size k) ∧ W1.rangeAt (w.heap.size + 1) 0 [.int .i64 0, .int .i64 0, .slice none 0 0] ∧ Blk W1 (w.heap.size + 1) 53 ∧ w.heap.size ≤ W0.heap.size ∧ Blk W1 (W0.heap.size + 1) 53 ∧ W1.rangeAt (W0.heap.size + 1) 0 [.int .i64 0, .int .i64 0, .slice none 0 0] ∧ w.heap.size + 1 < W0.heap.size from ⟨hG, range_turn R8 T1 id, B8.turn T1 id, T0.size, B12, R12, sz0⟩)
  have X := Lib.hid (And.intro h (And.intro hd1 (And.intro hg1 (And.intro hgp A0))))
  clear T0 R43 B8 R8 T1 BG CG B12 R12 TT hd1 hG hg1 hgp A0 r1 sz0 h
  have HE := run_eql_map_nil mb
  unfold cmdL at hW0 ⊢
  go_enter Try.func13, Try.ntmps13
  go_upto_region 1 with fail
  rw [← hW0]
  clear hW0
  go_upto_region 6 with fail
  rw [← hW1]
  clear hW1 c7
  generalize hb1 : w.heap.size + 1 = b8 at *
  generalize hg0 : W0.heap.size = gb at *
  generalize hb12 : gb + 1 = b12 at *
  obtain ⟨hG, R8, B8, hsz, B12, R12, hlt8⟩ := MID0.out
  obtain ⟨h, hd1, hg1, hgp, A0⟩ := X.out
  have C := Lib.hid (hd1.pollA (most := n) hi hcnt hg1 hgp (fun l' lo e => by have := hn l' lo e; simpa using this))
  have h0 := Aft.refl hd1 hg1 hgp
  have KB := Lib.hid (show ∀ (cnt' m' : Nat) (S' : Int → Option (List Fnd × Bool)) (P' : Nat → Prop) (l' : List (Int × Int)) (W2 : World), Aft W1 W2 d mb base qu ou cnt' m' S' P P' w.heap.size gb l' → (W2.rangeAt b8 0 [.int .i64 0, .int .i64 0, .slice none 0 0] ∧ Blk W2 b8 53) ∧ (W2.rangeAt b12 0 [.int .i64 0, .int .i64 0, .slice none 0 0] ∧ Blk W2 b12 53) from fun _ _ _ _ _ _ A => by
    have n8 := h0.no B8 (by decide)
    have n12 := h0.no B12 (by decide)
    exact ⟨⟨range_turn R8 A.turn n8, B8.turn A.turn n8⟩, range_turn R12 A.turn n12, B12.turn A.turn n12⟩)
  clear hG R8 B8 hsz B12 R12 hlt8 h hd1 hg1 hgp A0 h0
  go_wp2_with fail
  with_reducible refine C.out.mono ?_
  clear C
  rintro en W2 ⟨aa, an, ac, rfl, P', A1, hMR⟩
  obtain ⟨⟨R8, B8⟩, R12, B12⟩ := KB.out _ _ _ _ _ _ A1
  have y0 : W2.cell? ⟨b12, 0, none⟩ = some (.int .i64 0) := R12 0 _ rfl
  have y1 : W2.cell? ⟨b12, 1, none⟩ = some (.int .i64 0) := R12 1 _ rfl
  have y2 : W2.cell? ⟨b12, 2, none⟩ = some (.slice none 0 0) := R12 2 _ rfl
  have fz0 := B12.fz 0
  have fz1 := B12.fz 1
  have fz2 := B12.fz 2
  have A2 := X.out.2.2.2.2.step A1
  have TP : Turn (fun k => k = b12) W2 (W2.setCells b12 0 [.int .i64 (polR S m i n).err, .int .i64 (polR S m i n).num, .slice aa an ac]) := Turn.setCells _ 0 (Turn.refl _ _) (.inl rfl)
  have MD : Mid w (W2.setCells b12 0 [.int .i64 (polR S m i n).err, .int .i64 (polR S m i n).num, .slice aa an ac]) d mb base qu ou (cnt + 1) P (polR S m i n) b8 b12 gb (.slice aa an ac) P' := by
    have hlt8 := MID0.out.2.2.2.2.2.2
    have hsz := MID0.out.2.2.2.1
    refine ⟨A2.quiet TP (fun k p e => A2.desk.no B12 (by decide) (e ▸ p)) (by omega) (fun k g e => (A2.gone.blk g).1.ne B12 (by decide) e) (fun k hk e => by omega), ?_, Blk.setCells _ _ B8, Blk.setCells _ _ B12, range_turn R8 TP (by omega), World.rangeAt_setCells_same _ b12 0 _ (range_there R12 rfl B12)⟩
    have := hMR.turn TP (fun k _ e p => A2.desk.no B12 (by decide) (e ▸ p)) (fun k hk e => (hMR.blk hk).1.ne B12 (by decide) e)
    obtain ⟨ps, g1, g2, g3⟩ := this.ex
    exact ⟨ps, g1, own_low g2 (by have := X.out.2.2.2.2.turn.size; omega), g3⟩
  have MD := Lib.hid MD
  clear A1 hMR R8 B8 R12 B12 A2 TP
  go_upto_region 20 with fail
  clear y0 y1 y2 fz0 fz1 fz2 k0 KB
  have MD := MD.out
  refine (show Code.wp _ _ _ _ (W2.setCells b12 0 [.int .i64 (polR S m i n).err, .int .i64 (polR S m i n).num, .slice aa an ac]) from ?_)
  generalize W2.setCells b12 0 [.int .i64 (polR S m i n).err, .int .i64 (polR S m i n).num, .slice aa an ac] = V at *
  obtain ⟨gv, cg, ⟨BGx, _⟩⟩ := (show ∃ gv, V.cell? ⟨gb, 0, none⟩ = some gv ∧ (Blk V gb 54 ∧ True) from by
    obtain ⟨gv, h1, h2, _⟩ := MD.aft.gone
    exact ⟨gv, h1, h2, trivial⟩)
  obtain ⟨ga, gn, gc, rfl⟩ : ∃ ga gn gc, gv = .slice ga gn gc := by
    obtain ⟨v, h1, _, h3, _⟩ := MD.aft.gone
    rw [cg] at h1
    cases h1
    obtain ⟨a, c, e, _⟩ := own_slice h3
    exact ⟨a, _, c, e⟩
  have c12 := MD.c12
  have n12 : b8 ≠ b12 := by have := MID0.out.2.2.2.2.2.2; omega
  have n8g : gb ≠ b8 := BGx.ne MD.bl8 (by decide)
  have TV : Turn (fun _ => False) V V.drew := (Turn.refl _ V).drewN 1
  have T8 : Turn (fun k => k = b8) V (V.drew.setCells b8 0 [.int .i64 (polR S m i n).err, .int .i64 (polR S m i n).num, .slice aa an ac]) := (TV.more (fun _ _ q => q.elim)).trans (Turn.setCells _ 0 (Turn.refl _ _) (.inl rfl))
  have P1 : V.drew.cell? ⟨gb, 0, none⟩ = some (.slice ga gn gc) ∧ V.drew.rangeAt b12 0 [.int .i64 (polR S m i n).err, .int .i64 (polR S m i n).num, .slice aa an ac] := ⟨cg, c12⟩
  have P2 : (V.drew.setCells b8 0 [.int .i64 (polR S m i n).err, .int .i64 (polR S m i n).num, .slice aa an ac]).cell? ⟨gb, 0, none⟩ = some (.slice ga gn gc) ∧ (V.drew.setCells b8 0 [.int .i64 (polR S m i n).err, .int .i64 (polR S m i n).num, .slice aa an ac]).rangeAt b12 0 [.int .i64 (polR S m i n).err, .int .i64 (polR S m i n).num, .slice aa an ac] := ⟨T8.cell n8g cg, range_turn c12 T8 (fun e => n12 e.symm)⟩
  have TH := Lib.hid (show V.drew.there b8 0 3 from range_there (range_turn MD.c8 TV id) rfl (MD.bl8.turn TV id))
  have DID := Lib.hid (MD.did (by omega) MID0.out.2.2.2.1 cg T8)
  clear MD cg c12 T8 TV BGx
  refine wp_region_held_drew (S := (fun w' => w'.cell? ⟨gb, 0, none⟩ = some (.slice ga gn gc) ∧ w'.rangeAt b12 0 [.int .i64 (polR S m i n).err, .int .i64 (polR S m i n).num, .slice aa an ac])) (by kernel_rfl) ?hs0 (fun hS0 => ?_)
  case hs0 => ((try dsimp only); first | with_reducible exact P1 | with_reducible exact P2 | exact P1 | exact P2)
  refine wpAnyH_take (i := 0) (oi := { dst := some 66, op := Op.load 53 (Operand.tmp 12), type := 53, pos := "queue.go:58", after := #[], guard := none }) (v := .agg #[.int .i64 (polR S m i n).err, .int .i64 (polR S m i n).num, .slice aa an ac]) rfl (by kernel_rfl) (by kernel_rfl) (by kernel_rfl) (fun _ _ _ h => h) (yieldsIf_load_mid rfl 53 _ rfl b12 0 rfl [.int .i64 (polR S m i n).err, .int .i64 (polR S m i n).num, .slice aa an ac] _ (fun _ hSw => hSw.2) Try.underlying53 rfl size53) hS0 ?_
  try simp only [Act.put, List.setIfInBounds_toArray, List.set_cons_zero, List.set_cons_succ]
  refine wpAnyH_take (i := 1) (oi := { dst := some 67, op := Op.load 54 (Operand.tmp 10), type := 54, pos := "queue.go:58", after := #[{ on := 2, ground := Ground.gcOnly Departure.lateStores }], guard := none }) (v := ?_) rfl (by kernel_rfl) (by kernel_rfl) (by kernel_rfl) (fun _ _ _ h => h) (Or.inl ⟨by rfl, ?hy2⟩) hS0 ?_
  case hy2 => (intro w hSw; (try dsimp only at hSw); go_simp; try with_reducible rfl)
  try simp only [Act.put, List.setIfInBounds_toArray, List.set_cons_zero, List.set_cons_succ]
  refine wpAnyH_ready (rs := [2]) (by kernel_rfl) (by simp) ?_
  refine AllReadyH.cons (o := { dst := none, op := Op.store 53 (Operand.tmp 8) (Operand.tmp 66), type := 0, pos := "queue.go:58", after := #[{ on := 0, ground := Ground.data }, { on := 0, ground := Ground.phase }, { on := 1, ground := Ground.textOnly Departure.lateStores }], guard := none }) rfl (fun K hK => ?_) ?_
  · refine wp_store_mid 53 _ _ rfl b8 0 #[.int .i64 (polR S m i n).err, .int .i64 (polR S m i n).num, .slice aa an ac] rfl rfl TH.out size53 (by simp [Value.oneCell']) ?_
    refine hK.out _ _ ?hs3 (fun hS3 => ?_)
    case hs3 => ((try dsimp only); first | with_reducible exact P1 | with_reducible exact P2 | exact P1 | exact P2)
    clear hK K hS0
    refine wpAnyH_take (i := 3) (oi := { dst := some 9, op := Op.assign (Operand.tmp 67), type := 54, pos := "queue.go:58", after := #[{ on := 1, ground := Ground.data }, { on := 2, ground := Ground.chain }, { on := 0, ground := Ground.phase }, { on := 1, ground := Ground.phase }, { on := 2, ground := Ground.phase }], guard := none }) (v := ?_) rfl (by kernel_rfl) (by kernel_rfl) (by kernel_rfl) (fun _ _ _ h => h) (Or.inl ⟨by rfl, ?hy4⟩) hS3 ?_
    case hy4 => (intro w hSw; (try dsimp only at hSw); go_simp; try with_reducible rfl)
    try simp only [Act.put, List.setIfInBounds_toArray, List.set_cons_zero, List.set_cons_succ]
    refine wpAnyH_done (by kernel_rfl) ?_ _
    go_wp2_with fail
    exact bodyPost_ret (v := .tuple #[.agg #[.int .i64 (polR S m i n).err, .int .i64 (polR S m i n).num, .slice aa an ac], .slice ga gn gc]) (res_cell_tmp (a := 8) (k := 9) rfl rfl rfl (run_loadVar_mid _ b8 0 53 _ _ (World.rangeAt_setCells_same _ b8 0 _ TH.out) Try.underlying53 rfl size53)) rfl ⟨_, _, rfl, _, DID.out⟩
  exact AllReadyH.nil
set_option maxRecDepth 100000 in
set_option maxHeartbeats 4000000 in
theorem DAt.do_else (h : DAt w d mb base qu ou cnt m S P) {stamp k i n s g : Int} (hk : k ≠ 1 ∧ k ≠ 2 ∧ k ≠ 3 ∧ k ≠ 4 ∧ k ≠ 5) (v : Value) :
    Calls Try.prog 13 #[.pointer (some ⟨d, 0, none⟩), .int .i64 stamp, .agg (cmdL k i n s g).toArray, v] w fun e w' => ∃ av gv, e = .returned (.tuple #[.agg #[.int .i64 ((⟨S, m, 1, 0, [], []⟩ : Res)).err, .int .i64 ((⟨S, m, 1, 0, [], []⟩ : Res)).num, av], gv]) ∧ ∃ P', Did w w' d mb base qu ou (cnt) P ((⟨S, m, 1, 0, [], []⟩ : Res)) av gv P' := by
  obtain ⟨W0, hW0⟩ : ∃ W0, W0 = (w.alloc (.cells (cmdL k i n s g).toArray 43)).alloc (.cells #[.int .i64 0, .int .i64 0, .slice none 0 0] 53) := ⟨_, rfl⟩
  have T0 : Turn (fun _ => False) w W0 := by rw [hW0]; exact ((Turn.refl _ w).alloc _).alloc _
  have R43 : W0.rangeAt w.heap.size 0 (cmdL k i n s g) := by rw [hW0]; exact range_turn (range_new w (cmdL k i n s g) 43) ((Turn.refl (fun _ => False) _).alloc _) id
  have B8 : Blk W0 (w.heap.size + 1) 53 := by
    rw [hW0]
    have := Blk.new (w.alloc (.cells (cmdL k i n s g).toArray 43)) [.int .i64 0, .int .i64 0, .slice none 0 0] 53
    simpa using this
  have R8 : W0.rangeAt (w.heap.size + 1) 0 [.int .i64 0, .int .i64 0, .slice none 0 0] := by
    rw [hW0]
    have := range_new (w.alloc (.cells (cmdL k i n s g).toArray 43)) [.int .i64 0, .int .i64 0, .slice none 0 0] 53
    simpa using this
  obtain ⟨W1, hW1⟩ : ∃ W1, W1 = (W0.alloc (.cells #[.slice none 0 0] 54)).alloc (.cells #[.int .i64 0, .int .i64 0, .slice none 0 0] 53) := ⟨_, rfl⟩
  have T1 : Turn (fun _ => False) W0 W1 := by rw [hW1]; exact ((Turn.refl _ W0).alloc _).alloc _
  have BG : Blk W1 W0.heap.size 54 := by rw [hW1]; exact (Blk.new W0 [.slice none 0 0] 54).turn ((Turn.refl (fun _ => False) _).alloc _) id
  have CG : W1.cell? ⟨W0.heap.size, 0, none⟩ = some (.slice none 0 0) := by rw [hW1]; exact past (range_new W0 [.slice none 0 0] 54 0 _ rfl)
  have B12 : Blk W1 (W0.heap.size + 1) 53 := by
    rw [hW1]
    have := Blk.new (W0.alloc (.cells #[.slice none 0 0] 54)) [.int .i64 0, .int .i64 0, .slice none 0 0] 53
    simpa using this
  have R12 : W1.rangeAt (W0.heap.size + 1) 0 [.int .i64 0, .int .i64 0, .slice none 0 0] := by
    rw [hW1]
    have := range_new (W0.alloc (.cells #[.slice none 0 0] 54)) [.int .i64 0, .int .i64 0, .slice none 0 0] 53
    simpa using this
  have TT := T0.trans T1
  have sz0 := B8.lt
  have hd1 := h.turn TT (fun _ _ q => q)
  have hG : ∀ k, ¬ GB W1 W0.heap.size k := fun k ⟨u, hu, hk⟩ => by
    rw [CG] at hu
    cases hu
    simp [Value.ownBlock] at hk
  have hg1 : GoneAt W1 w.heap.size W0.heap.size [] := ⟨_, CG, BG, ⟨rfl, .inl ⟨rfl, rfl⟩⟩, TT.size⟩
  have hgp : ∀ k, P k → k ≠ W0.heap.size ∧ ¬ GB W1 W0.heap.size k := fun k p => ⟨fun e => by have := h.lt p; omega, hG k⟩
  have A0 : Aft w W1 d mb base qu ou cnt m S P P w.heap.size W0.heap.size [] := ⟨hd1, hg1, TT.more (fun _ _ q => q.elim), fun k p => .inl p, fun k q => absurd q (hG k), hgp, fun k _ t => TT.block k t.lt id, fun k p => ⟨fun e => by have := h.lt p; omega, fun ⟨u, q, _⟩ => by
    have := block_lt_of_cell q
    dsimp only at this
    omega⟩⟩
  have c7 : W0.cell? ⟨d, 7, none⟩ = some (.map (some mb)) := by
    obtain ⟨⟨Q, F, M, c, h1, h2, h3⟩, hb, hc⟩ := h
    exact (h2.keep T0).c7
  have r1 := range_turn R43 T1 id
  have k0 : W1.cell? ⟨w.heap.size, 0, none⟩ = some (.int .i64 k) := r1 0 _ rfl
  have q1 : (k == 1) = false := by simpa using hk.1
  have q2 : (k == 2) = false := by simpa using hk.2.1
  have q3 : (k == 3) = false := by simpa using hk.2.2.1
  have q4 : (k == 4) = false := by simpa using hk.2.2.2.1
  have q5 : (k == 5) = false := by simpa using hk.2.2.2.2

  have MID0 := Lib.hid (show (∀ k, ¬ GB W1 W0.heap.size k) ∧ W1.rangeAt (w.heap.size + 1) 0 [.int .i64 0, .int .i64 0, .slice none 0 0] ∧ Blk W1 (w.heap.size + 1) 53 ∧ w.heap.size ≤ W0.heap.size ∧ Blk W1 (W0.heap.size + 1) 53 ∧ W1.rangeAt (W0.heap.size + 1) 0 [.int .i64 0, .int .i64 0, .slice none 0 0] ∧ w.heap.size + 1 < W0.heap.size from ⟨hG, range_turn R8 T1 id, B8.turn T1 id, T0.size, B12, R12, sz0⟩)
  have X := Lib.hid (And.intro h (And.intro hd1 (And.intro hg1 (And.intro hgp A0))))
  clear T0 R43 B8 R8 T1 BG CG B12 R12 TT hd1 hG hg1 hgp A0 r1 sz0 h
  have HE := run_eql_map_nil mb
  unfold cmdL at hW0 ⊢
  go_enter Try.func13, Try.ntmps13
  go_upto_region 1 with fail
  rw [← hW0]
  clear hW0
  go_upto_region 6 with fail
  rw [← hW1]
  clear hW1 c7
  generalize hb1 : w.heap.size + 1 = b8 at *
  generalize hg0 : W0.heap.size = gb at *
  generalize hb12 : gb + 1 = b12 at *
  obtain ⟨hG, R8, B8, hsz, B12, R12, hlt8⟩ := MID0.out
  have y1 : W1.cell? ⟨b12, 0, none⟩ = some (.int .i64 0) := R12 0 _ rfl
  have fz := B12.fz 0
  obtain ⟨h, hd1, hg1, hgp, A0⟩ := X.out
  have TP : Turn (fun k => k = b12) W1 (W1.setCell ⟨b12, 0, none⟩ (.int .i64 1)) := Turn.put _ _ _ _
  have MD : Mid w (W1.setCell ⟨b12, 0, none⟩ (.int .i64 1)) d mb base qu ou cnt P ⟨S, m, 1, 0, [], []⟩ b8 b12 gb (.slice none 0 0) P := by
    refine ⟨A0.quiet TP (fun k p e => hd1.no B12 (by decide) (e ▸ p)) (by omega) (fun k g => absurd g (hG k)) (fun k hk e => by omega), MRow.nil _ _ _, B8.set _ _, B12.set _ _, range_turn R8 TP (by omega), fun j u hu => ?_⟩
    match j, hu with
    | 0, hu => cases hu; exact World.cell?_setCell_same _ _ _ y1
    | 1, hu => cases hu; exact (cell_off _ _ _ _ _ (by decide)).trans (R12 1 _ rfl)
    | 2, hu => cases hu; exact (cell_off _ _ _ _ _ (by decide)).trans (R12 2 _ rfl)
  clear hG R8 hsz R12 h hd1 hg1 hgp A0 TP B8 B12 hlt8
  generalize hV : W1.setCell ⟨b12, 0, none⟩ (.int .i64 1) = V at MD
  have HV := Lib.hid hV
  clear hV
  go_upto_region 20 with fail
  rw [HV.out]
  clear y1 fz k0
  obtain ⟨aa, an, ac, MD⟩ : ∃ aa an ac, Mid w V d mb base qu ou cnt P ⟨S, m, 1, 0, [], []⟩ b8 b12 gb (.slice aa an ac) P := ⟨none, 0, 0, MD⟩
  obtain ⟨gv, cg, ⟨BGx, _⟩⟩ := (show ∃ gv, V.cell? ⟨gb, 0, none⟩ = some gv ∧ (Blk V gb 54 ∧ True) from by
    obtain ⟨gv, h1, h2, _⟩ := MD.aft.gone
    exact ⟨gv, h1, h2, trivial⟩)
  obtain ⟨ga, gn, gc, rfl⟩ : ∃ ga gn gc, gv = .slice ga gn gc := by
    obtain ⟨v, h1, _, h3, _⟩ := MD.aft.gone
    rw [cg] at h1
    cases h1
    obtain ⟨a, c, e, _⟩ := own_slice h3
    exact ⟨a, _, c, e⟩
  have c12 := MD.c12
  have n12 : b8 ≠ b12 := by have := MID0.out.2.2.2.2.2.2; omega
  have n8g : gb ≠ b8 := BGx.ne MD.bl8 (by decide)
  have TV : Turn (fun _ => False) V V.drew := (Turn.refl _ V).drewN 1
  have T8 : Turn (fun k => k = b8) V (V.drew.setCells b8 0 [.int .i64 ((⟨S, m, 1, 0, [], []⟩ : Res)).err, .int .i64 ((⟨S, m, 1, 0, [], []⟩ : Res)).num, .slice aa an ac]) := (TV.more (fun _ _ q => q.elim)).trans (Turn.setCells _ 0 (Turn.refl _ _) (.inl rfl))
  have P1 : V.drew.cell? ⟨gb, 0, none⟩ = some (.slice ga gn gc) ∧ V.drew.rangeAt b12 0 [.int .i64 ((⟨S, m, 1, 0, [], []⟩ : Res)).err, .int .i64 ((⟨S, m, 1, 0, [], []⟩ : Res)).num, .slice aa an ac] := ⟨cg, c12⟩
  have P2 : (V.drew.setCells b8 0 [.int .i64 ((⟨S, m, 1, 0, [], []⟩ : Res)).err, .int .i64 ((⟨S, m, 1, 0, [], []⟩ : Res)).num, .slice aa an ac]).cell? ⟨gb, 0, none⟩ = some (.slice ga gn gc) ∧ (V.drew.setCells b8 0 [.int .i64 ((⟨S, m, 1, 0, [], []⟩ : Res)).err, .int .i64 ((⟨S, m, 1, 0, [], []⟩ : Res)).num, .slice aa an ac]).rangeAt b12 0 [.int .i64 ((⟨S, m, 1, 0, [], []⟩ : Res)).err, .int .i64 ((⟨S, m, 1, 0, [], []⟩ : Res)).num, .slice aa an ac] := ⟨T8.cell n8g cg, range_turn c12 T8 (fun e => n12 e.symm)⟩
  have TH := Lib.hid (show V.drew.there b8 0 3 from range_there (range_turn MD.c8 TV id) rfl (MD.bl8.turn TV id))
  have DID := Lib.hid (MD.did (by omega) MID0.out.2.2.2.1 cg T8)
  clear MD cg c12 T8 TV BGx
  refine wp_region_held_drew (S := (fun w' => w'.cell? ⟨gb, 0, none⟩ = some (.slice ga gn gc) ∧ w'.rangeAt b12 0 [.int .i64 ((⟨S, m, 1, 0, [], []⟩ : Res)).err, .int .i64 ((⟨S, m, 1, 0, [], []⟩ : Res)).num, .slice aa an ac])) (by kernel_rfl) ?hs0 (fun hS0 => ?_)
  case hs0 => ((try dsimp only); first | with_reducible exact P1 | with_reducible exact P2 | exact P1 | exact P2)
  refine wpAnyH_take (i := 0) (oi := { dst := some 66, op := Op.load 53 (Operand.tmp 12), type := 53, pos := "queue.go:58", after := #[], guard := none }) (v := .agg #[.int .i64 ((⟨S, m, 1, 0, [], []⟩ : Res)).err, .int .i64 ((⟨S, m, 1, 0, [], []⟩ : Res)).num, .slice aa an ac]) rfl (by kernel_rfl) (by kernel_rfl) (by kernel_rfl) (fun _ _ _ h => h) (yieldsIf_load_mid rfl 53 _ rfl b12 0 rfl [.int .i64 ((⟨S, m, 1, 0, [], []⟩ : Res)).err, .int .i64 ((⟨S, m, 1, 0, [], []⟩ : Res)).num, .slice aa an ac] _ (fun _ hSw => hSw.2) Try.underlying53 rfl size53) hS0 ?_
  try simp only [Act.put, List.setIfInBounds_toArray, List.set_cons_zero, List.set_cons_succ]
  refine wpAnyH_take (i := 1) (oi := { dst := some 67, op := Op.load 54 (Operand.tmp 10), type := 54, pos := "queue.go:58", after := #[{ on := 2, ground := Ground.gcOnly Departure.lateStores }], guard := none }) (v := ?_) rfl (by kernel_rfl) (by kernel_rfl) (by kernel_rfl) (fun _ _ _ h => h) (Or.inl ⟨by rfl, ?hy2⟩) hS0 ?_
  case hy2 => (intro w hSw; (try dsimp only at hSw); go_simp; try with_reducible rfl)
  try simp only [Act.put, List.setIfInBounds_toArray, List.set_cons_zero, List.set_cons_succ]
  refine wpAnyH_ready (rs := [2]) (by kernel_rfl) (by simp) ?_
  refine AllReadyH.cons (o := { dst := none, op := Op.store 53 (Operand.tmp 8) (Operand.tmp 66), type := 0, pos := "queue.go:58", after := #[{ on := 0, ground := Ground.data }, { on := 0, ground := Ground.phase }, { on := 1, ground := Ground.textOnly Departure.lateStores }], guard := none }) rfl (fun K hK => ?_) ?_
  · refine wp_store_mid 53 _ _ rfl b8 0 #[.int .i64 ((⟨S, m, 1, 0, [], []⟩ : Res)).err, .int .i64 ((⟨S, m, 1, 0, [], []⟩ : Res)).num, .slice aa an ac] rfl rfl TH.out size53 (by simp [Value.oneCell']) ?_
    refine hK.out _ _ ?hs3 (fun hS3 => ?_)
    case hs3 => ((try dsimp only); first | with_reducible exact P1 | with_reducible exact P2 | exact P1 | exact P2)
    clear hK K hS0
    refine wpAnyH_take (i := 3) (oi := { dst := some 9, op := Op.assign (Operand.tmp 67), type := 54, pos := "queue.go:58", after := #[{ on := 1, ground := Ground.data }, { on := 2, ground := Ground.chain }, { on := 0, ground := Ground.phase }, { on := 1, ground := Ground.phase }, { on := 2, ground := Ground.phase }], guard := none }) (v := ?_) rfl (by kernel_rfl) (by kernel_rfl) (by kernel_rfl) (fun _ _ _ h => h) (Or.inl ⟨by rfl, ?hy4⟩) hS3 ?_
    case hy4 => (intro w hSw; (try dsimp only at hSw); go_simp; try with_reducible rfl)
    try simp only [Act.put, List.setIfInBounds_toArray, List.set_cons_zero, List.set_cons_succ]
    refine wpAnyH_done (by kernel_rfl) ?_ _
    go_wp2_with fail
    exact bodyPost_ret (v := .tuple #[.agg #[.int .i64 ((⟨S, m, 1, 0, [], []⟩ : Res)).err, .int .i64 ((⟨S, m, 1, 0, [], []⟩ : Res)).num, .slice aa an ac], .slice ga gn gc]) (res_cell_tmp (a := 8) (k := 9) rfl rfl rfl (run_loadVar_mid _ b8 0 53 _ _ (World.rangeAt_setCells_same _ b8 0 _ TH.out) Try.underlying53 rfl size53)) rfl ⟨_, _, rfl, _, DID.out⟩
  exact AllReadyH.nil
set_option maxRecDepth 100000 in
set_option maxHeartbeats 4000000 in
theorem DAt.do_pub (h : DAt w d mb base qu ou cnt m S P) {Os : List OutV} {stamp i n s g : Int} {v : Value} (ho : OutsAt w P v Os) (hf : HitsAt w P Os) (ok : OutsOk Os 1) (hcnt : cnt + (mergedH Os).length + (lostL Os).length < maxLen) :
    Calls Try.prog 13 #[.pointer (some ⟨d, 0, none⟩), .int .i64 stamp, .agg (cmdL 1 i n s g).toArray, v] w fun e w' => ∃ av gv, e = .returned (.tuple #[.agg #[.int .i64 ((⟨pubD ou S Os, m, 0, stamp, [], pubG ou S Os ++ [(s, g)]⟩ : Res)).err, .int .i64 ((⟨pubD ou S Os, m, 0, stamp, [], pubG ou S Os ++ [(s, g)]⟩ : Res)).num, av], gv]) ∧ ∃ P', Did w w' d mb base qu ou (cnt + (mergedH Os).length + (lostL Os).length) P ((⟨pubD ou S Os, m, 0, stamp, [], pubG ou S Os ++ [(s, g)]⟩ : Res)) av gv P' := by
  obtain ⟨W0, hW0⟩ : ∃ W0, W0 = (w.alloc (.cells (cmdL 1 i n s g).toArray 43)).alloc (.cells #[.int .i64 0, .int .i64 0, .slice none 0 0] 53) := ⟨_, rfl⟩
  have T0 : Turn (fun _ => False) w W0 := by rw [hW0]; exact ((Turn.refl _ w).alloc _).alloc _
  have R43 : W0.rangeAt w.heap.size 0 (cmdL 1 i n s g) := by rw [hW0]; exact range_turn (range_new w (cmdL 1 i n s g) 43) ((Turn.refl (fun _ => False) _).alloc _) id
  have B8 : Blk W0 (w.heap.size + 1) 53 := by
    rw [hW0]
    have := Blk.new (w.alloc (.cells (cmdL 1 i n s g).toArray 43)) [.int .i64 0, .int .i64 0, .slice none 0 0] 53
    simpa using this
  have R8 : W0.rangeAt (w.heap.size + 1) 0 [.int .i64 0, .int .i64 0, .slice none 0 0] := by
    rw [hW0]
    have := range_new (w.alloc (.cells (cmdL 1 i n s g).toArray 43)) [.int .i64 0, .int .i64 0, .slice none 0 0] 53
    simpa using this
  obtain ⟨W1, hW1⟩ : ∃ W1, W1 = (W0.alloc (.cells #[.slice none 0 0] 54)).alloc (.cells #[.int .i64 0, .int .i64 0, .slice none 0 0] 53) := ⟨_, rfl⟩
  have T1 : Turn (fun _ => False) W0 W1 := by rw [hW1]; exact ((Turn.refl _ W0).alloc _).alloc _
  have BG : Blk W1 W0.heap.size 54 := by rw [hW1]; exact (Blk.new W0 [.slice none 0 0] 54).turn ((Turn.refl (fun _ => False) _).alloc _) id
  have CG : W1.cell? ⟨W0.heap.size, 0, none⟩ = some (.slice none 0 0) := by rw [hW1]; exact past (range_new W0 [.slice none 0 0] 54 0 _ rfl)
  have B12 : Blk W1 (W0.heap.size + 1) 53 := by
    rw [hW1]
    have := Blk.new (W0.alloc (.cells #[.slice none 0 0] 54)) [.int .i64 0, .int .i64 0, .slice none 0 0] 53
    simpa using this
  have R12 : W1.rangeAt (W0.heap.size + 1) 0 [.int .i64 0, .int .i64 0, .slice none 0 0] := by
    rw [hW1]
    have := range_new (W0.alloc (.cells #[.slice none 0 0] 54)) [.int .i64 0, .int .i64 0, .slice none 0 0] 53
    simpa using this
  have TT := T0.trans T1
  have sz0 := B8.lt
  have hd1 := h.turn TT (fun _ _ q => q)
  have hG : ∀ k, ¬ GB W1 W0.heap.size k := fun k ⟨u, hu, hk⟩ => by
    rw [CG] at hu
    cases hu
    simp [Value.ownBlock] at hk
  have hg1 : GoneAt W1 w.heap.size W0.heap.size [] := ⟨_, CG, BG, ⟨rfl, .inl ⟨rfl, rfl⟩⟩, TT.size⟩
  have hgp : ∀ k, P k → k ≠ W0.heap.size ∧ ¬ GB W1 W0.heap.size k := fun k p => ⟨fun e => by have := h.lt p; omega, hG k⟩
  have A0 : Aft w W1 d mb base qu ou cnt m S P P w.heap.size W0.heap.size [] := ⟨hd1, hg1, TT.more (fun _ _ q => q.elim), fun k p => .inl p, fun k q => absurd q (hG k), hgp, fun k _ t => TT.block k t.lt id, fun k p => ⟨fun e => by have := h.lt p; omega, fun ⟨u, q, _⟩ => by
    have := block_lt_of_cell q
    dsimp only at this
    omega⟩⟩
  have c7 : W0.cell? ⟨d, 7, none⟩ = some (.map (some mb)) := by
    obtain ⟨⟨Q, F, M, c, h1, h2, h3⟩, hb, hc⟩ := h
    exact (h2.keep T0).c7
  have r1 := range_turn R43 T1 id
  have k0 : W1.cell? ⟨w.heap.size, 0, none⟩ = some (.int .i64 1) := r1 0 _ rfl
  have hN1 : ∀ k, Own3 P W1 W0.heap.size k → P k ∨ w.heap.size ≤ k := fun k q => by
    rcases q with q | q | q
    · exact .inl q
    · right; have := T0.size; omega
    · exact absurd q (hG k)
  have HO := Lib.hid (ho.next TT (fun _ _ q => q) (fun _ _ q => q) (fun _ _ _ q => q) hN1)
  have HF := Lib.hid (hf.next TT (fun _ _ q => q.elim) hN1)
  have HR := Lib.hid (And.intro (show Blk W1 w.heap.size 43 from by rw [hW1, hW0]; exact ((((Blk.new w (cmdL 1 i n s g) 43).turn ((Turn.refl (fun _ => False) _).alloc _) id).turn ((Turn.refl (fun _ => False) _).alloc _) id).turn ((Turn.refl (fun _ => False) _).alloc _) id)) r1)
  clear ho hf hN1
  have MID0 := Lib.hid (show (∀ k, ¬ GB W1 W0.heap.size k) ∧ W1.rangeAt (w.heap.size + 1) 0 [.int .i64 0, .int .i64 0, .slice none 0 0] ∧ Blk W1 (w.heap.size + 1) 53 ∧ w.heap.size ≤ W0.heap.size ∧ Blk W1 (W0.heap.size + 1) 53 ∧ W1.rangeAt (W0.heap.size + 1) 0 [.int .i64 0, .int .i64 0, .slice none 0 0] ∧ w.heap.size + 1 < W0.heap.size from ⟨hG, range_turn R8 T1 id, B8.turn T1 id, T0.size, B12, R12, sz0⟩)
  have X := Lib.hid (And.intro h (And.intro hd1 (And.intro hg1 (And.intro hgp A0))))
  clear T0 R43 B8 R8 T1 BG CG B12 R12 TT hd1 hG hg1 hgp A0 r1 sz0 h
  have HE := run_eql_map_nil mb
  unfold cmdL at hW0 ⊢
  go_enter Try.func13, Try.ntmps13
  go_upto_region 1 with fail
  rw [← hW0]
  clear hW0
  go_upto_region 6 with fail
  rw [← hW1]
  clear hW1 c7
  generalize hb1 : w.heap.size + 1 = b8 at *
  generalize hg0 : W0.heap.size = gb at *
  generalize hb12 : gb + 1 = b12 at *
  obtain ⟨hG, R8, B8, hsz, B12, R12, hlt8⟩ := MID0.out
  obtain ⟨h, hd1, hg1, hgp, A0⟩ := X.out
  have C := Lib.hid (hd1.publish hg1 hgp HO.out HF.out (show OutsOk Os ([] : List (Int × Int)).length from ⟨ok.n, ok.h, ok.l, ok.hw, ok.lw, by have := ok.r; simp; omega⟩) hcnt)
  have h0 := Aft.refl hd1 hg1 hgp
  have n8 := h0.no B8 (by decide)
  have n12 := h0.no B12 (by decide)
  have n43 := h0.no HR.out.1 (by decide)
  have OK := Lib.hid (And.intro ok.r (And.intro n8 (And.intro n12 n43)))
  clear hG R8 B8 hsz B12 R12 hlt8 h hd1 hg1 hgp A0 h0 HO HF ok n8 n12 n43 hcnt
  go_wp2_with fail
  with_reducible refine C.out.mono ?_
  clear C
  rintro en W2 ⟨rfl, P', A1⟩
  have r2 := range_turn HR.out.2 A1.turn OK.out.2.2.2
  have x9 : W2.cell? ⟨w.heap.size, 9, none⟩ = some (.int .i64 s) := r2 9 _ rfl
  have x10 : W2.cell? ⟨w.heap.size, 10, none⟩ = some (.int .i64 g) := r2 10 _ rfl
  have A2 := X.out.2.2.2.2.step A1
  rw [List.nil_append] at A2
  have TA : Turn (fun _ => False) W2 (W2.alloc (.cells #[.int .i64 s, .int .i64 g] 38)) := (Turn.refl _ W2).alloc _
  have RV : RowV (W2.alloc (.cells #[.int .i64 s, .int .i64 g] 38)) 38 2 1 (.slice (some ⟨W2.heap.size, 0, none⟩) 1 1) (rcells [(s, g)]) := ⟨_, 1, rfl, Blk.new W2 [.int .i64 s, .int .i64 g] 38, range_new W2 [.int .i64 s, .int .i64 g] 38, rfl⟩
  have A3 := A2.none TA
  have L := Lib.hid (let_go (fs := [(s, g)]) A3.gone RV (by
    have h1 := OK.out.1
    have h2 := putsG_le ou (mergedH Os) S
    unfold pubG
    simp only [List.length_cons, List.length_nil]
    omega))
  have A3 := Lib.hid (And.intro A3 A1)
  clear r2 A1 A2 TA RV
  go_wp2_with fail
  with_reducible refine L.out.mono ?_
  clear L x9 x10
  rintro en W4 ⟨rfl, hg4, T4, hgb4⟩
  obtain ⟨A3, A1⟩ := A3.out
  have TA : Turn (fun _ => False) W2 (W2.alloc (.cells #[.int .i64 s, .int .i64 g] 38)) := (Turn.refl _ W2).alloc _
  generalize W2.alloc (.cells #[.int .i64 s, .int .i64 g] 38) = W3 at *
  have h3 := Aft.refl A3.desk A3.gone A3.apart
  have ap : ∀ k, P' k → k ≠ gb ∧ ¬ GB W4 gb k := fun k p => ⟨(A3.apart k p).1, fun g => (hgb4 k g).elim (A3.apart k p).2 (fun q => by have := A3.desk.lt p; omega)⟩
  have A34 : Aft W3 W4 d mb base qu ou (cnt + (mergedH Os).length + (lostL Os).length) m (pubD ou S Os) P' P' w.heap.size gb (pubG ou S Os ++ [(s, g)]) := ⟨A3.desk.turn T4 (fun k p q => q.elim (A3.apart k p).1 (A3.apart k p).2), hg4, T4.more (fun k _ q => .inr q), fun k p => .inl p, hgb4, ap, fun k p t => T4.block k t.lt (fun q => q.elim (A3.apart k p).1 (A3.apart k p).2), A3.apart⟩
  have A4 := A3.step A34
  obtain ⟨hG, R8, B8, hsz, B12, R12, hlt8⟩ := MID0.out
  have m8 := h3.no ((B8.turn A1.turn OK.out.2.1).turn TA id) (by decide)
  have m12 := h3.no ((B12.turn A1.turn OK.out.2.2.1).turn TA id) (by decide)
  have B8w := ((B8.turn A1.turn OK.out.2.1).turn TA id).turn A34.turn m8
  have R8w := range_turn (range_turn (range_turn R8 A1.turn OK.out.2.1) TA id) A34.turn m8
  have B12w := ((B12.turn A1.turn OK.out.2.2.1).turn TA id).turn A34.turn m12
  have R12w := range_turn (range_turn (range_turn R12 A1.turn OK.out.2.2.1) TA id) A34.turn m12
  have y1 : W4.cell? ⟨b12, 1, none⟩ = some (.int .i64 0) := R12w 1 _ rfl
  have fz := B12w.fz 1
  have TP : Turn (fun k => k = b12) W4 (W4.setCell ⟨b12, 1, none⟩ (.int .i64 stamp)) := Turn.put _ _ _ _
  have MD : Mid w (W4.setCell ⟨b12, 1, none⟩ (.int .i64 stamp)) d mb base qu ou (cnt + (mergedH Os).length + (lostL Os).length) P ((⟨pubD ou S Os, m, 0, stamp, [], pubG ou S Os ++ [(s, g)]⟩ : Res)) b8 b12 gb (.slice none 0 0) P' := by
    refine ⟨A4.quiet TP (fun k p e => A4.desk.no B12w (by decide) (e ▸ p)) (by omega) (fun k g e => (A4.gone.blk g).1.ne B12w (by decide) e) (fun k hk e => by omega), MRow.nil _ _ _, B8w.set _ _, B12w.set _ _, range_turn R8w TP (by omega), fun j u hu => ?_⟩
    match j, hu with
    | 0, hu => cases hu; exact (cell_off _ _ _ _ _ (by decide)).trans (R12w 0 _ rfl)
    | 1, hu => cases hu; exact World.cell?_setCell_same _ _ _ y1
    | 2, hu => cases hu; exact (cell_off _ _ _ _ _ (by decide)).trans (R12w 2 _ rfl)
  have MD := Lib.hid MD
  clear hG R8 B8 hsz B12 R12 hlt8 m8 m12 B8w R8w B12w R12w TP A4 A34 ap h3 A3 A1 TA hg4 T4 hgb4
  go_upto_region 20 with fail
  clear y1 fz k0 HR
  have MD := MD.out
  generalize W4.setCell ⟨b12, 1, none⟩ (.int .i64 stamp) = V at *
  obtain ⟨aa, an, ac, MD⟩ : ∃ aa an ac, Mid w V d mb base qu ou (cnt + (mergedH Os).length + (lostL Os).length) P ((⟨pubD ou S Os, m, 0, stamp, [], pubG ou S Os ++ [(s, g)]⟩ : Res)) b8 b12 gb (.slice aa an ac) P' := ⟨none, 0, 0, MD⟩
  obtain ⟨gv, cg, ⟨BGx, _⟩⟩ := (show ∃ gv, V.cell? ⟨gb, 0, none⟩ = some gv ∧ (Blk V gb 54 ∧ True) from by
    obtain ⟨gv, h1, h2, _⟩ := MD.aft.gone
    exact ⟨gv, h1, h2, trivial⟩)
  obtain ⟨ga, gn, gc, rfl⟩ : ∃ ga gn gc, gv = .slice ga gn gc := by
    obtain ⟨v, h1, _, h3, _⟩ := MD.aft.gone
    rw [cg] at h1
    cases h1
    obtain ⟨a, c, e, _⟩ := own_slice h3
    exact ⟨a, _, c, e⟩
  have c12 := MD.c12
  have n12 : b8 ≠ b12 := by have := MID0.out.2.2.2.2.2.2; omega
  have n8g : gb ≠ b8 := BGx.ne MD.bl8 (by decide)
  have TV : Turn (fun _ => False) V V.drew := (Turn.refl _ V).drewN 1
  have T8 : Turn (fun k => k = b8) V (V.drew.setCells b8 0 [.int .i64 ((⟨pubD ou S Os, m, 0, stamp, [], pubG ou S Os ++ [(s, g)]⟩ : Res)).err, .int .i64 ((⟨pubD ou S Os, m, 0, stamp, [], pubG ou S Os ++ [(s, g)]⟩ : Res)).num, .slice aa an ac]) := (TV.more (fun _ _ q => q.elim)).trans (Turn.setCells _ 0 (Turn.refl _ _) (.inl rfl))
  have P1 : V.drew.cell? ⟨gb, 0, none⟩ = some (.slice ga gn gc) ∧ V.drew.rangeAt b12 0 [.int .i64 ((⟨pubD ou S Os, m, 0, stamp, [], pubG ou S Os ++ [(s, g)]⟩ : Res)).err, .int .i64 ((⟨pubD ou S Os, m, 0, stamp, [], pubG ou S Os ++ [(s, g)]⟩ : Res)).num, .slice aa an ac] := ⟨cg, c12⟩
  have P2 : (V.drew.setCells b8 0 [.int .i64 ((⟨pubD ou S Os, m, 0, stamp, [], pubG ou S Os ++ [(s, g)]⟩ : Res)).err, .int .i64 ((⟨pubD ou S Os, m, 0, stamp, [], pubG ou S Os ++ [(s, g)]⟩ : Res)).num, .slice aa an ac]).cell? ⟨gb, 0, none⟩ = some (.slice ga gn gc) ∧ (V.drew.setCells b8 0 [.int .i64 ((⟨pubD ou S Os, m, 0, stamp, [], pubG ou S Os ++ [(s, g)]⟩ : Res)).err, .int .i64 ((⟨pubD ou S Os, m, 0, stamp, [], pubG ou S Os ++ [(s, g)]⟩ : Res)).num, .slice aa an ac]).rangeAt b12 0 [.int .i64 ((⟨pubD ou S Os, m, 0, stamp, [], pubG ou S Os ++ [(s, g)]⟩ : Res)).err, .int .i64 ((⟨pubD ou S Os, m, 0, stamp, [], pubG ou S Os ++ [(s, g)]⟩ : Res)).num, .slice aa an ac] := ⟨T8.cell n8g cg, range_turn c12 T8 (fun e => n12 e.symm)⟩
  have TH := Lib.hid (show V.drew.there b8 0 3 from range_there (range_turn MD.c8 TV id) rfl (MD.bl8.turn TV id))
  have DID := Lib.hid (MD.did (by omega) MID0.out.2.2.2.1 cg T8)
  clear MD cg c12 T8 TV BGx
  refine wp_region_held_drew (S := (fun w' => w'.cell? ⟨gb, 0, none⟩ = some (.slice ga gn gc) ∧ w'.rangeAt b12 0 [.int .i64 ((⟨pubD ou S Os, m, 0, stamp, [], pubG ou S Os ++ [(s, g)]⟩ : Res)).err, .int .i64 ((⟨pubD ou S Os, m, 0, stamp, [], pubG ou S Os ++ [(s, g)]⟩ : Res)).num, .slice aa an ac])) (by kernel_rfl) ?hs0 (fun hS0 => ?_)
  case hs0 => ((try dsimp only); first | with_reducible exact P1 | with_reducible exact P2 | exact P1 | exact P2)
  refine wpAnyH_take (i := 0) (oi := { dst := some 66, op := Op.load 53 (Operand.tmp 12), type := 53, pos := "queue.go:58", after := #[], guard := none }) (v := .agg #[.int .i64 ((⟨pubD ou S Os, m, 0, stamp, [], pubG ou S Os ++ [(s, g)]⟩ : Res)).err, .int .i64 ((⟨pubD ou S Os, m, 0, stamp, [], pubG ou S Os ++ [(s, g)]⟩ : Res)).num, .slice aa an ac]) rfl (by kernel_rfl) (by kernel_rfl) (by kernel_rfl) (fun _ _ _ h => h) (yieldsIf_load_mid rfl 53 _ rfl b12 0 rfl [.int .i64 ((⟨pubD ou S Os, m, 0, stamp, [], pubG ou S Os ++ [(s, g)]⟩ : Res)).err, .int .i64 ((⟨pubD ou S Os, m, 0, stamp, [], pubG ou S Os ++ [(s, g)]⟩ : Res)).num, .slice aa an ac] _ (fun _ hSw => hSw.2) Try.underlying53 rfl size53) hS0 ?_
  try simp only [Act.put, List.setIfInBounds_toArray, List.set_cons_zero, List.set_cons_succ]
  refine wpAnyH_take (i := 1) (oi := { dst := some 67, op := Op.load 54 (Operand.tmp 10), type := 54, pos := "queue.go:58", after := #[{ on := 2, ground := Ground.gcOnly Departure.lateStores }], guard := none }) (v := ?_) rfl (by kernel_rfl) (by kernel_rfl) (by kernel_rfl) (fun _ _ _ h => h) (Or.inl ⟨by rfl, ?hy2⟩) hS0 ?_
  case hy2 => (intro w hSw; (try dsimp only at hSw); go_simp; try with_reducible rfl)
  try simp only [Act.put, List.setIfInBounds_toArray, List.set_cons_zero, List.set_cons_succ]
  refine wpAnyH_ready (rs := [2]) (by kernel_rfl) (by simp) ?_
  refine AllReadyH.cons (o := { dst := none, op := Op.store 53 (Operand.tmp 8) (Operand.tmp 66), type := 0, pos := "queue.go:58", after := #[{ on := 0, ground := Ground.data }, { on := 0, ground := Ground.phase }, { on := 1, ground := Ground.textOnly Departure.lateStores }], guard := none }) rfl (fun K hK => ?_) ?_
  · refine wp_store_mid 53 _ _ rfl b8 0 #[.int .i64 ((⟨pubD ou S Os, m, 0, stamp, [], pubG ou S Os ++ [(s, g)]⟩ : Res)).err, .int .i64 ((⟨pubD ou S Os, m, 0, stamp, [], pubG ou S Os ++ [(s, g)]⟩ : Res)).num, .slice aa an ac] rfl rfl TH.out size53 (by simp [Value.oneCell']) ?_
    refine hK.out _ _ ?hs3 (fun hS3 => ?_)
    case hs3 => ((try dsimp only); first | with_reducible exact P1 | with_reducible exact P2 | exact P1 | exact P2)
    clear hK K hS0
    refine wpAnyH_take (i := 3) (oi := { dst := some 9, op := Op.assign (Operand.tmp 67), type := 54, pos := "queue.go:58", after := #[{ on := 1, ground := Ground.data }, { on := 2, ground := Ground.chain }, { on := 0, ground := Ground.phase }, { on := 1, ground := Ground.phase }, { on := 2, ground := Ground.phase }], guard := none }) (v := ?_) rfl (by kernel_rfl) (by kernel_rfl) (by kernel_rfl) (fun _ _ _ h => h) (Or.inl ⟨by rfl, ?hy4⟩) hS3 ?_
    case hy4 => (intro w hSw; (try dsimp only at hSw); go_simp; try with_reducible rfl)
    try simp only [Act.put, List.setIfInBounds_toArray, List.set_cons_zero, List.set_cons_succ]
    refine wpAnyH_done (by kernel_rfl) ?_ _
    go_wp2_with fail
    exact bodyPost_ret (v := .tuple #[.agg #[.int .i64 ((⟨pubD ou S Os, m, 0, stamp, [], pubG ou S Os ++ [(s, g)]⟩ : Res)).err, .int .i64 ((⟨pubD ou S Os, m, 0, stamp, [], pubG ou S Os ++ [(s, g)]⟩ : Res)).num, .slice aa an ac], .slice ga gn gc]) (res_cell_tmp (a := 8) (k := 9) rfl rfl rfl (run_loadVar_mid _ b8 0 53 _ _ (World.rangeAt_setCells_same _ b8 0 _ TH.out) Try.underlying53 rfl size53)) rfl ⟨_, _, rfl, _, DID.out⟩
  exact AllReadyH.nil
theorem Did.more {w' : World} {cnt' : Nat} {r : Res} {av gv : Value} {P' : Nat → Prop} (h : Did w w' d mb base qu ou cnt P r av gv P') (hc : cnt ≤ cnt') : Did w w' d mb base qu ou cnt' P r av gv P' := ⟨h.desk.more hc, h.turn, h.ms, h.own, h.ans, h.gone, h.apart⟩
/-- Do, whatever is asked. -/
theorem DAt.does (h : DAt w d mb base qu ou cnt m S P) {Os : List OutV} {stamp k i n s g : Int} {v : Value} (hs : (Lit.int .i64 stamp).wf = true) (hi : (Lit.int .i64 i).wf = true) (hn : ∀ l' lo, S i = some (l', lo) → (frefs l').length ≤ 1000000 ∧ l'.length ≤ 1000000)
    (ho : k = 1 → OutsAt w P v Os ∧ HitsAt w P Os ∧ OutsOk Os 1) (hcnt : cnt + (mergedH Os).length + (lostL Os).length < maxLen) :
    Calls Try.prog 13 #[.pointer (some ⟨d, 0, none⟩), .int .i64 stamp, .agg (cmdL k i n s g).toArray, v] w fun e w' => ∃ av gv, e = .returned (.tuple #[.agg #[.int .i64 (doR qu ou S m stamp k i n s g Os).err, .int .i64 (doR qu ou S m stamp k i n s g Os).num, av], gv]) ∧ ∃ P', Did w w' d mb base qu ou (cnt + (mergedH Os).length + (lostL Os).length + 1) P (doR qu ou S m stamp k i n s g Os) av gv P' := by
  unfold doR
  by_cases h2 : k = 2
  · subst h2
    rw [if_pos rfl]
    refine (h.do_reg hs (by omega) v).mono ?_
    rintro e w' ⟨av, gv, rfl, P', D⟩
    exact ⟨av, gv, rfl, P', D.more (by omega)⟩
  · rw [if_neg h2]
    by_cases h3 : k = 3
    · subst h3
      rw [if_pos rfl]
      refine (h.do_unr hi hn v).mono ?_
      rintro e w' ⟨av, gv, rfl, P', D⟩
      exact ⟨av, gv, rfl, P', D.more (by omega)⟩
    · rw [if_neg h3]
      by_cases h1 : k = 1
      · subst h1
        rw [if_pos rfl]
        obtain ⟨q1, q2, q3⟩ := ho rfl
        refine (h.do_pub q1 q2 q3 hcnt).mono ?_
        rintro e w' ⟨av, gv, rfl, P', D⟩
        exact ⟨av, gv, rfl, P', D.more (by omega)⟩
      · rw [if_neg h1]
        by_cases h4 : k = 4
        · subst h4
          rw [if_pos rfl]
          refine (h.do_pol hi (by omega) hn v).mono ?_
          rintro e w' ⟨av, gv, rfl, P', D⟩
          exact ⟨av, gv, rfl, P', D.more (by omega)⟩
        · rw [if_neg h4]
          by_cases h5 : k = 5
          · subst h5
            rw [if_pos rfl]
            refine (h.do_close v).mono ?_
            rintro e w' ⟨av, gv, rfl, P', D⟩
            exact ⟨av, gv, rfl, P', D.more (by omega)⟩
          · rw [if_neg h5]
            refine (h.do_else ⟨h1, h2, h3, h4, h5⟩ v).mono ?_
            rintro e w' ⟨av, gv, rfl, P', D⟩
            exact ⟨av, gv, rfl, P', D.more (by omega)⟩
end
end Go.Proofs.Ytepmealhnnoahaa
