/-
  A match is put: it waits.
-/
import Derived.Test.YtepmealhnnoahaaQk5
namespace Go.Proofs.Ytepmealhnnoahaa
open Go.ChangeShapes Go.WideShapes Go.ChangeAt Go.RowKit
set_option linter.unusedVariables false
theorem HoldAt.blk {M : Nat → Prop} {w : World} {base : Nat} {Q : Int → Option Wt} {F : Int → List Fnd} (h : HoldAt w base M Q F) {i : Int} {q : Wt} (hq : Q i = some q) {k : Nat} (hk : q.sl.ownBlock = some k) : Blk w k 71 := by
  obtain ⟨_, ⟨ps, hl, ho, _⟩⟩ := h.row i q hq
  rcases ho.2 with ⟨e, _⟩ | ⟨g', cap, cur, e, _, hgg, _⟩
  · rw [e] at hk; simp [Value.ownBlock] at hk
  · rw [e] at hk
    have : g' = k := by simpa [Value.ownBlock] using hk
    subst this
    exact ⟨_, hgg⟩
theorem FoundAt.room {N : Nat → Prop} {w : World} {vs vr : Value} {f : Fnd} (h : FoundAt w N vs vr f) : FoundAt w (fun k => N k ∨ w.heap.size ≤ k) vs vr f := by
  obtain ⟨⟨b, cap, vs', e, h1, hb, hr, hi⟩, hR, ha, s1, s2, r1, r2⟩ := h
  refine ⟨⟨b, cap, vs', e, fun q => q.elim h1 (fun q => by have := hb.lt; omega), hb, hr, hi.1, fun j l u hl hu => ?_⟩, hR, fun k hk q => q.elim (ha k hk) (fun q => ?_), s1, s2, r1, r2⟩
  · obtain ⟨x1, x2, x3⟩ := hi.2 j l u hl hu
    refine ⟨x1, fun k hk q => q.elim (x2 k hk) (fun q => ?_), x3⟩
    obtain ⟨g, c, eq, hg, _⟩ := x1
    rw [eq] at hk
    have : g = k := by simpa [Value.ownBlock] using hk
    have := hg.lt
    omega
  · obtain ⟨g, c, eq, hg, _⟩ := hR
    rw [eq] at hk
    have : g = k := by simpa [Value.ownBlock] using hk
    have := hg.lt
    omega
section
variable {w : World} {d mb : Nat} {qu ou : Int} {cnt m : Nat} {Q : Int → Option Wt}
set_option maxRecDepth 100000 in
set_option maxHeartbeats 4000000 in
theorem DeskAt.put_yes (h : DeskAt w d mb qu ou cnt m Q) {i : Int} (hi : (Lit.int .i64 i).wf = true) {bk : Option Nat} {n cap : Nat} (hq : Q i = some ⟨bk, n, cap, false⟩) (hlt : (n : Int) < ou) (hcnt : cnt < maxLen)
    {base : Nat} {M : Nat → Prop} {F : Int → List Fnd} (hh : HoldAt w base M Q F) (hM : ¬ M mb) (hb : base ≤ w.heap.size) (hlen : (F i).length ≤ 1000000) {N : Nat → Prop} {vs vr : Value} {f : Fnd} (hf : FoundAt w N vs vr f) {lg : Value} :
    Calls Try.prog 39 #[.pointer (some ⟨d, 0, none⟩), .agg #[.int .i64 i, vs, vr], lg] w fun e w' => e = .returned (.tuple #[]) ∧ ∃ q' M',
      DeskAt w' d mb qu ou (cnt + 1) m (updI Q i (some q')) ∧ q'.lost = false ∧ HoldAt w' base M' (updI Q i (some q')) (updI F i (F i ++ [f])) ∧ Turn (fun k => k = mb ∨ (Wt.sl ⟨bk, n, cap, false⟩).ownBlock = some k) w w' ∧ (∀ k, M' k → M k ∨ w.heap.size ≤ k) ∧
      (∀ k, q'.sl.ownBlock = some k → (Wt.sl ⟨bk, n, cap, false⟩).ownBlock = some k ∨ w.heap.size ≤ k) := by
  obtain ⟨sb, sc, rfl⟩ := hf.sets.sl
  obtain ⟨rb, rc, rfl⟩ := hf.refs.sl
  obtain ⟨ad, had⟩ : ∃ ad : Option Addr, bk.map (fun b => (⟨b, 0, none⟩ : Addr)) = ad := ⟨_, rfl⟩
  obtain ⟨W, hW⟩ : ∃ W, W = (w.alloc (.cells #[.int .i64 i, .slice (some ⟨sb, 0, none⟩) f.sets.length sc, .slice (some ⟨rb, 0, none⟩) f.refs.length rc] 73)) := ⟨_, rfl⟩
  have T0 : Turn (fun _ => False) w W := by rw [hW]; exact (Turn.refl _ w).alloc _
  have C : W.rangeAt w.heap.size 0 [.int .i64 i, .slice (some ⟨sb, 0, none⟩) f.sets.length sc, .slice (some ⟨rb, 0, none⟩) f.refs.length rc] := by rw [hW]; exact range_new w [.int .i64 i, .slice (some ⟨sb, 0, none⟩) f.sets.length sc, .slice (some ⟨rb, 0, none⟩) f.refs.length rc] 73
  go_enter Try.func39, Try.ntmps39
  go_upto_region 1 with fail
  rw [← hW]
  have BW := Lib.hid (show w.heap.size < W.heap.size from by rw [hW, World.size_alloc]; omega)
  clear hW
  obtain ⟨b1, hb1⟩ : ∃ b1, b1 = w.heap.size := ⟨_, rfl⟩
  rw [← hb1] at C
  try rw [← hb1]
  have HB := Lib.hid (show ∀ W', Turn (fun _ => False) w W' → w.heap.size ≤ W'.heap.size from fun W' t => t.size)
  have hd := h.keep T0
  have KS := Lib.hid (show ∀ w1, Turn (fun _ => False) W w1 → w1.cell? ⟨d, 7, none⟩ = some (.map (some mb)) ∧ w1.cell? ⟨b1, 0, none⟩ = some (.int .i64 i) ∧ (Instr.lookup 80 (.map (some mb)) (.int .i64 i) true).run Try.prog w1 = .ok (.tuple #[.agg #[.slice ad n cap, .bool false], .bool true]) w1 from fun w1 t => by
    have hd1 := hd.keep t
    have LK := hd1.mp.look (t := 80) (e := 94) Try.underlying3 Try.underlying80 (zero94 _) hi
    rw [hq] at LK
    unfold Wt.val Wt.sl at LK
    dsimp only [Option.getD_some, Option.isSome_some] at LK
    rw [had] at LK
    exact ⟨hd1.c7, t.cell id (C 0 _ rfl), LK⟩)
  have HH := Lib.hid (And.intro h (And.intro hh (And.intro hf T0)))
  have CC := Lib.hid C
  have HB1 := Lib.hid hb1
  have T1 : Turn (fun _ => False) W W.drew := (Turn.refl _ W).drewN 1
  clear h hh hf T0 C hd hb1
  refine wp_region_held_drew (S := (fun w' => w'.cell? ⟨d, 7, none⟩ = some (.map (some mb)) ∧ w'.cell? ⟨b1, 0, none⟩ = some (.int .i64 i) ∧ (Instr.lookup 80 (.map (some mb)) (.int .i64 i) true).run Try.prog w' = .ok (.tuple #[.agg #[.slice ad n cap, .bool false], .bool true]) w')) (by kernel_rfl) ?hs0 (fun hS0 => ?_)
  case hs0 => ((try dsimp only); first | with_reducible exact KS.out _ T1 | with_reducible exact KS.out _ T2 | with_reducible exact KS.out _ T3 | exact KS.out _ T1 | exact KS.out _ T2 | exact KS.out _ T3)
  refine wpAnyH_take (i := 0) (oi := { dst := some 9, op := Op.move (Operand.tmp 0), type := 25, pos := "queue.go:99", after := #[], guard := none }) (v := ?_) rfl (by kernel_rfl) (by kernel_rfl) (by kernel_rfl) (fun _ _ _ h => h) (Or.inl ⟨by rfl, ?hy1⟩) hS0 ?_
  case hy1 => (intro w hSw; (try dsimp only at hSw); go_simp; try with_reducible rfl)
  try simp only [Act.put, List.setIfInBounds_toArray, List.set_cons_zero, List.set_cons_succ]
  refine wpAnyH_take (i := 1) (oi := { dst := some 10, op := Op.nilCheck (Operand.tmp 9), type := 0, pos := "queue.go:99", after := #[{ on := 0, ground := Ground.data }], guard := none }) (v := ?_) rfl (by kernel_rfl) (by kernel_rfl) (by kernel_rfl) (fun _ _ _ h => h) (Or.inl ⟨by rfl, ?hy2⟩) hS0 ?_
  case hy2 => (intro w hSw; (try dsimp only at hSw); go_simp; try with_reducible rfl)
  try simp only [Act.put, List.setIfInBounds_toArray, List.set_cons_zero, List.set_cons_succ]
  refine wpAnyH_take (i := 2) (oi := { dst := some 11, op := Op.fieldAddr 82 (Operand.tmp 10) 1, type := 0, pos := "queue.go:99", after := #[{ on := 1, ground := Ground.data }], guard := none }) (v := ?_) rfl (by kernel_rfl) (by kernel_rfl) (by kernel_rfl) (fun _ _ _ h => h) (Or.inl ⟨by rfl, ?hy3⟩) hS0 ?_
  case hy3 => (intro w hSw; (try dsimp only at hSw); go_simp; try with_reducible rfl)
  try simp only [Act.put, List.setIfInBounds_toArray, List.set_cons_zero, List.set_cons_succ]
  refine wpAnyH_take (i := 3) (oi := { dst := some 12, op := Op.load 80 (Operand.tmp 11), type := 80, pos := "queue.go:99", after := #[{ on := 2, ground := Ground.data }], guard := none }) (v := ?_) rfl (by kernel_rfl) (by kernel_rfl) (by kernel_rfl) (fun _ _ _ h => h) (Or.inl ⟨by rfl, ?hy4⟩) hS0 ?_
  case hy4 => (intro w hSw; (try dsimp only at hSw); go_simp; try with_reducible rfl)
  try simp only [Act.put, List.setIfInBounds_toArray, List.set_cons_zero, List.set_cons_succ]
  refine wpAnyH_take (i := 4) (oi := { dst := some 13, op := Op.fieldAddr 73 (Operand.tmp 4) 0, type := 0, pos := "queue.go:99", after := #[], guard := none }) (v := ?_) rfl (by kernel_rfl) (by kernel_rfl) (by kernel_rfl) (fun _ _ _ h => h) (Or.inl ⟨by rfl, ?hy5⟩) hS0 ?_
  case hy5 => (intro w hSw; (try dsimp only at hSw); go_simp; try with_reducible rfl)
  try simp only [Act.put, List.setIfInBounds_toArray, List.set_cons_zero, List.set_cons_succ]
  refine wpAnyH_take (i := 5) (oi := { dst := some 14, op := Op.load 3 (Operand.tmp 13), type := 3, pos := "queue.go:99", after := #[{ on := 4, ground := Ground.data }], guard := none }) (v := ?_) rfl (by kernel_rfl) (by kernel_rfl) (by kernel_rfl) (fun _ _ _ h => h) (Or.inl ⟨by rfl, ?hy6⟩) hS0 ?_
  case hy6 => (intro w hSw; (try dsimp only at hSw); go_simp; try with_reducible rfl)
  try simp only [Act.put, List.setIfInBounds_toArray, List.set_cons_zero, List.set_cons_succ]
  refine wpAnyH_take (i := 6) (oi := { dst := some 15, op := Op.lookup 80 (Operand.tmp 12) (Operand.tmp 14) true, type := 96, pos := "queue.go:99", after := #[{ on := 3, ground := Ground.data }, { on := 5, ground := Ground.data }], guard := none }) (v := ?_) rfl (by kernel_rfl) (by kernel_rfl) (by kernel_rfl) (fun _ _ _ h => h) (Or.inl ⟨by rfl, ?hy7⟩) hS0 ?_
  case hy7 => (intro w hSw; (try dsimp only at hSw); go_simp; try with_reducible rfl)
  try simp only [Act.put, List.setIfInBounds_toArray, List.set_cons_zero, List.set_cons_succ]
  refine wpAnyH_take (i := 7) (oi := { dst := some 8, op := Op.move (Operand.tmp 15), type := 96, pos := "queue.go:99", after := #[{ on := 6, ground := Ground.data }], guard := none }) (v := ?_) rfl (by kernel_rfl) (by kernel_rfl) (by kernel_rfl) (fun _ _ _ h => h) (Or.inl ⟨by rfl, ?hy8⟩) hS0 ?_
  case hy8 => (intro w hSw; (try dsimp only at hSw); go_simp; try with_reducible rfl)
  try simp only [Act.put, List.setIfInBounds_toArray, List.set_cons_zero, List.set_cons_succ]
  refine wpAnyH_take (i := 8) (oi := { dst := some 16, op := Op.extract (Operand.tmp 8) 0, type := 94, pos := "queue.go:99", after := #[{ on := 7, ground := Ground.data }], guard := none }) (v := ?_) rfl (by kernel_rfl) (by kernel_rfl) (by kernel_rfl) (fun _ _ _ h => h) (Or.inl ⟨by rfl, ?hy9⟩) hS0 ?_
  case hy9 => (intro w hSw; (try dsimp only at hSw); go_simp; try with_reducible rfl)
  try simp only [Act.put, List.setIfInBounds_toArray, List.set_cons_zero, List.set_cons_succ]
  refine wpAnyH_take (i := 9) (oi := { dst := some 17, op := Op.extract (Operand.tmp 8) 1, type := 4, pos := "queue.go:99", after := #[{ on := 7, ground := Ground.data }, { on := 11, ground := Ground.gcOnly Departure.lateStores }], guard := none }) (v := ?_) rfl (by kernel_rfl) (by kernel_rfl) (by kernel_rfl) (fun _ _ _ h => h) (Or.inl ⟨by rfl, ?hy10⟩) hS0 ?_
  case hy10 => (intro w hSw; (try dsimp only at hSw); go_simp; try with_reducible rfl)
  try simp only [Act.put, List.setIfInBounds_toArray, List.set_cons_zero, List.set_cons_succ]
  refine wpAnyH_ready (rs := [10]) (by kernel_rfl) (by simp) ?_
  refine AllReadyH.cons (o := { dst := some 6, op := Op.alloc 94, type := 0, pos := "queue.go:99", after := #[], guard := none }) rfl (fun K hK => ?_) ?_
  · go_simp; have T2 : Turn (fun _ => False) W (W.drew.alloc (.cells #[.slice none 0 0, .bool false] 94)) := T1.alloc _; have C2 := Lib.hid (And.intro (range_new W.drew [.slice none 0 0, .bool false] 94) (Blk.new W.drew [.slice none 0 0, .bool false] 94)); go_simp
    refine hK.out _ _ ?hs11 (fun hS11 => ?_)
    case hs11 => ((try dsimp only); first | with_reducible exact KS.out _ T1 | with_reducible exact KS.out _ T2 | with_reducible exact KS.out _ T3 | exact KS.out _ T1 | exact KS.out _ T2 | exact KS.out _ T3)
    clear hK K hS0
    refine wpAnyH_ready (rs := [11]) (by kernel_rfl) (by simp) ?_
    refine AllReadyH.cons (o := { dst := none, op := Op.store 94 (Operand.tmp 6) (Operand.tmp 16), type := 0, pos := "queue.go:99", after := #[{ on := 10, ground := Ground.data }, { on := 8, ground := Ground.data }, { on := 0, ground := Ground.phase }, { on := 1, ground := Ground.phase }, { on := 2, ground := Ground.phase }, { on := 3, ground := Ground.phase }, { on := 4, ground := Ground.phase }, { on := 5, ground := Ground.phase }, { on := 6, ground := Ground.phase }, { on := 7, ground := Ground.phase }, { on := 8, ground := Ground.phase }, { on := 9, ground := Ground.textOnly Departure.lateStores }, { on := 10, ground := Ground.phase }], guard := none }) rfl (fun K hK => ?_) ?_
    · refine wp_store_mid 94 _ _ rfl W.drew.heap.size 0 #[.slice ad n cap, .bool false] rfl rfl (range_there C2.out.1 rfl C2.out.2) size94 (by simp [Value.oneCell']) ?_; have T3 : Turn (fun _ => False) W ((W.drew.alloc (.cells #[.slice none 0 0, .bool false] 94)).setCells W.drew.heap.size 0 [.slice ad n cap, .bool false]) := T1.trans (((Turn.refl (fun _ => False) W.drew).alloc _).comp (Turn.setCells (S := fun k => k = W.drew.heap.size) _ 0 (Turn.refl _ _) (.inl rfl)) (fun k hk e => by omega))
      refine hK.out _ _ ?hs12 (fun hS12 => ?_)
      case hs12 => ((try dsimp only); first | with_reducible exact KS.out _ T1 | with_reducible exact KS.out _ T2 | with_reducible exact KS.out _ T3 | exact KS.out _ T1 | exact KS.out _ T2 | exact KS.out _ T3)
      clear hK K hS11
      refine wpAnyH_take (i := 12) (oi := { dst := some 7, op := Op.assign (Operand.tmp 17), type := 4, pos := "queue.go:99", after := #[{ on := 9, ground := Ground.data }, { on := 11, ground := Ground.chain }, { on := 0, ground := Ground.phase }, { on := 1, ground := Ground.phase }, { on := 2, ground := Ground.phase }, { on := 3, ground := Ground.phase }, { on := 4, ground := Ground.phase }, { on := 5, ground := Ground.phase }, { on := 6, ground := Ground.phase }, { on := 7, ground := Ground.phase }, { on := 8, ground := Ground.phase }, { on := 9, ground := Ground.phase }, { on := 10, ground := Ground.phase }, { on := 11, ground := Ground.phase }], guard := none }) (v := ?_) rfl (by kernel_rfl) (by kernel_rfl) (by kernel_rfl) (fun _ _ _ h => h) (Or.inl ⟨by rfl, ?hy13⟩) hS12 ?_
      case hy13 => (intro w hSw; (try dsimp only at hSw); go_simp; try with_reducible rfl)
      try simp only [Act.put, List.setIfInBounds_toArray, List.set_cons_zero, List.set_cons_succ]
      refine wpAnyH_done (by kernel_rfl) ?_ _
      have T3 : Turn (fun _ => False) W ((W.alloc (.cells #[.slice none 0 0, .bool false] 94)).drew.setCells W.drew.heap.size 0 [.slice ad n cap, .bool false]) := T3
      have R3 : World.rangeAt ((W.alloc (.cells #[.slice none 0 0, .bool false] 94)).drew.setCells W.drew.heap.size 0 [.slice ad n cap, .bool false]) W.heap.size 0 [.slice ad n cap, .bool false] := World.rangeAt_setCells_same _ W.drew.heap.size 0 [.slice ad n cap, .bool false] (range_there C2.out.1 rfl C2.out.2)
      have B3 : Blk ((W.alloc (.cells #[.slice none 0 0, .bool false] 94)).drew.setCells W.drew.heap.size 0 [.slice ad n cap, .bool false]) W.heap.size 94 := Blk.setCells _ 0 C2.out.2
      generalize ((W.alloc (.cells #[.slice none 0 0, .bool false] 94)).drew.setCells W.drew.heap.size 0 [.slice ad n cap, .bool false]) = W3 at *
      have y0 : W3.cell? ⟨W.heap.size, 0, none⟩ = some (.slice ad n cap) := R3 0 _ rfl
      have y1 : W3.cell? ⟨W.heap.size, 1, none⟩ = some (.bool false) := R3 1 _ rfl
      obtain ⟨h, hh, hf, T0⟩ := HH.out
      have TW := T0.trans T3
      have hd3 := h.keep TW
      have c5 := hd3.c5
      have c7 := hd3.c7
      have RR := T3
      go_wp2_with fail
      go_region
      go_wp2_with fail
      obtain ⟨V, hV⟩ : ∃ V, V = W3.drew := ⟨_, rfl⟩
      have TV : Turn (fun _ => False) W3 V := by rw [hV]; exact (Turn.refl _ W3).drewN 1
      have TwV := TW.trans TV
      have Y0 := Lib.hid (TV.cell id y0)
      have BB := Lib.hid (B3.turn TV id)
      have Y1 := Lib.hid (TV.cell id y1)
      have X0 := Lib.hid ((T3.trans TV).cell id (CC.out 0 _ rfl))
      have H5 := Lib.hid (And.intro h (And.intro hh (And.intro (hd3.keep TV) TwV)))
      have CV : V.rangeAt b1 1 [.slice (some ⟨sb, 0, none⟩) f.sets.length sc, .slice (some ⟨rb, 0, none⟩) f.refs.length rc] := fun j v hj => (T3.trans TV).cell id (by have := CC.out (j + 1) v hj; rw [Nat.zero_add] at this; rw [Nat.add_comm]; exact this)
      have BN := Lib.hid (show ¬ (Wt.sl ⟨bk, n, cap, false⟩).ownBlock = some W.heap.size from fun e => by have := ((hh.row _ _ hq).2.lt _ e).2; have := HB.out _ T0; omega)
      have BX := BW
      have B1N : ¬ (Wt.sl ⟨bk, n, cap, false⟩).ownBlock = some b1 := fun e => by have := ((hh.row _ _ hq).2.lt _ e).2; have := HB1.out; omega
      have KS := Lib.hid (show ∀ w1, Turn (fun _ => False) V w1 → w1.rangeAt b1 1 [.slice (some ⟨sb, 0, none⟩) f.sets.length sc, .slice (some ⟨rb, 0, none⟩) f.refs.length rc] from fun w1 t => range_turn CV t id)
      have KB := Lib.hid (show ∀ w1, Turn (fun k => k = W.heap.size ∨ (Wt.sl ⟨bk, n, cap, false⟩).ownBlock = some k) V w1 → w1.rangeAt b1 1 [.slice (some ⟨sb, 0, none⟩) f.sets.length sc, .slice (some ⟨rb, 0, none⟩) f.refs.length rc] from fun w1 t => range_turn CV t (fun q => by
        rcases q with q | q
        · have := HB1.out; have := BX.out; omega
        · exact B1N q))
      have hf3 := hf.turn TwV (fun _ _ q => q.elim)
      have hh3 := hh.turn TwV (fun _ _ q => q) (fun _ _ _ _ _ q => q)
      have OF := Lib.hid (show ∀ w1, Turn (fun _ => False) V w1 → Calls Try.prog 48 #[.agg #[.slice (some ⟨sb, 0, none⟩) f.sets.length sc, .slice (some ⟨rb, 0, none⟩) f.refs.length rc]] w1 (fun e w' => ∃ xb xc yb yc, e = .returned (.agg #[.slice (some ⟨xb, 0, none⟩) f.sets.length xc, .slice (some ⟨yb, 0, none⟩) f.refs.length yc]) ∧
          FoundAt w' (fun k => k < V.heap.size) (.slice (some ⟨xb, 0, none⟩) f.sets.length xc) (.slice (some ⟨yb, 0, none⟩) f.refs.length yc) f ∧ Turn (fun _ => False) w1 w') from fun w1 t => by
        refine (own_found (hf3.turn t (fun _ _ q => q.elim))).mono ?_
        rintro e w' ⟨v1, v2, rfl, h1, h2⟩
        obtain ⟨xb, xc, rfl⟩ := h1.sets.sl
        obtain ⟨yb, yc, rfl⟩ := h1.refs.sl
        exact ⟨xb, xc, yb, yc, rfl, h1.weak (fun k q => Nat.lt_of_lt_of_le q t.size), h2⟩)
      have AD := Lib.hid (show ∀ W4, Turn (fun _ => False) V W4 → ∀ x1 x2, FoundAt W4 (fun k => k < V.heap.size) x1 x2 f → ∃ a' n' c' W6, ∃ q' : Wt,
          (Builtin.append_ #[89, 89] 89 #[.slice ad n cap, .slice (some ⟨W4.heap.size, 0, none⟩) 1 1]).run Try.prog (W4.alloc (.cells #[x1, x2] 71)) = .ok (.slice a' n' c') W6 ∧ Turn (fun k => (Wt.sl ⟨bk, n, cap, false⟩).ownBlock = some k) V W6 ∧
          q'.sl = .slice a' n' c' ∧ q'.lost = false ∧ HoldAt W6 base (fun k => M k ∨ V.heap.size ≤ k ∧ k < W4.heap.size) (updI Q i (some q')) (updI F i (F i ++ [f])) ∧
          (∀ k, q'.sl.ownBlock = some k → (Wt.sl ⟨bk, n, cap, false⟩).ownBlock = some k ∨ w.heap.size ≤ k) from fun W4 t x1 x2 hx => by
        have h4 := (hh3.turn t (fun _ _ q => q) (fun _ _ _ _ _ q => q)).more (M' := fun k => M k ∨ V.heap.size ≤ k ∧ k < W4.heap.size) (fun k q => .inl q) (fun k q => by
          rcases q with q | q
          · exact Nat.lt_of_lt_of_le (hh3.mlt k q) t.size
          · exact q.2) (fun j r k hr hk q => by
          rcases q with q | q
          · exact hh.mno j r k hr hk q
          · have := ((hh3.row j r hr).2.lt k hk).2
            omega)
        obtain ⟨q', W6, hr, e1, e2, hA, hT, hB⟩ := h4.add hq (Nat.le_trans hb (Nat.le_trans TwV.size t.size)) hlen (hx.room.weak (fun k q => by
          have : ¬ (V.heap.size ≤ k ∧ k < W4.heap.size) := fun q2 => q (.inr q2)
          omega))
        have hs : Wt.sl ⟨bk, n, cap, false⟩ = .slice ad n cap := by unfold Wt.sl; rw [had]
        rw [hs] at hr
        refine ⟨_, _, _, W6, q', hr, (t.more (fun _ _ q => q.elim)).trans hT, rfl, e1, hA, fun k hk => (hB k hk).imp id (fun q => Nat.le_trans (Nat.le_trans TwV.size t.size) q)⟩)
      clear y0 y1 c5 c7 R3 B3
      subst hV
      have T1 : Turn (fun _ => False) W3.drew W3.drew.drew := (Turn.refl _ W3.drew).drewN 1
      clear T0 TW TV TwV hd3 RR T3 h hh hf hf3 hh3 CV B1N C2
      refine wp_region_held_drew (S := (fun w' => w'.rangeAt b1 1 [.slice (some ⟨sb, 0, none⟩) f.sets.length sc, .slice (some ⟨rb, 0, none⟩) f.refs.length rc])) (by kernel_rfl) ?hs0 (fun hS0 => ?_)
      case hs0 => ((try dsimp only); first | with_reducible exact KS.out _ T1 | with_reducible exact KS.out _ T2 | with_reducible exact KS.out _ T3 | with_reducible exact KB.out _ (T4.more (fun _ _ q => .inr q)) | with_reducible exact KB.out _ T5 | exact KS.out _ T1 | exact KS.out _ T2 | exact KS.out _ T3 | exact KB.out _ (T4.more (fun _ _ q => .inr q)) | exact KB.out _ T5)
      refine wpAnyH_take (i := 0) (oi := { dst := some 44, op := Op.fieldAddr 94 (Operand.tmp 6) 0, type := 0, pos := "queue.go:105", after := #[], guard := none }) (v := ?_) rfl (by kernel_rfl) (by kernel_rfl) (by kernel_rfl) (fun _ _ _ h => h) (Or.inl ⟨by rfl, ?hy1⟩) hS0 ?_
      case hy1 => (intro w hSw; (try dsimp only at hSw); go_simp; try with_reducible rfl)
      try simp only [Act.put, List.setIfInBounds_toArray, List.set_cons_zero, List.set_cons_succ]
      refine wpAnyH_take (i := 2) (oi := { dst := some 46, op := Op.fieldAddr 73 (Operand.tmp 4) 1, type := 0, pos := "queue.go:105", after := #[], guard := none }) (v := ?_) rfl (by kernel_rfl) (by kernel_rfl) (by kernel_rfl) (fun _ _ _ h => h) (Or.inl ⟨by rfl, ?hy2⟩) hS0 ?_
      case hy2 => (intro w hSw; (try dsimp only at hSw); go_simp; try with_reducible rfl)
      try simp only [Act.put, List.setIfInBounds_toArray, List.set_cons_zero, List.set_cons_succ]
      refine wpAnyH_take (i := 3) (oi := { dst := some 47, op := Op.load 71 (Operand.tmp 46), type := 71, pos := "queue.go:105", after := #[{ on := 2, ground := Ground.data }], guard := none }) (v := .agg #[.slice (some ⟨sb, 0, none⟩) f.sets.length sc, .slice (some ⟨rb, 0, none⟩) f.refs.length rc]) rfl (by kernel_rfl) (by kernel_rfl) (by kernel_rfl) (fun _ _ _ h => h) (yieldsIf_load_mid rfl 71 _ rfl b1 1 rfl [.slice (some ⟨sb, 0, none⟩) f.sets.length sc, .slice (some ⟨rb, 0, none⟩) f.refs.length rc] _ (fun _ hSw => hSw) Try.underlying71 rfl size71) hS0 ?_
      try simp only [Act.put, List.setIfInBounds_toArray, List.set_cons_zero, List.set_cons_succ]
      refine wpAnyH_ready (rs := [1, 4]) (by kernel_rfl) (by simp) ?_
      refine AllReadyH.cons (o := { dst := some 45, op := Op.load 89 (Operand.tmp 44), type := 89, pos := "queue.go:105", after := #[{ on := 0, ground := Ground.data }], guard := none }) rfl (fun K hK => ?_) ?_
      · (have y0 := T1.cell id Y0.out); go_simp
        refine hK.out _ _ ?hs4 (fun hS4 => ?_)
        case hs4 => ((try dsimp only); first | with_reducible exact KS.out _ T1 | with_reducible exact KS.out _ T2 | with_reducible exact KS.out _ T3 | with_reducible exact KB.out _ (T4.more (fun _ _ q => .inr q)) | with_reducible exact KB.out _ T5 | exact KS.out _ T1 | exact KS.out _ T2 | exact KS.out _ T3 | exact KB.out _ (T4.more (fun _ _ q => .inr q)) | exact KB.out _ T5)
        clear hK K hS0
        refine wpAnyH_ready (rs := [4]) (by kernel_rfl) (by simp) ?_
        refine AllReadyH.cons (o := { dst := some 48, op := Op.call { callee := Callee.value (Operand.func 48), args := #[Operand.tmp 47], argTypes := #[71] }, type := 71, pos := "queue.go:105", after := #[{ on := 3, ground := Ground.data }], guard := none }) rfl (fun K hK => ?_) ?_
        · go_simp; with_reducible refine (OF.out _ T1).mono ?_; rintro en W4 ⟨xb, xc, yb, yc, rfl, hf4, T14⟩; have T2 := T1.trans T14; have y0 := T2.cell id Y0.out; have T3 : Turn (fun _ => False) W3.drew (W4.alloc (.cells #[.slice (some ⟨xb, 0, none⟩) f.sets.length xc, .slice (some ⟨yb, 0, none⟩) f.refs.length yc] 71)) := T2.alloc _; have z0 := T3.cell id Y0.out; obtain ⟨a', n', c', W6, q', RA, A5⟩ := AD.out W4 T2 _ _ hf4; have RA := Lib.hid RA; have A5 := Lib.hid A5; have T4 := A5.out.1; clear hf4 T14; go_simp
          refine hK.out _ _ ?hs5 (fun hS5 => ?_)
          case hs5 => ((try dsimp only); first | with_reducible exact KS.out _ T1 | with_reducible exact KS.out _ T2 | with_reducible exact KS.out _ T3 | with_reducible exact KB.out _ (T4.more (fun _ _ q => .inr q)) | with_reducible exact KB.out _ T5 | exact KS.out _ T1 | exact KS.out _ T2 | exact KS.out _ T3 | exact KB.out _ (T4.more (fun _ _ q => .inr q)) | exact KB.out _ T5)
          clear hK K hS4
          refine wpAnyH_ready (rs := [5]) (by kernel_rfl) (by simp) ?_
          refine AllReadyH.cons (o := { dst := some 49, op := Op.buildSlice 89 1 #[(0, Operand.tmp 48)], type := 89, pos := "queue.go:105", after := #[{ on := 4, ground := Ground.data }], guard := none }) rfl (fun K hK => ?_) ?_
          · go_simp
            refine hK.out _ _ ?hs6 (fun hS6 => ?_)
            case hs6 => ((try dsimp only); first | with_reducible exact KS.out _ T1 | with_reducible exact KS.out _ T2 | with_reducible exact KS.out _ T3 | with_reducible exact KB.out _ (T4.more (fun _ _ q => .inr q)) | with_reducible exact KB.out _ T5 | exact KS.out _ T1 | exact KS.out _ T2 | exact KS.out _ T3 | exact KB.out _ (T4.more (fun _ _ q => .inr q)) | exact KB.out _ T5)
            clear hK K hS5
            refine wpAnyH_ready (rs := [6]) (by kernel_rfl) (by simp) ?_
            refine AllReadyH.cons (o := { dst := some 50, op := Op.call { callee := Callee.builtin Builtin.append, args := #[Operand.tmp 45, Operand.tmp 49], argTypes := #[89, 89] }, type := 89, pos := "queue.go:105", after := #[{ on := 1, ground := Ground.data }, { on := 5, ground := Ground.data }, { on := 4, ground := Ground.chain }], guard := none }) rfl (fun K hK => ?_) ?_
            · refine rs_append_run (by rfl) _ _ _ (by rfl) (by rfl) (by rfl) RA.out ?_
              refine hK.out _ _ ?hs7 (fun hS7 => ?_)
              case hs7 => ((try dsimp only); first | with_reducible exact KS.out _ T1 | with_reducible exact KS.out _ T2 | with_reducible exact KS.out _ T3 | with_reducible exact KB.out _ (T4.more (fun _ _ q => .inr q)) | with_reducible exact KB.out _ T5 | exact KS.out _ T1 | exact KS.out _ T2 | exact KS.out _ T3 | exact KB.out _ (T4.more (fun _ _ q => .inr q)) | exact KB.out _ T5)
              clear hK K hS6
              refine wpAnyH_take (i := 7) (oi := { dst := some 51, op := Op.fieldAddr 94 (Operand.tmp 6) 0, type := 0, pos := "queue.go:105", after := #[{ on := 0, ground := Ground.phase }, { on := 1, ground := Ground.phase }, { on := 2, ground := Ground.phase }, { on := 3, ground := Ground.phase }, { on := 4, ground := Ground.phase }, { on := 5, ground := Ground.phase }, { on := 6, ground := Ground.phase }], guard := none }) (v := ?_) rfl (by kernel_rfl) (by kernel_rfl) (by kernel_rfl) (fun _ _ _ h => h) (Or.inl ⟨by rfl, ?hy8⟩) hS7 ?_
              case hy8 => (intro w hSw; (try dsimp only at hSw); go_simp; try with_reducible rfl)
              try simp only [Act.put, List.setIfInBounds_toArray, List.set_cons_zero, List.set_cons_succ]
              refine wpAnyH_ready (rs := [8]) (by kernel_rfl) (by simp) ?_
              refine AllReadyH.cons (o := { dst := none, op := Op.store 89 (Operand.tmp 51) (Operand.tmp 50), type := 0, pos := "queue.go:105", after := #[{ on := 7, ground := Ground.data }, { on := 6, ground := Ground.data }, { on := 6, ground := Ground.chain }, { on := 0, ground := Ground.phase }, { on := 1, ground := Ground.phase }, { on := 2, ground := Ground.phase }, { on := 3, ground := Ground.phase }, { on := 4, ground := Ground.phase }, { on := 5, ground := Ground.phase }, { on := 6, ground := Ground.phase }], guard := none }) rfl (fun K hK => ?_) ?_
              · have g0 := T4.cell BN.out Y0.out; have fz := (Blk.turn BB.out T4 BN.out).fz 0; have T5 : Turn (fun k => k = W.heap.size ∨ (Wt.sl ⟨bk, n, cap, false⟩).ownBlock = some k) W3.drew (W6.setCell ⟨W.heap.size, 0, none⟩ (.slice a' n' c')) := (T4.more (fun _ _ q => .inr q)).trans (Turn.put _ _ _ _ |>.more (fun _ _ q => .inl q)); go_simp
                refine hK.out _ _ ?hs9 (fun hS9 => ?_)
                case hs9 => ((try dsimp only); first | with_reducible exact KS.out _ T1 | with_reducible exact KS.out _ T2 | with_reducible exact KS.out _ T3 | with_reducible exact KB.out _ (T4.more (fun _ _ q => .inr q)) | with_reducible exact KB.out _ T5 | exact KS.out _ T1 | exact KS.out _ T2 | exact KS.out _ T3 | exact KB.out _ (T4.more (fun _ _ q => .inr q)) | exact KB.out _ T5)
                clear hK K hS7
                refine wpAnyH_done (by kernel_rfl) ?_ _
                obtain ⟨_, es, el, hA, hfr⟩ := A5.out
                obtain ⟨h, hh, hd3, T30⟩ := H5.out
                have y0 : (W6.setCell ⟨W.heap.size, 0, none⟩ (.slice a' n' c')).cell? ⟨W.heap.size, 0, none⟩ = some (.slice a' n' c') := World.cell?_setCell_same W6 _ _ g0
                have y1 : (W6.setCell ⟨W.heap.size, 0, none⟩ (.slice a' n' c')).cell? ⟨W.heap.size, 1, none⟩ = some (.bool false) := (cell_off _ _ _ _ _ (by decide)).trans (T4.cell BN.out Y1.out)
                have bW : Blk W6 W.heap.size 94 := Blk.turn BB.out T4 BN.out
                have h7 : HoldAt (W6.setCell ⟨W.heap.size, 0, none⟩ (.slice a' n' c')) base _ _ _ := hA.turn (Turn.put W6 W.heap.size 0 (.slice a' n' c')) (fun k q e => by
                  subst e
                  have := BX.out
                  have := BB.out.lt
                  rcases q with q | q
                  · have := hh.mlt _ q; omega
                  · omega) (fun j r k hr hk e => (hA.blk hr hk).ne bW (by decide) e)
                generalize W6.setCell ⟨W.heap.size, 0, none⟩ (.slice a' n' c') = W7 at *
                have nd : ¬ (d = W.heap.size ∨ (Wt.sl ⟨bk, n, cap, false⟩).ownBlock = some d) := fun q => by
                  rcases q with q | q
                  · have := h.bl.lt; have := BX.out; omega
                  · exact (hh.blk hq q).ne h.bl (by decide) rfl
                have nm : ¬ (mb = W.heap.size ∨ (Wt.sl ⟨bk, n, cap, false⟩).ownBlock = some mb) := fun q => by
                  rcases q with q | q
                  · have := h.mp.lt; have := BX.out; omega
                  · exact h.ne (hh.blk hq q) rfl
                have TD : Turn (fun _ => False) W7 W7.drew := (Turn.refl _ W7).drewN 1
                have hd7 := (hd3.turn T5 nd nm).keep TD
                obtain ⟨W8, hr8, hp8, T8⟩ := hd7.put hcnt hi q'
                rw [hq] at hp8
                have hv : q'.val = .agg #[.slice a' n' c', .bool false] := by unfold Wt.val; rw [es, el]
                rw [hv] at hr8
                have b1m : b1 ≠ mb := by have := h.mp.lt; have := HB1.out; omega
                have b2m : W.heap.size ≠ mb := by have := h.mp.lt; have := BX.out; omega
                have x0 : W7.cell? ⟨b1, 0, none⟩ = some (.int .i64 i) := T5.cell (fun q => by
                  rcases q with q | q
                  · have := HB1.out; have := BX.out; omega
                  · have := ((hh.row _ _ hq).2.lt _ q).2; have := HB1.out; omega) X0.out
                have P6 : W7.drew.cell? ⟨d, 7, none⟩ = some (.map (some mb)) ∧ W7.drew.cell? ⟨b1, 0, none⟩ = some (.int .i64 i) ∧ W7.drew.cell? ⟨W.heap.size, 0, none⟩ = some (.slice a' n' c') ∧ W7.drew.cell? ⟨W.heap.size, 1, none⟩ = some (.bool false) := ⟨hd7.c7, x0, y0, y1⟩
                have P6b : W8.cell? ⟨d, 7, none⟩ = some (.map (some mb)) ∧ W8.cell? ⟨b1, 0, none⟩ = some (.int .i64 i) ∧ W8.cell? ⟨W.heap.size, 0, none⟩ = some (.slice a' n' c') ∧ W8.cell? ⟨W.heap.size, 1, none⟩ = some (.bool false) :=
                  ⟨T8.cell (h.ne h.bl) P6.1, T8.cell b1m P6.2.1, T8.cell b2m P6.2.2.1, T8.cell b2m P6.2.2.2⟩
                have h8 := (h7.turn TD (fun _ _ q => q) (fun _ _ _ _ _ q => q)).turn T8 (fun k q e => by
                  subst e
                  rcases q with q | q
                  · exact hM q
                  · have := h.mp.lt; have := HB.out _ (T30); omega) (fun j r k hr hk e => (hd3.turn T5 nd nm).ne (h7.blk hr hk) e)
                have TT : Turn (fun k => k = mb ∨ (Wt.sl ⟨bk, n, cap, false⟩).ownBlock = some k) w W8 := (T30.more (fun _ _ q => q.elim)).comp (((T5.more (S' := fun k => (k = W.heap.size ∨ (Wt.sl ⟨bk, n, cap, false⟩).ownBlock = some k) ∨ k = mb) (fun _ _ q => .inl q)).trans (TD.more (fun _ _ q => q.elim))).trans (T8.more (fun _ _ q => .inr q))) (fun k hk q => by
                  rcases q with (q | q) | q
                  · have := BX.out; omega
                  · exact .inr q
                  · exact .inl q)
                have FIN := Lib.hid (show ∃ q' M', DeskAt W8 d mb qu ou (cnt + 1) m (updI Q i (some q')) ∧ q'.lost = false ∧ HoldAt W8 base M' (updI Q i (some q')) (updI F i (F i ++ [f])) ∧ Turn (fun k => k = mb ∨ (Wt.sl ⟨bk, n, cap, false⟩).ownBlock = some k) w W8 ∧ (∀ k, M' k → M k ∨ w.heap.size ≤ k) ∧
                      (∀ k, q'.sl.ownBlock = some k → (Wt.sl ⟨bk, n, cap, false⟩).ownBlock = some k ∨ w.heap.size ≤ k) from ⟨q', _, hp8, el, h8, TT, fun k q => q.imp id (fun q => Nat.le_trans T30.size q.1), hfr⟩)
                have HR := Lib.hid hr8
                clear TT h8 T8 hp8 hr8 hd7 TD h7 x0 hA T4 T5 y0 y1 g0 fz h hh hd3 T30 bW nd nm hv b1m b2m A5 RA
                go_wp2_with fail
                refine wp_region_held_drew (S := (fun w' => w'.cell? ⟨d, 7, none⟩ = some (.map (some mb)) ∧ w'.cell? ⟨b1, 0, none⟩ = some (.int .i64 i) ∧ w'.cell? ⟨W.heap.size, 0, none⟩ = some (.slice a' n' c') ∧ w'.cell? ⟨W.heap.size, 1, none⟩ = some (.bool false))) (by kernel_rfl) ?hs0 (fun hS0 => ?_)
                case hs0 => ((try dsimp only); first | with_reducible exact P6 | with_reducible exact P6b | exact P6 | exact P6b)
                refine wpAnyH_take (i := 0) (oi := { dst := some 52, op := Op.move (Operand.tmp 0), type := 25, pos := "queue.go:106", after := #[], guard := none }) (v := ?_) rfl (by kernel_rfl) (by kernel_rfl) (by kernel_rfl) (fun _ _ _ h => h) (Or.inl ⟨by rfl, ?hy1⟩) hS0 ?_
                case hy1 => (intro w hSw; (try dsimp only at hSw); go_simp; try with_reducible rfl)
                try simp only [Act.put, List.setIfInBounds_toArray, List.set_cons_zero, List.set_cons_succ]
                refine wpAnyH_take (i := 1) (oi := { dst := some 53, op := Op.nilCheck (Operand.tmp 52), type := 0, pos := "queue.go:106", after := #[{ on := 0, ground := Ground.data }], guard := none }) (v := ?_) rfl (by kernel_rfl) (by kernel_rfl) (by kernel_rfl) (fun _ _ _ h => h) (Or.inl ⟨by rfl, ?hy2⟩) hS0 ?_
                case hy2 => (intro w hSw; (try dsimp only at hSw); go_simp; try with_reducible rfl)
                try simp only [Act.put, List.setIfInBounds_toArray, List.set_cons_zero, List.set_cons_succ]
                refine wpAnyH_take (i := 2) (oi := { dst := some 54, op := Op.fieldAddr 82 (Operand.tmp 53) 1, type := 0, pos := "queue.go:106", after := #[{ on := 1, ground := Ground.data }], guard := none }) (v := ?_) rfl (by kernel_rfl) (by kernel_rfl) (by kernel_rfl) (fun _ _ _ h => h) (Or.inl ⟨by rfl, ?hy3⟩) hS0 ?_
                case hy3 => (intro w hSw; (try dsimp only at hSw); go_simp; try with_reducible rfl)
                try simp only [Act.put, List.setIfInBounds_toArray, List.set_cons_zero, List.set_cons_succ]
                refine wpAnyH_take (i := 3) (oi := { dst := some 55, op := Op.load 80 (Operand.tmp 54), type := 80, pos := "queue.go:106", after := #[{ on := 2, ground := Ground.data }], guard := none }) (v := ?_) rfl (by kernel_rfl) (by kernel_rfl) (by kernel_rfl) (fun _ _ _ h => h) (Or.inl ⟨by rfl, ?hy4⟩) hS0 ?_
                case hy4 => (intro w hSw; (try dsimp only at hSw); go_simp; try with_reducible rfl)
                try simp only [Act.put, List.setIfInBounds_toArray, List.set_cons_zero, List.set_cons_succ]
                refine wpAnyH_take (i := 4) (oi := { dst := some 56, op := Op.fieldAddr 73 (Operand.tmp 4) 0, type := 0, pos := "queue.go:106", after := #[], guard := none }) (v := ?_) rfl (by kernel_rfl) (by kernel_rfl) (by kernel_rfl) (fun _ _ _ h => h) (Or.inl ⟨by rfl, ?hy5⟩) hS0 ?_
                case hy5 => (intro w hSw; (try dsimp only at hSw); go_simp; try with_reducible rfl)
                try simp only [Act.put, List.setIfInBounds_toArray, List.set_cons_zero, List.set_cons_succ]
                refine wpAnyH_take (i := 5) (oi := { dst := some 57, op := Op.load 3 (Operand.tmp 56), type := 3, pos := "queue.go:106", after := #[{ on := 4, ground := Ground.data }], guard := none }) (v := ?_) rfl (by kernel_rfl) (by kernel_rfl) (by kernel_rfl) (fun _ _ _ h => h) (Or.inl ⟨by rfl, ?hy6⟩) hS0 ?_
                case hy6 => (intro w hSw; (try dsimp only at hSw); go_simp; try with_reducible rfl)
                try simp only [Act.put, List.setIfInBounds_toArray, List.set_cons_zero, List.set_cons_succ]
                refine wpAnyH_take (i := 6) (oi := { dst := some 58, op := Op.load 94 (Operand.tmp 6), type := 94, pos := "queue.go:106", after := #[], guard := none }) (v := ?_) rfl (by kernel_rfl) (by kernel_rfl) (by kernel_rfl) (fun _ _ _ h => h) (Or.inl ⟨by rfl, ?hy7⟩) hS0 ?_
                case hy7 => (intro w hSw; (try dsimp only at hSw); go_simp; try with_reducible rfl)
                try simp only [Act.put, List.setIfInBounds_toArray, List.set_cons_zero, List.set_cons_succ]
                refine wpAnyH_ready (rs := [7]) (by kernel_rfl) (by simp) ?_
                refine AllReadyH.cons (o := { dst := none, op := Op.mapUpdate 80 (Operand.tmp 55) (Operand.tmp 57) (Operand.tmp 58), type := 0, pos := "queue.go:106", after := #[{ on := 3, ground := Ground.data }, { on := 5, ground := Ground.data }, { on := 6, ground := Ground.data }, { on := 0, ground := Ground.phase }, { on := 1, ground := Ground.phase }, { on := 2, ground := Ground.phase }, { on := 3, ground := Ground.phase }, { on := 4, ground := Ground.phase }, { on := 5, ground := Ground.phase }, { on := 6, ground := Ground.phase }], guard := none }) rfl (fun K hK => ?_) ?_
                · (have hr := HR.out); go_simp
                  refine hK.out _ _ ?hs8 (fun hS8 => ?_)
                  case hs8 => ((try dsimp only); first | with_reducible exact P6 | with_reducible exact P6b | exact P6 | exact P6b)
                  clear hK K hS0
                  refine wpAnyH_done (by kernel_rfl) ?_ _
                  go_wp2_with fail
                  go_end0
                  rw [HB1.out] at *
                  exact ⟨rfl, FIN.out⟩
                exact AllReadyH.nil
                
              exact AllReadyH.nil
            exact AllReadyH.nil
          exact AllReadyH.nil
        exact AllReadyH.nil
      refine AllReadyH.cons (o := { dst := some 48, op := Op.call { callee := Callee.value (Operand.func 48), args := #[Operand.tmp 47], argTypes := #[71] }, type := 71, pos := "queue.go:105", after := #[{ on := 3, ground := Ground.data }], guard := none }) rfl (fun K hK => ?_) ?_
      · go_simp; with_reducible refine (OF.out _ T1).mono ?_; rintro en W4 ⟨xb, xc, yb, yc, rfl, hf4, T14⟩; have T2 := T1.trans T14; have y0 := T2.cell id Y0.out; have T3 : Turn (fun _ => False) W3.drew (W4.alloc (.cells #[.slice (some ⟨xb, 0, none⟩) f.sets.length xc, .slice (some ⟨yb, 0, none⟩) f.refs.length yc] 71)) := T2.alloc _; have z0 := T3.cell id Y0.out; obtain ⟨a', n', c', W6, q', RA, A5⟩ := AD.out W4 T2 _ _ hf4; have RA := Lib.hid RA; have A5 := Lib.hid A5; have T4 := A5.out.1; clear hf4 T14; go_simp
        refine hK.out _ _ ?hs10 (fun hS10 => ?_)
        case hs10 => ((try dsimp only); first | with_reducible exact KS.out _ T1 | with_reducible exact KS.out _ T2 | with_reducible exact KS.out _ T3 | with_reducible exact KB.out _ (T4.more (fun _ _ q => .inr q)) | with_reducible exact KB.out _ T5 | exact KS.out _ T1 | exact KS.out _ T2 | exact KS.out _ T3 | exact KB.out _ (T4.more (fun _ _ q => .inr q)) | exact KB.out _ T5)
        clear hK K hS0
        refine wpAnyH_ready (rs := [1, 5]) (by kernel_rfl) (by simp) ?_
        refine AllReadyH.cons (o := { dst := some 45, op := Op.load 89 (Operand.tmp 44), type := 89, pos := "queue.go:105", after := #[{ on := 0, ground := Ground.data }], guard := none }) rfl (fun K hK => ?_) ?_
        · go_simp
          refine hK.out _ _ ?hs11 (fun hS11 => ?_)
          case hs11 => ((try dsimp only); first | with_reducible exact KS.out _ T1 | with_reducible exact KS.out _ T2 | with_reducible exact KS.out _ T3 | with_reducible exact KB.out _ (T4.more (fun _ _ q => .inr q)) | with_reducible exact KB.out _ T5 | exact KS.out _ T1 | exact KS.out _ T2 | exact KS.out _ T3 | exact KB.out _ (T4.more (fun _ _ q => .inr q)) | exact KB.out _ T5)
          clear hK K hS10
          refine wpAnyH_ready (rs := [5]) (by kernel_rfl) (by simp) ?_
          refine AllReadyH.cons (o := { dst := some 49, op := Op.buildSlice 89 1 #[(0, Operand.tmp 48)], type := 89, pos := "queue.go:105", after := #[{ on := 4, ground := Ground.data }], guard := none }) rfl (fun K hK => ?_) ?_
          · go_simp
            refine hK.out _ _ ?hs12 (fun hS12 => ?_)
            case hs12 => ((try dsimp only); first | with_reducible exact KS.out _ T1 | with_reducible exact KS.out _ T2 | with_reducible exact KS.out _ T3 | with_reducible exact KB.out _ (T4.more (fun _ _ q => .inr q)) | with_reducible exact KB.out _ T5 | exact KS.out _ T1 | exact KS.out _ T2 | exact KS.out _ T3 | exact KB.out _ (T4.more (fun _ _ q => .inr q)) | exact KB.out _ T5)
            clear hK K hS11
            refine wpAnyH_ready (rs := [6]) (by kernel_rfl) (by simp) ?_
            refine AllReadyH.cons (o := { dst := some 50, op := Op.call { callee := Callee.builtin Builtin.append, args := #[Operand.tmp 45, Operand.tmp 49], argTypes := #[89, 89] }, type := 89, pos := "queue.go:105", after := #[{ on := 1, ground := Ground.data }, { on := 5, ground := Ground.data }, { on := 4, ground := Ground.chain }], guard := none }) rfl (fun K hK => ?_) ?_
            · refine rs_append_run (by rfl) _ _ _ (by rfl) (by rfl) (by rfl) RA.out ?_
              refine hK.out _ _ ?hs13 (fun hS13 => ?_)
              case hs13 => ((try dsimp only); first | with_reducible exact KS.out _ T1 | with_reducible exact KS.out _ T2 | with_reducible exact KS.out _ T3 | with_reducible exact KB.out _ (T4.more (fun _ _ q => .inr q)) | with_reducible exact KB.out _ T5 | exact KS.out _ T1 | exact KS.out _ T2 | exact KS.out _ T3 | exact KB.out _ (T4.more (fun _ _ q => .inr q)) | exact KB.out _ T5)
              clear hK K hS12
              refine wpAnyH_take (i := 7) (oi := { dst := some 51, op := Op.fieldAddr 94 (Operand.tmp 6) 0, type := 0, pos := "queue.go:105", after := #[{ on := 0, ground := Ground.phase }, { on := 1, ground := Ground.phase }, { on := 2, ground := Ground.phase }, { on := 3, ground := Ground.phase }, { on := 4, ground := Ground.phase }, { on := 5, ground := Ground.phase }, { on := 6, ground := Ground.phase }], guard := none }) (v := ?_) rfl (by kernel_rfl) (by kernel_rfl) (by kernel_rfl) (fun _ _ _ h => h) (Or.inl ⟨by rfl, ?hy14⟩) hS13 ?_
              case hy14 => (intro w hSw; (try dsimp only at hSw); go_simp; try with_reducible rfl)
              try simp only [Act.put, List.setIfInBounds_toArray, List.set_cons_zero, List.set_cons_succ]
              refine wpAnyH_ready (rs := [8]) (by kernel_rfl) (by simp) ?_
              refine AllReadyH.cons (o := { dst := none, op := Op.store 89 (Operand.tmp 51) (Operand.tmp 50), type := 0, pos := "queue.go:105", after := #[{ on := 7, ground := Ground.data }, { on := 6, ground := Ground.data }, { on := 6, ground := Ground.chain }, { on := 0, ground := Ground.phase }, { on := 1, ground := Ground.phase }, { on := 2, ground := Ground.phase }, { on := 3, ground := Ground.phase }, { on := 4, ground := Ground.phase }, { on := 5, ground := Ground.phase }, { on := 6, ground := Ground.phase }], guard := none }) rfl (fun K hK => ?_) ?_
              · have g0 := T4.cell BN.out Y0.out; have fz := (Blk.turn BB.out T4 BN.out).fz 0; have T5 : Turn (fun k => k = W.heap.size ∨ (Wt.sl ⟨bk, n, cap, false⟩).ownBlock = some k) W3.drew (W6.setCell ⟨W.heap.size, 0, none⟩ (.slice a' n' c')) := (T4.more (fun _ _ q => .inr q)).trans (Turn.put _ _ _ _ |>.more (fun _ _ q => .inl q)); go_simp
                refine hK.out _ _ ?hs15 (fun hS15 => ?_)
                case hs15 => ((try dsimp only); first | with_reducible exact KS.out _ T1 | with_reducible exact KS.out _ T2 | with_reducible exact KS.out _ T3 | with_reducible exact KB.out _ (T4.more (fun _ _ q => .inr q)) | with_reducible exact KB.out _ T5 | exact KS.out _ T1 | exact KS.out _ T2 | exact KS.out _ T3 | exact KB.out _ (T4.more (fun _ _ q => .inr q)) | exact KB.out _ T5)
                clear hK K hS13
                refine wpAnyH_done (by kernel_rfl) ?_ _
                obtain ⟨_, es, el, hA, hfr⟩ := A5.out
                obtain ⟨h, hh, hd3, T30⟩ := H5.out
                have y0 : (W6.setCell ⟨W.heap.size, 0, none⟩ (.slice a' n' c')).cell? ⟨W.heap.size, 0, none⟩ = some (.slice a' n' c') := World.cell?_setCell_same W6 _ _ g0
                have y1 : (W6.setCell ⟨W.heap.size, 0, none⟩ (.slice a' n' c')).cell? ⟨W.heap.size, 1, none⟩ = some (.bool false) := (cell_off _ _ _ _ _ (by decide)).trans (T4.cell BN.out Y1.out)
                have bW : Blk W6 W.heap.size 94 := Blk.turn BB.out T4 BN.out
                have h7 : HoldAt (W6.setCell ⟨W.heap.size, 0, none⟩ (.slice a' n' c')) base _ _ _ := hA.turn (Turn.put W6 W.heap.size 0 (.slice a' n' c')) (fun k q e => by
                  subst e
                  have := BX.out
                  have := BB.out.lt
                  rcases q with q | q
                  · have := hh.mlt _ q; omega
                  · omega) (fun j r k hr hk e => (hA.blk hr hk).ne bW (by decide) e)
                generalize W6.setCell ⟨W.heap.size, 0, none⟩ (.slice a' n' c') = W7 at *
                have nd : ¬ (d = W.heap.size ∨ (Wt.sl ⟨bk, n, cap, false⟩).ownBlock = some d) := fun q => by
                  rcases q with q | q
                  · have := h.bl.lt; have := BX.out; omega
                  · exact (hh.blk hq q).ne h.bl (by decide) rfl
                have nm : ¬ (mb = W.heap.size ∨ (Wt.sl ⟨bk, n, cap, false⟩).ownBlock = some mb) := fun q => by
                  rcases q with q | q
                  · have := h.mp.lt; have := BX.out; omega
                  · exact h.ne (hh.blk hq q) rfl
                have TD : Turn (fun _ => False) W7 W7.drew := (Turn.refl _ W7).drewN 1
                have hd7 := (hd3.turn T5 nd nm).keep TD
                obtain ⟨W8, hr8, hp8, T8⟩ := hd7.put hcnt hi q'
                rw [hq] at hp8
                have hv : q'.val = .agg #[.slice a' n' c', .bool false] := by unfold Wt.val; rw [es, el]
                rw [hv] at hr8
                have b1m : b1 ≠ mb := by have := h.mp.lt; have := HB1.out; omega
                have b2m : W.heap.size ≠ mb := by have := h.mp.lt; have := BX.out; omega
                have x0 : W7.cell? ⟨b1, 0, none⟩ = some (.int .i64 i) := T5.cell (fun q => by
                  rcases q with q | q
                  · have := HB1.out; have := BX.out; omega
                  · have := ((hh.row _ _ hq).2.lt _ q).2; have := HB1.out; omega) X0.out
                have P6 : W7.drew.cell? ⟨d, 7, none⟩ = some (.map (some mb)) ∧ W7.drew.cell? ⟨b1, 0, none⟩ = some (.int .i64 i) ∧ W7.drew.cell? ⟨W.heap.size, 0, none⟩ = some (.slice a' n' c') ∧ W7.drew.cell? ⟨W.heap.size, 1, none⟩ = some (.bool false) := ⟨hd7.c7, x0, y0, y1⟩
                have P6b : W8.cell? ⟨d, 7, none⟩ = some (.map (some mb)) ∧ W8.cell? ⟨b1, 0, none⟩ = some (.int .i64 i) ∧ W8.cell? ⟨W.heap.size, 0, none⟩ = some (.slice a' n' c') ∧ W8.cell? ⟨W.heap.size, 1, none⟩ = some (.bool false) :=
                  ⟨T8.cell (h.ne h.bl) P6.1, T8.cell b1m P6.2.1, T8.cell b2m P6.2.2.1, T8.cell b2m P6.2.2.2⟩
                have h8 := (h7.turn TD (fun _ _ q => q) (fun _ _ _ _ _ q => q)).turn T8 (fun k q e => by
                  subst e
                  rcases q with q | q
                  · exact hM q
                  · have := h.mp.lt; have := HB.out _ (T30); omega) (fun j r k hr hk e => (hd3.turn T5 nd nm).ne (h7.blk hr hk) e)
                have TT : Turn (fun k => k = mb ∨ (Wt.sl ⟨bk, n, cap, false⟩).ownBlock = some k) w W8 := (T30.more (fun _ _ q => q.elim)).comp (((T5.more (S' := fun k => (k = W.heap.size ∨ (Wt.sl ⟨bk, n, cap, false⟩).ownBlock = some k) ∨ k = mb) (fun _ _ q => .inl q)).trans (TD.more (fun _ _ q => q.elim))).trans (T8.more (fun _ _ q => .inr q))) (fun k hk q => by
                  rcases q with (q | q) | q
                  · have := BX.out; omega
                  · exact .inr q
                  · exact .inl q)
                have FIN := Lib.hid (show ∃ q' M', DeskAt W8 d mb qu ou (cnt + 1) m (updI Q i (some q')) ∧ q'.lost = false ∧ HoldAt W8 base M' (updI Q i (some q')) (updI F i (F i ++ [f])) ∧ Turn (fun k => k = mb ∨ (Wt.sl ⟨bk, n, cap, false⟩).ownBlock = some k) w W8 ∧ (∀ k, M' k → M k ∨ w.heap.size ≤ k) ∧
                      (∀ k, q'.sl.ownBlock = some k → (Wt.sl ⟨bk, n, cap, false⟩).ownBlock = some k ∨ w.heap.size ≤ k) from ⟨q', _, hp8, el, h8, TT, fun k q => q.imp id (fun q => Nat.le_trans T30.size q.1), hfr⟩)
                have HR := Lib.hid hr8
                clear TT h8 T8 hp8 hr8 hd7 TD h7 x0 hA T4 T5 y0 y1 g0 fz h hh hd3 T30 bW nd nm hv b1m b2m A5 RA
                go_wp2_with fail
                refine wp_region_held_drew (S := (fun w' => w'.cell? ⟨d, 7, none⟩ = some (.map (some mb)) ∧ w'.cell? ⟨b1, 0, none⟩ = some (.int .i64 i) ∧ w'.cell? ⟨W.heap.size, 0, none⟩ = some (.slice a' n' c') ∧ w'.cell? ⟨W.heap.size, 1, none⟩ = some (.bool false))) (by kernel_rfl) ?hs0 (fun hS0 => ?_)
                case hs0 => ((try dsimp only); first | with_reducible exact P6 | with_reducible exact P6b | exact P6 | exact P6b)
                refine wpAnyH_take (i := 0) (oi := { dst := some 52, op := Op.move (Operand.tmp 0), type := 25, pos := "queue.go:106", after := #[], guard := none }) (v := ?_) rfl (by kernel_rfl) (by kernel_rfl) (by kernel_rfl) (fun _ _ _ h => h) (Or.inl ⟨by rfl, ?hy1⟩) hS0 ?_
                case hy1 => (intro w hSw; (try dsimp only at hSw); go_simp; try with_reducible rfl)
                try simp only [Act.put, List.setIfInBounds_toArray, List.set_cons_zero, List.set_cons_succ]
                refine wpAnyH_take (i := 1) (oi := { dst := some 53, op := Op.nilCheck (Operand.tmp 52), type := 0, pos := "queue.go:106", after := #[{ on := 0, ground := Ground.data }], guard := none }) (v := ?_) rfl (by kernel_rfl) (by kernel_rfl) (by kernel_rfl) (fun _ _ _ h => h) (Or.inl ⟨by rfl, ?hy2⟩) hS0 ?_
                case hy2 => (intro w hSw; (try dsimp only at hSw); go_simp; try with_reducible rfl)
                try simp only [Act.put, List.setIfInBounds_toArray, List.set_cons_zero, List.set_cons_succ]
                refine wpAnyH_take (i := 2) (oi := { dst := some 54, op := Op.fieldAddr 82 (Operand.tmp 53) 1, type := 0, pos := "queue.go:106", after := #[{ on := 1, ground := Ground.data }], guard := none }) (v := ?_) rfl (by kernel_rfl) (by kernel_rfl) (by kernel_rfl) (fun _ _ _ h => h) (Or.inl ⟨by rfl, ?hy3⟩) hS0 ?_
                case hy3 => (intro w hSw; (try dsimp only at hSw); go_simp; try with_reducible rfl)
                try simp only [Act.put, List.setIfInBounds_toArray, List.set_cons_zero, List.set_cons_succ]
                refine wpAnyH_take (i := 3) (oi := { dst := some 55, op := Op.load 80 (Operand.tmp 54), type := 80, pos := "queue.go:106", after := #[{ on := 2, ground := Ground.data }], guard := none }) (v := ?_) rfl (by kernel_rfl) (by kernel_rfl) (by kernel_rfl) (fun _ _ _ h => h) (Or.inl ⟨by rfl, ?hy4⟩) hS0 ?_
                case hy4 => (intro w hSw; (try dsimp only at hSw); go_simp; try with_reducible rfl)
                try simp only [Act.put, List.setIfInBounds_toArray, List.set_cons_zero, List.set_cons_succ]
                refine wpAnyH_take (i := 4) (oi := { dst := some 56, op := Op.fieldAddr 73 (Operand.tmp 4) 0, type := 0, pos := "queue.go:106", after := #[], guard := none }) (v := ?_) rfl (by kernel_rfl) (by kernel_rfl) (by kernel_rfl) (fun _ _ _ h => h) (Or.inl ⟨by rfl, ?hy5⟩) hS0 ?_
                case hy5 => (intro w hSw; (try dsimp only at hSw); go_simp; try with_reducible rfl)
                try simp only [Act.put, List.setIfInBounds_toArray, List.set_cons_zero, List.set_cons_succ]
                refine wpAnyH_take (i := 5) (oi := { dst := some 57, op := Op.load 3 (Operand.tmp 56), type := 3, pos := "queue.go:106", after := #[{ on := 4, ground := Ground.data }], guard := none }) (v := ?_) rfl (by kernel_rfl) (by kernel_rfl) (by kernel_rfl) (fun _ _ _ h => h) (Or.inl ⟨by rfl, ?hy6⟩) hS0 ?_
                case hy6 => (intro w hSw; (try dsimp only at hSw); go_simp; try with_reducible rfl)
                try simp only [Act.put, List.setIfInBounds_toArray, List.set_cons_zero, List.set_cons_succ]
                refine wpAnyH_take (i := 6) (oi := { dst := some 58, op := Op.load 94 (Operand.tmp 6), type := 94, pos := "queue.go:106", after := #[], guard := none }) (v := ?_) rfl (by kernel_rfl) (by kernel_rfl) (by kernel_rfl) (fun _ _ _ h => h) (Or.inl ⟨by rfl, ?hy7⟩) hS0 ?_
                case hy7 => (intro w hSw; (try dsimp only at hSw); go_simp; try with_reducible rfl)
                try simp only [Act.put, List.setIfInBounds_toArray, List.set_cons_zero, List.set_cons_succ]
                refine wpAnyH_ready (rs := [7]) (by kernel_rfl) (by simp) ?_
                refine AllReadyH.cons (o := { dst := none, op := Op.mapUpdate 80 (Operand.tmp 55) (Operand.tmp 57) (Operand.tmp 58), type := 0, pos := "queue.go:106", after := #[{ on := 3, ground := Ground.data }, { on := 5, ground := Ground.data }, { on := 6, ground := Ground.data }, { on := 0, ground := Ground.phase }, { on := 1, ground := Ground.phase }, { on := 2, ground := Ground.phase }, { on := 3, ground := Ground.phase }, { on := 4, ground := Ground.phase }, { on := 5, ground := Ground.phase }, { on := 6, ground := Ground.phase }], guard := none }) rfl (fun K hK => ?_) ?_
                · (have hr := HR.out); go_simp
                  refine hK.out _ _ ?hs8 (fun hS8 => ?_)
                  case hs8 => ((try dsimp only); first | with_reducible exact P6 | with_reducible exact P6b | exact P6 | exact P6b)
                  clear hK K hS0
                  refine wpAnyH_done (by kernel_rfl) ?_ _
                  go_wp2_with fail
                  go_end0
                  rw [HB1.out] at *
                  exact ⟨rfl, FIN.out⟩
                exact AllReadyH.nil
                
              exact AllReadyH.nil
            exact AllReadyH.nil
          exact AllReadyH.nil
        refine AllReadyH.cons (o := { dst := some 49, op := Op.buildSlice 89 1 #[(0, Operand.tmp 48)], type := 89, pos := "queue.go:105", after := #[{ on := 4, ground := Ground.data }], guard := none }) rfl (fun K hK => ?_) ?_
        · go_simp
          refine hK.out _ _ ?hs16 (fun hS16 => ?_)
          case hs16 => ((try dsimp only); first | with_reducible exact KS.out _ T1 | with_reducible exact KS.out _ T2 | with_reducible exact KS.out _ T3 | with_reducible exact KB.out _ (T4.more (fun _ _ q => .inr q)) | with_reducible exact KB.out _ T5 | exact KS.out _ T1 | exact KS.out _ T2 | exact KS.out _ T3 | exact KB.out _ (T4.more (fun _ _ q => .inr q)) | exact KB.out _ T5)
          clear hK K hS10
          refine wpAnyH_ready (rs := [1]) (by kernel_rfl) (by simp) ?_
          refine AllReadyH.cons (o := { dst := some 45, op := Op.load 89 (Operand.tmp 44), type := 89, pos := "queue.go:105", after := #[{ on := 0, ground := Ground.data }], guard := none }) rfl (fun K hK => ?_) ?_
          · go_simp
            refine hK.out _ _ ?hs17 (fun hS17 => ?_)
            case hs17 => ((try dsimp only); first | with_reducible exact KS.out _ T1 | with_reducible exact KS.out _ T2 | with_reducible exact KS.out _ T3 | with_reducible exact KB.out _ (T4.more (fun _ _ q => .inr q)) | with_reducible exact KB.out _ T5 | exact KS.out _ T1 | exact KS.out _ T2 | exact KS.out _ T3 | exact KB.out _ (T4.more (fun _ _ q => .inr q)) | exact KB.out _ T5)
            clear hK K hS16
            refine wpAnyH_ready (rs := [6]) (by kernel_rfl) (by simp) ?_
            refine AllReadyH.cons (o := { dst := some 50, op := Op.call { callee := Callee.builtin Builtin.append, args := #[Operand.tmp 45, Operand.tmp 49], argTypes := #[89, 89] }, type := 89, pos := "queue.go:105", after := #[{ on := 1, ground := Ground.data }, { on := 5, ground := Ground.data }, { on := 4, ground := Ground.chain }], guard := none }) rfl (fun K hK => ?_) ?_
            · refine rs_append_run (by rfl) _ _ _ (by rfl) (by rfl) (by rfl) RA.out ?_
              refine hK.out _ _ ?hs18 (fun hS18 => ?_)
              case hs18 => ((try dsimp only); first | with_reducible exact KS.out _ T1 | with_reducible exact KS.out _ T2 | with_reducible exact KS.out _ T3 | with_reducible exact KB.out _ (T4.more (fun _ _ q => .inr q)) | with_reducible exact KB.out _ T5 | exact KS.out _ T1 | exact KS.out _ T2 | exact KS.out _ T3 | exact KB.out _ (T4.more (fun _ _ q => .inr q)) | exact KB.out _ T5)
              clear hK K hS17
              refine wpAnyH_take (i := 7) (oi := { dst := some 51, op := Op.fieldAddr 94 (Operand.tmp 6) 0, type := 0, pos := "queue.go:105", after := #[{ on := 0, ground := Ground.phase }, { on := 1, ground := Ground.phase }, { on := 2, ground := Ground.phase }, { on := 3, ground := Ground.phase }, { on := 4, ground := Ground.phase }, { on := 5, ground := Ground.phase }, { on := 6, ground := Ground.phase }], guard := none }) (v := ?_) rfl (by kernel_rfl) (by kernel_rfl) (by kernel_rfl) (fun _ _ _ h => h) (Or.inl ⟨by rfl, ?hy19⟩) hS18 ?_
              case hy19 => (intro w hSw; (try dsimp only at hSw); go_simp; try with_reducible rfl)
              try simp only [Act.put, List.setIfInBounds_toArray, List.set_cons_zero, List.set_cons_succ]
              refine wpAnyH_ready (rs := [8]) (by kernel_rfl) (by simp) ?_
              refine AllReadyH.cons (o := { dst := none, op := Op.store 89 (Operand.tmp 51) (Operand.tmp 50), type := 0, pos := "queue.go:105", after := #[{ on := 7, ground := Ground.data }, { on := 6, ground := Ground.data }, { on := 6, ground := Ground.chain }, { on := 0, ground := Ground.phase }, { on := 1, ground := Ground.phase }, { on := 2, ground := Ground.phase }, { on := 3, ground := Ground.phase }, { on := 4, ground := Ground.phase }, { on := 5, ground := Ground.phase }, { on := 6, ground := Ground.phase }], guard := none }) rfl (fun K hK => ?_) ?_
              · have g0 := T4.cell BN.out Y0.out; have fz := (Blk.turn BB.out T4 BN.out).fz 0; have T5 : Turn (fun k => k = W.heap.size ∨ (Wt.sl ⟨bk, n, cap, false⟩).ownBlock = some k) W3.drew (W6.setCell ⟨W.heap.size, 0, none⟩ (.slice a' n' c')) := (T4.more (fun _ _ q => .inr q)).trans (Turn.put _ _ _ _ |>.more (fun _ _ q => .inl q)); go_simp
                refine hK.out _ _ ?hs20 (fun hS20 => ?_)
                case hs20 => ((try dsimp only); first | with_reducible exact KS.out _ T1 | with_reducible exact KS.out _ T2 | with_reducible exact KS.out _ T3 | with_reducible exact KB.out _ (T4.more (fun _ _ q => .inr q)) | with_reducible exact KB.out _ T5 | exact KS.out _ T1 | exact KS.out _ T2 | exact KS.out _ T3 | exact KB.out _ (T4.more (fun _ _ q => .inr q)) | exact KB.out _ T5)
                clear hK K hS18
                refine wpAnyH_done (by kernel_rfl) ?_ _
                obtain ⟨_, es, el, hA, hfr⟩ := A5.out
                obtain ⟨h, hh, hd3, T30⟩ := H5.out
                have y0 : (W6.setCell ⟨W.heap.size, 0, none⟩ (.slice a' n' c')).cell? ⟨W.heap.size, 0, none⟩ = some (.slice a' n' c') := World.cell?_setCell_same W6 _ _ g0
                have y1 : (W6.setCell ⟨W.heap.size, 0, none⟩ (.slice a' n' c')).cell? ⟨W.heap.size, 1, none⟩ = some (.bool false) := (cell_off _ _ _ _ _ (by decide)).trans (T4.cell BN.out Y1.out)
                have bW : Blk W6 W.heap.size 94 := Blk.turn BB.out T4 BN.out
                have h7 : HoldAt (W6.setCell ⟨W.heap.size, 0, none⟩ (.slice a' n' c')) base _ _ _ := hA.turn (Turn.put W6 W.heap.size 0 (.slice a' n' c')) (fun k q e => by
                  subst e
                  have := BX.out
                  have := BB.out.lt
                  rcases q with q | q
                  · have := hh.mlt _ q; omega
                  · omega) (fun j r k hr hk e => (hA.blk hr hk).ne bW (by decide) e)
                generalize W6.setCell ⟨W.heap.size, 0, none⟩ (.slice a' n' c') = W7 at *
                have nd : ¬ (d = W.heap.size ∨ (Wt.sl ⟨bk, n, cap, false⟩).ownBlock = some d) := fun q => by
                  rcases q with q | q
                  · have := h.bl.lt; have := BX.out; omega
                  · exact (hh.blk hq q).ne h.bl (by decide) rfl
                have nm : ¬ (mb = W.heap.size ∨ (Wt.sl ⟨bk, n, cap, false⟩).ownBlock = some mb) := fun q => by
                  rcases q with q | q
                  · have := h.mp.lt; have := BX.out; omega
                  · exact h.ne (hh.blk hq q) rfl
                have TD : Turn (fun _ => False) W7 W7.drew := (Turn.refl _ W7).drewN 1
                have hd7 := (hd3.turn T5 nd nm).keep TD
                obtain ⟨W8, hr8, hp8, T8⟩ := hd7.put hcnt hi q'
                rw [hq] at hp8
                have hv : q'.val = .agg #[.slice a' n' c', .bool false] := by unfold Wt.val; rw [es, el]
                rw [hv] at hr8
                have b1m : b1 ≠ mb := by have := h.mp.lt; have := HB1.out; omega
                have b2m : W.heap.size ≠ mb := by have := h.mp.lt; have := BX.out; omega
                have x0 : W7.cell? ⟨b1, 0, none⟩ = some (.int .i64 i) := T5.cell (fun q => by
                  rcases q with q | q
                  · have := HB1.out; have := BX.out; omega
                  · have := ((hh.row _ _ hq).2.lt _ q).2; have := HB1.out; omega) X0.out
                have P6 : W7.drew.cell? ⟨d, 7, none⟩ = some (.map (some mb)) ∧ W7.drew.cell? ⟨b1, 0, none⟩ = some (.int .i64 i) ∧ W7.drew.cell? ⟨W.heap.size, 0, none⟩ = some (.slice a' n' c') ∧ W7.drew.cell? ⟨W.heap.size, 1, none⟩ = some (.bool false) := ⟨hd7.c7, x0, y0, y1⟩
                have P6b : W8.cell? ⟨d, 7, none⟩ = some (.map (some mb)) ∧ W8.cell? ⟨b1, 0, none⟩ = some (.int .i64 i) ∧ W8.cell? ⟨W.heap.size, 0, none⟩ = some (.slice a' n' c') ∧ W8.cell? ⟨W.heap.size, 1, none⟩ = some (.bool false) :=
                  ⟨T8.cell (h.ne h.bl) P6.1, T8.cell b1m P6.2.1, T8.cell b2m P6.2.2.1, T8.cell b2m P6.2.2.2⟩
                have h8 := (h7.turn TD (fun _ _ q => q) (fun _ _ _ _ _ q => q)).turn T8 (fun k q e => by
                  subst e
                  rcases q with q | q
                  · exact hM q
                  · have := h.mp.lt; have := HB.out _ (T30); omega) (fun j r k hr hk e => (hd3.turn T5 nd nm).ne (h7.blk hr hk) e)
                have TT : Turn (fun k => k = mb ∨ (Wt.sl ⟨bk, n, cap, false⟩).ownBlock = some k) w W8 := (T30.more (fun _ _ q => q.elim)).comp (((T5.more (S' := fun k => (k = W.heap.size ∨ (Wt.sl ⟨bk, n, cap, false⟩).ownBlock = some k) ∨ k = mb) (fun _ _ q => .inl q)).trans (TD.more (fun _ _ q => q.elim))).trans (T8.more (fun _ _ q => .inr q))) (fun k hk q => by
                  rcases q with (q | q) | q
                  · have := BX.out; omega
                  · exact .inr q
                  · exact .inl q)
                have FIN := Lib.hid (show ∃ q' M', DeskAt W8 d mb qu ou (cnt + 1) m (updI Q i (some q')) ∧ q'.lost = false ∧ HoldAt W8 base M' (updI Q i (some q')) (updI F i (F i ++ [f])) ∧ Turn (fun k => k = mb ∨ (Wt.sl ⟨bk, n, cap, false⟩).ownBlock = some k) w W8 ∧ (∀ k, M' k → M k ∨ w.heap.size ≤ k) ∧
                      (∀ k, q'.sl.ownBlock = some k → (Wt.sl ⟨bk, n, cap, false⟩).ownBlock = some k ∨ w.heap.size ≤ k) from ⟨q', _, hp8, el, h8, TT, fun k q => q.imp id (fun q => Nat.le_trans T30.size q.1), hfr⟩)
                have HR := Lib.hid hr8
                clear TT h8 T8 hp8 hr8 hd7 TD h7 x0 hA T4 T5 y0 y1 g0 fz h hh hd3 T30 bW nd nm hv b1m b2m A5 RA
                go_wp2_with fail
                refine wp_region_held_drew (S := (fun w' => w'.cell? ⟨d, 7, none⟩ = some (.map (some mb)) ∧ w'.cell? ⟨b1, 0, none⟩ = some (.int .i64 i) ∧ w'.cell? ⟨W.heap.size, 0, none⟩ = some (.slice a' n' c') ∧ w'.cell? ⟨W.heap.size, 1, none⟩ = some (.bool false))) (by kernel_rfl) ?hs0 (fun hS0 => ?_)
                case hs0 => ((try dsimp only); first | with_reducible exact P6 | with_reducible exact P6b | exact P6 | exact P6b)
                refine wpAnyH_take (i := 0) (oi := { dst := some 52, op := Op.move (Operand.tmp 0), type := 25, pos := "queue.go:106", after := #[], guard := none }) (v := ?_) rfl (by kernel_rfl) (by kernel_rfl) (by kernel_rfl) (fun _ _ _ h => h) (Or.inl ⟨by rfl, ?hy1⟩) hS0 ?_
                case hy1 => (intro w hSw; (try dsimp only at hSw); go_simp; try with_reducible rfl)
                try simp only [Act.put, List.setIfInBounds_toArray, List.set_cons_zero, List.set_cons_succ]
                refine wpAnyH_take (i := 1) (oi := { dst := some 53, op := Op.nilCheck (Operand.tmp 52), type := 0, pos := "queue.go:106", after := #[{ on := 0, ground := Ground.data }], guard := none }) (v := ?_) rfl (by kernel_rfl) (by kernel_rfl) (by kernel_rfl) (fun _ _ _ h => h) (Or.inl ⟨by rfl, ?hy2⟩) hS0 ?_
                case hy2 => (intro w hSw; (try dsimp only at hSw); go_simp; try with_reducible rfl)
                try simp only [Act.put, List.setIfInBounds_toArray, List.set_cons_zero, List.set_cons_succ]
                refine wpAnyH_take (i := 2) (oi := { dst := some 54, op := Op.fieldAddr 82 (Operand.tmp 53) 1, type := 0, pos := "queue.go:106", after := #[{ on := 1, ground := Ground.data }], guard := none }) (v := ?_) rfl (by kernel_rfl) (by kernel_rfl) (by kernel_rfl) (fun _ _ _ h => h) (Or.inl ⟨by rfl, ?hy3⟩) hS0 ?_
                case hy3 => (intro w hSw; (try dsimp only at hSw); go_simp; try with_reducible rfl)
                try simp only [Act.put, List.setIfInBounds_toArray, List.set_cons_zero, List.set_cons_succ]
                refine wpAnyH_take (i := 3) (oi := { dst := some 55, op := Op.load 80 (Operand.tmp 54), type := 80, pos := "queue.go:106", after := #[{ on := 2, ground := Ground.data }], guard := none }) (v := ?_) rfl (by kernel_rfl) (by kernel_rfl) (by kernel_rfl) (fun _ _ _ h => h) (Or.inl ⟨by rfl, ?hy4⟩) hS0 ?_
                case hy4 => (intro w hSw; (try dsimp only at hSw); go_simp; try with_reducible rfl)
                try simp only [Act.put, List.setIfInBounds_toArray, List.set_cons_zero, List.set_cons_succ]
                refine wpAnyH_take (i := 4) (oi := { dst := some 56, op := Op.fieldAddr 73 (Operand.tmp 4) 0, type := 0, pos := "queue.go:106", after := #[], guard := none }) (v := ?_) rfl (by kernel_rfl) (by kernel_rfl) (by kernel_rfl) (fun _ _ _ h => h) (Or.inl ⟨by rfl, ?hy5⟩) hS0 ?_
                case hy5 => (intro w hSw; (try dsimp only at hSw); go_simp; try with_reducible rfl)
                try simp only [Act.put, List.setIfInBounds_toArray, List.set_cons_zero, List.set_cons_succ]
                refine wpAnyH_take (i := 5) (oi := { dst := some 57, op := Op.load 3 (Operand.tmp 56), type := 3, pos := "queue.go:106", after := #[{ on := 4, ground := Ground.data }], guard := none }) (v := ?_) rfl (by kernel_rfl) (by kernel_rfl) (by kernel_rfl) (fun _ _ _ h => h) (Or.inl ⟨by rfl, ?hy6⟩) hS0 ?_
                case hy6 => (intro w hSw; (try dsimp only at hSw); go_simp; try with_reducible rfl)
                try simp only [Act.put, List.setIfInBounds_toArray, List.set_cons_zero, List.set_cons_succ]
                refine wpAnyH_take (i := 6) (oi := { dst := some 58, op := Op.load 94 (Operand.tmp 6), type := 94, pos := "queue.go:106", after := #[], guard := none }) (v := ?_) rfl (by kernel_rfl) (by kernel_rfl) (by kernel_rfl) (fun _ _ _ h => h) (Or.inl ⟨by rfl, ?hy7⟩) hS0 ?_
                case hy7 => (intro w hSw; (try dsimp only at hSw); go_simp; try with_reducible rfl)
                try simp only [Act.put, List.setIfInBounds_toArray, List.set_cons_zero, List.set_cons_succ]
                refine wpAnyH_ready (rs := [7]) (by kernel_rfl) (by simp) ?_
                refine AllReadyH.cons (o := { dst := none, op := Op.mapUpdate 80 (Operand.tmp 55) (Operand.tmp 57) (Operand.tmp 58), type := 0, pos := "queue.go:106", after := #[{ on := 3, ground := Ground.data }, { on := 5, ground := Ground.data }, { on := 6, ground := Ground.data }, { on := 0, ground := Ground.phase }, { on := 1, ground := Ground.phase }, { on := 2, ground := Ground.phase }, { on := 3, ground := Ground.phase }, { on := 4, ground := Ground.phase }, { on := 5, ground := Ground.phase }, { on := 6, ground := Ground.phase }], guard := none }) rfl (fun K hK => ?_) ?_
                · (have hr := HR.out); go_simp
                  refine hK.out _ _ ?hs8 (fun hS8 => ?_)
                  case hs8 => ((try dsimp only); first | with_reducible exact P6 | with_reducible exact P6b | exact P6 | exact P6b)
                  clear hK K hS0
                  refine wpAnyH_done (by kernel_rfl) ?_ _
                  go_wp2_with fail
                  go_end0
                  rw [HB1.out] at *
                  exact ⟨rfl, FIN.out⟩
                exact AllReadyH.nil
                
              exact AllReadyH.nil
            exact AllReadyH.nil
          exact AllReadyH.nil
        exact AllReadyH.nil
      exact AllReadyH.nil
      
    exact AllReadyH.nil
  exact AllReadyH.nil
end
end Go.Proofs.Ytepmealhnnoahaa
