/-
  A match is put: the query is lost, or full.
-/
import Derived.Test.YtepmealhnnoahaaQk
namespace Go.Proofs.Ytepmealhnnoahaa
open Go.ChangeShapes Go.WideShapes Go.ChangeAt Go.RowKit
set_option linter.unusedVariables false
section
variable {w : World} {d mb : Nat} {qu ou : Int} {cnt m : Nat} {Q : Int → Option Wt}
set_option maxRecDepth 100000 in
set_option maxHeartbeats 2000000 in
theorem DeskAt.put_full (h : DeskAt w d mb qu ou cnt m Q) {i : Int} (hi : (Lit.int .i64 i).wf = true) {bk : Option Nat} {n cap : Nat} {lo : Bool} (hq : Q i = some ⟨bk, n, cap, lo⟩) (hlo : lo = true ∨ ou ≤ (n : Int)) (hcnt : cnt < maxLen) {base gb : Nat} {l fs : List (Int × Int)} (hg : GoneAt w base gb l)
    {sa : Option Addr} {sn sc : Nat} {vr : Value} (hr : RowV w 38 2 fs.length vr (rcells fs)) (hn : l.length + fs.length ≤ 1000000) :
    Calls Try.prog 39 #[.pointer (some ⟨d, 0, none⟩), .agg #[.int .i64 i, .slice sa sn sc, vr], .func (.func 28) #[] #[.pointer (some ⟨gb, 0, none⟩)]] w fun e w' => e = .returned (.tuple #[]) ∧
      DeskAt w' d mb qu ou (cnt + 1) m (updI Q i (some ⟨bk, n, cap, true⟩)) ∧ GoneAt w' base gb (l ++ fs) ∧ Turn (fun k => k = gb ∨ GB w gb k ∨ k = mb) w w' ∧ (∀ k, GB w' gb k → GB w gb k ∨ w.heap.size ≤ k) := by
  obtain ⟨rb, rc, rfl⟩ := hr.sl
  obtain ⟨ad, had⟩ : ∃ ad : Option Addr, bk.map (fun b => (⟨b, 0, none⟩ : Addr)) = ad := ⟨_, rfl⟩
  obtain ⟨W, hW⟩ : ∃ W, W = (w.alloc (.cells #[.int .i64 i, .slice sa sn sc, .slice (some ⟨rb, 0, none⟩) fs.length rc] 73)) := ⟨_, rfl⟩
  have T0 : Turn (fun _ => False) w W := by rw [hW]; exact (Turn.refl _ w).alloc _
  have C : W.rangeAt w.heap.size 0 [.int .i64 i, .slice sa sn sc, .slice (some ⟨rb, 0, none⟩) fs.length rc] := by rw [hW]; exact range_new w [.int .i64 i, .slice sa sn sc, .slice (some ⟨rb, 0, none⟩) fs.length rc] 73
  go_enter Try.func39, Try.ntmps39
  go_upto_region 1 with fail
  rw [← hW]
  clear hW
  have HB := Lib.hid (show (∀ W', Turn (fun _ => False) w W' → w.heap.size ≤ W'.heap.size) ∧ gb < w.heap.size ∧ (∀ k, GB w gb k → k < w.heap.size) from
    ⟨fun W' t => t.size, by obtain ⟨_, _, hb, _⟩ := hg; exact hb.lt, fun k g => (hg.blk g).1.lt⟩)
  generalize hb1 : w.heap.size = b1 at *
  have HB1 := Lib.hid hb1
  clear hb1
  have hd := h.keep T0
  have KS := Lib.hid (show ∀ w1, Turn (fun _ => False) W w1 → w1.cell? ⟨d, 7, none⟩ = some (.map (some mb)) ∧ w1.cell? ⟨b1, 0, none⟩ = some (.int .i64 i) ∧ (Instr.lookup 80 (.map (some mb)) (.int .i64 i) true).run Try.prog w1 = .ok (.tuple #[.agg #[.slice ad n cap, .bool lo], .bool true]) w1 from fun w1 t => by
    have hd1 := hd.keep t
    have LK := hd1.mp.look (t := 80) (e := 94) Try.underlying3 Try.underlying80 (zero94 _) hi
    rw [hq] at LK
    unfold Wt.val Wt.sl at LK
    dsimp only [Option.getD_some, Option.isSome_some] at LK
    rw [had] at LK
    exact ⟨hd1.c7, t.cell id (C 0 _ rfl), LK⟩)
  have HH := Lib.hid (And.intro h (And.intro hg (And.intro hr T0)))
  have CC := Lib.hid C
  have T1 : Turn (fun _ => False) W W.drew := (Turn.refl _ W).drewN 1
  clear h hg hr T0 C hd
  refine wp_region_held_drew (S := (fun w' => w'.cell? ⟨d, 7, none⟩ = some (.map (some mb)) ∧ w'.cell? ⟨b1, 0, none⟩ = some (.int .i64 i) ∧ (Instr.lookup 80 (.map (some mb)) (.int .i64 i) true).run Try.prog w' = .ok (.tuple #[.agg #[.slice ad n cap, .bool lo], .bool true]) w')) (by kernel_rfl) ?hs0 (fun hS0 => ?_)
  case hs0 => ((try dsimp only); first | with_reducible exact KS.out _ T1 | with_reducible exact KS.out _ T2 | with_reducible exact KS.out _ T3 | exact KS.out _ T1 | exact KS.out _ T2 | exact KS.out _ T3)
  refine wpAnyH_take (i := 0) (oi := { dst := some 9, op := Op.move (Operand.tmp 0), type := 25, pos := "queue.go:99", after := #[], guard := none }) (v := ?_) rfl (by kernel_rfl) (by kernel_rfl) (by kernel_rfl) (fun _ _ _ h => h) (Or.inl ⟨by rfl, ?hy1⟩) hS0 ?_
  case hy1 => (intro w hSw; (try dsimp only at hSw); go_simp; try with_reducible rfl)
  try simp only [Act.put, List.setIfInBounds_toArray, List.set_cons_zero, List.set_cons_succ]
  refine wpAnyH_take (i := 1) (oi := { dst := some 10, op := Op.nilCheck (Operand.tmp 9), type := 0, pos := "queue.go:99", after := #[{ on := 0, ground := Ground.data }], guard := none }) (v := ?_) rfl (by kernel_rfl) (by kernel_rfl) (by kernel_rfl) (fun _ _ _ h => h) (Or.inl ⟨by rfl, ?hy2⟩) hS0 ?_
  case hy2 => (intro w hSw; (try dsimp only at hSw); go_simp; try with_reducible rfl)
  try simp only [Act.put, List.setIfInBounds_toArray, List.set_cons_zero, List.set_cons_succ]
  refine wpAnyH_take (i := 2) (oi := { dst := some 11, op := Op.fieldAddr 82 (Operand.tmp 10) 1, type := 0, pos := "queue.go:99", after := #[{ on := 1, ground := Ground.data }], guard := none }) (v := ?_) rfl (by kernel_rfl) (by kernel_rfl) (by kernel_rfl) (fun _ _ _ h => h) (Or.inl ⟨by rfl, ?hy3⟩) hS0 ?_
  case hy3 => (intro w hSw; (try dsimp only at hSw); go_simp; try with_reducible rfl)
  try simp only [Act.put, List.setIfInBounds_toArray, List.set_cons_zero, List.set_cons_succ]
  refine wpAnyH_take (i := 3) (oi := { dst := some 12, op := Op.load 80 (Operand.tmp 11), type := 80, pos := "queue.go:99", after := #[{ on := 2, ground := Ground.data }], guard := none }) (v := ?_) rfl (by kernel_rfl) (by kernel_rfl) (by kernel_rfl) (fun _ _ _ h => h) (Or.inl ⟨by rfl, ?hy4⟩) hS0 ?_
  case hy4 => (intro w hSw; (try dsimp only at hSw); go_simp; try with_reducible rfl)
  try simp only [Act.put, List.setIfInBounds_toArray, List.set_cons_zero, List.set_cons_succ]
  refine wpAnyH_take (i := 4) (oi := { dst := some 13, op := Op.fieldAddr 73 (Operand.tmp 4) 0, type := 0, pos := "queue.go:99", after := #[], guard := none }) (v := ?_) rfl (by kernel_rfl) (by kernel_rfl) (by kernel_rfl) (fun _ _ _ h => h) (Or.inl ⟨by rfl, ?hy5⟩) hS0 ?_
  case hy5 => (intro w hSw; (try dsimp only at hSw); go_simp; try with_reducible rfl)
  try simp only [Act.put, List.setIfInBounds_toArray, List.set_cons_zero, List.set_cons_succ]
  refine wpAnyH_take (i := 5) (oi := { dst := some 14, op := Op.load 3 (Operand.tmp 13), type := 3, pos := "queue.go:99", after := #[{ on := 4, ground := Ground.data }], guard := none }) (v := ?_) rfl (by kernel_rfl) (by kernel_rfl) (by kernel_rfl) (fun _ _ _ h => h) (Or.inl ⟨by rfl, ?hy6⟩) hS0 ?_
  case hy6 => (intro w hSw; (try dsimp only at hSw); go_simp; try with_reducible rfl)
  try simp only [Act.put, List.setIfInBounds_toArray, List.set_cons_zero, List.set_cons_succ]
  refine wpAnyH_take (i := 6) (oi := { dst := some 15, op := Op.lookup 80 (Operand.tmp 12) (Operand.tmp 14) true, type := 96, pos := "queue.go:99", after := #[{ on := 3, ground := Ground.data }, { on := 5, ground := Ground.data }], guard := none }) (v := ?_) rfl (by kernel_rfl) (by kernel_rfl) (by kernel_rfl) (fun _ _ _ h => h) (Or.inl ⟨by rfl, ?hy7⟩) hS0 ?_
  case hy7 => (intro w hSw; (try dsimp only at hSw); go_simp; try with_reducible rfl)
  try simp only [Act.put, List.setIfInBounds_toArray, List.set_cons_zero, List.set_cons_succ]
  refine wpAnyH_take (i := 7) (oi := { dst := some 8, op := Op.move (Operand.tmp 15), type := 96, pos := "queue.go:99", after := #[{ on := 6, ground := Ground.data }], guard := none }) (v := ?_) rfl (by kernel_rfl) (by kernel_rfl) (by kernel_rfl) (fun _ _ _ h => h) (Or.inl ⟨by rfl, ?hy8⟩) hS0 ?_
  case hy8 => (intro w hSw; (try dsimp only at hSw); go_simp; try with_reducible rfl)
  try simp only [Act.put, List.setIfInBounds_toArray, List.set_cons_zero, List.set_cons_succ]
  refine wpAnyH_take (i := 8) (oi := { dst := some 16, op := Op.extract (Operand.tmp 8) 0, type := 94, pos := "queue.go:99", after := #[{ on := 7, ground := Ground.data }], guard := none }) (v := ?_) rfl (by kernel_rfl) (by kernel_rfl) (by kernel_rfl) (fun _ _ _ h => h) (Or.inl ⟨by rfl, ?hy9⟩) hS0 ?_
  case hy9 => (intro w hSw; (try dsimp only at hSw); go_simp; try with_reducible rfl)
  try simp only [Act.put, List.setIfInBounds_toArray, List.set_cons_zero, List.set_cons_succ]
  refine wpAnyH_take (i := 9) (oi := { dst := some 17, op := Op.extract (Operand.tmp 8) 1, type := 4, pos := "queue.go:99", after := #[{ on := 7, ground := Ground.data }, { on := 11, ground := Ground.gcOnly Departure.lateStores }], guard := none }) (v := ?_) rfl (by kernel_rfl) (by kernel_rfl) (by kernel_rfl) (fun _ _ _ h => h) (Or.inl ⟨by rfl, ?hy10⟩) hS0 ?_
  case hy10 => (intro w hSw; (try dsimp only at hSw); go_simp; try with_reducible rfl)
  try simp only [Act.put, List.setIfInBounds_toArray, List.set_cons_zero, List.set_cons_succ]
  refine wpAnyH_ready (rs := [10]) (by kernel_rfl) (by simp) ?_
  refine AllReadyH.cons (o := { dst := some 6, op := Op.alloc 94, type := 0, pos := "queue.go:99", after := #[], guard := none }) rfl (fun K hK => ?_) ?_
  · go_simp; have T2 : Turn (fun _ => False) W (W.drew.alloc (.cells #[.slice none 0 0, .bool false] 94)) := T1.alloc _; have C2 := Lib.hid (And.intro (range_new W.drew [.slice none 0 0, .bool false] 94) (Blk.new W.drew [.slice none 0 0, .bool false] 94)); go_simp
    refine hK.out _ _ ?hs11 (fun hS11 => ?_)
    case hs11 => ((try dsimp only); first | with_reducible exact KS.out _ T1 | with_reducible exact KS.out _ T2 | with_reducible exact KS.out _ T3 | exact KS.out _ T1 | exact KS.out _ T2 | exact KS.out _ T3)
    clear hK K hS0
    refine wpAnyH_ready (rs := [11]) (by kernel_rfl) (by simp) ?_
    refine AllReadyH.cons (o := { dst := none, op := Op.store 94 (Operand.tmp 6) (Operand.tmp 16), type := 0, pos := "queue.go:99", after := #[{ on := 10, ground := Ground.data }, { on := 8, ground := Ground.data }, { on := 0, ground := Ground.phase }, { on := 1, ground := Ground.phase }, { on := 2, ground := Ground.phase }, { on := 3, ground := Ground.phase }, { on := 4, ground := Ground.phase }, { on := 5, ground := Ground.phase }, { on := 6, ground := Ground.phase }, { on := 7, ground := Ground.phase }, { on := 8, ground := Ground.phase }, { on := 9, ground := Ground.textOnly Departure.lateStores }, { on := 10, ground := Ground.phase }], guard := none }) rfl (fun K hK => ?_) ?_
    · refine wp_store_mid 94 _ _ rfl W.drew.heap.size 0 #[.slice ad n cap, .bool lo] rfl rfl (range_there C2.out.1 rfl C2.out.2) size94 (by simp [Value.oneCell']) ?_; have T3 : Turn (fun _ => False) W ((W.drew.alloc (.cells #[.slice none 0 0, .bool false] 94)).setCells W.drew.heap.size 0 [.slice ad n cap, .bool lo]) := T1.trans (((Turn.refl (fun _ => False) W.drew).alloc _).comp (Turn.setCells (S := fun k => k = W.drew.heap.size) _ 0 (Turn.refl _ _) (.inl rfl)) (fun k hk e => by omega))
      refine hK.out _ _ ?hs12 (fun hS12 => ?_)
      case hs12 => ((try dsimp only); first | with_reducible exact KS.out _ T1 | with_reducible exact KS.out _ T2 | with_reducible exact KS.out _ T3 | exact KS.out _ T1 | exact KS.out _ T2 | exact KS.out _ T3)
      clear hK K hS11
      refine wpAnyH_take (i := 12) (oi := { dst := some 7, op := Op.assign (Operand.tmp 17), type := 4, pos := "queue.go:99", after := #[{ on := 9, ground := Ground.data }, { on := 11, ground := Ground.chain }, { on := 0, ground := Ground.phase }, { on := 1, ground := Ground.phase }, { on := 2, ground := Ground.phase }, { on := 3, ground := Ground.phase }, { on := 4, ground := Ground.phase }, { on := 5, ground := Ground.phase }, { on := 6, ground := Ground.phase }, { on := 7, ground := Ground.phase }, { on := 8, ground := Ground.phase }, { on := 9, ground := Ground.phase }, { on := 10, ground := Ground.phase }, { on := 11, ground := Ground.phase }], guard := none }) (v := ?_) rfl (by kernel_rfl) (by kernel_rfl) (by kernel_rfl) (fun _ _ _ h => h) (Or.inl ⟨by rfl, ?hy13⟩) hS12 ?_
      case hy13 => (intro w hSw; (try dsimp only at hSw); go_simp; try with_reducible rfl)
      try simp only [Act.put, List.setIfInBounds_toArray, List.set_cons_zero, List.set_cons_succ]
      refine wpAnyH_done (by kernel_rfl) ?_ _
      have T3 : Turn (fun _ => False) W ((W.alloc (.cells #[.slice none 0 0, .bool false] 94)).drew.setCells W.drew.heap.size 0 [.slice ad n cap, .bool lo]) := T3
      have R3 : World.rangeAt ((W.alloc (.cells #[.slice none 0 0, .bool false] 94)).drew.setCells W.drew.heap.size 0 [.slice ad n cap, .bool lo]) W.heap.size 0 [.slice ad n cap, .bool lo] := World.rangeAt_setCells_same _ W.drew.heap.size 0 [.slice ad n cap, .bool lo] (range_there C2.out.1 rfl C2.out.2)
      generalize ((W.alloc (.cells #[.slice none 0 0, .bool false] 94)).drew.setCells W.drew.heap.size 0 [.slice ad n cap, .bool lo]) = W3 at *
      have y0 : W3.cell? ⟨W.heap.size, 0, none⟩ = some (.slice ad n cap) := R3 0 _ rfl
      have y1 : W3.cell? ⟨W.heap.size, 1, none⟩ = some (.bool lo) := R3 1 _ rfl
      have x0 : W3.cell? ⟨b1, 0, none⟩ = some (.int .i64 i) := T3.cell id (CC.out 0 _ rfl)
      have x2 : W3.cell? ⟨b1, 2, none⟩ = some (.slice (some ⟨rb, 0, none⟩) fs.length rc) := T3.cell id (CC.out 2 _ rfl)
      obtain ⟨h, hg, hr, T0⟩ := HH.out
      have TW := T0.trans T3
      have hd3 := h.keep TW
      have hg3 := hg.turn TW id (fun _ _ q => q)
      have hr3 := hr.turn TW (fun _ _ q => q)
      have c5 := hd3.c5
      have c7 := hd3.c7
      have nd : d ≠ gb := fun e => h.bl.ne (by obtain ⟨_, _, hb, _⟩ := hg; exact hb) (by decide) e
      have LG := Lib.hid (show Calls Try.prog 28 #[.slice (some ⟨rb, 0, none⟩) fs.length rc, .pointer (some ⟨gb, 0, none⟩)] W3.drew (fun e w' => e = .returned (.tuple #[]) ∧ w'.cell? ⟨b1, 0, none⟩ = some (.int .i64 i) ∧
          (DeskAt w' d mb qu ou cnt m Q ∧ GoneAt w' base gb (l ++ fs) ∧ Turn (fun k => k = gb ∨ GB w gb k) w w' ∧ (∀ k, GB w' gb k → GB w gb k ∨ b1 ≤ k))) from by
        have TD : Turn (fun _ => False) W3 W3.drew := (Turn.refl _ W3).drewN 1
        refine (let_go (hg3.turn TD id (fun _ _ q => q)) (hr3.turn TD (fun _ _ q => q)) hn).mono ?_
        rintro e w4 ⟨rfl, hg4, T4, G4⟩
        have bk : ∀ k, GB W3.drew gb k → GB w gb k := fun k g => GB.turn (GB.turn g hg3 TD id) hg TW id
        refine ⟨rfl, T4.cell (fun q => ?_) (TD.cell id x0), (hd3.keep TD).turn T4 (fun q => ?_) (fun q => ?_), hg4, ((TW.trans TD).more (fun _ _ q => q.elim)).trans (T4.more (fun k _ q => q.imp id (bk k))), fun k g => (G4 k g).imp (bk k) (fun q => Nat.le_trans (HB.out.1 _ (TW.trans TD)) q)⟩
        · rcases q with q | q
          · have := HB.out.2.1; omega
          · have := HB.out.2.2 _ (bk _ q); omega
        · rcases q with q | q
          · exact nd q
          · exact h.bl.ne (hg.blk (bk _ q)).1 (by decide) rfl
        · rcases q with q | q
          · exact h.ne (by obtain ⟨_, _, hb, _⟩ := hg; exact hb) q.symm
          · exact h.ne (hg.blk (bk _ q)).1 rfl)
      clear T3 R3 CC TW hd3 hg3 hr3 h hg hr T0 T1 nd
      cases lo with
      | true =>
        go_wp2_with fail
        go_region
        go_wp2_with fail
        with_reducible refine LG.out.mono ?_
        rintro e w4 ⟨rfl, z0, F4⟩
        have LO := Lib.hid (F4.1.lose_yes hcnt hi hq)
        have F4 := Lib.hid F4
        go_wp2_with fail
        with_reducible refine LO.out.mono ?_
        rintro e w5 ⟨rfl, hd5, T5⟩
        obtain ⟨hd4, hg4, T4, G4⟩ := F4.out
        have F5 := Lib.hid (And.intro hd5 (And.intro (hg4.turn T5 (fun q => hd4.ne (by obtain ⟨_, _, hb, _⟩ := hg4; exact hb) q) (fun k g q => hd4.ne (hg4.blk g).1 q)) (And.intro ((T4.more (S' := fun k => k = gb ∨ GB w gb k ∨ k = mb) (fun _ _ q => by rcases q with q | q; exact .inl q; exact .inr (.inl q))).trans (T5.more (fun _ _ q => .inr (.inr q)))) (fun k (g : GB w5 gb k) => G4 k (GB.turn g hg4 T5 (fun q => hd4.ne (by obtain ⟨_, _, hb, _⟩ := hg4; exact hb) q))))))
        clear hd4 hg4 T4 G4 hd5 T5
        go_wp2_with fail
        refine bodyPost_ret (results_none rfl _ _ _) rfl ?_
        rw [HB1.out]
        exact ⟨rfl, F5.out⟩
      | false =>
        have hge : ou ≤ (n : Int) := by simpa using hlo
        go_wp2_with fail
        go_region
        go_wp2_with fail
        with_reducible refine LG.out.mono ?_
        rintro e w4 ⟨rfl, z0, F4⟩
        have LO := Lib.hid (F4.1.lose_yes hcnt hi hq)
        have F4 := Lib.hid F4
        go_wp2_with fail
        with_reducible refine LO.out.mono ?_
        rintro e w5 ⟨rfl, hd5, T5⟩
        obtain ⟨hd4, hg4, T4, G4⟩ := F4.out
        have F5 := Lib.hid (And.intro hd5 (And.intro (hg4.turn T5 (fun q => hd4.ne (by obtain ⟨_, _, hb, _⟩ := hg4; exact hb) q) (fun k g q => hd4.ne (hg4.blk g).1 q)) (And.intro ((T4.more (S' := fun k => k = gb ∨ GB w gb k ∨ k = mb) (fun _ _ q => by rcases q with q | q; exact .inl q; exact .inr (.inl q))).trans (T5.more (fun _ _ q => .inr (.inr q)))) (fun k (g : GB w5 gb k) => G4 k (GB.turn g hg4 T5 (fun q => hd4.ne (by obtain ⟨_, _, hb, _⟩ := hg4; exact hb) q))))))
        clear hd4 hg4 T4 G4 hd5 T5
        go_wp2_with fail
        refine bodyPost_ret (results_none rfl _ _ _) rfl ?_
        rw [HB1.out]
        exact ⟨rfl, F5.out⟩
    exact AllReadyH.nil
  exact AllReadyH.nil
end
end Go.Proofs.Ytepmealhnnoahaa
