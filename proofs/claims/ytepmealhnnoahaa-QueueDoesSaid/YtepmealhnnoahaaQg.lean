/-
  What was found, in memory: copied whole.
-/
import Derived.Test.YtepmealhnnoahaaQf
namespace Go.Proofs.Ytepmealhnnoahaa
open Go.ChangeShapes Go.WideShapes Go.ChangeAt Go.RowKit
set_option linter.unusedVariables false
theorem SetsAt.weak {N N' : Nat → Prop} {w : World} {v : Value} {L : List (List Int)} (h : SetsAt w N v L) (hn : ∀ k, N' k → N k) : SetsAt w N' v L := by
  obtain ⟨b, cap, vs, e, h1, hb, hr, hi⟩ := h
  exact ⟨b, cap, vs, e, fun q => h1 (hn b q), hb, hr, hi.1, fun j l u hl hu => ⟨(hi.2 j l u hl hu).1, fun k hk q => (hi.2 j l u hl hu).2.1 k hk (hn k q), (hi.2 j l u hl hu).2.2⟩⟩
theorem SetsAt.sl {w : World} {N : Nat → Prop} {v : Value} {L : List (List Int)} (h : SetsAt w N v L) : ∃ b cap, v = .slice (some ⟨b, 0, none⟩) L.length cap := by
  obtain ⟨b, cap, _, e, _⟩ := h
  exact ⟨b, cap, e⟩
theorem RowV.sl {w : World} {e : TypeId} {size n : Nat} {v : Value} {xs : List Value} (h : RowV w e size n v xs) : ∃ b cap, v = .slice (some ⟨b, 0, none⟩) n cap := by
  obtain ⟨b, cap, e, _⟩ := h
  exact ⟨b, cap, e⟩
theorem size71 : (Try.prog.info? 71).map (·.size) = some 2 := by kernel_rfl
theorem build71 (a b : Option Addr) (n c m d : Nat) (w : World) : (Instr.build 71 #[(0, .slice a n c), (1, .slice b m d)]).run Try.prog w = .ok (.agg #[.slice a n c, .slice b m d]) w := run_build w 71 _ _ (by kernel_rfl)
set_option maxRecDepth 100000 in
set_option maxHeartbeats 2000000 in
theorem own_found {w : World} {N : Nat → Prop} {vs vr : Value} {f : Fnd} (h : FoundAt w N vs vr f) :
    Calls Try.prog 48 #[.agg #[vs, vr]] w fun e w' => ∃ vs' vr', e = .returned (.agg #[vs', vr']) ∧ FoundAt w' (fun k => k < w.heap.size) vs' vr' f ∧ Turn (fun _ => False) w w' := by
  obtain ⟨sb, sc, xv0, rfl, _⟩ := id h.sets
  obtain ⟨rb, rc, rfl, _⟩ := id h.refs
  obtain ⟨W, hW⟩ : ∃ W, W = (w.alloc (.cells #[.slice (some ⟨sb, 0, none⟩) f.sets.length sc, .slice (some ⟨rb, 0, none⟩) f.refs.length rc] 71)).alloc (.cells #[.slice none 0 0, .slice none 0 0] 71) := ⟨_, rfl⟩
  have T : Turn (fun _ => False) w W := by rw [hW]; exact ((Turn.refl _ w).alloc _).alloc _
  have B2 : Blk W (w.heap.size + 1) 71 := by
    rw [hW]
    have := Blk.new (w.alloc (.cells #[.slice (some ⟨sb, 0, none⟩) f.sets.length sc, .slice (some ⟨rb, 0, none⟩) f.refs.length rc] 71)) [.slice none 0 0, .slice none 0 0] 71
    rwa [World.size_alloc] at this
  have C1 : W.rangeAt w.heap.size 0 [.slice (some ⟨sb, 0, none⟩) f.sets.length sc, .slice (some ⟨rb, 0, none⟩) f.refs.length rc] := by
    rw [hW]
    exact range_turn (range_new w [.slice (some ⟨sb, 0, none⟩) f.sets.length sc, .slice (some ⟨rb, 0, none⟩) f.refs.length rc] 71) ((Turn.refl (fun _ => False) _).alloc _) (fun f => f)
  have C2 : W.rangeAt (w.heap.size + 1) 0 [.slice none 0 0, .slice none 0 0] := by
    rw [hW]
    have := range_new (w.alloc (.cells #[.slice (some ⟨sb, 0, none⟩) f.sets.length sc, .slice (some ⟨rb, 0, none⟩) f.refs.length rc] 71)) [.slice none 0 0, .slice none 0 0] 71
    rwa [World.size_alloc] at this
  have HW : FoundAt W N _ _ f := h.turn T (fun _ _ q => q.elim)
  have HP := Lib.hid T
  have hWs : W.heap.size = w.heap.size + 2 := by rw [hW, World.size_alloc, World.size_alloc]
  go_enter Try.func48, Try.ntmps48
  go_upto_region 1 with fail
  rw [← hW]
  clear hW
  obtain ⟨b1, hb1⟩ : ∃ b1, b1 = w.heap.size := ⟨_, rfl⟩
  rw [← hb1] at B2 C1 C2 hWs
  try rw [← hb1]
  have HB := Lib.hid hb1
  clear hb1
  have KB := Lib.hid (show ∀ w1, Turn (fun k => k = b1 + 1) W w1 → w1.cell? ⟨b1, 0, none⟩ = some (.slice (some ⟨sb, 0, none⟩) f.sets.length sc) ∧ w1.cell? ⟨b1, 1, none⟩ = some (.slice (some ⟨rb, 0, none⟩) f.refs.length rc) from
    fun w1 t => ⟨t.cell (by omega) (C1 0 _ rfl), t.cell (by omega) (C1 1 _ rfl)⟩)
  have KS := Lib.hid (show ∀ w1, Turn (fun _ => False) W w1 → w1.cell? ⟨b1, 0, none⟩ = some (.slice (some ⟨sb, 0, none⟩) f.sets.length sc) ∧ w1.cell? ⟨b1, 1, none⟩ = some (.slice (some ⟨rb, 0, none⟩) f.refs.length rc) from
    fun w1 t => ⟨t.cell id (C1 0 _ rfl), t.cell id (C1 1 _ rfl)⟩)
  have MA := Lib.hid (show ∀ w1, Turn (fun _ => False) W w1 → Calls Try.prog 50 #[.slice (some ⟨sb, 0, none⟩) f.sets.length sc] w1 (fun e w' => ∃ v', e = .returned v' ∧ SetsAt w' (fun k => k < w1.heap.size) v' f.sets ∧ Turn (fun _ => False) w1 w') from
    fun w1 t => match_sets (HW.sets.turn t (fun _ _ q => q.elim)) ⟨HW.s1, HW.s2⟩)
  have CR := Lib.hid (show ∀ w1, Turn (fun _ => False) W w1 → Calls Try.prog 51 #[.slice (some ⟨rb, 0, none⟩) f.refs.length rc] w1 (fun en w' => ∃ v', en = .returned v' ∧ RowV w' 38 2 f.refs.length v' (rcells f.refs) ∧ (∀ k, v'.ownBlock = some k → w1.heap.size ≤ k) ∧ Turn (fun _ => False) w1 w') from
    fun w1 t => clone_refs (HW.refs.turn t (fun _ _ q => q)) (rcells_one f.refs) ⟨HW.r1, by have := HW.r2; omega⟩)
  have BR := Lib.hid (And.intro B2 C2)
  have LB := Lib.hid (And.intro HW.s1 (And.intro HW.s2 (And.intro HW.r1 (And.intro HW.r2 hWs))))
  have T0 : Turn (fun _ => False) W W.drew := (Turn.refl _ W).drewN 1
  clear h T B2 C1 C2 HW hWs
  refine wp_region_held_drew (S := (fun w' => w'.cell? ⟨b1, 0, none⟩ = some (.slice (some ⟨sb, 0, none⟩) f.sets.length sc) ∧ w'.cell? ⟨b1, 1, none⟩ = some (.slice (some ⟨rb, 0, none⟩) f.refs.length rc))) (by kernel_rfl) ?hs0 (fun hS0 => ?_)
  case hs0 => ((try dsimp only); first | with_reducible exact KS.out _ T0 | with_reducible exact KS.out _ T1 | with_reducible exact KS.out _ T2 | with_reducible exact KB.out _ T3 | exact KS.out _ T0 | exact KS.out _ T1 | exact KS.out _ T2 | exact KB.out _ T3)
  refine wpAnyH_take (i := 0) (oi := { dst := some 3, op := Op.fieldAddr 71 (Operand.tmp 1) 0, type := 0, pos := "own.go:48", after := #[], guard := none }) (v := ?_) rfl (by kernel_rfl) (by kernel_rfl) (by kernel_rfl) (fun _ _ _ h => h) (Or.inl ⟨by rfl, ?hy1⟩) hS0 ?_
  case hy1 => (intro w hSw; (try dsimp only at hSw); go_simp; try with_reducible rfl)
  try simp only [Act.put, List.setIfInBounds_toArray, List.set_cons_zero, List.set_cons_succ]
  refine wpAnyH_take (i := 1) (oi := { dst := some 4, op := Op.load 69 (Operand.tmp 3), type := 69, pos := "own.go:48", after := #[{ on := 0, ground := Ground.data }], guard := none }) (v := ?_) rfl (by kernel_rfl) (by kernel_rfl) (by kernel_rfl) (fun _ _ _ h => h) (Or.inl ⟨by rfl, ?hy2⟩) hS0 ?_
  case hy2 => (intro w hSw; (try dsimp only at hSw); go_simp; try with_reducible rfl)
  try simp only [Act.put, List.setIfInBounds_toArray, List.set_cons_zero, List.set_cons_succ]
  refine wpAnyH_take (i := 3) (oi := { dst := some 6, op := Op.fieldAddr 71 (Operand.tmp 1) 1, type := 0, pos := "own.go:48", after := #[], guard := none }) (v := ?_) rfl (by kernel_rfl) (by kernel_rfl) (by kernel_rfl) (fun _ _ _ h => h) (Or.inl ⟨by rfl, ?hy3⟩) hS0 ?_
  case hy3 => (intro w hSw; (try dsimp only at hSw); go_simp; try with_reducible rfl)
  try simp only [Act.put, List.setIfInBounds_toArray, List.set_cons_zero, List.set_cons_succ]
  refine wpAnyH_take (i := 4) (oi := { dst := some 7, op := Op.load 54 (Operand.tmp 6), type := 54, pos := "own.go:48", after := #[{ on := 3, ground := Ground.data }], guard := none }) (v := ?_) rfl (by kernel_rfl) (by kernel_rfl) (by kernel_rfl) (fun _ _ _ h => h) (Or.inl ⟨by rfl, ?hy4⟩) hS0 ?_
  case hy4 => (intro w hSw; (try dsimp only at hSw); go_simp; try with_reducible rfl)
  try simp only [Act.put, List.setIfInBounds_toArray, List.set_cons_zero, List.set_cons_succ]
  refine wpAnyH_ready (rs := [2]) (by kernel_rfl) (by simp) ?_
  refine AllReadyH.cons (o := { dst := some 5, op := Op.call { callee := Callee.value (Operand.func 50), args := #[Operand.tmp 4], argTypes := #[69] }, type := 69, pos := "own.go:48", after := #[{ on := 1, ground := Ground.data }], guard := none }) rfl (fun K hK => ?_) ?_
  · go_simp; with_reducible refine (MA.out _ T0).mono ?_; rintro en W1 ⟨v1, rfl, h1, T01⟩; have T1 := T0.trans T01; obtain ⟨xb, xc, hxe⟩ := SetsAt.sl h1; subst hxe; have h1 := Lib.hid (And.intro h1 T01.size); go_simp
    refine hK.out _ _ ?hs5 (fun hS5 => ?_)
    case hs5 => ((try dsimp only); first | with_reducible exact KS.out _ T0 | with_reducible exact KS.out _ T1 | with_reducible exact KS.out _ T2 | with_reducible exact KB.out _ T3 | exact KS.out _ T0 | exact KS.out _ T1 | exact KS.out _ T2 | exact KB.out _ T3)
    clear hK K hS0
    refine wpAnyH_ready (rs := [5]) (by kernel_rfl) (by simp) ?_
    refine AllReadyH.cons (o := { dst := some 8, op := Op.call { callee := Callee.value (Operand.func 51), args := #[Operand.tmp 7], argTypes := #[54] }, type := 54, pos := "own.go:48", after := #[{ on := 4, ground := Ground.data }, { on := 2, ground := Ground.chain }], guard := none }) rfl (fun K hK => ?_) ?_
    · go_simp; with_reducible refine (CR.out _ T1).mono ?_; rintro en W2 ⟨v2, rfl, h2, hf2, T12⟩; have T2 := T1.trans T12; obtain ⟨yb, yc, hye⟩ := RowV.sl h2; subst hye; have TH := Lib.hid (range_there (range_turn BR.out.2 T2 (fun q => q)) rfl (BR.out.1.turn T2 (fun q => q))); have T3 : Turn (fun k => k = b1 + 1) W (W2.setCells (b1 + 1) 0 [.slice (some ⟨xb, 0, none⟩) f.sets.length xc, .slice (some ⟨yb, 0, none⟩) f.refs.length yc]) := (T2.more (fun _ _ q => q.elim)).trans (Turn.setCells _ 0 (Turn.refl _ W2) (.inl rfl)); have F := Lib.hid (And.intro h2 (And.intro hf2 (And.intro T12 T3))); clear h2 hf2 T12; go_simp
      refine hK.out _ _ ?hs6 (fun hS6 => ?_)
      case hs6 => ((try dsimp only); first | with_reducible exact KS.out _ T0 | with_reducible exact KS.out _ T1 | with_reducible exact KS.out _ T2 | with_reducible exact KB.out _ T3 | exact KS.out _ T0 | exact KS.out _ T1 | exact KS.out _ T2 | exact KB.out _ T3)
      clear hK K hS5
      refine wpAnyH_take (i := 6) (oi := { dst := some 9, op := Op.build 71 #[(0, Operand.tmp 5), (1, Operand.tmp 8)], type := 71, pos := "own.go:48", after := #[{ on := 2, ground := Ground.data }, { on := 5, ground := Ground.data }], guard := none }) (v := ?_) rfl (by kernel_rfl) (by kernel_rfl) (by kernel_rfl) (fun _ _ _ h => h) (Or.inl ⟨by rfl, ?hy7⟩) hS6 ?_
      case hy7 => (intro w hSw; (try dsimp only at hSw); go_simp; try with_reducible rfl)
      try simp only [Act.put, List.setIfInBounds_toArray, List.set_cons_zero, List.set_cons_succ]
      refine wpAnyH_ready (rs := [7]) (by kernel_rfl) (by simp) ?_
      refine AllReadyH.cons (o := { dst := none, op := Op.store 71 (Operand.tmp 2) (Operand.tmp 9), type := 0, pos := "own.go:48", after := #[{ on := 6, ground := Ground.data }, { on := 5, ground := Ground.chain }, { on := 0, ground := Ground.phase }, { on := 1, ground := Ground.phase }, { on := 2, ground := Ground.phase }, { on := 3, ground := Ground.phase }, { on := 4, ground := Ground.phase }, { on := 5, ground := Ground.phase }, { on := 6, ground := Ground.phase }], guard := none }) rfl (fun K hK => ?_) ?_
      · refine wp_store_mid 71 _ _ rfl (b1 + 1) 0 #[.slice (some ⟨xb, 0, none⟩) f.sets.length xc, .slice (some ⟨yb, 0, none⟩) f.refs.length yc] rfl rfl TH.out size71 (by simp [Value.oneCell']) ?_
        refine hK.out _ _ ?hs8 (fun hS8 => ?_)
        case hs8 => ((try dsimp only); first | with_reducible exact KS.out _ T0 | with_reducible exact KS.out _ T1 | with_reducible exact KS.out _ T2 | with_reducible exact KB.out _ T3 | exact KS.out _ T0 | exact KS.out _ T1 | exact KS.out _ T2 | exact KB.out _ T3)
        clear hK K hS6
        refine wpAnyH_done (by kernel_rfl) ?_ _
        obtain ⟨h2, hf2, T12, T3⟩ := F.out
        obtain ⟨a1, a2, a3, a4, hWs⟩ := LB.out
        have hz : W.drew.heap.size = b1 + 2 := hWs
        have hb := HB.out
        have l1 := h1.out.2
        have TS : Turn (fun k => k = b1 + 1) W2 (W2.setCells (b1 + 1) 0 [.slice (some ⟨xb, 0, none⟩) f.sets.length xc, .slice (some ⟨yb, 0, none⟩) f.refs.length yc]) := Turn.setCells _ 0 (Turn.refl _ W2) (.inl rfl)
        have R9 := World.rangeAt_setCells_same W2 (b1 + 1) 0 [.slice (some ⟨xb, 0, none⟩) f.sets.length xc, .slice (some ⟨yb, 0, none⟩) f.refs.length yc] TH.out
        have FF : FoundAt (W2.setCells (b1 + 1) 0 [.slice (some ⟨xb, 0, none⟩) f.sets.length xc, .slice (some ⟨yb, 0, none⟩) f.refs.length yc]) (fun k => k < w.heap.size) (.slice (some ⟨xb, 0, none⟩) f.sets.length xc) (.slice (some ⟨yb, 0, none⟩) f.refs.length yc) f :=
          ⟨((h1.out.1.turn T12 (fun _ _ q => q.elim)).turn TS (fun k _ q => by subst q; rw [hz]; omega)).weak (fun k hk => by rw [hz]; omega), h2.turn TS (fun k hk q => by have := hf2 k hk; omega), fun k hk q => by have := hf2 k hk; omega, a1, a2, a3, a4⟩
        have TT := Lib.hid (HP.out.comp T3 (fun i hi e => by omega))
        have FF := Lib.hid FF
        try clear hS0
        try dsimp only
        generalize W2.setCells (b1 + 1) 0 [.slice (some ⟨xb, 0, none⟩) f.sets.length xc, .slice (some ⟨yb, 0, none⟩) f.refs.length yc] = W9 at *
        go_wp2_with fail
        rw [HB.out] at R9
        exact bodyPost_ret (v := .agg #[.slice (some ⟨xb, 0, none⟩) f.sets.length xc, .slice (some ⟨yb, 0, none⟩) f.refs.length yc]) (res_cell (a := 2) rfl rfl (run_loadVar_mid _ _ 0 71 _ _ R9 Try.underlying71 rfl size71)) rfl ⟨_, _, rfl, FF.out, TT.out⟩
      exact AllReadyH.nil
    exact AllReadyH.nil
  exact AllReadyH.nil

end Go.Proofs.Ytepmealhnnoahaa
