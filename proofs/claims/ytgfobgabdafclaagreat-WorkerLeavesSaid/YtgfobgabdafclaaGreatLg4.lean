/-
  A log in memory: what Fill, Look answer.
-/
import Derived.Test.YtgfobgabdafclaaGreatLg3
namespace Go.Proofs.YtgfobgabdafclaaGreat
open Go.ChangeShapes Go.WideShapes Go.ChangeAt Go.RowKit
set_option linter.unusedVariables false
section
variable {w w' : World} {B : LB} {c : Cf} {s : LSt}
theorem LogAt.rc_ne (h : LogAt w B c s) : B.l ≠ B.rc ∧ B.l ≠ B.pc := ⟨h.bl.ne h.com.br (by decide), h.bl.ne h.com.bp (by decide)⟩
set_option maxRecDepth 100000 in
set_option maxHeartbeats 2000000 in
theorem LogAt.fill_at (h : LogAt w B c s) {at_ : Int} (ht : at_ < (s.tail : Int)) {cs : List Value} (hc : IsCmd cs) (h0 : cs[11]? = some (.slice none 0 0)) (h1 : cs[12]? = some (.int .i64 0)) (h2 : cs[13]? = some (.bool false)) {r : Bool} {Q : World → Prop}
    (hput : ∀ W, Turn (fun _ => False) w W → Calls Tryz.prog 67 #[.pointer (some ⟨B.rc, 0, none⟩), .int .i64 at_, .agg cs.toArray] W fun e w' => e = .returned (.bool r) ∧ Turn (fun k => k = B.rc ∨ k = B.pc) W w' ∧ Q w') :
    Calls Tryz.prog 29 #[.pointer (some ⟨B.l, 0, none⟩), .int .i64 at_, .agg cs.toArray] w fun e w' => e = .returned (.bool r) ∧ Q w' := by
  obtain ⟨W, hW⟩ : ∃ W, W = w.alloc (.cells cs.toArray 60) := ⟨_, rfl⟩
  have T : Turn (fun _ => False) w W := by rw [hW]; exact (Turn.refl _ w).alloc _
  have Bk : Blk W w.heap.size 60 := by rw [hW]; exact Blk.new w cs 60
  have R : W.rangeAt w.heap.size 0 cs := by rw [hW]; exact range_new w cs 60
  have TD : Turn (fun _ => False) W W.drew := (Turn.refl _ W).drewN 1
  have hh := h.keep (T.trans TD)
  have CM := Lib.hid (own_command W.drew hc h0 h1 h2)
  have PUT := Lib.hid hput
  have HC := Lib.hid hc
  have TB := Lib.hid (T.trans TD)
  have BD := Bk.turn TD (fun f => f)
  have NB := Lib.hid (And.intro hh (And.intro h.rc_ne (And.intro (BD.ne hh.com.br (by decide)) (BD.ne hh.com.bp (by decide)))))
  have y9 : W.drew.cell? ⟨B.l, 9, none⟩ = some (.int .i64 (s.tail : Int)) := hh.k9
  have y11 : W.drew.cell? ⟨B.l, 11, none⟩ = some (.pointer (some ⟨B.rc, 0, none⟩)) := hh.k11
  have R : W.drew.rangeAt w.heap.size 0 cs := range_turn R TD (fun f => f)
  have t1 : decide (at_ < (s.tail : Int)) = true := by simpa using ht
  have NB : Hid (LogAt W.drew B c s ∧ (B.l ≠ B.rc ∧ B.l ≠ B.pc) ∧ w.heap.size ≠ B.rc ∧ w.heap.size ≠ B.pc) := NB
  clear T Bk TD hh BD hput hc h ht
  go_enter Tryz.func29, Tryz.ntmps29
  go_upto_region 1 with fail
  rw [← hW]
  clear hW
  generalize w.heap.size = b5 at *
  refine wp_region_held_drew (S := (fun w' => w'.cell? ⟨B.l, 9, none⟩ = some (.int .i64 (s.tail : Int)) ∧ w'.cell? ⟨B.l, 11, none⟩ = some (.pointer (some ⟨B.rc, 0, none⟩)) ∧ w'.rangeAt b5 0 cs)) (by kernel_rfl) ?hs0 (fun hS0 => ?_)
  case hs0 => ((try dsimp only); first | with_reducible exact ⟨y9, y11, R⟩ | with_reducible exact ⟨y9b, y11b, RB⟩ | with_reducible exact ⟨y9c, y11c, RC⟩ | exact ⟨y9, y11, R⟩ | exact ⟨y9b, y11b, RB⟩ | exact ⟨y9c, y11c, RC⟩)
  refine wpAnyH_take (i := 0) (oi := { dst := some 7, op := Op.move (Operand.tmp 0), type := 65, pos := "log.go:94", after := #[], guard := none }) (v := ?_) rfl (by kernel_rfl) (by kernel_rfl) (by kernel_rfl) (fun _ _ _ h => h) (Or.inl ⟨by rfl, ?hy1⟩) hS0 ?_
  case hy1 => (intro w hSw; (try dsimp only at hSw); go_simp; try with_reducible rfl)
  try simp only [Act.put, List.setIfInBounds_toArray, List.set_cons_zero, List.set_cons_succ]
  refine wpAnyH_take (i := 1) (oi := { dst := some 8, op := Op.binOp BinOp.neq 65 (Operand.tmp 7) (Operand.const (Value.pointer none)) 65, type := 4, pos := "log.go:94", after := #[{ on := 0, ground := Ground.data }], guard := none }) (v := ?_) rfl (by kernel_rfl) (by kernel_rfl) (by kernel_rfl) (fun _ _ _ h => h) (Or.inl ⟨by rfl, ?hy2⟩) hS0 ?_
  case hy2 => (intro w hSw; (try dsimp only at hSw); go_simp; try with_reducible rfl)
  try simp only [Act.put, List.setIfInBounds_toArray, List.set_cons_zero, List.set_cons_succ]
  refine wpAnyH_take (i := 2) (oi := { dst := some 9, op := Op.move (Operand.tmp 8), type := 4, pos := "log.go:94", after := #[{ on := 1, ground := Ground.data }], guard := none }) (v := ?_) rfl (by kernel_rfl) (by kernel_rfl) (by kernel_rfl) (fun _ _ _ h => h) (Or.inl ⟨by rfl, ?hy3⟩) hS0 ?_
  case hy3 => (intro w hSw; (try dsimp only at hSw); go_simp; try with_reducible rfl)
  try simp only [Act.put, List.setIfInBounds_toArray, List.set_cons_zero, List.set_cons_succ]
  refine wpAnyH_take (i := 3) (oi := { dst := some 10, op := Op.move (Operand.tmp 1), type := 3, pos := "log.go:94", after := #[{ on := 2, ground := Ground.guard }], guard := some (2, true) }) (v := ?_) rfl (by kernel_rfl) (by kernel_rfl) (by kernel_rfl) (fun _ _ _ h => h) (Or.inl ⟨by rfl, ?hy4⟩) hS0 ?_
  case hy4 => (intro w hSw; (try dsimp only at hSw); go_simp; try with_reducible rfl)
  try simp only [Act.put, List.setIfInBounds_toArray, List.set_cons_zero, List.set_cons_succ]
  refine wpAnyH_take (i := 4) (oi := { dst := some 11, op := Op.move (Operand.tmp 0), type := 65, pos := "log.go:94", after := #[{ on := 2, ground := Ground.guard }], guard := some (2, true) }) (v := ?_) rfl (by kernel_rfl) (by kernel_rfl) (by kernel_rfl) (fun _ _ _ h => h) (Or.inl ⟨by rfl, ?hy5⟩) hS0 ?_
  case hy5 => (intro w hSw; (try dsimp only at hSw); go_simp; try with_reducible rfl)
  try simp only [Act.put, List.setIfInBounds_toArray, List.set_cons_zero, List.set_cons_succ]
  refine wpAnyH_take (i := 5) (oi := { dst := some 12, op := Op.nilCheck (Operand.tmp 11), type := 0, pos := "log.go:94", after := #[{ on := 4, ground := Ground.data }, { on := 2, ground := Ground.guard }], guard := some (2, true) }) (v := ?_) rfl (by kernel_rfl) (by kernel_rfl) (by kernel_rfl) (fun _ _ _ h => h) (Or.inl ⟨by rfl, ?hy6⟩) hS0 ?_
  case hy6 => (intro w hSw; (try dsimp only at hSw); go_simp; try with_reducible rfl)
  try simp only [Act.put, List.setIfInBounds_toArray, List.set_cons_zero, List.set_cons_succ]
  refine wpAnyH_take (i := 6) (oi := { dst := some 13, op := Op.fieldAddr 133 (Operand.tmp 12) 3, type := 0, pos := "log.go:94", after := #[{ on := 5, ground := Ground.data }, { on := 2, ground := Ground.guard }], guard := some (2, true) }) (v := ?_) rfl (by kernel_rfl) (by kernel_rfl) (by kernel_rfl) (fun _ _ _ h => h) (Or.inl ⟨by rfl, ?hy7⟩) hS0 ?_
  case hy7 => (intro w hSw; (try dsimp only at hSw); go_simp; try with_reducible rfl)
  try simp only [Act.put, List.setIfInBounds_toArray, List.set_cons_zero, List.set_cons_succ]
  refine wpAnyH_take (i := 7) (oi := { dst := some 14, op := Op.load 3 (Operand.tmp 13), type := 3, pos := "log.go:94", after := #[{ on := 6, ground := Ground.data }, { on := 2, ground := Ground.guard }], guard := some (2, true) }) (v := ?_) rfl (by kernel_rfl) (by kernel_rfl) (by kernel_rfl) (fun _ _ _ h => h) (Or.inl ⟨by rfl, ?hy8⟩) hS0 ?_
  case hy8 => (intro w hSw; (try dsimp only at hSw); go_simp; try with_reducible rfl)
  try simp only [Act.put, List.setIfInBounds_toArray, List.set_cons_zero, List.set_cons_succ]
  refine wpAnyH_take (i := 8) (oi := { dst := some 15, op := Op.binOp BinOp.lss 3 (Operand.tmp 10) (Operand.tmp 14) 3, type := 4, pos := "log.go:94", after := #[{ on := 3, ground := Ground.data }, { on := 7, ground := Ground.data }, { on := 2, ground := Ground.guard }], guard := some (2, true) }) (v := ?_) rfl (by kernel_rfl) (by kernel_rfl) (by kernel_rfl) (fun _ _ _ h => h) (Or.inl ⟨by rfl, ?hy9⟩) hS0 ?_
  case hy9 => (intro w hSw; (try dsimp only at hSw); go_simp; try with_reducible rfl)
  try simp only [Act.put, List.setIfInBounds_toArray, List.set_cons_zero, List.set_cons_succ]
  refine wpAnyH_take (i := 9) (oi := { dst := some 16, op := Op.pick (Operand.tmp 9) (Operand.tmp 15) (Operand.const (Value.bool false)), type := 4, pos := "log.go:94", after := #[{ on := 2, ground := Ground.data }, { on := 8, ground := Ground.data }], guard := none }) (v := ?_) rfl (by kernel_rfl) (by kernel_rfl) (by kernel_rfl) (fun _ _ _ h => h) (Or.inl ⟨by rfl, ?hy10⟩) hS0 ?_
  case hy10 => (intro w hSw; (try dsimp only at hSw); go_simp; try with_reducible rfl)
  try simp only [Act.put, List.setIfInBounds_toArray, List.set_cons_zero, List.set_cons_succ]
  refine wpAnyH_take (i := 10) (oi := { dst := some 17, op := Op.move (Operand.tmp 16), type := 4, pos := "log.go:94", after := #[{ on := 9, ground := Ground.data }, { on := 2, ground := Ground.chain }], guard := none }) (v := ?_) rfl (by kernel_rfl) (by kernel_rfl) (by kernel_rfl) (fun _ _ _ h => h) (Or.inl ⟨by rfl, ?hy11⟩) hS0 ?_
  case hy11 => (intro w hSw; (try dsimp only at hSw); go_simp; try with_reducible rfl)
  try simp only [Act.put, List.setIfInBounds_toArray, List.set_cons_zero, List.set_cons_succ]
  refine wpAnyH_take (i := 11) (oi := { dst := some 18, op := Op.move (Operand.tmp 0), type := 65, pos := "log.go:94", after := #[{ on := 10, ground := Ground.guard }], guard := some (10, true) }) (v := ?_) rfl (by kernel_rfl) (by kernel_rfl) (by kernel_rfl) (fun _ _ _ h => h) (Or.inl ⟨by rfl, ?hy12⟩) hS0 ?_
  case hy12 => (intro w hSw; (try dsimp only at hSw); go_simp; try with_reducible rfl)
  try simp only [Act.put, List.setIfInBounds_toArray, List.set_cons_zero, List.set_cons_succ]
  refine wpAnyH_take (i := 12) (oi := { dst := some 19, op := Op.nilCheck (Operand.tmp 18), type := 0, pos := "log.go:94", after := #[{ on := 11, ground := Ground.data }, { on := 10, ground := Ground.guard }], guard := some (10, true) }) (v := ?_) rfl (by kernel_rfl) (by kernel_rfl) (by kernel_rfl) (fun _ _ _ h => h) (Or.inl ⟨by rfl, ?hy13⟩) hS0 ?_
  case hy13 => (intro w hSw; (try dsimp only at hSw); go_simp; try with_reducible rfl)
  try simp only [Act.put, List.setIfInBounds_toArray, List.set_cons_zero, List.set_cons_succ]
  refine wpAnyH_take (i := 13) (oi := { dst := some 20, op := Op.fieldAddr 133 (Operand.tmp 19) 5, type := 0, pos := "log.go:94", after := #[{ on := 12, ground := Ground.data }, { on := 10, ground := Ground.guard }], guard := some (10, true) }) (v := ?_) rfl (by kernel_rfl) (by kernel_rfl) (by kernel_rfl) (fun _ _ _ h => h) (Or.inl ⟨by rfl, ?hy14⟩) hS0 ?_
  case hy14 => (intro w hSw; (try dsimp only at hSw); go_simp; try with_reducible rfl)
  try simp only [Act.put, List.setIfInBounds_toArray, List.set_cons_zero, List.set_cons_succ]
  refine wpAnyH_take (i := 14) (oi := { dst := some 21, op := Op.load 128 (Operand.tmp 20), type := 128, pos := "log.go:94", after := #[{ on := 13, ground := Ground.data }, { on := 10, ground := Ground.guard }], guard := some (10, true) }) (v := ?_) rfl (by kernel_rfl) (by kernel_rfl) (by kernel_rfl) (fun _ _ _ h => h) (Or.inl ⟨by rfl, ?hy15⟩) hS0 ?_
  case hy15 => (intro w hSw; (try dsimp only at hSw); go_simp; try with_reducible rfl)
  try simp only [Act.put, List.setIfInBounds_toArray, List.set_cons_zero, List.set_cons_succ]
  refine wpAnyH_take (i := 15) (oi := { dst := some 22, op := Op.move (Operand.tmp 1), type := 3, pos := "log.go:94", after := #[{ on := 10, ground := Ground.guard }], guard := some (10, true) }) (v := ?_) rfl (by kernel_rfl) (by kernel_rfl) (by kernel_rfl) (fun _ _ _ h => h) (Or.inl ⟨by rfl, ?hy16⟩) hS0 ?_
  case hy16 => (intro w hSw; (try dsimp only at hSw); go_simp; try with_reducible rfl)
  try simp only [Act.put, List.setIfInBounds_toArray, List.set_cons_zero, List.set_cons_succ]
  refine wpAnyH_take (i := 16) (oi := { dst := some 23, op := Op.load 60 (Operand.tmp 5), type := 60, pos := "log.go:94", after := #[{ on := 10, ground := Ground.guard }], guard := some (10, true) }) (v := .agg cs.toArray) rfl (by kernel_rfl) (by kernel_rfl) (by kernel_rfl) (fun _ _ _ h => h) (yieldsIf_load_mid (by rfl) 60 _ rfl b5 0 rfl cs _ (fun _ h => h.2.2) Tryz.underlying60 rfl (by rw [HC.out.len]; exact size51)) hS0 ?_
  try simp only [Act.put, List.setIfInBounds_toArray, List.set_cons_zero, List.set_cons_succ]
  refine wpAnyH_ready (rs := [17]) (by kernel_rfl) (by simp) ?_
  refine AllReadyH.cons (o := { dst := some 24, op := Op.call { callee := Callee.value (Operand.func 68), args := #[Operand.tmp 23], argTypes := #[60] }, type := 60, pos := "log.go:94", after := #[{ on := 16, ground := Ground.data }, { on := 10, ground := Ground.chain }, { on := 10, ground := Ground.guard }], guard := some (10, true) }) rfl (fun K hK => ?_) ?_
  · go_simp; with_reducible refine CM.out.mono ?_; rintro en W3 ⟨rfl, T3⟩; have y9b := T3.cell (fun f => f) y9; have y11b := T3.cell (fun f => f) y11; have RB := range_turn R T3 (fun f => f); have PU := Lib.hid (PUT.out W3 (TB.out.trans T3)); have NB := Lib.hid (And.intro (NB.out.1.keep T3) NB.out.2); clear CM T3 PUT; go_simp
    refine hK.out _ _ ?hs18 (fun hS18 => ?_)
    case hs18 => ((try dsimp only); first | with_reducible exact ⟨y9, y11, R⟩ | with_reducible exact ⟨y9b, y11b, RB⟩ | with_reducible exact ⟨y9c, y11c, RC⟩ | exact ⟨y9, y11, R⟩ | exact ⟨y9b, y11b, RB⟩ | exact ⟨y9c, y11c, RC⟩)
    clear hK K hS0
    refine wpAnyH_ready (rs := [18]) (by kernel_rfl) (by simp) ?_
    refine AllReadyH.cons (o := { dst := some 25, op := Op.call { callee := Callee.value (Operand.func 67), args := #[Operand.tmp 21, Operand.tmp 22, Operand.tmp 24], argTypes := #[128, 3, 60] }, type := 4, pos := "log.go:94", after := #[{ on := 14, ground := Ground.data }, { on := 15, ground := Ground.data }, { on := 17, ground := Ground.data }, { on := 17, ground := Ground.chain }, { on := 10, ground := Ground.guard }], guard := some (10, true) }) rfl (fun K hK => ?_) ?_
    · go_simp; with_reducible refine PU.out.mono ?_; rintro en W4 ⟨rfl, T4, Q4⟩; have y9c := T4.cell (fun e => e.elim NB.out.2.1.1 NB.out.2.1.2) y9b; have y11c := T4.cell (fun e => e.elim NB.out.2.1.1 NB.out.2.1.2) y11b; have RC := range_turn RB T4 (fun e => e.elim NB.out.2.2.1 NB.out.2.2.2); have QQ := Lib.hid Q4; clear PU T4 Q4; go_simp
      refine hK.out _ _ ?hs19 (fun hS19 => ?_)
      case hs19 => ((try dsimp only); first | with_reducible exact ⟨y9, y11, R⟩ | with_reducible exact ⟨y9b, y11b, RB⟩ | with_reducible exact ⟨y9c, y11c, RC⟩ | exact ⟨y9, y11, R⟩ | exact ⟨y9b, y11b, RB⟩ | exact ⟨y9c, y11c, RC⟩)
      clear hK K hS18
      refine wpAnyH_take (i := 19) (oi := { dst := some 26, op := Op.pick (Operand.tmp 17) (Operand.tmp 25) (Operand.const (Value.bool false)), type := 4, pos := "log.go:94", after := #[{ on := 10, ground := Ground.data }, { on := 18, ground := Ground.data }], guard := none }) (v := ?_) rfl (by kernel_rfl) (by kernel_rfl) (by kernel_rfl) (fun _ _ _ h => h) (Or.inl ⟨by rfl, ?hy20⟩) hS19 ?_
      case hy20 => (intro w hSw; (try dsimp only at hSw); go_simp; try with_reducible rfl)
      try simp only [Act.put, List.setIfInBounds_toArray, List.set_cons_zero, List.set_cons_succ]
      refine wpAnyH_take (i := 20) (oi := { dst := some 6, op := Op.assign (Operand.tmp 26), type := 4, pos := "log.go:94", after := #[{ on := 19, ground := Ground.data }, { on := 18, ground := Ground.chain }, { on := 0, ground := Ground.phase }, { on := 1, ground := Ground.phase }, { on := 2, ground := Ground.phase }, { on := 3, ground := Ground.phase }, { on := 4, ground := Ground.phase }, { on := 5, ground := Ground.phase }, { on := 6, ground := Ground.phase }, { on := 7, ground := Ground.phase }, { on := 8, ground := Ground.phase }, { on := 9, ground := Ground.phase }, { on := 10, ground := Ground.phase }, { on := 11, ground := Ground.phase }, { on := 12, ground := Ground.phase }, { on := 13, ground := Ground.phase }, { on := 14, ground := Ground.phase }, { on := 15, ground := Ground.phase }, { on := 16, ground := Ground.phase }, { on := 17, ground := Ground.phase }, { on := 18, ground := Ground.phase }, { on := 19, ground := Ground.phase }], guard := none }) (v := ?_) rfl (by kernel_rfl) (by kernel_rfl) (by kernel_rfl) (fun _ _ _ h => h) (Or.inl ⟨by rfl, ?hy21⟩) hS19 ?_
      case hy21 => (intro w hSw; (try dsimp only at hSw); go_simp; try with_reducible rfl)
      try simp only [Act.put, List.setIfInBounds_toArray, List.set_cons_zero, List.set_cons_succ]
      refine wpAnyH_done (by kernel_rfl) ?_ _
      go_wp2_with fail
      go_ret
      exact ⟨rfl, QQ.out⟩
    exact AllReadyH.nil
  exact AllReadyH.nil
set_option maxRecDepth 100000 in
set_option maxHeartbeats 2000000 in
theorem LogAt.fill_over (h : LogAt w B c s) {at_ : Int} (ht : ¬ at_ < (s.tail : Int)) (cs : List Value) :
    Calls Tryz.prog 29 #[.pointer (some ⟨B.l, 0, none⟩), .int .i64 at_, .agg cs.toArray] w fun e w' => e = .returned (.bool false) ∧ Turn (fun _ => False) w w' := by
  obtain ⟨W, hW⟩ : ∃ W, W = w.alloc (.cells cs.toArray 60) := ⟨_, rfl⟩
  have T : Turn (fun _ => False) w W := by rw [hW]; exact (Turn.refl _ w).alloc _
  have y9 := (h.keep T).k9
  have K := Lib.hid T
  have t1 : decide (at_ < (s.tail : Int)) = false := by simpa using ht
  clear T h ht
  go_enter Tryz.func29, Tryz.ntmps29
  go_upto_region 1 with fail
  rw [← hW]
  clear hW
  go_quiet (fail)
  go_wp2
  go_ret
  exact ⟨rfl, K.out.drewN _⟩
end
end Go.Proofs.YtgfobgabdafclaaGreat
