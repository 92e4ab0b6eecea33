/-
  A desk in memory: a query is lost.
-/
import Derived.Test.YtepmealhnnoahaaQd
namespace Go.Proofs.Ytepmealhnnoahaa
open Go.ChangeShapes Go.WideShapes Go.ChangeAt Go.RowKit
set_option linter.unusedVariables false
section
variable {w w' : World} {d mb : Nat} {qu ou : Int} {cnt m : Nat} {Q : Int → Option Wt}
/-- What is put into a desk's map. -/
theorem DeskAt.put (h : DeskAt w d mb qu ou cnt m Q) (hn : cnt < maxLen) {i : Int} (hi : (Lit.int .i64 i).wf = true) (q : Wt) :
    ∃ w', (Instr.mapUpdate 80 (.map (some mb)) (.int .i64 i) q.val).run Try.prog w = .ok () w' ∧ DeskAt w' d mb qu ou (cnt + 1) (if (Q i).isSome then m else m + 1) (updI Q i (some q)) ∧ Turn (fun k => k = mb) w w' := by
  obtain ⟨w', hr, hm, hg⟩ := h.mp.store (t := 80) (e := 94) Try.underlying3 Try.underlying80 hn hi q
  have T : Turn (fun k => k = mb) w w' := (Turn.refl _ w).grown hg (fun k hk => .inl (by cases hk; rfl))
  have nd := h.ne h.bl
  exact ⟨w', hr, ⟨h.bl.turn T nd, T.cell nd h.c3, T.cell nd h.c5, T.cell nd h.c7, hm⟩, T⟩
set_option maxRecDepth 100000 in
set_option maxHeartbeats 2000000 in
theorem DeskAt.lose_yes (h : DeskAt w d mb qu ou cnt m Q) (hn : cnt < maxLen) {i : Int} (hi : (Lit.int .i64 i).wf = true) {q : Wt} (hq : Q i = some q) :
    Calls Try.prog 40 #[.pointer (some ⟨d, 0, none⟩), .int .i64 i] w fun e w' => e = .returned (.tuple #[]) ∧ DeskAt w' d mb qu ou (cnt + 1) m (updI Q i (some { q with lost := true })) ∧ Turn (fun k => k = mb) w w' := by
  have c7 := h.c7
  have LK := h.mp.look (t := 80) (e := 94) Try.underlying3 Try.underlying80 (zero94 w) hi
  rw [hq] at LK
  obtain ⟨bk, n, cap, l⟩ := q
  obtain ⟨ad, had⟩ : ∃ ad : Option Addr, bk.map (fun b => (⟨b, 0, none⟩ : Addr)) = ad := ⟨_, rfl⟩
  have HAD := Lib.hid had
  unfold Wt.val Wt.sl at LK
  dsimp only [Option.getD_some, Option.isSome_some] at LK
  rw [had] at LK
  have H := Lib.hid (And.intro h (And.intro hn (And.intro hi hq)))
  clear h hn hi hq had
  go_enter Try.func40, Try.ntmps40
  go_wp2_with fail
  have TX : Turn (fun _ => False) w (w.alloc (.cells #[.slice ad n cap, .bool true] 94)) := (Turn.refl _ w).alloc _
  have BX : Blk (w.alloc (.cells #[.slice ad n cap, .bool true] 94)) w.heap.size 94 := Blk.new w [.slice ad n cap, .bool true] 94
  have RX : (w.alloc (.cells #[.slice ad n cap, .bool true] 94)).rangeAt w.heap.size 0 [.slice ad n cap, .bool true] := range_new w [.slice ad n cap, .bool true] 94
  generalize w.alloc (.cells #[.slice ad n cap, .bool true] 94) = X at *
  generalize w.heap.size = b at *
  have TD : Turn (fun _ => False) w X.drew := TX.trans ((Turn.refl _ X).drewN 1)
  have hd := H.out.1.keep TD
  obtain ⟨W2, hr, hp, T2⟩ := hd.put H.out.2.1 H.out.2.2.1 ⟨bk, n, cap, true⟩
  rw [H.out.2.2.2] at hp
  unfold Wt.val Wt.sl at hr
  dsimp only at hr
  rw [HAD.out] at hr
  have hr2 : (Instr.mapUpdate 80 (.map (some mb)) (.int .i64 i) (.agg #[.slice ad n cap, .bool true])).run Try.prog X.drew = .ok () W2 := hr
  have nb : b ≠ mb := hd.ne (BX.turn ((Turn.refl _ X).drewN 1 : Turn (fun _ => False) X X.drew) (fun f => f))
  have nd : d ≠ mb := hd.ne hd.bl
  have p7 : X.drew.cell? ⟨d, 7, none⟩ = some (.map (some mb)) := hd.c7
  have q0 : X.drew.cell? ⟨b, 0, none⟩ = some (.slice ad n cap) := RX 0 _ rfl
  have q1 : X.drew.cell? ⟨b, 1, none⟩ = some (.bool true) := RX 1 _ rfl
  have p7b := T2.cell nd p7
  have q0b := T2.cell nb q0
  have q1b := T2.cell nb q1
  have FIN := Lib.hid (And.intro hp ((TD.more (S' := fun k => k = mb) (fun _ _ f => f.elim)).trans T2))
  have HR := Lib.hid hr2
  clear TX BX RX TD hd hr hp T2 nb nd hr2 c7 LK
  refine wp_region_held_drew (S := (fun w' => w'.cell? ⟨d, 7, none⟩ = some (.map (some mb)) ∧ w'.cell? ⟨b, 0, none⟩ = some (.slice ad n cap) ∧ w'.cell? ⟨b, 1, none⟩ = some (.bool true))) (by kernel_rfl) ?hs0 (fun hS0 => ?_)
  case hs0 => ((try dsimp only); first | with_reducible exact ⟨p7, q0, q1⟩ | with_reducible exact ⟨p7b, q0b, q1b⟩ | exact ⟨p7, q0, q1⟩ | exact ⟨p7b, q0b, q1b⟩)
  refine wpAnyH_take (i := 0) (oi := { dst := some 17, op := Op.move (Operand.tmp 0), type := 25, pos := "queue.go:112", after := #[], guard := none }) (v := ?_) rfl (by kernel_rfl) (by kernel_rfl) (by kernel_rfl) (fun _ _ _ h => h) (Or.inl ⟨by rfl, ?hy1⟩) hS0 ?_
  case hy1 => (intro w hSw; (try dsimp only at hSw); go_simp; try with_reducible rfl)
  try simp only [Act.put, List.setIfInBounds_toArray, List.set_cons_zero, List.set_cons_succ]
  refine wpAnyH_take (i := 1) (oi := { dst := some 18, op := Op.nilCheck (Operand.tmp 17), type := 0, pos := "queue.go:112", after := #[{ on := 0, ground := Ground.data }], guard := none }) (v := ?_) rfl (by kernel_rfl) (by kernel_rfl) (by kernel_rfl) (fun _ _ _ h => h) (Or.inl ⟨by rfl, ?hy2⟩) hS0 ?_
  case hy2 => (intro w hSw; (try dsimp only at hSw); go_simp; try with_reducible rfl)
  try simp only [Act.put, List.setIfInBounds_toArray, List.set_cons_zero, List.set_cons_succ]
  refine wpAnyH_take (i := 2) (oi := { dst := some 19, op := Op.fieldAddr 82 (Operand.tmp 18) 1, type := 0, pos := "queue.go:112", after := #[{ on := 1, ground := Ground.data }], guard := none }) (v := ?_) rfl (by kernel_rfl) (by kernel_rfl) (by kernel_rfl) (fun _ _ _ h => h) (Or.inl ⟨by rfl, ?hy3⟩) hS0 ?_
  case hy3 => (intro w hSw; (try dsimp only at hSw); go_simp; try with_reducible rfl)
  try simp only [Act.put, List.setIfInBounds_toArray, List.set_cons_zero, List.set_cons_succ]
  refine wpAnyH_take (i := 3) (oi := { dst := some 20, op := Op.load 80 (Operand.tmp 19), type := 80, pos := "queue.go:112", after := #[{ on := 2, ground := Ground.data }], guard := none }) (v := ?_) rfl (by kernel_rfl) (by kernel_rfl) (by kernel_rfl) (fun _ _ _ h => h) (Or.inl ⟨by rfl, ?hy4⟩) hS0 ?_
  case hy4 => (intro w hSw; (try dsimp only at hSw); go_simp; try with_reducible rfl)
  try simp only [Act.put, List.setIfInBounds_toArray, List.set_cons_zero, List.set_cons_succ]
  refine wpAnyH_take (i := 4) (oi := { dst := some 21, op := Op.move (Operand.tmp 1), type := 3, pos := "queue.go:112", after := #[], guard := none }) (v := ?_) rfl (by kernel_rfl) (by kernel_rfl) (by kernel_rfl) (fun _ _ _ h => h) (Or.inl ⟨by rfl, ?hy5⟩) hS0 ?_
  case hy5 => (intro w hSw; (try dsimp only at hSw); go_simp; try with_reducible rfl)
  try simp only [Act.put, List.setIfInBounds_toArray, List.set_cons_zero, List.set_cons_succ]
  refine wpAnyH_take (i := 5) (oi := { dst := some 22, op := Op.load 94 (Operand.tmp 4), type := 94, pos := "queue.go:112", after := #[], guard := none }) (v := ?_) rfl (by kernel_rfl) (by kernel_rfl) (by kernel_rfl) (fun _ _ _ h => h) (Or.inl ⟨by rfl, ?hy6⟩) hS0 ?_
  case hy6 => (intro w hSw; (try dsimp only at hSw); go_simp; try with_reducible rfl)
  try simp only [Act.put, List.setIfInBounds_toArray, List.set_cons_zero, List.set_cons_succ]
  refine wpAnyH_ready (rs := [6]) (by kernel_rfl) (by simp) ?_
  refine AllReadyH.cons (o := { dst := none, op := Op.mapUpdate 80 (Operand.tmp 20) (Operand.tmp 21) (Operand.tmp 22), type := 0, pos := "queue.go:112", after := #[{ on := 3, ground := Ground.data }, { on := 4, ground := Ground.data }, { on := 5, ground := Ground.data }, { on := 0, ground := Ground.phase }, { on := 1, ground := Ground.phase }, { on := 2, ground := Ground.phase }, { on := 3, ground := Ground.phase }, { on := 4, ground := Ground.phase }, { on := 5, ground := Ground.phase }], guard := none }) rfl (fun K hK => ?_) ?_
  · (have hr := HR.out); go_simp
    refine hK.out _ _ ?hs7 (fun hS7 => ?_)
    case hs7 => ((try dsimp only); first | with_reducible exact ⟨p7, q0, q1⟩ | with_reducible exact ⟨p7b, q0b, q1b⟩ | exact ⟨p7, q0, q1⟩ | exact ⟨p7b, q0b, q1b⟩)
    clear hK K hS0
    refine wpAnyH_done (by kernel_rfl) ?_ _
    go_wp2_with fail
    go_end0
    exact ⟨rfl, FIN.out⟩
  exact AllReadyH.nil
set_option maxRecDepth 100000 in
theorem DeskAt.lose_no (h : DeskAt w d mb qu ou cnt m Q) {i : Int} (hi : (Lit.int .i64 i).wf = true) (hq : Q i = none) :
    Calls Try.prog 40 #[.pointer (some ⟨d, 0, none⟩), .int .i64 i] w fun e w' => e = .returned (.tuple #[]) ∧ Turn (fun _ => False) w w' := by
  have c7 := h.c7
  have LK := h.mp.look (t := 80) (e := 94) Try.underlying3 Try.underlying80 (zero94 w) hi
  rw [hq] at LK
  unfold Wt.zero Wt.val Wt.sl at LK
  dsimp only [Option.getD_none, Option.isSome_none, Option.map_none] at LK
  have TX := Lib.hid (show Turn (fun _ => False) w (w.alloc (.cells #[.slice none 0 0, .bool false] 94)) from (Turn.refl _ w).alloc _)
  clear h hi hq
  go_enter Try.func40, Try.ntmps40
  go_wp2_with fail
  go_end0
  exact ⟨rfl, TX.out⟩
end
end Go.Proofs.Ytepmealhnnoahaa
