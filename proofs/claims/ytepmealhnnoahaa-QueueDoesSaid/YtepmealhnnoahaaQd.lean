/-
  A desk in memory: what its functions answer that only read; a new one; none.
-/
import Derived.Test.YtepmealhnnoahaaBase
import Derived.Test.YtepmealhnnoahaaQm
namespace Go.Proofs.Ytepmealhnnoahaa
open Go.ChangeShapes Go.WideShapes Go.ChangeAt Go.RowKit
set_option linter.unusedVariables false
/-- A desk at block d, its map at mb: so many queries, so many matches of each, may be. -/
structure DeskAt (w : World) (d mb : Nat) (qu ou : Int) (cnt m : Nat) (Q : Int → Option Wt) : Prop where
  bl : Blk w d 82
  c3 : w.cell? ⟨d, 3, none⟩ = some (.int .i64 qu)
  c5 : w.cell? ⟨d, 5, none⟩ = some (.int .i64 ou)
  c7 : w.cell? ⟨d, 7, none⟩ = some (.map (some mb))
  mp : Wts Try.prog 3 w mb cnt m Q
theorem zero94 (w : World) : (zeroValue 94).run Try.prog w = .ok Wt.zero.val w := by
  unfold Wt.zero Wt.val Wt.sl
  go_simp
theorem field0 (a : Option Addr) (n c : Nat) (l : Bool) (w : World) : (Instr.field 94 (.agg #[.slice a n c, .bool l]) 0).run Try.prog w = .ok (.slice a n c) w := by kernel_rfl
theorem field1 (a : Option Addr) (n c : Nat) (l : Bool) (w : World) : (Instr.field 94 (.agg #[.slice a n c, .bool l]) 1).run Try.prog w = .ok (.bool l) w := by kernel_rfl
section
variable {w w' : World} {d mb : Nat} {qu ou : Int} {cnt m : Nat} {Q : Int → Option Wt}
theorem DeskAt.ne (h : DeskAt w d mb qu ou cnt m Q) {b : Nat} {t : TypeId} (hb : Blk w b t) : b ≠ mb := fun e => by
  obtain ⟨D, ⟨es, clock, h0, F, hs, hD⟩, h2⟩ := h.mp.ex
  obtain ⟨cs, hb⟩ := hb
  rw [e] at hb
  rw [h0] at hb
  cases hb
theorem DeskAt.turn {S : Nat → Prop} (h : DeskAt w d mb qu ou cnt m Q) (T : Turn S w w') (h1 : ¬ S d) (h2 : ¬ S mb) : DeskAt w' d mb qu ou cnt m Q :=
  ⟨h.bl.turn T h1, T.cell h1 h.c3, T.cell h1 h.c5, T.cell h1 h.c7, h.mp.block (T.block _ h.mp.lt h2)⟩
theorem DeskAt.keep (h : DeskAt w d mb qu ou cnt m Q) (T : Turn (fun _ => False) w w') : DeskAt w' d mb qu ou cnt m Q := h.turn T (fun f => f) (fun f => f)
set_option maxRecDepth 100000 in
theorem DeskAt.live_is (h : DeskAt w d mb qu ou cnt m Q) : Calls Try.prog 19 #[.pointer (some ⟨d, 0, none⟩)] w fun e w' => e = .returned (.int .i64 (m : Int)) ∧ w = w' := by
  have c7 := h.c7
  have LN := h.mp.len (t := 80) (e := 94) Try.underlying80 3
  clear h
  go_enter Try.func19, Try.ntmps19
  go_wp2
  go_ret
  exact ⟨rfl, rfl⟩
set_option maxRecDepth 100000 in
theorem DeskAt.waiting_is (h : DeskAt w d mb qu ou cnt m Q) {i : Int} (hi : (Lit.int .i64 i).wf = true) : Calls Try.prog 20 #[.pointer (some ⟨d, 0, none⟩), .int .i64 i] w fun e w' => e = .returned (.int .i64 (((Q i).getD Wt.zero).n : Int)) ∧ w = w' := by
  have c7 := h.c7
  have LK := h.mp.look1 (t := 80) (e := 94) Try.underlying3 Try.underlying80 (zero94 w) hi
  generalize (Q i).getD Wt.zero = q at *
  obtain ⟨bk, n, cap, l⟩ := q
  unfold Wt.val Wt.sl at LK
  dsimp only at LK
  generalize Option.map (fun b => (⟨b, 0, none⟩ : Addr)) bk = ad at *
  have F0 := field0 ad n cap l
  clear h
  go_enter Try.func20, Try.ntmps20
  go_wp2
  go_ret
  exact ⟨rfl, rfl⟩
set_option maxRecDepth 100000 in
theorem DeskAt.lost_is (h : DeskAt w d mb qu ou cnt m Q) {i : Int} (hi : (Lit.int .i64 i).wf = true) : Calls Try.prog 22 #[.pointer (some ⟨d, 0, none⟩), .int .i64 i] w fun e w' => e = .returned (.bool ((Q i).getD Wt.zero).lost) ∧ w = w' := by
  have c7 := h.c7
  have LK := h.mp.look1 (t := 80) (e := 94) Try.underlying3 Try.underlying80 (zero94 w) hi
  generalize (Q i).getD Wt.zero = q at *
  obtain ⟨bk, n, cap, l⟩ := q
  unfold Wt.val Wt.sl at LK
  dsimp only at LK
  generalize Option.map (fun b => (⟨b, 0, none⟩ : Addr)) bk = ad at *
  have F1 := field1 ad n cap l
  clear h
  go_enter Try.func22, Try.ntmps22
  go_wp2
  go_ret
  exact ⟨rfl, rfl⟩
end
set_option maxRecDepth 100000 in
theorem nil_live (w : World) : Calls Try.prog 19 #[.pointer none] w fun e w' => e = .returned (.int .i64 0) ∧ w = w' := by
  go_enter Try.func19, Try.ntmps19
  go_wp2
  go_ret
  exact ⟨rfl, rfl⟩
set_option maxRecDepth 100000 in
theorem nil_waiting (w : World) (i : Int) : Calls Try.prog 20 #[.pointer none, .int .i64 i] w fun e w' => e = .returned (.int .i64 0) ∧ w = w' := by
  go_enter Try.func20, Try.ntmps20
  go_wp2
  go_ret
  exact ⟨rfl, rfl⟩
set_option maxRecDepth 100000 in
theorem nil_lost (w : World) (i : Int) : Calls Try.prog 22 #[.pointer none, .int .i64 i] w fun e w' => e = .returned (.bool false) ∧ w = w' := by
  go_enter Try.func22, Try.ntmps22
  go_wp2
  go_ret
  exact ⟨rfl, rfl⟩
end Go.Proofs.Ytepmealhnnoahaa
