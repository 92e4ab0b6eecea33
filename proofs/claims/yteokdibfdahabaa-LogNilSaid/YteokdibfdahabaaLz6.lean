/-
  No log: the walk.
-/
import Derived.Test.YteokdibfdahabaaLz5
namespace Go.Proofs.Yteokdibfdahabaa
open Go.ChangeShapes Go.WideShapes Go.ChangeAt Go.RowKit
set_option linter.unusedVariables false
theorem nil_look' (w : World) (n : Int) : Calls Try.prog 19 #[.pointer none, .int .i64 n] w fun e w' => e = .returned (.tuple #[.agg zc.toArray, .bool false]) ∧ Turn (fun _ => False) w w' := nil_look w n
set_option maxRecDepth 100000 in
set_option maxHeartbeats 4000000 in
theorem nil_walk (sh ib sl qu ru ou st n : Int) (w : World) : Calls Try.prog 8 #[.agg #[.int .i64 sh, .int .i64 ib, .int .i64 sl, .int .i64 qu, .int .i64 ru, .int .i64 ou, .int .i64 st], .int .i64 n] w fun e w' => e = .returned (.bool true) ∧ Below w.heap.size w w' := by
  obtain ⟨W, hW⟩ : ∃ W, W = w.alloc (.cells #[.int .i64 sh, .int .i64 ib, .int .i64 sl, .int .i64 qu, .int .i64 ru, .int .i64 ou, .int .i64 st] 28) := ⟨_, rfl⟩
  have T1 : Turn (fun _ => False) w W := by rw [hW]; exact (Turn.refl _ w).alloc _
  have C := World.cell?_alloc_new w #[.int .i64 sh, .int .i64 ib, .int .i64 sl, .int .i64 qu, .int .i64 ru, .int .i64 ou, .int .i64 st] 28
  rw [← hW] at C
  have X0 : Hid (∀ W', Turn (fun _ => False) W W' → W'.cell? ⟨w.heap.size, 0, none⟩ = some (.int .i64 sh) ∧ W'.cell? ⟨w.heap.size, 1, none⟩ = some (.int .i64 ib) ∧ W'.cell? ⟨w.heap.size, 2, none⟩ = some (.int .i64 sl) ∧ W'.cell? ⟨w.heap.size, 3, none⟩ = some (.int .i64 qu) ∧ W'.cell? ⟨w.heap.size, 4, none⟩ = some (.int .i64 ru) ∧ W'.cell? ⟨w.heap.size, 5, none⟩ = some (.int .i64 ou) ∧ W'.cell? ⟨w.heap.size, 6, none⟩ = some (.int .i64 st)) := Lib.hid fun W' T =>
    ⟨T.cell (fun f => f) (C 0), T.cell (fun f => f) (C 1), T.cell (fun f => f) (C 2), T.cell (fun f => f) (C 3), T.cell (fun f => f) (C 4), T.cell (fun f => f) (C 5), T.cell (fun f => f) (C 6)⟩
  have BB0 : Blk W w.heap.size 28 := by rw [hW]; exact Blk.new w [.int .i64 sh, .int .i64 ib, .int .i64 sl, .int .i64 qu, .int .i64 ru, .int .i64 ou, .int .i64 st] 28
  have BB0 := Lib.hid BB0
  have TW := Lib.hid T1
  have A16 := Lib.hid nil_tail
  have A19 := Lib.hid nil_look'
  have A29 := Lib.hid nil_collect
  have A26 := Lib.hid nil_answer
  have A22 := Lib.hid nil_take
  have A23 := Lib.hid nil_fill
  have A24 := Lib.hid nil_post
  have A27 := Lib.hid nil_leave
  have A25 := Lib.hid nil_reply
  have A18 := Lib.hid nil_cursor
  have A17 := Lib.hid nil_low
  have A31 := Lib.hid nil_store
  have A32 := Lib.hid nil_epochs
  have A33 := Lib.hid (fun w => ref_any w sh ib sl qu ru ou st)
  have A9 := Lib.hid log_awake
  have A15 := Lib.hid nil_config
  have A34 := Lib.hid (fun w => right_any w sh ib sl qu ru ou st)
  have A10 := Lib.hid (fun w => new_any w sh ib sl qu ru ou st)
  generalize lim sh ib sl qu ru ou st = B at *
  have hc := Lib.hid zc_is
  clear C T1
  go_enter Try.func8, Try.ntmps8
  go_upto_region 1 with fail
  rw [← hW]
  clear hW
  generalize hb1 : w.heap.size = b1 at *
  have HB1 := Lib.hid hb1
  clear hb1
  go_wp2_with fail
  with_reducible refine (A16.out _).mono ?_
  rintro e W1 ⟨rfl, T1⟩
  have T1 := Lib.hid T1
  go_wp2_with fail
  with_reducible refine (A19.out _ _).mono ?_
  rintro e W2 ⟨rfl, T2⟩
  dsimp only
  refine (‹∀ (a : Act) (w : World), wpList _ _ _ _ a w → _›) _ _ ?_
  refine rl_val rfl (v := .tuple #[.agg zc.toArray, .bool false]) rfl ?_
  try simp only [Act.put, List.setIfInBounds_toArray, List.set_cons_zero, List.set_cons_succ]
  refine rl_val rfl (v := .agg zc.toArray) rfl ?_
  try simp only [Act.put, List.setIfInBounds_toArray, List.set_cons_zero, List.set_cons_succ]
  refine rl_val rfl (v := .bool false) rfl ?_
  try simp only [Act.put, List.setIfInBounds_toArray, List.set_cons_zero, List.set_cons_succ]
  refine rl_val rfl (alloc51 _ _ rfl) ?_
  try simp only [Act.put, List.setIfInBounds_toArray, List.set_cons_zero, List.set_cons_succ]
  obtain ⟨W3, hW3⟩ : ∃ W, W = W2.alloc (.cells zc.toArray 51) := ⟨_, rfl⟩
  rw [← hW3]
  have T3 : Turn (fun _ => False) W2 W3 := by rw [hW3]; exact (Turn.refl _ W2).alloc _
  have B3 : Blk W3 W2.heap.size 51 := by rw [hW3]; exact Blk.new W2 zc 51
  have C3 : W3.there W2.heap.size 0 14 := range_there (by rw [hW3]; exact range_new W2 zc 51) rfl B3
  have hb4 : W1.heap.size ≤ W2.heap.size := T2.size
  clear hW3
  generalize W2.heap.size = b4 at *
  refine wpList_store_mid rfl 51 _ _ rfl b4 0 zc.toArray rfl rfl C3 size51 hc.out.one ?_
  try simp only [Act.put, List.setIfInBounds_toArray, List.set_cons_zero, List.set_cons_succ]
  change wpList _ _ _ _ _ (W3.setCells b4 0 zc)
  have T4 : Turn (fun k => k = b4) W3 (W3.setCells b4 0 zc) := Turn.setCells zc 0 (Turn.refl _ W3) (.inl rfl)
  have T14 := Lib.hid (T1.out.trans (show Turn (fun _ => False) W1 (W3.setCells b4 0 zc) from ((T2.trans T3).comp T4 (fun j hj e => by omega))))
  generalize W3.setCells b4 0 zc = W4 at *
  clear T3 B3 C3 T4 T2 hb4 T1
  go_wp2_with fail
  with_reducible refine (A29.out _).mono ?_
  rintro e W5 ⟨rfl, T5⟩
  have T5 := Lib.hid (T14.out.trans T5)
  clear T14
  go_wp2_with fail
  with_reducible refine (A26.out _ _).mono ?_
  rintro e W6 ⟨rfl, T6⟩
  have T6 := Lib.hid (T5.out.trans T6)
  clear T5
  go_upto_region 6 with fail
  obtain ⟨W7, hW7⟩ : ∃ W, W = W6.alloc (.cells #[.int .i64 0, .int .i64 0, .slice none 0 0] 67) := ⟨_, rfl⟩
  have T7 := Lib.hid (show Turn (fun _ => False) W W7 by rw [hW7]; exact T6.out.alloc _)
  rw [← hW7]
  generalize W6.heap.size = b6 at *
  clear hW7 T6
  go_wp2_with fail
  with_reducible refine (A22.out _ _).mono ?_
  rintro e W8 ⟨rfl, T8⟩
  have T8 := Lib.hid (T7.out.trans T8)
  clear T7
  go_wp2_with fail
  with_reducible refine (A23.out _ _).mono ?_
  rintro e W9 ⟨rfl, T9⟩
  have T9 := Lib.hid (T8.out.trans T9)
  clear T8
  go_wp2_with fail
  with_reducible refine (A24.out _ _).mono ?_
  rintro e W10 ⟨rfl, T10⟩
  have T10 := Lib.hid (T9.out.trans T10)
  clear T9
  go_wp2_with fail
  with_reducible refine (A27.out _ _).mono ?_
  rintro e W11 ⟨rfl, T11⟩
  have T11 := Lib.hid (T10.out.trans T11)
  clear T10
  go_wp2_with fail
  with_reducible refine (A25.out _).mono ?_
  rintro e W12 ⟨rfl, T12⟩
  have T12 := Lib.hid (T11.out.trans T12)
  clear T11
  go_wp2_with fail
  with_reducible refine (A18.out _ _).mono ?_
  rintro e W13 ⟨rfl, T13⟩
  have T13 := Lib.hid (T12.out.trans T13)
  clear T12
  go_wp2_with fail
  with_reducible refine (A17.out _).mono ?_
  rintro e W14 ⟨rfl, T14⟩
  have T14 := Lib.hid (T13.out.trans T14)
  clear T13
  go_wp2_with fail
  with_reducible refine (A31.out _).mono ?_
  rintro e W15 ⟨rfl, T15⟩
  have T15 := Lib.hid (T14.out.trans T15)
  clear T14
  go_wp2_with fail
  with_reducible refine (A32.out _).mono ?_
  rintro e W16 ⟨rfl, T16⟩
  have T16 := Lib.hid (T15.out.trans T16)
  clear T15
  go_upto_region 7 with fail
  obtain ⟨x0, x1, x2, x3, x4, x5, x6⟩ := X0.out _ T16.out
  go_wp2_with fail
  with_reducible refine (A33.out _).mono ?_
  rintro e W17 ⟨rfl, T17⟩
  have T17 := Lib.hid (T16.out.trans T17)
  clear T16
  clear x0 x1 x2 x3 x4 x5 x6
  go_upto_region 8 with fail
  go_wp2_with fail
  with_reducible refine (A9.out _).mono ?_
  rintro e W18 ⟨rfl, T18⟩
  have T18 := Lib.hid (T17.out.trans (Turn.of_below T18))
  clear T17
  go_wp2_with fail
  with_reducible refine (A15.out _).mono ?_
  rintro e W19 ⟨rfl, T19⟩
  have T19 := Lib.hid (T18.out.trans T19)
  clear T18
  obtain ⟨x0, x1, x2, x3, x4, x5, x6⟩ := X0.out _ T19.out
  go_wp2_with fail
  with_reducible refine (A34.out _).mono ?_
  rintro e W20 ⟨rfl, T20⟩
  have T20 := Lib.hid (T19.out.trans T20)
  clear T19
  clear x0 x1 x2 x3 x4 x5 x6
  obtain ⟨x0, x1, x2, x3, x4, x5, x6⟩ := X0.out _ T20.out
  go_wp2_with fail
  with_reducible refine (A10.out _).mono ?_
  rintro e W21 ⟨x, rfl, hx, T21⟩
  have TF := Lib.hid (TW.out.trans (T20.out.trans T21))
  clear T20 T21
  subst hx
  cases x
  all_goals
    go_wp2
    go_ret
    exact ⟨rfl, TF.out.below fun k hk => ⟨by have := HB1.out; omega, fun f => f⟩⟩
end Go.Proofs.Yteokdibfdahabaa
