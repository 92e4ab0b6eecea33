/-
  Acts by numbers: what is asked (but for what comes with an event).
-/
import Derived.Test.YtepmealhnnoahaaSh
namespace Go.Proofs.Ytepmealhnnoahaa
set_option linter.unusedSimpArgs false
open Go.ChangeShapes Go.WideShapes Go.ChangeAt Go.RowKit
set_option linter.unusedVariables false
structure ActV where
  kind : Int
  id : Int
  num : Int
  hits : List Int
  lost : List Int
  shard : Int
structure CmdV where
  k : Int
  i : Int
  n : Int
  s : Int
  g : Int
def CmdV.cells (c : CmdV) : List Value := cmdL c.k c.i c.n c.s c.g
/-- What an act asks. -/
def cmdOf (a : ActV) (stamp : Int) : CmdV :=
  if restN a.kind 8 = 0 then ⟨2, 0, 0, 0, 0⟩ else if restN a.kind 8 = 1 then ⟨3, restN a.id 12, 0, 0, 0⟩ else if restN a.kind 8 = 2 ∨ restN a.kind 8 = 3 then ⟨4, restN a.id 12, restN a.num 5 - 1, 0, 0⟩
  else if restN a.kind 8 = 4 then ⟨5, 0, 0, 0, 0⟩ else if restN a.kind 8 = 5 then ⟨6 + restN a.num 9, 0, 0, 0, 0⟩ else ⟨1, 0, 0, stamp, 7⟩
theorem rest_3 (x : Int) (w : World) : Calls Try.prog 27 #[.int .i64 x, .int .i64 3] w fun e w' => e = .returned (.int .i64 (restN x 3 : Int)) ∧ w = w' := rest_is w x (n := 3) (by decide) (by decide)
theorem rest_5 (x : Int) (w : World) : Calls Try.prog 27 #[.int .i64 x, .int .i64 5] w fun e w' => e = .returned (.int .i64 (restN x 5 : Int)) ∧ w = w' := rest_is w x (n := 5) (by decide) (by decide)
theorem rest_8 (x : Int) (w : World) : Calls Try.prog 27 #[.int .i64 x, .int .i64 8] w fun e w' => e = .returned (.int .i64 (restN x 8 : Int)) ∧ w = w' := rest_is w x (n := 8) (by decide) (by decide)
theorem rest_9 (x : Int) (w : World) : Calls Try.prog 27 #[.int .i64 x, .int .i64 9] w fun e w' => e = .returned (.int .i64 (restN x 9 : Int)) ∧ w = w' := rest_is w x (n := 9) (by decide) (by decide)
theorem rest_12 (x : Int) (w : World) : Calls Try.prog 27 #[.int .i64 x, .int .i64 12] w fun e w' => e = .returned (.int .i64 (restN x 12 : Int)) ∧ w = w' := rest_is w x (n := 12) (by decide) (by decide)
theorem size43 : (Try.prog.info? 43).map (·.size) = some 14 := by kernel_rfl
theorem cmd_ret {W : World} {c : CmdV} {b : Nat} {tmps : Array Value} {v : Value} {Q : Ending → World → Prop} (hp : tmps.getD 4 undef = .pointer (some ⟨b, 0, none⟩)) (hk : tmps.getD 5 undef = v) (hr : W.rangeAt b 0 c.cells) (hq : Q (.returned (.tuple #[.agg c.cells.toArray, v])) W) {ds} (hd : ds = []) :
    bodyPost Try.prog Try.f12 Q Exit.ret ⟨tmps, ds⟩ W := by
  subst hd
  exact bodyPost_ret (v := .tuple #[.agg c.cells.toArray, v]) (res_cell_tmp (a := 4) (k := 5) rfl hp hk (run_loadVar_mid _ b 0 43 _ _ hr Try.underlying43 rfl size43)) rfl hq
set_option maxRecDepth 100000 in
set_option maxHeartbeats 4000000 in
theorem cmd_0 (w : World) (a : ActV) (hv lv : Value) (stamp : Int) (hk : restN a.kind 8 = 0) : Calls Try.prog 12 #[.agg #[.int .i64 a.kind, .int .i64 a.id, .int .i64 a.num, hv, lv, .int .i64 a.shard], .int .i64 stamp] w fun e w' => e = .returned (.tuple #[.agg (cmdOf a stamp).cells.toArray, .slice none 0 0]) ∧ Turn (fun _ => False) w w' := by
  obtain ⟨kd, ii, nn, hh, ll, sh⟩ := a
  dsimp only at hk ⊢
  have eC : cmdOf ⟨kd, ii, nn, hh, ll, sh⟩ stamp = ⟨2, 0, 0, 0, 0⟩ := by simp [cmdOf, hk]
  rw [eC]
  clear eC
  have A12 := Lib.hid (rest_12 ii)
  have A8 := Lib.hid (show ∀ w, Calls Try.prog 27 #[.int .i64 kd, .int .i64 8] w fun e w' => e = .returned (.int .i64 0) ∧ w = w' from fun w => by have := rest_8 kd w; rw [hk] at this; exact this)
  clear hk
  generalize restN ii 12 = q12 at *
  obtain ⟨V, hV⟩ : ∃ V, V = w.alloc (.cells #[.int .i64 kd, .int .i64 ii, .int .i64 nn, hv, lv, .int .i64 sh] 48) := ⟨_, rfl⟩
  have TV : Turn (fun _ => False) w V := by rw [hV]; exact (Turn.refl _ w).alloc _
  have SV : V.heap.size = w.heap.size + 1 := by rw [hV, World.size_alloc]
  obtain ⟨W, hW⟩ : ∃ W, W = V.alloc (.cells (cmdL (2) (0) (0) (0) (0)).toArray 43) := ⟨_, rfl⟩
  have RW : W.rangeAt (w.heap.size + 1) 0 (⟨2, 0, 0, 0, 0⟩ : CmdV).cells := by rw [hW, ← SV]; exact range_new V _ 43
  have TW : Turn (fun _ => False) w W := by rw [hW]; exact TV.trans ((Turn.refl _ V).alloc _)
  have FIN := Lib.hid (And.intro RW TW)
  have HW := (show W = (w.alloc (.cells #[.int .i64 kd, .int .i64 ii, .int .i64 nn, hv, lv, .int .i64 sh] 48)).alloc (.cells (cmdL (2) (0) (0) (0) (0)).toArray 43) from by rw [hW, hV])
  unfold cmdL at HW
  have HW := Lib.hid HW
  clear hV TV SV hW RW TW
  go_enter Try.func12, Try.ntmps12
  go_wp2_with fail
  with_reducible refine (A12.out _).mono ?_
  rintro en w1 ⟨rfl, rfl⟩
  go_wp2_with fail
  with_reducible refine (A8.out _).mono ?_
  rintro en w1 ⟨rfl, rfl⟩
  go_wp2_with fail
  rw [← HW.out]
  exact cmd_ret (c := ⟨2, 0, 0, 0, 0⟩) rfl rfl FIN.out.1 ⟨rfl, FIN.out.2⟩ rfl
set_option maxRecDepth 100000 in
set_option maxHeartbeats 4000000 in
theorem cmd_1 (w : World) (a : ActV) (hv lv : Value) (stamp : Int) (hk : restN a.kind 8 = 1) : Calls Try.prog 12 #[.agg #[.int .i64 a.kind, .int .i64 a.id, .int .i64 a.num, hv, lv, .int .i64 a.shard], .int .i64 stamp] w fun e w' => e = .returned (.tuple #[.agg (cmdOf a stamp).cells.toArray, .slice none 0 0]) ∧ Turn (fun _ => False) w w' := by
  obtain ⟨kd, ii, nn, hh, ll, sh⟩ := a
  dsimp only at hk ⊢
  have eC : cmdOf ⟨kd, ii, nn, hh, ll, sh⟩ stamp = ⟨3, (restN ii 12 : Int), 0, 0, 0⟩ := by simp [cmdOf, hk]
  rw [eC]
  clear eC
  have A12 := Lib.hid (rest_12 ii)
  have A8 := Lib.hid (show ∀ w, Calls Try.prog 27 #[.int .i64 kd, .int .i64 8] w fun e w' => e = .returned (.int .i64 1) ∧ w = w' from fun w => by have := rest_8 kd w; rw [hk] at this; exact this)
  clear hk
  generalize restN ii 12 = q12 at *
  obtain ⟨V, hV⟩ : ∃ V, V = w.alloc (.cells #[.int .i64 kd, .int .i64 ii, .int .i64 nn, hv, lv, .int .i64 sh] 48) := ⟨_, rfl⟩
  have TV : Turn (fun _ => False) w V := by rw [hV]; exact (Turn.refl _ w).alloc _
  have SV : V.heap.size = w.heap.size + 1 := by rw [hV, World.size_alloc]
  obtain ⟨W, hW⟩ : ∃ W, W = V.alloc (.cells (cmdL (3) ((q12 : Int)) (0) (0) (0)).toArray 43) := ⟨_, rfl⟩
  have RW : W.rangeAt (w.heap.size + 1) 0 (⟨3, (q12 : Int), 0, 0, 0⟩ : CmdV).cells := by rw [hW, ← SV]; exact range_new V _ 43
  have TW : Turn (fun _ => False) w W := by rw [hW]; exact TV.trans ((Turn.refl _ V).alloc _)
  have FIN := Lib.hid (And.intro RW TW)
  have HW := (show W = (w.alloc (.cells #[.int .i64 kd, .int .i64 ii, .int .i64 nn, hv, lv, .int .i64 sh] 48)).alloc (.cells (cmdL (3) ((q12 : Int)) (0) (0) (0)).toArray 43) from by rw [hW, hV])
  unfold cmdL at HW
  have HW := Lib.hid HW
  clear hV TV SV hW RW TW
  go_enter Try.func12, Try.ntmps12
  go_wp2_with fail
  with_reducible refine (A12.out _).mono ?_
  rintro en w1 ⟨rfl, rfl⟩
  go_wp2_with fail
  with_reducible refine (A8.out _).mono ?_
  rintro en w1 ⟨rfl, rfl⟩
  go_wp2_with fail
  rw [← HW.out]
  exact cmd_ret (c := ⟨3, (q12 : Int), 0, 0, 0⟩) rfl rfl FIN.out.1 ⟨rfl, FIN.out.2⟩ rfl
set_option maxRecDepth 100000 in
set_option maxHeartbeats 4000000 in
theorem cmd_2 (w : World) (a : ActV) (hv lv : Value) (stamp : Int) (hk : restN a.kind 8 = 2) : Calls Try.prog 12 #[.agg #[.int .i64 a.kind, .int .i64 a.id, .int .i64 a.num, hv, lv, .int .i64 a.shard], .int .i64 stamp] w fun e w' => e = .returned (.tuple #[.agg (cmdOf a stamp).cells.toArray, .slice none 0 0]) ∧ Turn (fun _ => False) w w' := by
  obtain ⟨kd, ii, nn, hh, ll, sh⟩ := a
  dsimp only at hk ⊢
  have eC : cmdOf ⟨kd, ii, nn, hh, ll, sh⟩ stamp = ⟨4, (restN ii 12 : Int), (restN nn 5 : Int) - 1, 0, 0⟩ := by simp [cmdOf, hk]
  rw [eC]
  clear eC
  have A12 := Lib.hid (rest_12 ii)
  have A8 := Lib.hid (show ∀ w, Calls Try.prog 27 #[.int .i64 kd, .int .i64 8] w fun e w' => e = .returned (.int .i64 2) ∧ w = w' from fun w => by have := rest_8 kd w; rw [hk] at this; exact this)
  have A5 := Lib.hid (rest_5 nn)
  have l5 := restN_lt nn (n := 5) (by decide)
  clear hk
  generalize restN ii 12 = q12 at *
  generalize restN nn 5 = q5 at *
  obtain ⟨V, hV⟩ : ∃ V, V = w.alloc (.cells #[.int .i64 kd, .int .i64 ii, .int .i64 nn, hv, lv, .int .i64 sh] 48) := ⟨_, rfl⟩
  have TV : Turn (fun _ => False) w V := by rw [hV]; exact (Turn.refl _ w).alloc _
  have SV : V.heap.size = w.heap.size + 1 := by rw [hV, World.size_alloc]
  obtain ⟨W, hW⟩ : ∃ W, W = V.alloc (.cells (cmdL (4) ((q12 : Int)) ((q5 : Int) - 1) (0) (0)).toArray 43) := ⟨_, rfl⟩
  have RW : W.rangeAt (w.heap.size + 1) 0 (⟨4, (q12 : Int), (q5 : Int) - 1, 0, 0⟩ : CmdV).cells := by rw [hW, ← SV]; exact range_new V _ 43
  have TW : Turn (fun _ => False) w W := by rw [hW]; exact TV.trans ((Turn.refl _ V).alloc _)
  have FIN := Lib.hid (And.intro RW TW)
  have HW := (show W = (w.alloc (.cells #[.int .i64 kd, .int .i64 ii, .int .i64 nn, hv, lv, .int .i64 sh] 48)).alloc (.cells (cmdL (4) ((q12 : Int)) ((q5 : Int) - 1) (0) (0)).toArray 43) from by rw [hW, hV])
  unfold cmdL at HW
  have HW := Lib.hid HW
  clear hV TV SV hW RW TW
  go_enter Try.func12, Try.ntmps12
  go_wp2_with fail
  with_reducible refine (A12.out _).mono ?_
  rintro en w1 ⟨rfl, rfl⟩
  go_wp2_with fail
  with_reducible refine (A8.out _).mono ?_
  rintro en w1 ⟨rfl, rfl⟩
  go_wp2_with fail
  with_reducible refine (A5.out _).mono ?_
  rintro en w1 ⟨rfl, rfl⟩
  have e5 : wrap64 ((q5 : Int) - 1) = (q5 : Int) - 1 := by unfold wrap64; omega
  have f5 : IntKind.i64.wrap ((q5 : Int) - 1) = (q5 : Int) - 1 := by rw [IntKind.wrap_i64]; omega
  go_wp2_with fail
  rw [← HW.out]
  exact cmd_ret (c := ⟨4, (q12 : Int), (q5 : Int) - 1, 0, 0⟩) rfl rfl FIN.out.1 ⟨rfl, FIN.out.2⟩ rfl
set_option maxRecDepth 100000 in
set_option maxHeartbeats 4000000 in
theorem cmd_3 (w : World) (a : ActV) (hv lv : Value) (stamp : Int) (hk : restN a.kind 8 = 3) : Calls Try.prog 12 #[.agg #[.int .i64 a.kind, .int .i64 a.id, .int .i64 a.num, hv, lv, .int .i64 a.shard], .int .i64 stamp] w fun e w' => e = .returned (.tuple #[.agg (cmdOf a stamp).cells.toArray, .slice none 0 0]) ∧ Turn (fun _ => False) w w' := by
  obtain ⟨kd, ii, nn, hh, ll, sh⟩ := a
  dsimp only at hk ⊢
  have eC : cmdOf ⟨kd, ii, nn, hh, ll, sh⟩ stamp = ⟨4, (restN ii 12 : Int), (restN nn 5 : Int) - 1, 0, 0⟩ := by simp [cmdOf, hk]
  rw [eC]
  clear eC
  have A12 := Lib.hid (rest_12 ii)
  have A8 := Lib.hid (show ∀ w, Calls Try.prog 27 #[.int .i64 kd, .int .i64 8] w fun e w' => e = .returned (.int .i64 3) ∧ w = w' from fun w => by have := rest_8 kd w; rw [hk] at this; exact this)
  have A5 := Lib.hid (rest_5 nn)
  have l5 := restN_lt nn (n := 5) (by decide)
  clear hk
  generalize restN ii 12 = q12 at *
  generalize restN nn 5 = q5 at *
  obtain ⟨V, hV⟩ : ∃ V, V = w.alloc (.cells #[.int .i64 kd, .int .i64 ii, .int .i64 nn, hv, lv, .int .i64 sh] 48) := ⟨_, rfl⟩
  have TV : Turn (fun _ => False) w V := by rw [hV]; exact (Turn.refl _ w).alloc _
  have SV : V.heap.size = w.heap.size + 1 := by rw [hV, World.size_alloc]
  obtain ⟨W, hW⟩ : ∃ W, W = V.alloc (.cells (cmdL (4) ((q12 : Int)) ((q5 : Int) - 1) (0) (0)).toArray 43) := ⟨_, rfl⟩
  have RW : W.rangeAt (w.heap.size + 1) 0 (⟨4, (q12 : Int), (q5 : Int) - 1, 0, 0⟩ : CmdV).cells := by rw [hW, ← SV]; exact range_new V _ 43
  have TW : Turn (fun _ => False) w W := by rw [hW]; exact TV.trans ((Turn.refl _ V).alloc _)
  have FIN := Lib.hid (And.intro RW TW)
  have HW := (show W = (w.alloc (.cells #[.int .i64 kd, .int .i64 ii, .int .i64 nn, hv, lv, .int .i64 sh] 48)).alloc (.cells (cmdL (4) ((q12 : Int)) ((q5 : Int) - 1) (0) (0)).toArray 43) from by rw [hW, hV])
  unfold cmdL at HW
  have HW := Lib.hid HW
  clear hV TV SV hW RW TW
  go_enter Try.func12, Try.ntmps12
  go_wp2_with fail
  with_reducible refine (A12.out _).mono ?_
  rintro en w1 ⟨rfl, rfl⟩
  go_wp2_with fail
  with_reducible refine (A8.out _).mono ?_
  rintro en w1 ⟨rfl, rfl⟩
  go_wp2_with fail
  with_reducible refine (A5.out _).mono ?_
  rintro en w1 ⟨rfl, rfl⟩
  have e5 : wrap64 ((q5 : Int) - 1) = (q5 : Int) - 1 := by unfold wrap64; omega
  have f5 : IntKind.i64.wrap ((q5 : Int) - 1) = (q5 : Int) - 1 := by rw [IntKind.wrap_i64]; omega
  go_wp2_with fail
  rw [← HW.out]
  exact cmd_ret (c := ⟨4, (q12 : Int), (q5 : Int) - 1, 0, 0⟩) rfl rfl FIN.out.1 ⟨rfl, FIN.out.2⟩ rfl
set_option maxRecDepth 100000 in
set_option maxHeartbeats 4000000 in
theorem cmd_4 (w : World) (a : ActV) (hv lv : Value) (stamp : Int) (hk : restN a.kind 8 = 4) : Calls Try.prog 12 #[.agg #[.int .i64 a.kind, .int .i64 a.id, .int .i64 a.num, hv, lv, .int .i64 a.shard], .int .i64 stamp] w fun e w' => e = .returned (.tuple #[.agg (cmdOf a stamp).cells.toArray, .slice none 0 0]) ∧ Turn (fun _ => False) w w' := by
  obtain ⟨kd, ii, nn, hh, ll, sh⟩ := a
  dsimp only at hk ⊢
  have eC : cmdOf ⟨kd, ii, nn, hh, ll, sh⟩ stamp = ⟨5, 0, 0, 0, 0⟩ := by simp [cmdOf, hk]
  rw [eC]
  clear eC
  have A12 := Lib.hid (rest_12 ii)
  have A8 := Lib.hid (show ∀ w, Calls Try.prog 27 #[.int .i64 kd, .int .i64 8] w fun e w' => e = .returned (.int .i64 4) ∧ w = w' from fun w => by have := rest_8 kd w; rw [hk] at this; exact this)
  clear hk
  generalize restN ii 12 = q12 at *
  obtain ⟨V, hV⟩ : ∃ V, V = w.alloc (.cells #[.int .i64 kd, .int .i64 ii, .int .i64 nn, hv, lv, .int .i64 sh] 48) := ⟨_, rfl⟩
  have TV : Turn (fun _ => False) w V := by rw [hV]; exact (Turn.refl _ w).alloc _
  have SV : V.heap.size = w.heap.size + 1 := by rw [hV, World.size_alloc]
  obtain ⟨W, hW⟩ : ∃ W, W = V.alloc (.cells (cmdL (5) (0) (0) (0) (0)).toArray 43) := ⟨_, rfl⟩
  have RW : W.rangeAt (w.heap.size + 1) 0 (⟨5, 0, 0, 0, 0⟩ : CmdV).cells := by rw [hW, ← SV]; exact range_new V _ 43
  have TW : Turn (fun _ => False) w W := by rw [hW]; exact TV.trans ((Turn.refl _ V).alloc _)
  have FIN := Lib.hid (And.intro RW TW)
  have HW := (show W = (w.alloc (.cells #[.int .i64 kd, .int .i64 ii, .int .i64 nn, hv, lv, .int .i64 sh] 48)).alloc (.cells (cmdL (5) (0) (0) (0) (0)).toArray 43) from by rw [hW, hV])
  unfold cmdL at HW
  have HW := Lib.hid HW
  clear hV TV SV hW RW TW
  go_enter Try.func12, Try.ntmps12
  go_wp2_with fail
  with_reducible refine (A12.out _).mono ?_
  rintro en w1 ⟨rfl, rfl⟩
  go_wp2_with fail
  with_reducible refine (A8.out _).mono ?_
  rintro en w1 ⟨rfl, rfl⟩
  go_wp2_with fail
  rw [← HW.out]
  exact cmd_ret (c := ⟨5, 0, 0, 0, 0⟩) rfl rfl FIN.out.1 ⟨rfl, FIN.out.2⟩ rfl
set_option maxRecDepth 100000 in
set_option maxHeartbeats 4000000 in
theorem cmd_5 (w : World) (a : ActV) (hv lv : Value) (stamp : Int) (hk : restN a.kind 8 = 5) : Calls Try.prog 12 #[.agg #[.int .i64 a.kind, .int .i64 a.id, .int .i64 a.num, hv, lv, .int .i64 a.shard], .int .i64 stamp] w fun e w' => e = .returned (.tuple #[.agg (cmdOf a stamp).cells.toArray, .slice none 0 0]) ∧ Turn (fun _ => False) w w' := by
  obtain ⟨kd, ii, nn, hh, ll, sh⟩ := a
  dsimp only at hk ⊢
  have eC : cmdOf ⟨kd, ii, nn, hh, ll, sh⟩ stamp = ⟨6 + (restN nn 9 : Int), 0, 0, 0, 0⟩ := by simp [cmdOf, hk]
  rw [eC]
  clear eC
  have A12 := Lib.hid (rest_12 ii)
  have A8 := Lib.hid (show ∀ w, Calls Try.prog 27 #[.int .i64 kd, .int .i64 8] w fun e w' => e = .returned (.int .i64 5) ∧ w = w' from fun w => by have := rest_8 kd w; rw [hk] at this; exact this)
  have A9 := Lib.hid (rest_9 nn)
  have l9 := restN_lt nn (n := 9) (by decide)
  clear hk
  generalize restN ii 12 = q12 at *
  generalize restN nn 9 = q9 at *
  obtain ⟨V, hV⟩ : ∃ V, V = w.alloc (.cells #[.int .i64 kd, .int .i64 ii, .int .i64 nn, hv, lv, .int .i64 sh] 48) := ⟨_, rfl⟩
  have TV : Turn (fun _ => False) w V := by rw [hV]; exact (Turn.refl _ w).alloc _
  have SV : V.heap.size = w.heap.size + 1 := by rw [hV, World.size_alloc]
  obtain ⟨W, hW⟩ : ∃ W, W = V.alloc (.cells (cmdL (6 + (q9 : Int)) (0) (0) (0) (0)).toArray 43) := ⟨_, rfl⟩
  have RW : W.rangeAt (w.heap.size + 1) 0 (⟨6 + (q9 : Int), 0, 0, 0, 0⟩ : CmdV).cells := by rw [hW, ← SV]; exact range_new V _ 43
  have TW : Turn (fun _ => False) w W := by rw [hW]; exact TV.trans ((Turn.refl _ V).alloc _)
  have FIN := Lib.hid (And.intro RW TW)
  have HW := (show W = (w.alloc (.cells #[.int .i64 kd, .int .i64 ii, .int .i64 nn, hv, lv, .int .i64 sh] 48)).alloc (.cells (cmdL (6 + (q9 : Int)) (0) (0) (0) (0)).toArray 43) from by rw [hW, hV])
  unfold cmdL at HW
  have HW := Lib.hid HW
  clear hV TV SV hW RW TW
  go_enter Try.func12, Try.ntmps12
  go_wp2_with fail
  with_reducible refine (A12.out _).mono ?_
  rintro en w1 ⟨rfl, rfl⟩
  go_wp2_with fail
  with_reducible refine (A8.out _).mono ?_
  rintro en w1 ⟨rfl, rfl⟩
  go_wp2_with fail
  with_reducible refine (A9.out _).mono ?_
  rintro en w1 ⟨rfl, rfl⟩
  have e9 : wrap64 (6 + (q9 : Int)) = 6 + (q9 : Int) := by unfold wrap64; omega
  have f9 : IntKind.i64.wrap (6 + (q9 : Int)) = 6 + (q9 : Int) := by rw [IntKind.wrap_i64]; omega
  go_wp2_with fail
  rw [← HW.out]
  exact cmd_ret (c := ⟨6 + (q9 : Int), 0, 0, 0, 0⟩) rfl rfl FIN.out.1 ⟨rfl, FIN.out.2⟩ rfl
end Go.Proofs.Ytepmealhnnoahaa
