/-
  A worker's parts: what a log hands out, hands, a shard.
-/
import Derived.Test.YtgfobgabdafclaaGreatLg8
import Derived.Test.YtgfobgabdafclaaGreatLn3
namespace Go.Proofs.YtgfobgabdafclaaGreat
open Go.ChangeShapes Go.WideShapes Go.ChangeAt Go.RowKit
set_option linter.unusedVariables false
section
variable {w w' : World} {B : LB} {c : Cf} {s : LSt}
theorem LogAt.store_is (h : LogAt w B c s) : Calls Tryz.prog 115 #[.pointer (some ⟨B.l, 0, none⟩)] w fun e w' => e = .returned (.pointer (some B.sp)) ∧ w = w' := by
  have k7 := h.k7
  clear h
  go_enter Tryz.func115, Tryz.ntmps115
  go_wp2
  go_ret
  exact ⟨rfl, rfl⟩
theorem LogAt.epochs_is (h : LogAt w B c s) : Calls Tryz.prog 116 #[.pointer (some ⟨B.l, 0, none⟩)] w fun e w' => e = .returned (.pointer (some ⟨B.ep, 0, none⟩)) ∧ w = w' := by
  have k8 := h.k8
  clear h
  go_enter Tryz.func116, Tryz.ntmps116
  go_wp2
  go_ret
  exact ⟨rfl, rfl⟩
/-- A config as a value. -/
def Cf.val (c : Cf) : Value := .agg #[.int .i64 (c.sh : Int), .int .i64 (c.ib : Int), .int .i64 c.sl, .int .i64 c.qu, .int .i64 c.ru, .int .i64 c.ou, .int .i64 c.st]
theorem cell_new {w : World} {cs : Array Value} {t : TypeId} {b i : Nat} {v : Value} (hb : b = w.heap.size) (h : cs[i]? = some v) : (w.alloc (.cells cs t)).cell? ⟨b, i, none⟩ = some v := by
  subst hb
  exact (World.cell?_alloc_new w cs t i).trans h
def zcfg : List Value := [.int .i64 0, .int .i64 0, .int .i64 0, .int .i64 0, .int .i64 0, .int .i64 0, .int .i64 0]
set_option maxRecDepth 100000 in
theorem LogAt.config_is (h : LogAt w B c s) : Calls Tryz.prog 63 #[.pointer (some ⟨B.l, 0, none⟩)] w fun e w' => e = .returned c.val ∧ Turn (fun _ => False) w w' := by
  obtain ⟨W, hW⟩ : ∃ W, W = w.alloc (.cells #[.int .i64 0, .int .i64 0, .int .i64 0, .int .i64 0, .int .i64 0, .int .i64 0, .int .i64 0] 47) := ⟨_, rfl⟩
  have T : Turn (fun _ => False) w W := by rw [hW]; exact (Turn.refl _ w).alloc _
  have Bk : Blk W w.heap.size 47 := by rw [hW]; exact Blk.newA rfl
  have R : W.rangeAt w.heap.size 0 zcfg := by rw [hW]; exact range_new w zcfg 47
  have hh := h.keep T
  have RL : W.rangeAt B.l 0 [.int .i64 (c.sh : Int), .int .i64 (c.ib : Int), .int .i64 c.sl, .int .i64 c.qu, .int .i64 c.ru, .int .i64 c.ou, .int .i64 c.st] := by
    intro j v hv
    have : j = 0 ∨ j = 1 ∨ j = 2 ∨ j = 3 ∨ j = 4 ∨ j = 5 ∨ j = 6 := by
      have := (List.getElem?_eq_some_iff.1 hv).1
      simp at this
      omega
    rcases this with rfl | rfl | rfl | rfl | rfl | rfl | rfl <;> (simp at hv; subst hv; rw [Nat.zero_add])
    · exact hh.k0
    · exact hh.k1
    · exact hh.k2
    · exact hh.k3
    · exact hh.k4
    · exact hh.k5
    · exact hh.k6
  have TH : W.there w.heap.size 0 7 := range_there R rfl Bk
  have TS : ∀ cs, Turn (fun k => k = w.heap.size) W (W.setCells w.heap.size 0 cs) := fun cs => Turn.setCells cs 0 (Turn.refl _ W) (.inl rfl)
  have KE := Lib.hid (fun cs => T.comp (TS cs) (S := fun _ => False) (fun j hj e => by omega))
  unfold Cf.val
  generalize (c.sh : Int) = sh at *
  generalize (c.ib : Int) = ib at *
  have hl : ([.int .i64 sh, .int .i64 ib, .int .i64 c.sl, .int .i64 c.qu, .int .i64 c.ru, .int .i64 c.ou, .int .i64 c.st] : List Value).length = 7 := rfl
  have ho : ∀ u ∈ ([.int .i64 sh, .int .i64 ib, .int .i64 c.sl, .int .i64 c.qu, .int .i64 c.ru, .int .i64 c.ou, .int .i64 c.st] : List Value), u.oneCell' = true := by simp [Value.oneCell']
  generalize hcs : ([.int .i64 sh, .int .i64 ib, .int .i64 c.sl, .int .i64 c.qu, .int .i64 c.ru, .int .i64 c.ou, .int .i64 c.st] : List Value) = cs at *
  clear h hh R Bk TS hcs
  go_enter Tryz.func63, Tryz.ntmps63
  go_upto_region 1 with fail
  rw [← hW]
  clear hW
  generalize w.heap.size = b at *
  go_upto_region 3 with fail
  have z123 : (Tryz.prog.info? 123).map (·.size) = some cs.length := by rw [hl]; kernel_rfl
  have z47 : (Tryz.prog.info? 47).map (·.size) = some cs.length := by rw [hl]; kernel_rfl
  have one : cs.toArray.all (·.oneCell') = true := all_oneCell_toArray ho
  have TH' : W.there b 0 cs.toArray.size := by rw [List.size_toArray, hl]; exact TH
  go_wp2_with (first
    | ((with_reducible show wpList _ _ _ ({ dst := some 9, op := Op.load _ _, type := _, pos := _, after := _, guard := _ } :: _) _ _); refine wpList_load_mid rfl 123 _ rfl B.l 0 rfl cs _ RL Tryz.underlying123 rfl z123 ?_)
    | ((with_reducible show wpList _ _ _ ({ dst := none, op := Op.store _ _ _, type := _, pos := _, after := _, guard := _ } :: _) _ _); refine wpList_store_mid rfl 47 _ _ rfl b 0 cs.toArray rfl rfl TH' (by rw [List.size_toArray]; exact z47) one ?_))
  exact bodyPost_ret (v := .agg cs.toArray) (res_cell (a := 2) rfl rfl (run_loadVar_mid _ b 0 47 cs _ (World.rangeAt_setCells_same _ b 0 cs (by rw [hl]; exact TH)) Tryz.underlying47 rfl z47)) rfl ⟨rfl, KE.out cs⟩
/-- A shard that has seen all up to a stamp. -/
structure ShAt (w : World) (sb : Nat) (last : Int) : Prop where
  b : Blk w sb 108
  last : w.cell? ⟨sb, 8, none⟩ = some (.int .i64 last)
  map : ∃ m, w.cell? ⟨sb, 10, none⟩ = some (.map (some m))
theorem ShAt.turn {S : Nat → Prop} {sb : Nat} {last : Int} (h : ShAt w sb last) (T : Turn S w w') (hs : ¬ S sb) : ShAt w' sb last := by
  obtain ⟨m, hm⟩ := h.map
  exact ⟨h.b.turn T hs, T.cell hs h.last, m, T.cell hs hm⟩
/-- Hands that have nothing. -/
structure HnAt (w : World) (hb : Nat) (sp : Addr) (ep i : Nat) : Prop where
  b : Blk w hb 223
  h0 : w.cell? ⟨hb, 0, none⟩ = some (.pointer (some sp))
  h1 : w.cell? ⟨hb, 1, none⟩ = some (.pointer (some ⟨ep, 0, none⟩))
  h2 : w.cell? ⟨hb, 2, none⟩ = some (.int .i64 (i : Int))
  h3 : w.cell? ⟨hb, 3, none⟩ = some (.slice none 0 0)
  h4 : w.cell? ⟨hb, 4, none⟩ = some (.bool false)
theorem HnAt.turn {S : Nat → Prop} {hb ep i : Nat} {sp : Addr} (h : HnAt w hb sp ep i) (T : Turn S w w') (hs : ¬ S hb) : HnAt w' hb sp ep i :=
  ⟨h.b.turn T hs, T.cell hs h.h0, T.cell hs h.h1, T.cell hs h.h2, T.cell hs h.h3, T.cell hs h.h4⟩
set_option maxRecDepth 100000 in
theorem LogAt.hands_new (h : LogAt w B c s) (i : Nat) : Calls Tryz.prog 64 #[.pointer (some ⟨B.l, 0, none⟩), .int .i64 (i : Int)] w fun e w' => ∃ hb, e = .returned (.pointer (some ⟨hb, 0, none⟩)) ∧ HnAt w' hb B.sp B.ep i ∧ w.heap.size ≤ hb ∧ Turn (fun _ => False) w w' := by
  have H1 := Lib.hid h.store_is
  have H2 := Lib.hid h.epochs_is
  have N := Lib.hid (World.cell?_alloc_new w #[.pointer (some B.sp), .pointer (some ⟨B.ep, 0, none⟩), .int .i64 (i : Int), .slice none 0 0, .bool false] 223)
  clear h
  go_enter Tryz.func64, Tryz.ntmps64
  go_wp2_with fail
  with_reducible refine H1.out.mono ?_
  rintro e w1 ⟨rfl, rfl⟩
  go_wp2_with fail
  with_reducible refine H2.out.mono ?_
  rintro e w1 ⟨rfl, rfl⟩
  go_wp2_with fail
  go_ret
  exact ⟨_, rfl, ⟨Blk.newA rfl, N.out 0, N.out 1, N.out 2, N.out 3, N.out 4⟩, Nat.le_refl _, (Turn.refl _ w).alloc _⟩
end
set_option maxRecDepth 100000 in
theorem shard_new (w : World) {c : Cf} (h : c.Ok) {n : Int} (h0 : 0 ≤ n) (h1 : n < (c.sh : Int)) : Calls Tryz.prog 22 #[c.val, .int .i64 n] w fun e w' => ∃ sb, e = .returned (.pointer (some ⟨sb, 0, none⟩)) ∧ ShAt w' sb (-1) ∧ w.heap.size ≤ sb ∧ Turn (fun _ => False) w w' := by
  obtain ⟨a0, a1, b0, b1, c0, c1, d0, d1, e0, e1, f0, f1, g0, g1⟩ := h
  have t1 : decide ((c.sh : Int) < 1) = false := decide_eq_false (by omega)
  have t2 : decide ((15 : Int) < (c.sh : Int)) = false := decide_eq_false (by omega)
  have t3 : decide (n < 0) = false := decide_eq_false (by omega)
  have t4 : decide ((c.sh : Int) ≤ n) = false := decide_eq_false (by omega)
  have t5 : decide (c.ru < 1) = false := decide_eq_false (by omega)
  have t6 : decide ((4096 : Int) < c.ru) = false := decide_eq_false (by omega)
  have t7 : decide (c.qu < 1) = false := decide_eq_false (by omega)
  have t8 : decide ((4096 : Int) < c.qu) = false := decide_eq_false (by omega)
  unfold Cf.val
  generalize (c.sh : Int) = sh at *
  generalize (c.ib : Int) = ib at *
  clear a0 a1 b0 b1 c0 c1 d0 d1 e0 e1 f0 f1 g0 g1 h0 h1
  go_enter Tryz.func22, Tryz.ntmps22
  go_wp2_with (refine wp_makemap _ rfl ?_)
  go_ret
  refine ⟨_, rfl, ⟨Blk.newA (by simp), ?_, w.heap.size + 1, ?_⟩, ?_, ?_⟩
  · exact cell_new (by simp) rfl
  · exact cell_new (by simp) rfl
  · omega
  · exact (((Turn.refl _ w).alloc _).alloc _).alloc _
set_option maxRecDepth 100000 in
theorem shard_none (w : World) {c : Cf} (h : c.Ok) {n : Int} (h0 : n < 0 ∨ (c.sh : Int) ≤ n) : Calls Tryz.prog 22 #[c.val, .int .i64 n] w fun e w' => e = .returned (.pointer none) ∧ Turn (fun _ => False) w w' := by
  obtain ⟨a0, a1, b0, b1, c0, c1, d0, d1, e0, e1, f0, f1, g0, g1⟩ := h
  have t1 : decide ((c.sh : Int) < 1) = false := decide_eq_false (by omega)
  have t2 : decide ((15 : Int) < (c.sh : Int)) = false := decide_eq_false (by omega)
  unfold Cf.val
  by_cases t3 : n < 0
  · have t3' : decide (n < 0) = true := decide_eq_true t3
    generalize (c.sh : Int) = sh at *
    generalize (c.ib : Int) = ib at *
    clear a0 a1 b0 b1 c0 c1 d0 d1 e0 e1 f0 f1 g0 g1 h0
    go_enter Tryz.func22, Tryz.ntmps22
    go_wp2
    go_ret
    exact ⟨rfl, (Turn.refl _ w).alloc _⟩
  · have t3' : decide (n < 0) = false := decide_eq_false t3
    have t4 : decide ((c.sh : Int) ≤ n) = true := decide_eq_true (by omega)
    generalize (c.sh : Int) = sh at *
    generalize (c.ib : Int) = ib at *
    clear a0 a1 b0 b1 c0 c1 d0 d1 e0 e1 f0 f1 g0 g1 h0
    go_enter Tryz.func22, Tryz.ntmps22
    go_wp2
    go_ret
    exact ⟨rfl, (Turn.refl _ w).alloc _⟩
end Go.Proofs.YtgfobgabdafclaaGreat
