/-
  Copies that share nothing: of commands, of what workers tell, of answers.
-/
import Derived.Test.YtgfobgabdafclaaGreatLo
import Derived.WalkSpells
import Derived.Lib.Builder
namespace Go.Proofs.YtgfobgabdafclaaGreat
open Go.ChangeShapes Go.WideShapes Go.ChangeAt Go.RowKit
set_option linter.unusedVariables false

set_option maxRecDepth 100000 in
theorem each_cell (w : World) (v : Value) : Calls Tryz.prog 103 #[.slice none 0 0, v] w fun e w' => e = .returned (.slice none 0 0) ∧ w = w' := by
  have HE := fun w => Lib.run_eql_slice_nil (P := Tryz.prog) w 30 29 none 0 0 0 0 Tryz.underlying30
  go_enter Tryz.func103, Tryz.ntmps103
  go_wp2
  go_ret
  exact ⟨rfl, rfl⟩
set_option maxRecDepth 100000 in
theorem each_hit (w : World) (v : Value) : Calls Tryz.prog 224 #[.slice none 0 0, v] w fun e w' => e = .returned (.slice none 0 0) ∧ w = w' := by
  have HE := fun w => Lib.run_eql_slice_nil (P := Tryz.prog) w 54 120 none 0 0 0 0 Tryz.underlying54
  go_enter Tryz.func224, Tryz.ntmps224
  go_wp2
  go_ret
  exact ⟨rfl, rfl⟩
set_option maxRecDepth 100000 in
theorem each_match (w : World) (v : Value) : Calls Tryz.prog 286 #[.slice none 0 0, v] w fun e w' => e = .returned (.slice none 0 0) ∧ w = w' := by
  have HE := fun w => Lib.run_eql_slice_nil (P := Tryz.prog) w 147 67 none 0 0 0 0 Tryz.underlying147
  go_enter Tryz.func286, Tryz.ntmps286
  go_wp2
  go_ret
  exact ⟨rfl, rfl⟩
set_option maxRecDepth 100000 in
theorem matches_nil (w : World) : Calls Tryz.prog 278 #[.slice none 0 0] w fun e w' => e = .returned (.slice none 0 0) ∧ w = w' := by
  have H := Lib.hid (each_match w)
  go_enter Tryz.func278, Tryz.ntmps278
  go_wp2_with fail
  refine (H.out _).mono ?_
  rintro e w1 ⟨rfl, rfl⟩
  go_wp2
  go_ret
  exact ⟨rfl, rfl⟩
set_option maxRecDepth 100000 in
theorem clone_refs (w : World) : Calls Tryz.prog 228 #[.slice none 0 0] w fun e w' => e = .returned (.slice none 0 0) ∧ w = w' := by
  have HE := fun w => Lib.run_eql_slice_nil (P := Tryz.prog) w 34 39 none 0 0 0 0 Tryz.underlying34
  go_enter Tryz.func228, Tryz.ntmps228
  go_wp2
  go_ret
  exact ⟨rfl, rfl⟩
set_option maxRecDepth 100000 in
theorem clone_nil (w : World) : Calls Tryz.prog 227 #[.slice none 0 0] w fun e w' => e = .returned (.slice none 0 0) ∧ w = w' := by
  have HE := fun w => Lib.run_eql_slice_nil (P := Tryz.prog) w 55 3 none 0 0 0 0 Tryz.underlying55
  go_enter Tryz.func227, Tryz.ntmps227
  go_wp2
  go_ret
  exact ⟨rfl, rfl⟩
set_option maxRecDepth 100000 in
set_option maxHeartbeats 2000000 in
theorem own_table (w : World) : Calls Tryz.prog 51 #[.agg #[.slice none 0 0, .int .i64 0, .bool false]] w fun e w' => e = .returned (.agg #[.slice none 0 0, .int .i64 0, .bool false]) ∧ Turn (fun _ => False) w w' := by
  obtain ⟨W, hW⟩ : ∃ W, W = (w.alloc (.cells #[.slice none 0 0, .int .i64 0, .bool false] 32)).alloc (.cells #[.slice none 0 0, .int .i64 0, .bool false] 32) := ⟨_, rfl⟩
  have H := Lib.hid (each_cell W)
  have B1 : Blk W w.heap.size 32 := by
    rw [hW]
    exact (Blk.new w [.slice none 0 0, .int .i64 0, .bool false] 32).turn ((Turn.refl (fun _ => False) _).alloc _) (fun f => f)
  have B2 : Blk W (w.heap.size + 1) 32 := by
    rw [hW]
    have := Blk.new (w.alloc (.cells #[.slice none 0 0, .int .i64 0, .bool false] 32)) [.slice none 0 0, .int .i64 0, .bool false] 32
    rwa [World.size_alloc] at this
  have C1 : W.rangeAt w.heap.size 0 [.slice none 0 0, .int .i64 0, .bool false] := by
    rw [hW]
    exact range_turn (range_new w [.slice none 0 0, .int .i64 0, .bool false] 32) ((Turn.refl (fun _ => False) _).alloc _) (fun f => f)
  have C2 : W.rangeAt (w.heap.size + 1) 0 [.slice none 0 0, .int .i64 0, .bool false] := by
    rw [hW]
    have := range_new (w.alloc (.cells #[.slice none 0 0, .int .i64 0, .bool false] 32)) [.slice none 0 0, .int .i64 0, .bool false] 32
    rwa [World.size_alloc] at this
  have T : Turn (fun _ => False) w W := by rw [hW]; exact ((Turn.refl _ w).alloc _).alloc _
  have x0 : W.cell? ⟨w.heap.size, 0, none⟩ = some (.slice none 0 0) := C1 0 _ rfl
  have x1 : W.cell? ⟨w.heap.size, 1, none⟩ = some (.int .i64 0) := C1 1 _ rfl
  have x2 : W.cell? ⟨w.heap.size, 2, none⟩ = some (.bool false) := C1 2 _ rfl
  have y0 : W.cell? ⟨w.heap.size + 1, 0, none⟩ = some (.slice none 0 0) := C2 0 _ rfl
  have y1 : W.cell? ⟨w.heap.size + 1, 1, none⟩ = some (.int .i64 0) := C2 1 _ rfl
  have y2 : W.cell? ⟨w.heap.size + 1, 2, none⟩ = some (.bool false) := C2 2 _ rfl
  have f1 := B1.fz
  have f2 := B2.fz
  have K := Lib.hid T
  clear B1 B2 C1 C2 T
  go_enter Tryz.func51, Tryz.ntmps51
  go_upto_region 1 with fail
  rw [← hW]
  clear hW
  go_wp2_with fail
  refine (H.out _).mono ?_
  rintro e w1 ⟨rfl, rfl⟩
  go_wp2
  refine bodyPost_ret (v := .agg #[.slice none 0 0, .int .i64 0, .bool false]) (by simp [results, Tryz.results64, go_sem, cell_off, y0, y1, y2]) rfl ⟨rfl, ?_⟩
  exact (((K.out.setCell (p := ⟨w.heap.size, 0, none⟩) (.inr (Nat.le_refl _)) _).setCell (p := ⟨w.heap.size + 1, 0, none⟩) (.inr (Nat.le_succ _)) _).setCell (p := ⟨w.heap.size + 1, 1, none⟩) (.inr (Nat.le_succ _)) _).setCell (p := ⟨w.heap.size + 1, 2, none⟩) (.inr (Nat.le_succ _)) _
theorem range_put {w : World} {b o j : Nat} {l : List Value} {v : Value} (h : w.rangeAt b o l) (hj : l[j]? = some v) : (w.setCell ⟨b, o + j, none⟩ v).rangeAt b o l := fun i u hi => by
  by_cases e : i = j
  · subst e
    rw [hj] at hi
    cases hi
    exact World.cell?_setCell_same _ _ _ (h i _ hj)
  · rw [cell_off _ _ _ _ _ (by omega)]
    exact h i u hi
set_option maxRecDepth 100000 in
set_option maxHeartbeats 2000000 in
theorem own_command (w : World) {cs : List Value} (hc : IsCmd cs) (h0 : cs[11]? = some (.slice none 0 0)) (h1 : cs[12]? = some (.int .i64 0)) (h2 : cs[13]? = some (.bool false)) :
    Calls Tryz.prog 68 #[.agg cs.toArray] w fun e w' => e = .returned (.agg cs.toArray) ∧ Turn (fun _ => False) w w' := by
  obtain ⟨W, hW⟩ : ∃ W, W = (w.alloc (.cells cs.toArray 60)).alloc (.cells #[.int .i64 0, .int .i64 0, .int .i64 0, .int .i64 0, .int .i64 0, .int .i64 0, .int .i64 0, .int .i64 0, .int .i64 0, .int .i64 0, .int .i64 0, .slice none 0 0, .int .i64 0, .bool false] 60) := ⟨_, rfl⟩
  have T : Turn (fun _ => False) w W := by rw [hW]; exact ((Turn.refl _ w).alloc _).alloc _
  have B1 : Blk W w.heap.size 60 := by
    rw [hW]
    exact (Blk.new w cs 60).turn ((Turn.refl (fun _ => False) _).alloc _) (fun f => f)
  have B2 : Blk W (w.heap.size + 1) 60 := by
    rw [hW]
    have := Blk.new (w.alloc (.cells cs.toArray 60)) zc 60
    rwa [World.size_alloc] at this
  have C1 : W.rangeAt w.heap.size 0 cs := by
    rw [hW]
    exact range_turn (range_new w cs 60) ((Turn.refl (fun _ => False) _).alloc _) (fun f => f)
  have C2 : W.rangeAt (w.heap.size + 1) 0 zc := by
    rw [hW]
    have := range_new (w.alloc (.cells cs.toArray 60)) zc 60
    rwa [World.size_alloc] at this
  have hbb : (w.alloc (.cells cs.toArray 60)).heap.size = w.heap.size + 1 := by simp
  have H := Lib.hid (own_table W)
  have K := Lib.hid (And.intro T (And.intro B1 (And.intro B2 (And.intro C1 C2))))
  have x0 : W.cell? ⟨w.heap.size, 11, none⟩ = some (.slice none 0 0) := (by simp : (⟨w.heap.size, 11, none⟩ : Addr) = ⟨w.heap.size, 0 + 11, none⟩) ▸ C1 11 _ h0
  have x1 : W.cell? ⟨w.heap.size, 12, none⟩ = some (.int .i64 0) := (by simp : (⟨w.heap.size, 12, none⟩ : Addr) = ⟨w.heap.size, 0 + 12, none⟩) ▸ C1 12 _ h1
  have x2 : W.cell? ⟨w.heap.size, 13, none⟩ = some (.bool false) := (by simp : (⟨w.heap.size, 13, none⟩ : Addr) = ⟨w.heap.size, 0 + 13, none⟩) ▸ C1 13 _ h2
  have HC := Lib.hid (And.intro hc (And.intro h0 (And.intro h1 h2)))
  clear T B1 B2 C1 C2 hc h0 h1 h2
  go_enter Tryz.func68, Tryz.ntmps68
  go_upto_region 1 with fail
  rw [← hW]
  clear hW
  have HB := Lib.hid (Nat.le_refl w.heap.size)
  generalize hb1 : w.heap.size = b1 at *
  have HB := Lib.hid hb1
  clear hb1 hbb
  go_wp2_with fail
  with_reducible refine H.out.mono ?_
  rintro e W2 ⟨rfl, T2⟩
  have x0 := T2.cell (fun f => f) x0
  have x1 := T2.cell (fun f => f) x1
  have x2 := T2.cell (fun f => f) x2
  have fz := (K.out.2.1.turn T2 (fun f => f)).fz
  have R := range_turn K.out.2.2.2.1 T2 (fun f => f)
  have R3 : (((W2.setCell ⟨b1, 11, none⟩ (.slice none 0 0)).setCell ⟨b1, 12, none⟩ (.int .i64 0)).setCell ⟨b1, 13, none⟩ (.bool false)).rangeAt b1 0 cs := by
    have q1 := range_put (j := 11) R HC.out.2.1
    have q2 := range_put (j := 12) q1 HC.out.2.2.1
    have q3 := range_put (j := 13) q2 HC.out.2.2.2
    simpa using q3
  have T3 : Turn (fun k => k = b1) W2 (((W2.setCell ⟨b1, 11, none⟩ (.slice none 0 0)).setCell ⟨b1, 12, none⟩ (.int .i64 0)).setCell ⟨b1, 13, none⟩ (.bool false)) := ((Turn.put _ _ _ _).trans (Turn.put _ _ _ _)).trans (Turn.put _ _ _ _)
  clear H R
  go_upto_region 2 with fail
  generalize (((W2.setCell ⟨b1, 11, none⟩ (.slice none 0 0)).setCell ⟨b1, 12, none⟩ (.int .i64 0)).setCell ⟨b1, 13, none⟩ (.bool false)) = W3 at *
  have T13 := (T2.more (S' := fun k => k = b1) (fun _ _ f => f.elim)).trans T3
  have hne : b1 + 1 ≠ b1 := by omega
  have TH : W3.there (b1 + 1) 0 14 := range_there (range_turn K.out.2.2.2.2 T13 hne) rfl (K.out.2.2.1.turn T13 hne)
  have T4 : Turn (fun k => k = b1 ∨ k = b1 + 1) W3 (W3.setCells (b1 + 1) 0 cs) := Turn.setCells cs 0 (show Turn (fun k => k = b1 ∨ k = b1 + 1) W3 W3 from Turn.refl _ W3) (.inl (.inr rfl))
  have KE := Lib.hid (K.out.1.comp ((T13.more (S' := fun k => k = b1 ∨ k = b1 + 1) (fun _ _ e => .inl e)).trans T4) (S := fun _ => False) (fun j hj e => by have := HB.out; omega))
  refine wp_region_lit ?_
  refine wpList_load_mid rfl 60 _ rfl b1 0 rfl cs _ R3 Tryz.underlying60 rfl (by rw [HC.out.1.len]; exact size51) ?_
  try simp only [Act.put, List.setIfInBounds_toArray, List.set_cons_zero, List.set_cons_succ]
  refine wpList_store_mid rfl 60 _ _ rfl (b1 + 1) 0 cs.toArray rfl rfl (by rw [List.size_toArray, HC.out.1.len]; exact TH) (by rw [List.size_toArray, HC.out.1.len]; exact size51) HC.out.1.one ?_
  try simp only [Act.put, List.setIfInBounds_toArray, List.set_cons_zero, List.set_cons_succ]
  clear T4 T3 T13 R3 T2
  go_wp2_with fail
  exact bodyPost_ret (v := .agg cs.toArray) (res_cell (a := 2) rfl rfl (run_loadVar_mid _ (b1 + 1) 0 60 cs _ (World.rangeAt_setCells_same _ (b1 + 1) 0 cs (by rw [HC.out.1.len]; exact TH)) Tryz.underlying60 rfl (by rw [HC.out.1.len]; exact size51))) rfl ⟨rfl, KE.out⟩
/-- What a worker told of ids that are lost: nothing, or one number. -/
def OutV (w : World) (v : Value) : Option Int → Prop
  | none => v = .slice none 0 0
  | some x => ∃ b c, v = .slice (some ⟨b, 0, none⟩) 1 c ∧ w.cell? ⟨b, 0, none⟩ = some (.int .i64 x) ∧ Blk w b 3
theorem OutV.turn {S : Nat → Prop} {w w' : World} {v : Value} {o : Option Int} (h : OutV w v o) (T : Turn S w w') (hs : ∀ b, Blk w b 3 → ¬ S b) : OutV w' v o := by
  cases o with
  | none => exact h
  | some x =>
    obtain ⟨b, c, e, hc, hb⟩ := h
    exact ⟨b, c, e, T.cell (hs b hb) hc, hb.turn T (hs b hb)⟩
theorem OutV.slice {w : World} {v : Value} {o : Option Int} (h : OutV w v o) : ∃ a n c, v = .slice a n c := by
  cases o with
  | none => exact ⟨_, _, _, h⟩
  | some x =>
    obtain ⟨b, c, e, _⟩ := h
    exact ⟨_, _, _, e⟩
theorem info3 : (Tryz.prog.info? 3).map (fun i => (i.zero, i.size, i.bytes)) = some (some (.int .i64 0), 1, 8) := by kernel_rfl
theorem turn_fresh {w wr wa : World} {v : Value} {e : TypeId} {s m : Nat} {xs : List Value} (T : Turn (fun _ => False) w wr) (hr : wr.ownsRow w.heap.size e s v m xs) (T2 : Turn (fun k => v.ownBlock = some k) wr wa) : Turn (fun _ => False) w wa :=
  ⟨T2.os.trans T.os, T2.tape.trans T.tape, T2.output.trans T.output, Nat.le_trans T.size T2.size, fun k hk _ => (T2.block k (Nat.lt_of_lt_of_le hk T.size) (fun e => by have := (hr.lt k e).1; omega)).trans (T.block k hk id)⟩
theorem one_app {W : World} {b cap : Nat} {x : Int} (hx : W.cell? ⟨b, 0, none⟩ = some (.int .i64 x)) :
    ∃ v' w', (Builtin.append_ #[55, 55] 55 #[.slice (some ⟨W.heap.size, 0, none⟩) 0 0, .slice (some ⟨b, 0, none⟩) 1 cap]).run Tryz.prog (W.alloc (.cells #[] 3)) = .ok v' w' ∧ w'.ownsRow W.heap.size 3 1 v' 1 [.int .i64 x] ∧ Turn (fun _ => False) W w' := by
  obtain ⟨i3, j1, j2, j3, j4⟩ := info_parts info3
  have h0 := World.ownsRow_lit (base := W.heap.size) (e := 3) (size := 1) W #[] 0 (Nat.le_refl _) (by decide) rfl
  obtain ⟨v', w', hr, ho, hg, _⟩ := run_append_own (W.alloc (.cells #[] 3)) W.heap.size 55 55 3 i3 _ 1 8 Tryz.underlying55 j1 j2 j3 j4 rfl (by decide) _ 0 [] h0 ⟨b, 0, none⟩ 1 cap [.int .i64 x] rfl (fun j u hu => by
    rcases j with _ | j
    · simp at hu
      subst hu
      exact ((Turn.refl (fun _ => False) W).alloc _).cell id hx
    · simp at hu) (fun u hu => by simp at hu; subst hu; rfl) (by decide) (by decide) (by simp)
  refine ⟨v', w', hr, by simpa using ho, ?_⟩
  have T1 : Turn (fun _ => False) W (W.alloc (.cells #[] 3)) := (Turn.refl _ W).alloc _
  exact turn_fresh T1 h0 ((Turn.refl _ _).grown hg (fun k hk => .inl hk))
set_option maxRecDepth 100000 in
theorem clone_any {w : World} {v : Value} {o : Option Int} (h : OutV w v o) :
    Calls Tryz.prog 227 #[v] w fun e w' => ∃ a n c, e = .returned (.slice a n c) ∧ OutV w' (.slice a n c) o ∧ Turn (fun _ => False) w w' := by
  cases o with
  | none =>
    obtain rfl : v = .slice none 0 0 := h
    refine (clone_nil w).mono ?_
    rintro e w' ⟨rfl, rfl⟩
    exact ⟨_, _, _, rfl, rfl, Turn.refl _ _⟩
  | some x =>
    obtain ⟨b, c, rfl, hc, hb⟩ := h
    obtain ⟨v', w', hr, ho, T⟩ := one_app (cap := c) hc
    obtain ⟨a', c', rfl, hg⟩ := own_slice ho
    obtain ⟨g, rfl⟩ := hg (by decide)
    have hbk : Blk w' g 3 := by
      rcases ho.2 with ⟨_, e⟩ | ⟨g', cap, cur, e, _, hgg, _⟩
      · cases e
      · cases e
        exact ⟨_, hgg⟩
    have F := Lib.hid (And.intro (And.intro (ho.cellAt 0 (by decide)) hbk) T)
    have RUN := Lib.hid hr
    clear hc hb hr ho T hbk hg
    have HE := fun w => Lib.run_eql_slice_nil (P := Tryz.prog) w 55 3 (some ⟨b, 0, none⟩) 1 c 0 0 Tryz.underlying55
    go_enter Tryz.func227, Tryz.ntmps227
    go_wp2_with (refine rl_append_run (by rfl) _ _ _ (by rfl) (by rfl) (by rfl) RUN.out ?_)
    go_ret
    exact ⟨_, _, _, rfl, ⟨_, _, rfl, F.out.1.1, F.out.1.2⟩, F.out.2⟩
set_option maxRecDepth 100000 in
set_option maxHeartbeats 2000000 in
theorem own_out {w : World} {a : Option Addr} {n c : Nat} {o : Option Int} (h : OutV w (.slice a n c) o) :
    Calls Tryz.prog 189 #[.agg #[.slice none 0 0, .slice a n c, .slice none 0 0, .slice none 0 0]] w fun e w' => ∃ a' n' c', e = .returned (.agg #[.slice none 0 0, .slice a' n' c', .slice none 0 0, .slice none 0 0]) ∧ OutV w' (.slice a' n' c') o ∧ Turn (fun _ => False) w w' := by
  obtain ⟨W, hW⟩ : ∃ W, W = (w.alloc (.cells #[.slice none 0 0, .slice a n c, .slice none 0 0, .slice none 0 0] 57)).alloc (.cells #[.slice none 0 0, .slice none 0 0, .slice none 0 0, .slice none 0 0] 57) := ⟨_, rfl⟩
  have T : Turn (fun _ => False) w W := by rw [hW]; exact ((Turn.refl _ w).alloc _).alloc _
  have B1 : Blk W w.heap.size 57 := by
    rw [hW]
    exact (Blk.new w [.slice none 0 0, .slice a n c, .slice none 0 0, .slice none 0 0] 57).turn ((Turn.refl (fun _ => False) _).alloc _) (fun f => f)
  have B2 : Blk W (w.heap.size + 1) 57 := by
    rw [hW]
    have := Blk.new (w.alloc (.cells #[.slice none 0 0, .slice a n c, .slice none 0 0, .slice none 0 0] 57)) zo 57
    rwa [World.size_alloc] at this
  have C1 : W.rangeAt w.heap.size 0 [.slice none 0 0, .slice a n c, .slice none 0 0, .slice none 0 0] := by
    rw [hW]
    exact range_turn (range_new w [.slice none 0 0, .slice a n c, .slice none 0 0, .slice none 0 0] 57) ((Turn.refl (fun _ => False) _).alloc _) (fun f => f)
  have C2 : W.rangeAt (w.heap.size + 1) 0 zo := by
    rw [hW]
    have := range_new (w.alloc (.cells #[.slice none 0 0, .slice a n c, .slice none 0 0, .slice none 0 0] 57)) zo 57
    rwa [World.size_alloc] at this
  have h1 := h.turn T (fun _ _ f => f)
  have x0 : W.cell? ⟨w.heap.size, 0, none⟩ = some (.slice none 0 0) := C1 0 _ rfl
  have x1 : W.cell? ⟨w.heap.size, 1, none⟩ = some (.slice a n c) := C1 1 _ rfl
  have x2 : W.cell? ⟨w.heap.size, 2, none⟩ = some (.slice none 0 0) := C1 2 _ rfl
  have x3 : W.cell? ⟨w.heap.size, 3, none⟩ = some (.slice none 0 0) := C1 3 _ rfl
  have f1 := B1.fz
  have T2 : Turn (fun k => k = w.heap.size) W (W.setCell ⟨w.heap.size, 0, none⟩ (.slice none 0 0)) := Turn.put _ _ _ _
  have h2 := h1.turn T2 (fun b hb e => (hb.ne B1 (by decide)) e)
  have B12 := B1.set ⟨w.heap.size, 0, none⟩ (.slice none 0 0)
  have z0 : (W.setCell ⟨w.heap.size, 0, none⟩ (.slice none 0 0)).cell? ⟨w.heap.size, 0, none⟩ = some (.slice none 0 0) := World.cell?_setCell_same _ _ _ x0
  have z1 : (W.setCell ⟨w.heap.size, 0, none⟩ (.slice none 0 0)).cell? ⟨w.heap.size, 1, none⟩ = some (.slice a n c) := (cell_off _ _ _ _ _ (by decide)).trans x1
  have z2 : (W.setCell ⟨w.heap.size, 0, none⟩ (.slice none 0 0)).cell? ⟨w.heap.size, 2, none⟩ = some (.slice none 0 0) := (cell_off _ _ _ _ _ (by decide)).trans x2
  have z3 : (W.setCell ⟨w.heap.size, 0, none⟩ (.slice none 0 0)).cell? ⟨w.heap.size, 3, none⟩ = some (.slice none 0 0) := (cell_off _ _ _ _ _ (by decide)).trans x3
  have y := range_turn C2 T2 (by omega)
  have B22 := B2.turn T2 (by omega)
  have TW : Turn (fun _ => False) w (W.setCell ⟨w.heap.size, 0, none⟩ (.slice none 0 0)) := T.comp T2 (fun j hj e => by omega)
  have H := Lib.hid (fun v => each_hit W v)
  have CLW := Lib.hid (And.intro h2 (And.intro TW (And.intro B12 (And.intro B22 y))))
  clear T B1 B2 C1 C2 h1 T2 h2 B12 B22 TW y h
  go_enter Tryz.func189, Tryz.ntmps189
  go_upto_region 1 with fail
  rw [← hW]
  clear hW
  go_wp2_with fail
  refine (H.out _).mono ?_
  rintro e w1 ⟨rfl, rfl⟩
  go_upto_region 2 with fail
  clear x0 x1 x2 x3 f1 H
  generalize W.setCell ⟨w.heap.size, 0, none⟩ (.slice none 0 0) = W2 at *
  generalize hb1 : w.heap.size = b1 at *
  have HB := Lib.hid hb1
  clear hb1
  have TD : Turn (fun _ => False) W2 W2.drew := (Turn.refl _ W2).drewN 1
  have CL := Lib.hid (clone_any (CLW.out.1.turn TD (fun _ _ f => f)))
  have z1 : W2.drew.cell? ⟨b1, 1, none⟩ = some (.slice a n c) := z1
  have z2 : W2.drew.cell? ⟨b1, 2, none⟩ = some (.slice none 0 0) := z2
  have z3 : W2.drew.cell? ⟨b1, 3, none⟩ = some (.slice none 0 0) := z3
  have z0 := TD.cell (fun f => f) z0
  have KX := Lib.hid (And.intro (CLW.out.2.1.trans TD) (And.intro (CLW.out.2.2.1.turn TD (fun f => f)) (And.intro (CLW.out.2.2.2.1.turn TD (fun f => f)) (range_turn CLW.out.2.2.2.2 TD (fun f => f)))))
  clear CLW TD
  refine wp_region_held_drew (S := (fun w' => w'.cell? ⟨b1, 2, none⟩ = some (.slice none 0 0) ∧ w'.cell? ⟨b1, 3, none⟩ = some (.slice none 0 0))) (by kernel_rfl) ?hs0 (fun hS0 => ?_)
  case hs0 => ((try dsimp only); first | with_reducible exact ⟨z2, z3⟩ | exact ⟨z2, z3⟩ | (refine ⟨?_, ?_⟩ <;> (repeat (first | exact z2 | exact z3 | (refine (cell_off _ _ _ _ _ (by decide)).trans ?_) | (refine World.cell?_setCell_same _ _ _ (u := .slice none 0 0) ?_)))))
  refine wpAnyH_take (i := 0) (oi := { dst := some 7, op := Op.fieldAddr 57 (Operand.tmp 1) 1, type := 0, pos := "own.go:54", after := #[], guard := none }) (v := ?_) rfl (by kernel_rfl) (by kernel_rfl) (by kernel_rfl) (fun _ _ _ h => h) (Or.inl ⟨by rfl, ?hy1⟩) hS0 ?_
  case hy1 => (intro w hSw; (try dsimp only at hSw); go_simp; try with_reducible rfl)
  try simp only [Act.put, List.setIfInBounds_toArray, List.set_cons_zero, List.set_cons_succ]
  refine wpAnyH_take (i := 3) (oi := { dst := some 10, op := Op.fieldAddr 57 (Operand.tmp 1) 2, type := 0, pos := "own.go:54", after := #[], guard := none }) (v := ?_) rfl (by kernel_rfl) (by kernel_rfl) (by kernel_rfl) (fun _ _ _ h => h) (Or.inl ⟨by rfl, ?hy2⟩) hS0 ?_
  case hy2 => (intro w hSw; (try dsimp only at hSw); go_simp; try with_reducible rfl)
  try simp only [Act.put, List.setIfInBounds_toArray, List.set_cons_zero, List.set_cons_succ]
  refine wpAnyH_take (i := 4) (oi := { dst := some 11, op := Op.load 34 (Operand.tmp 10), type := 34, pos := "own.go:54", after := #[{ on := 3, ground := Ground.data }], guard := none }) (v := ?_) rfl (by kernel_rfl) (by kernel_rfl) (by kernel_rfl) (fun _ _ _ h => h) (Or.inl ⟨by rfl, ?hy3⟩) hS0 ?_
  case hy3 => (intro w hSw; (try dsimp only at hSw); go_simp; try with_reducible rfl)
  try simp only [Act.put, List.setIfInBounds_toArray, List.set_cons_zero, List.set_cons_succ]
  refine wpAnyH_take (i := 6) (oi := { dst := some 13, op := Op.fieldAddr 57 (Operand.tmp 1) 3, type := 0, pos := "own.go:54", after := #[], guard := none }) (v := ?_) rfl (by kernel_rfl) (by kernel_rfl) (by kernel_rfl) (fun _ _ _ h => h) (Or.inl ⟨by rfl, ?hy4⟩) hS0 ?_
  case hy4 => (intro w hSw; (try dsimp only at hSw); go_simp; try with_reducible rfl)
  try simp only [Act.put, List.setIfInBounds_toArray, List.set_cons_zero, List.set_cons_succ]
  refine wpAnyH_take (i := 7) (oi := { dst := some 14, op := Op.load 34 (Operand.tmp 13), type := 34, pos := "own.go:54", after := #[{ on := 6, ground := Ground.data }], guard := none }) (v := ?_) rfl (by kernel_rfl) (by kernel_rfl) (by kernel_rfl) (fun _ _ _ h => h) (Or.inl ⟨by rfl, ?hy5⟩) hS0 ?_
  case hy5 => (intro w hSw; (try dsimp only at hSw); go_simp; try with_reducible rfl)
  try simp only [Act.put, List.setIfInBounds_toArray, List.set_cons_zero, List.set_cons_succ]
  refine wpAnyH_ready (rs := [1]) (by kernel_rfl) (by simp) ?_
  refine AllReadyH.cons (o := { dst := some 8, op := Op.load 55 (Operand.tmp 7), type := 55, pos := "own.go:54", after := #[{ on := 0, ground := Ground.data }], guard := none }) rfl (fun K hK => ?_) ?_
  · go_simp
    refine hK.out _ _ ?hs6 (fun hS6 => ?_)
    case hs6 => ((try dsimp only); first | with_reducible exact ⟨z2, z3⟩ | exact ⟨z2, z3⟩ | (refine ⟨?_, ?_⟩ <;> (repeat (first | exact z2 | exact z3 | (refine (cell_off _ _ _ _ _ (by decide)).trans ?_) | (refine World.cell?_setCell_same _ _ _ (u := .slice none 0 0) ?_)))))
    clear hK K hS0
    refine wpAnyH_ready (rs := [2]) (by kernel_rfl) (by simp) ?_
    refine AllReadyH.cons (o := { dst := some 9, op := Op.call { callee := Callee.value (Operand.func 227), args := #[Operand.tmp 8], argTypes := #[55] }, type := 55, pos := "own.go:54", after := #[{ on := 1, ground := Ground.data }], guard := none }) rfl (fun K hK => ?_) ?_
    · go_simp; with_reducible refine CL.out.mono ?_; rintro en w5 ⟨a', n', c', rfl, hv5, T5⟩; have z0 := T5.cell (fun f => f) z0; have z1 := T5.cell (fun f => f) z1; have z2 := T5.cell (fun f => f) z2; have z3 := T5.cell (fun f => f) z3; have HV := Lib.hid hv5; have f5 := (KX.out.2.1.turn T5 (fun f => f)).fz; have KX := Lib.hid (And.intro (KX.out.1.trans T5) (And.intro (KX.out.2.1.turn T5 (fun f => f)) (And.intro (KX.out.2.2.1.turn T5 (fun f => f)) (range_turn KX.out.2.2.2 T5 (fun f => f))))); clear CL T5 hv5; go_simp
      refine hK.out _ _ ?hs7 (fun hS7 => ?_)
      case hs7 => ((try dsimp only); first | with_reducible exact ⟨z2, z3⟩ | exact ⟨z2, z3⟩ | (refine ⟨?_, ?_⟩ <;> (repeat (first | exact z2 | exact z3 | (refine (cell_off _ _ _ _ _ (by decide)).trans ?_) | (refine World.cell?_setCell_same _ _ _ (u := .slice none 0 0) ?_)))))
      clear hK K hS6
      refine wpAnyH_take (i := 9) (oi := { dst := some 16, op := Op.fieldAddr 57 (Operand.tmp 1) 1, type := 0, pos := "own.go:54", after := #[{ on := 0, ground := Ground.phase }, { on := 1, ground := Ground.phase }, { on := 2, ground := Ground.phase }, { on := 3, ground := Ground.phase }, { on := 4, ground := Ground.phase }, { on := 5, ground := Ground.textOnly Departure.lateStoresUnsure }, { on := 6, ground := Ground.phase }, { on := 7, ground := Ground.phase }, { on := 8, ground := Ground.textOnly Departure.lateStoresUnsure }], guard := none }) (v := ?_) rfl (by kernel_rfl) (by kernel_rfl) (by kernel_rfl) (fun _ _ _ h => h) (Or.inl ⟨by rfl, ?hy8⟩) hS7 ?_
      case hy8 => (intro w hSw; (try dsimp only at hSw); go_simp; try with_reducible rfl)
      try simp only [Act.put, List.setIfInBounds_toArray, List.set_cons_zero, List.set_cons_succ]
      refine wpAnyH_ready (rs := [5]) (by kernel_rfl) (by simp) ?_
      refine AllReadyH.cons (o := { dst := some 12, op := Op.call { callee := Callee.value (Operand.func 228), args := #[Operand.tmp 11], argTypes := #[34] }, type := 34, pos := "own.go:54", after := #[{ on := 4, ground := Ground.data }, { on := 2, ground := Ground.chain }], guard := none }) rfl (fun K hK => ?_) ?_
      · go_simp; refine (clone_refs _).mono ?_; rintro en w6 ⟨rfl, rfl⟩; go_simp
        refine hK.out _ _ ?hs9 (fun hS9 => ?_)
        case hs9 => ((try dsimp only); first | with_reducible exact ⟨z2, z3⟩ | exact ⟨z2, z3⟩ | (refine ⟨?_, ?_⟩ <;> (repeat (first | exact z2 | exact z3 | (refine (cell_off _ _ _ _ _ (by decide)).trans ?_) | (refine World.cell?_setCell_same _ _ _ (u := .slice none 0 0) ?_)))))
        clear hK K hS7
        refine wpAnyH_ready (rs := [8]) (by kernel_rfl) (by simp) ?_
        refine AllReadyH.cons (o := { dst := some 15, op := Op.call { callee := Callee.value (Operand.func 228), args := #[Operand.tmp 14], argTypes := #[34] }, type := 34, pos := "own.go:54", after := #[{ on := 7, ground := Ground.data }, { on := 5, ground := Ground.chain }], guard := none }) rfl (fun K hK => ?_) ?_
        · go_simp; refine (clone_refs _).mono ?_; rintro en w6 ⟨rfl, rfl⟩; go_simp
          refine hK.out _ _ ?hs10 (fun hS10 => ?_)
          case hs10 => ((try dsimp only); first | with_reducible exact ⟨z2, z3⟩ | exact ⟨z2, z3⟩ | (refine ⟨?_, ?_⟩ <;> (repeat (first | exact z2 | exact z3 | (refine (cell_off _ _ _ _ _ (by decide)).trans ?_) | (refine World.cell?_setCell_same _ _ _ (u := .slice none 0 0) ?_)))))
          clear hK K hS9
          refine wpAnyH_ready (rs := [10]) (by kernel_rfl) (by simp) ?_
          refine AllReadyH.cons (o := { dst := none, op := Op.store 55 (Operand.tmp 16) (Operand.tmp 9), type := 0, pos := "own.go:54", after := #[{ on := 9, ground := Ground.data }, { on := 2, ground := Ground.data }, { on := 8, ground := Ground.chain }, { on := 0, ground := Ground.phase }, { on := 1, ground := Ground.phase }, { on := 2, ground := Ground.phase }, { on := 3, ground := Ground.phase }, { on := 4, ground := Ground.phase }, { on := 5, ground := Ground.textOnly Departure.lateStoresUnsure }, { on := 6, ground := Ground.phase }, { on := 7, ground := Ground.phase }, { on := 8, ground := Ground.textOnly Departure.lateStoresUnsure }], guard := none }) rfl (fun K hK => ?_) ?_
          · go_simp
            refine hK.out _ _ ?hs11 (fun hS11 => ?_)
            case hs11 => ((try dsimp only); first | with_reducible exact ⟨z2, z3⟩ | exact ⟨z2, z3⟩ | (refine ⟨?_, ?_⟩ <;> (repeat (first | exact z2 | exact z3 | (refine (cell_off _ _ _ _ _ (by decide)).trans ?_) | (refine World.cell?_setCell_same _ _ _ (u := .slice none 0 0) ?_)))))
            clear hK K hS10
            refine wpAnyH_take (i := 11) (oi := { dst := some 17, op := Op.fieldAddr 57 (Operand.tmp 1) 2, type := 0, pos := "own.go:54", after := #[{ on := 0, ground := Ground.phase }, { on := 1, ground := Ground.phase }, { on := 2, ground := Ground.phase }, { on := 3, ground := Ground.phase }, { on := 4, ground := Ground.phase }, { on := 5, ground := Ground.phase }, { on := 6, ground := Ground.phase }, { on := 7, ground := Ground.phase }, { on := 8, ground := Ground.textOnly Departure.lateStoresUnsure }, { on := 9, ground := Ground.phase }, { on := 10, ground := Ground.phase }], guard := none }) (v := ?_) rfl (by kernel_rfl) (by kernel_rfl) (by kernel_rfl) (fun _ _ _ h => h) (Or.inl ⟨by rfl, ?hy12⟩) hS11 ?_
            case hy12 => (intro w hSw; (try dsimp only at hSw); go_simp; try with_reducible rfl)
            try simp only [Act.put, List.setIfInBounds_toArray, List.set_cons_zero, List.set_cons_succ]
            refine wpAnyH_ready (rs := [12]) (by kernel_rfl) (by simp) ?_
            refine AllReadyH.cons (o := { dst := none, op := Op.store 34 (Operand.tmp 17) (Operand.tmp 12), type := 0, pos := "own.go:54", after := #[{ on := 11, ground := Ground.data }, { on := 5, ground := Ground.data }, { on := 10, ground := Ground.chain }, { on := 0, ground := Ground.phase }, { on := 1, ground := Ground.phase }, { on := 2, ground := Ground.phase }, { on := 3, ground := Ground.phase }, { on := 4, ground := Ground.phase }, { on := 5, ground := Ground.phase }, { on := 6, ground := Ground.phase }, { on := 7, ground := Ground.phase }, { on := 8, ground := Ground.textOnly Departure.lateStoresUnsure }, { on := 9, ground := Ground.phase }, { on := 10, ground := Ground.phase }], guard := none }) rfl (fun K hK => ?_) ?_
            · go_simp
              refine hK.out _ _ ?hs13 (fun hS13 => ?_)
              case hs13 => ((try dsimp only); first | with_reducible exact ⟨z2, z3⟩ | exact ⟨z2, z3⟩ | (refine ⟨?_, ?_⟩ <;> (repeat (first | exact z2 | exact z3 | (refine (cell_off _ _ _ _ _ (by decide)).trans ?_) | (refine World.cell?_setCell_same _ _ _ (u := .slice none 0 0) ?_)))))
              clear hK K hS11
              refine wpAnyH_take (i := 13) (oi := { dst := some 18, op := Op.fieldAddr 57 (Operand.tmp 1) 3, type := 0, pos := "own.go:54", after := #[{ on := 0, ground := Ground.phase }, { on := 1, ground := Ground.phase }, { on := 2, ground := Ground.phase }, { on := 3, ground := Ground.phase }, { on := 4, ground := Ground.phase }, { on := 5, ground := Ground.phase }, { on := 6, ground := Ground.phase }, { on := 7, ground := Ground.phase }, { on := 8, ground := Ground.phase }, { on := 9, ground := Ground.phase }, { on := 10, ground := Ground.phase }, { on := 11, ground := Ground.phase }, { on := 12, ground := Ground.phase }], guard := none }) (v := ?_) rfl (by kernel_rfl) (by kernel_rfl) (by kernel_rfl) (fun _ _ _ h => h) (Or.inl ⟨by rfl, ?hy14⟩) hS13 ?_
              case hy14 => (intro w hSw; (try dsimp only at hSw); go_simp; try with_reducible rfl)
              try simp only [Act.put, List.setIfInBounds_toArray, List.set_cons_zero, List.set_cons_succ]
              refine wpAnyH_ready (rs := [14]) (by kernel_rfl) (by simp) ?_
              refine AllReadyH.cons (o := { dst := none, op := Op.store 34 (Operand.tmp 18) (Operand.tmp 15), type := 0, pos := "own.go:54", after := #[{ on := 13, ground := Ground.data }, { on := 8, ground := Ground.data }, { on := 12, ground := Ground.chain }, { on := 0, ground := Ground.phase }, { on := 1, ground := Ground.phase }, { on := 2, ground := Ground.phase }, { on := 3, ground := Ground.phase }, { on := 4, ground := Ground.phase }, { on := 5, ground := Ground.phase }, { on := 6, ground := Ground.phase }, { on := 7, ground := Ground.phase }, { on := 8, ground := Ground.phase }, { on := 9, ground := Ground.phase }, { on := 10, ground := Ground.phase }, { on := 11, ground := Ground.phase }, { on := 12, ground := Ground.phase }], guard := none }) rfl (fun K hK => ?_) ?_
              · go_simp
                refine hK.out _ _ ?hs15 (fun hS15 => ?_)
                case hs15 => ((try dsimp only); first | with_reducible exact ⟨z2, z3⟩ | exact ⟨z2, z3⟩ | (refine ⟨?_, ?_⟩ <;> (repeat (first | exact z2 | exact z3 | (refine (cell_off _ _ _ _ _ (by decide)).trans ?_) | (refine World.cell?_setCell_same _ _ _ (u := .slice none 0 0) ?_)))))
                clear hK K hS13
                refine wpAnyH_done (by kernel_rfl) ?_ _
                go_upto_region 3 with fail
                have R7 : (((w5.setCell ⟨b1, 1, none⟩ (.slice a' n' c')).setCell ⟨b1, 2, none⟩ (.slice none 0 0)).setCell ⟨b1, 3, none⟩ (.slice none 0 0)).rangeAt b1 0 [.slice none 0 0, .slice a' n' c', .slice none 0 0, .slice none 0 0] := fun j v hj => by
                  have e0 := (cell_off ((w5.setCell ⟨b1, 1, none⟩ (.slice a' n' c')).setCell ⟨b1, 2, none⟩ (.slice none 0 0)) b1 3 0 (.slice none 0 0) (by decide)).trans ((cell_off (w5.setCell ⟨b1, 1, none⟩ (.slice a' n' c')) b1 2 0 (.slice none 0 0) (by decide)).trans ((cell_off w5 b1 1 0 (.slice a' n' c') (by decide)).trans z0))
                  have e1 := (cell_off ((w5.setCell ⟨b1, 1, none⟩ (.slice a' n' c')).setCell ⟨b1, 2, none⟩ (.slice none 0 0)) b1 3 1 (.slice none 0 0) (by decide)).trans ((cell_off (w5.setCell ⟨b1, 1, none⟩ (.slice a' n' c')) b1 2 1 (.slice none 0 0) (by decide)).trans (World.cell?_setCell_same w5 ⟨b1, 1, none⟩ (.slice a' n' c') z1))
                  have e2 := (cell_off ((w5.setCell ⟨b1, 1, none⟩ (.slice a' n' c')).setCell ⟨b1, 2, none⟩ (.slice none 0 0)) b1 3 2 (.slice none 0 0) (by decide)).trans (World.cell?_setCell_same (w5.setCell ⟨b1, 1, none⟩ (.slice a' n' c')) ⟨b1, 2, none⟩ (.slice none 0 0) ((cell_off w5 b1 1 2 (.slice a' n' c') (by decide)).trans z2))
                  have e3 := World.cell?_setCell_same ((w5.setCell ⟨b1, 1, none⟩ (.slice a' n' c')).setCell ⟨b1, 2, none⟩ (.slice none 0 0)) ⟨b1, 3, none⟩ (.slice none 0 0) ((cell_off (w5.setCell ⟨b1, 1, none⟩ (.slice a' n' c')) b1 2 3 (.slice none 0 0) (by decide)).trans ((cell_off w5 b1 1 3 (.slice a' n' c') (by decide)).trans z3))
                  match j, hj with
                  | 0, hj => simp at hj; subst hj; exact e0
                  | 1, hj => simp at hj; subst hj; exact e1
                  | 2, hj => simp at hj; subst hj; exact e2
                  | 3, hj => simp at hj; subst hj; exact e3
                have T7 : Turn (fun k => k = b1) w5 (((w5.setCell ⟨b1, 1, none⟩ (.slice a' n' c')).setCell ⟨b1, 2, none⟩ (.slice none 0 0)).setCell ⟨b1, 3, none⟩ (.slice none 0 0)) := ((Turn.put _ _ _ _).trans (Turn.put _ _ _ _)).trans (Turn.put _ _ _ _)
                have hv7 := HV.out.turn T7 (fun b hb e => hb.ne KX.out.2.1 (by decide) e)
                clear z0 z1 z2 z3 f5
                generalize (((w5.setCell ⟨b1, 1, none⟩ (.slice a' n' c')).setCell ⟨b1, 2, none⟩ (.slice none 0 0)).setCell ⟨b1, 3, none⟩ (.slice none 0 0)) = W7 at *
                have hne : b1 + 1 ≠ b1 := by omega
                have B7 := KX.out.2.2.1.turn T7 hne
                have TH : W7.there (b1 + 1) 0 4 := range_there (range_turn KX.out.2.2.2 T7 hne) rfl B7
                have T8 : Turn (fun k => k = b1 + 1) W7 (W7.setCells (b1 + 1) 0 [.slice none 0 0, .slice a' n' c', .slice none 0 0, .slice none 0 0]) := Turn.setCells _ 0 (Turn.refl _ W7) (.inl rfl)
                have hv8 := Lib.hid (hv7.turn T8 (fun b hb e => hb.ne B7 (by decide) e))
                have KE := Lib.hid (show Turn (fun _ => False) w (W7.setCells (b1 + 1) 0 [.slice none 0 0, .slice a' n' c', .slice none 0 0, .slice none 0 0]) from KX.out.1.comp ((T7.more (S' := fun k => k = b1 ∨ k = b1 + 1) (fun _ _ e => .inl e)).trans (T8.more (fun _ _ e => .inr e))) (fun j hj e => by have := HB.out; omega))
                refine wp_region_lit ?_
                refine wpList_load_mid rfl 57 _ rfl b1 0 rfl [.slice none 0 0, .slice a' n' c', .slice none 0 0, .slice none 0 0] _ R7 Tryz.underlying57 rfl size62 ?_
                try simp only [Act.put, List.setIfInBounds_toArray, List.set_cons_zero, List.set_cons_succ]
                refine wpList_store_mid rfl 57 _ _ rfl (b1 + 1) 0 #[.slice none 0 0, .slice a' n' c', .slice none 0 0, .slice none 0 0] rfl rfl TH size62 (by simp [Value.oneCell']) ?_
                try simp only [Act.put, List.setIfInBounds_toArray, List.set_cons_zero, List.set_cons_succ]
                clear T8 T7 B7 hv7
                change wpList _ _ _ _ _ (W7.setCells (b1 + 1) 0 [.slice none 0 0, .slice a' n' c', .slice none 0 0, .slice none 0 0])
                have R9 := World.rangeAt_setCells_same W7 (b1 + 1) 0 [.slice none 0 0, .slice a' n' c', .slice none 0 0, .slice none 0 0] TH
                generalize W7.setCells (b1 + 1) 0 [.slice none 0 0, .slice a' n' c', .slice none 0 0, .slice none 0 0] = W9 at *
                go_wp2_with fail
                exact bodyPost_ret (v := .agg #[.slice none 0 0, .slice a' n' c', .slice none 0 0, .slice none 0 0]) (res_cell (a := 2) rfl rfl (run_loadVar_mid _ (b1 + 1) 0 57 _ _ R9 Tryz.underlying57 rfl size62)) rfl ⟨_, _, _, rfl, hv8.out, KE.out⟩
              exact AllReadyH.nil
            exact AllReadyH.nil
          exact AllReadyH.nil
        exact AllReadyH.nil
      exact AllReadyH.nil
    exact AllReadyH.nil
  exact AllReadyH.nil
set_option maxRecDepth 100000 in
set_option maxHeartbeats 2000000 in
theorem own_answer (w : World) (en nn : Int) : Calls Tryz.prog 259 #[.agg #[.int .i64 en, .int .i64 nn, .slice none 0 0]] w fun e w' => e = .returned (.agg #[.int .i64 en, .int .i64 nn, .slice none 0 0]) ∧ Turn (fun _ => False) w w' := by
  obtain ⟨W, hW⟩ : ∃ W, W = (w.alloc (.cells #[.int .i64 en, .int .i64 nn, .slice none 0 0] 149)).alloc (.cells #[.int .i64 0, .int .i64 0, .slice none 0 0] 149) := ⟨_, rfl⟩
  have H := Lib.hid (matches_nil W)
  have B1 : Blk W w.heap.size 149 := by
    rw [hW]
    exact (Blk.new w [.int .i64 en, .int .i64 nn, .slice none 0 0] 149).turn ((Turn.refl (fun _ => False) _).alloc _) (fun f => f)
  have B2 : Blk W (w.heap.size + 1) 149 := by
    rw [hW]
    have := Blk.new (w.alloc (.cells #[.int .i64 en, .int .i64 nn, .slice none 0 0] 149)) [.int .i64 0, .int .i64 0, .slice none 0 0] 149
    rwa [World.size_alloc] at this
  have C1 : W.rangeAt w.heap.size 0 [.int .i64 en, .int .i64 nn, .slice none 0 0] := by
    rw [hW]
    exact range_turn (range_new w [.int .i64 en, .int .i64 nn, .slice none 0 0] 149) ((Turn.refl (fun _ => False) _).alloc _) (fun f => f)
  have C2 : W.rangeAt (w.heap.size + 1) 0 [.int .i64 0, .int .i64 0, .slice none 0 0] := by
    rw [hW]
    have := range_new (w.alloc (.cells #[.int .i64 en, .int .i64 nn, .slice none 0 0] 149)) [.int .i64 0, .int .i64 0, .slice none 0 0] 149
    rwa [World.size_alloc] at this
  have T : Turn (fun _ => False) w W := by rw [hW]; exact ((Turn.refl _ w).alloc _).alloc _
  have x0 : W.cell? ⟨w.heap.size, 0, none⟩ = some (.int .i64 en) := C1 0 _ rfl
  have x1 : W.cell? ⟨w.heap.size, 1, none⟩ = some (.int .i64 nn) := C1 1 _ rfl
  have x2 : W.cell? ⟨w.heap.size, 2, none⟩ = some (.slice none 0 0) := C1 2 _ rfl
  have y0 : W.cell? ⟨w.heap.size + 1, 0, none⟩ = some (.int .i64 0) := C2 0 _ rfl
  have y1 : W.cell? ⟨w.heap.size + 1, 1, none⟩ = some (.int .i64 0) := C2 1 _ rfl
  have y2 : W.cell? ⟨w.heap.size + 1, 2, none⟩ = some (.slice none 0 0) := C2 2 _ rfl
  have f1 := B1.fz
  have f2 := B2.fz
  have K := Lib.hid T
  clear B1 B2 C1 C2 T
  go_enter Tryz.func259, Tryz.ntmps259
  go_upto_region 1 with fail
  rw [← hW]
  clear hW
  go_wp2_with fail
  refine H.out.mono ?_
  rintro e w1 ⟨rfl, rfl⟩
  go_wp2
  refine bodyPost_ret (v := .agg #[.int .i64 en, .int .i64 nn, .slice none 0 0]) (by simp [results, Tryz.results56, go_sem, cell_off, y0, y1, y2]) rfl ⟨rfl, ?_⟩
  exact (((K.out.setCell (p := ⟨w.heap.size, 2, none⟩) (.inr (Nat.le_refl _)) _).setCell (p := ⟨w.heap.size + 1, 0, none⟩) (.inr (Nat.le_succ _)) _).setCell (p := ⟨w.heap.size + 1, 1, none⟩) (.inr (Nat.le_succ _)) _).setCell (p := ⟨w.heap.size + 1, 2, none⟩) (.inr (Nat.le_succ _)) _
end Go.Proofs.YtgfobgabdafclaaGreat
