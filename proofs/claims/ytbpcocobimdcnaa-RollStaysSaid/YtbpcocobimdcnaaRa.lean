/-
  An entry more: Add, for the walks of the statements of layer 15.
-/
import Derived.Deep.RegionHeld3
import Derived.RangeFuncRecord
import Derived.Test.YtbpcocobimdcnaaRt
namespace Go.Proofs.Ytbpcocobimdcnaa
open Go.ChangeShapes Go.WideShapes Go.ChangeAt Go.RowKit
set_option linter.unusedVariables false

theorem info48 : (Try.prog.info? 48).map (fun i => (i.zero, i.size, i.bytes)) = some (some (.agg #[.int .i64 0, .int .i64 0, .slice none 0 0, .int .i64 0, .bool false]), 5, 56) := by kernel_rfl
theorem grownCap_ge (w : World) (need old : Nat) (e : TypeId) : need ≤ grownCap w need old e := by
  simp only [grownCap, Question.cut]
  omega
theorem row_low {w : World} {b b' : Nat} {e : TypeId} {size : Nat} {v : Value} {n : Nat} {xs : List Value} (h : w.ownsRow b e size v n xs) (hb : b' ≤ b) : w.ownsRow b' e size v n xs := by
  refine ⟨h.1, ?_⟩
  rcases h.2 with h0 | ⟨g, cap, cur, rfl, hg, rest⟩
  · exact .inl h0
  · exact .inr ⟨g, cap, cur, rfl, Nat.le_trans hb hg, rest⟩
set_option maxRecDepth 100000 in
/-- An entry behind the first n ones, in a new row. -/
theorem entry_app {W : World} {a : Option Addr} {n c m t : Nat} {xs : List Value} {e : EV} (ho : W.ownsRow 0 48 5 (.slice a m c) m xs) (hn : n ≤ m) (hm : m ≤ 200) (hs : e.cs.oneCell' = true) (hr : ∀ j u, e.cells[j]? = some u → W.cell? ⟨t, j, none⟩ = some u) :
    ∃ v' w', (Builtin.append_ #[25, 25] 25 #[.slice a n n, .slice (some ⟨t, 0, none⟩) 1 1]).run Try.prog W = .ok v' w' ∧ w'.ownsRow W.heap.size 48 5 v' (n + 1) (xs.take (n * 5) ++ e.cells) ∧ Turn (fun _ => False) W w' := by
  obtain ⟨i3, j1, j2, j3, j4⟩ := info_parts info48
  have hx := ho.1
  have one : ∀ u ∈ e.cells, u.oneCell' = true := fun u hu => by
    simp [EV.cells] at hu
    rcases hu with rfl | rfl | rfl | rfl | rfl
    · rfl
    · rfl
    · exact hs
    · rfl
    · rfl
  cases a with
  | none =>
    obtain rfl : n = 0 := by
      rcases ho.2 with ⟨_, h⟩ | ⟨g, cap, cur, e, _⟩
      · omega
      · cases e
    obtain ⟨v', w', hrun, hown, hg, _⟩ := run_append_own W W.heap.size 25 25 48 i3 _ 5 56 Try.underlying25 j1 j2 j3 j4 rfl (by decide) _ 0 [] (World.ownsRow_nil _ _ _ _) ⟨t, 0, none⟩ 1 1 e.cells rfl (fun j u hu => by
      rw [Go.WideShapes.add_plain, Nat.zero_add]
      exact hr j u hu) one (by unfold maxLen; omega) (by omega) (Nat.le_refl _)
    exact ⟨v', w', hrun, by simpa using hown, (Turn.refl _ W).grown hg (fun k hk => by cases hk)⟩
  | some p =>
    obtain ⟨g, rfl⟩ : ∃ g, p = ⟨g, 0, none⟩ := by
      rcases ho.2 with ⟨e, _⟩ | ⟨g, cap, cur, e, _⟩
      · cases e
      · injection e with e _ _
        injection e with e
        exact ⟨g, e⟩
    have hlt : (xs.take (n * 5)).length = n * 5 := by rw [List.length_take]; omega
    have hnc : Builtin.nextslicecap (n + 1) n ≤ 100000 := by
      unfold Builtin.nextslicecap
      split
      · omega
      · split
        · omega
        · omega
    have hrun := run_append_grow (P := Try.prog) W 25 25 48 i3 _ Try.underlying25 j1 j2 ⟨g, 0, none⟩ n n (xs.take (n * 5)) (by rw [j3, hlt]) (fun j v hv => by
      rw [List.getElem?_take] at hv
      split at hv
      case isFalse => cases hv
      case isTrue hj =>
        rw [Go.WideShapes.add_plain, Nat.zero_add]
        exact (ho.cellAt j (by omega)).trans hv) ⟨t, 0, none⟩ 1 1 e.cells (by rw [j3]; rfl) (fun j u hu => by
      rw [Go.WideShapes.add_plain, Nat.zero_add]
      exact hr j u hu) (by omega) (by omega) (by rw [j4]; omega)
    refine ⟨_, _, hrun, ?_, ((Turn.refl _ W).drewN 1).alloc _⟩
    have g1 := grownCap_ge W (n + 1) n 48
    have g2 := grownCap_le_maxLen W (n + 1) n 48 (by unfold maxLen; omega)
    have hce : e.cells.length = 5 := rfl
    refine ⟨by rw [List.length_append, hlt, hce]; omega, .inr ⟨W.heap.size, _, _, rfl, Nat.le_refl _, World.alloc_heap_new W.drew _, g1, g2, ?_, ?_⟩⟩
    · simp [Builtin.zeroCells, Value.cells, EV.cells]
      omega
    · simp only [List.append_toArray, Array.toList_append]
      exact List.take_left' (by rw [List.length_append, hlt, hce]; omega)
def TabsAt (w : World) (l : List EV) : Prop := ∀ e ∈ l, PlainTab 0 w e.cs e.o
theorem TabsAt.turn {w w' : World} {l : List EV} (h : TabsAt w l) (t : Turn (fun _ => False) w w') : TabsAt w' l := fun e he => (h e he).turn t
/-- A roll, its entries in order, their tables there. -/
structure RollS (w : World) (p : Option Addr) (l : List EV) : Prop where
  at_ : RollAt w p l
  srt : Sorted l
  tabs : TabsAt w l
theorem RollS.turn {w w' : World} {p : Option Addr} {l : List EV} (h : RollS w p l) (t : Turn (fun _ => False) w w') : RollS w' p l := ⟨h.at_.turn t, h.srt, h.tabs.turn t⟩
theorem PlainTab.low {B B' : Nat} {w : World} {cs : Value} {o : Option Int} (h : PlainTab B w cs o) (hb : B' ≤ B) : PlainTab B' w cs o := by
  cases o with
  | none => exact h
  | some x =>
    obtain ⟨cb, c, hB, r⟩ := h
    exact ⟨cb, c, Nat.le_trans hb hB, r⟩
theorem plain_one {B : Nat} {w : World} {cs : Value} {o : Option Int} (h : PlainTab B w cs o) : cs.oneCell' = true := by
  obtain ⟨a, n, c, rfl⟩ := plain_slice h
  rfl
/-- What an entry more does to memory. -/
theorem add_block {w W w7 : World} {a : Option Addr} {c tb : Nat} {l : List EV} {cs cs0 : Value} {o : Option Int} {x win : Int} (hr : ERow w (.slice a l.length c) l) (hs : Sorted l) (ht : TabsAt w l) (hm : l.length ≤ 200) (hx : ∀ e ∈ l, e.id < x) (T : Turn (fun _ => False) w W) (h7 : Turn (fun _ => False) W w7) (hp : PlainTab W.heap.size w7 cs o)
    (hc : W.cell? ⟨tb, 0, none⟩ = some cs0 ∧ W.cell? ⟨tb, 1, none⟩ = some (.int .i64 win) ∧ W.cell? ⟨tb, 2, none⟩ = some (.bool false)) :
    ∃ v9 w9, (Builtin.append_ #[25, 25] 25 #[.slice a l.length l.length, .slice (some ⟨w7.heap.size, 0, none⟩) 1 1]).run Try.prog (w7.alloc (.cells #[.int .i64 x, .int .i64 (-1), cs, .int .i64 win, .bool false] 48)) = .ok v9 w9 ∧
      (w7.cell? ⟨tb, 0, none⟩ = some cs0 ∧ w7.cell? ⟨tb, 1, none⟩ = some (.int .i64 win) ∧ w7.cell? ⟨tb, 2, none⟩ = some (.bool false)) ∧
      ((w7.alloc (.cells #[.int .i64 x, .int .i64 (-1), cs, .int .i64 win, .bool false] 48)).cell? ⟨tb, 0, none⟩ = some cs0 ∧ (w7.alloc (.cells #[.int .i64 x, .int .i64 (-1), cs, .int .i64 win, .bool false] 48)).cell? ⟨tb, 1, none⟩ = some (.int .i64 win) ∧ (w7.alloc (.cells #[.int .i64 x, .int .i64 (-1), cs, .int .i64 win, .bool false] 48)).cell? ⟨tb, 2, none⟩ = some (.bool false)) ∧
      (w9.cell? ⟨tb, 0, none⟩ = some cs0 ∧ w9.cell? ⟨tb, 1, none⟩ = some (.int .i64 win) ∧ w9.cell? ⟨tb, 2, none⟩ = some (.bool false)) ∧
      ((w9.alloc (.cells #[v9] 59)).cell? ⟨tb, 0, none⟩ = some cs0 ∧ (w9.alloc (.cells #[v9] 59)).cell? ⟨tb, 1, none⟩ = some (.int .i64 win) ∧ (w9.alloc (.cells #[v9] 59)).cell? ⟨tb, 2, none⟩ = some (.bool false)) ∧
      (∃ n1 n2, v9 = .slice n1 (l.length + 1) n2) ∧
      (∃ cs', RollS (w9.alloc (.cells #[v9] 59)) (some ⟨w9.heap.size, 0, none⟩) (l ++ [⟨x, -1, cs', win, o⟩]) ∧ Turn (fun _ => False) w (w9.alloc (.cells #[v9] 59)) ∧ PlainTab w.heap.size (w9.alloc (.cells #[v9] 59)) cs' o) := by
  have T8 : Turn (fun _ => False) w7 (w7.alloc (.cells #[.int .i64 x, .int .i64 (-1), cs, .int .i64 win, .bool false] 48)) := (Turn.refl _ w7).alloc _
  have T78 := (T.trans h7).trans T8
  obtain ⟨v9, w9, hrun, hown, T9⟩ := entry_app (e := ⟨x, -1, cs, win, o⟩) (own_turn hr.own T78 (fun _ _ h => h)) (n := l.length) (Nat.le_refl _) hm (plain_one hp) (t := w7.heap.size) (fun j u hu => (World.cell?_alloc_new w7 _ 48 j).trans (by simpa [EV.cells] using hu))
  have k7 : ∀ {k j v}, W.cell? ⟨k, j, none⟩ = some v → w7.cell? ⟨k, j, none⟩ = some v := fun h => h7.cell (fun f => f) h
  have k8 : ∀ {k j v}, W.cell? ⟨k, j, none⟩ = some v → (w7.alloc (.cells #[.int .i64 x, .int .i64 (-1), cs, .int .i64 win, .bool false] 48)).cell? ⟨k, j, none⟩ = some v := fun h => T8.cell (fun f => f) (k7 h)
  have k9 : ∀ {k j v}, W.cell? ⟨k, j, none⟩ = some v → w9.cell? ⟨k, j, none⟩ = some v := fun h => T9.cell (fun f => f) (k8 h)
  have T11 : Turn (fun _ => False) w9 (w9.alloc (.cells #[v9] 59)) := (Turn.refl _ w9).alloc _
  have k11 : ∀ {k j v}, W.cell? ⟨k, j, none⟩ = some v → (w9.alloc (.cells #[v9] 59)).cell? ⟨k, j, none⟩ = some v := fun h => T11.cell (fun f => f) (k9 h)
  have TT := (T78.trans T9).trans T11
  obtain ⟨n1, n2, e9, _⟩ := own_slice hown
  refine ⟨v9, w9, hrun, ⟨k7 hc.1, k7 hc.2.1, k7 hc.2.2⟩, ⟨k8 hc.1, k8 hc.2.1, k8 hc.2.2⟩, ⟨k9 hc.1, k9 hc.2.1, k9 hc.2.2⟩, ⟨k11 hc.1, k11 hc.2.1, k11 hc.2.2⟩, ⟨n1, n2, e9⟩, cs, ⟨.inr ⟨w9.heap.size, v9, rfl, ?_, ?_, ?_⟩, ?_, ?_⟩, TT, (hp.low T.size).turn (T8.trans (T9.trans T11))⟩
  · exact World.cell?_alloc_new w9 #[v9] 59 0
  · have h1 : (l ++ [(⟨x, -1, cs, win, o⟩ : EV)]).length = l.length + 1 := by simp
    rw [h1, ecells_app]
    rw [List.take_of_length_le (by rw [ecells_len]; omega)] at hown
    have e1 : ecells [(⟨x, -1, cs, win, o⟩ : EV)] = EV.cells ⟨x, -1, cs, win, o⟩ := by simp [ecells]
    rw [e1]
    exact own_turn (row_low hown (Nat.zero_le _)) T11 (fun _ _ h => h)
  · simp
    omega
  · exact List.pairwise_append.2 ⟨hs, List.pairwise_singleton _ _, fun a ha b hb => by rw [List.mem_singleton.1 hb]; exact hx a ha⟩
  · intro e he
    rcases List.mem_append.1 he with h | h
    · exact (ht e h).turn TT
    · rw [List.mem_singleton.1 h]
      exact ((hp.low (Nat.zero_le _)).turn (T8.trans (T9.trans T11)))
set_option maxRecDepth 100000 in
set_option maxHeartbeats 4000000 in
theorem add_yes {w : World} {p : Option Addr} {l : List EV} {cs : Value} {o : Option Int} {x win : Int} (h : RollS w p l) (hm : l.length ≤ 200) (h0 : 0 ≤ x) (hx : ∀ e ∈ l, e.id < x) (hp : PlainTab 0 w cs o) :
    Calls Try.prog 11 #[.pointer p, .int .i64 x, .agg #[cs, .int .i64 win, .bool false]] w fun e w' => ∃ r, e = .returned (.tuple #[.pointer (some ⟨r, 0, none⟩), .bool true]) ∧ ∃ cs', RollS w' (some ⟨r, 0, none⟩) (l ++ [⟨x, -1, cs', win, o⟩]) ∧ Turn (fun _ => False) w w' ∧ PlainTab w.heap.size w' cs' o := by
  obtain ⟨ca, cn, cc, rfl⟩ := plain_slice hp
  have T0 : Turn (fun _ => False) w (w.alloc (.cells #[.slice ca cn cc, .int .i64 win, .bool false] 38)) := (Turn.refl _ w).alloc _
  have R := Lib.hid (row_is (h.at_.turn T0))
  have X0 := World.cell?_alloc_new w #[.slice ca cn cc, .int .i64 win, .bool false] 38 0
  have X1 := World.cell?_alloc_new w #[.slice ca cn cc, .int .i64 win, .bool false] 38 1
  have X2 := World.cell?_alloc_new w #[.slice ca cn cc, .int .i64 win, .bool false] 38 2
  have HH := Lib.hid (And.intro h (And.intro hx (And.intro hp T0)))
  clear h hx hp T0
  go_enter Try.func11, Try.ntmps11
  go_wp2_with fail
  refine R.out.mono ?_
  rintro e w1 ⟨v, rfl, hr, rfl⟩
  obtain ⟨W, hW⟩ : ∃ W, W = w.alloc (.cells #[.slice ca cn cc, .int .i64 win, .bool false] 38) := ⟨_, rfl⟩
  have HWT := HH.out.2.2.2
  rw [← hW] at hr X0 X1 X2 HWT R ⊢
  obtain ⟨a, c, rfl, hg⟩ := own_slice hr.own
  have x0 : W.cell? ⟨w.heap.size, 0, none⟩ = some (.slice ca cn cc) := X0
  have x1 : W.cell? ⟨w.heap.size, 1, none⟩ = some (.int .i64 win) := X1
  have x2 : W.cell? ⟨w.heap.size, 2, none⟩ = some (.bool false) := X2
  have TB := Lib.hid (table_is (w := W.drew) (win := win) (show PlainTab 0 W.drew (.slice ca cn cc) o from (HH.out.2.2.1.turn HWT).turn ((Turn.refl _ W).drewN 1)))
  have hcn : l.length ≤ c := by
    rcases hr.own.2 with ⟨e, e2⟩ | ⟨g, cap, cur, e, _, _, hc, _⟩
    · omega
    · injection e with _ _ e
      omega
  have AP := Lib.hid (fun (w7 : World) (cs : Value) (hp : PlainTab W.drew.heap.size w7 cs o) (t : Turn (fun _ => False) W.drew w7) => add_block (w := W) (W := W.drew) (tb := w.heap.size) hr HH.out.1.srt (HH.out.1.tabs.turn HWT) hm HH.out.2.1 (show Turn (fun _ => False) W W.drew from (Turn.refl _ W).drewN 1) t hp ⟨x0, x1, x2⟩)
  clear hW X0 X1 X2 R
  generalize w.heap.size = tb at *
  have HR := Lib.hid hr
  have HWT2 := Lib.hid HWT
  clear hr HWT
  go_upto_region 3 with fail
  go_cut [29] (fun v29 wx => v29 = .bool false ∧ wx = W)
  case first =>
    have t1 : decide (x < 0) = false := by simp; omega
    rcases Nat.eq_zero_or_pos l.length with hl0 | hl0
    · have t2 : decide ((0 : Int) < (l.length : Int)) = false := by rw [hl0]; rfl
      have tn : ¬ 0 < l.length := by omega
      clear hl0
      go_wp2_with fail
      go_meet
      case rel => exact ⟨rfl, rfl⟩
    · obtain ⟨k, hk⟩ : ∃ k, k + 1 = l.length := ⟨l.length - 1, by omega⟩
      obtain ⟨e, he⟩ : ∃ e, l[k]? = some e := ⟨_, List.getElem?_eq_getElem (by omega)⟩
      obtain ⟨g, rfl⟩ := hg hl0
      have y0 := (HR.out.own.cellAt (k * 5) (by omega)).trans (ecells_at l k e he).1
      have hex := HH.out.2.1 e (List.mem_of_getElem? he)
      have t2 : decide ((0 : Int) < (l.length : Int)) = true := by simp; omega
      have t3 : decide (x ≤ e.id) = false := by simp; omega
      have es : (l.length : Int) - 1 = (k : Int) := by omega
      have hk0 : (0 : Int) ≤ (k : Int) := by omega
      have hk1 : (k : Int) < (l.length : Int) := by omega
      have hwp : IntKind.i64.wrap (k : Int) = (k : Int) := IntWalk.i64_in _ (by omega)
      clear hk he hex
      go_wp2_with fail
      go_meet
      case rel => exact ⟨rfl, rfl⟩
  case rest =>
  obtain ⟨rfl, rfl⟩ := hcut
  go_upto_region 5 with fail
  refine wp_region_held_drew (S := (fun w' => w'.cell? ⟨tb, 0, none⟩ = some (.slice ca cn cc) ∧ w'.cell? ⟨tb, 1, none⟩ = some (.int .i64 win) ∧ w'.cell? ⟨tb, 2, none⟩ = some (.bool false))) (by kernel_rfl) ?hs0 (fun hS0 => ?_)
  case hs0 => ((try dsimp only); first | with_reducible exact ⟨x0, x1, x2⟩ | exact ⟨x0, x1, x2⟩ | exact y7 | exact y8 | exact y9 | exact y11)
  refine wpAnyH_take (i := 0) (oi := { dst := some 31, op := Op.move (Operand.tmp 8), type := 25, pos := "roll.go:39", after := #[], guard := none }) (v := ?_) rfl (by kernel_rfl) (by kernel_rfl) (by kernel_rfl) (fun _ _ _ h => h) (Or.inl ⟨by rfl, ?hy1⟩) hS0 ?_
  case hy1 => (intro w hSw; (try dsimp only at hSw); go_simp; try with_reducible rfl)
  try simp only [Act.put, List.setIfInBounds_toArray, List.set_cons_zero, List.set_cons_succ]
  refine wpAnyH_take (i := 1) (oi := { dst := some 32, op := Op.move (Operand.tmp 9), type := 3, pos := "roll.go:39", after := #[], guard := none }) (v := ?_) rfl (by kernel_rfl) (by kernel_rfl) (by kernel_rfl) (fun _ _ _ h => h) (Or.inl ⟨by rfl, ?hy2⟩) hS0 ?_
  case hy2 => (intro w hSw; (try dsimp only at hSw); go_simp; try with_reducible rfl)
  try simp only [Act.put, List.setIfInBounds_toArray, List.set_cons_zero, List.set_cons_succ]
  refine wpAnyH_take (i := 2) (oi := { dst := some 33, op := Op.move (Operand.tmp 9), type := 3, pos := "roll.go:39", after := #[], guard := none }) (v := ?_) rfl (by kernel_rfl) (by kernel_rfl) (by kernel_rfl) (fun _ _ _ h => h) (Or.inl ⟨by rfl, ?hy3⟩) hS0 ?_
  case hy3 => (intro w hSw; (try dsimp only at hSw); go_simp; try with_reducible rfl)
  try simp only [Act.put, List.setIfInBounds_toArray, List.set_cons_zero, List.set_cons_succ]
  refine wpAnyH_take (i := 3) (oi := { dst := some 34, op := Op.slice 25 (Operand.tmp 31) none (some (Operand.tmp 32)) (some (Operand.tmp 33)), type := 25, pos := "roll.go:39", after := #[{ on := 0, ground := Ground.data }, { on := 1, ground := Ground.data }, { on := 2, ground := Ground.data }], guard := none }) (v := ?_) rfl (by kernel_rfl) (by kernel_rfl) (by kernel_rfl) (fun _ _ _ h => h) (Or.inl ⟨by rfl, ?hy4⟩) hS0 ?_
  case hy4 => (intro w hSw; (try dsimp only at hSw); go_simp; try with_reducible rfl)
  try simp only [Act.put, List.setIfInBounds_toArray, List.set_cons_zero, List.set_cons_succ]
  refine wpAnyH_take (i := 4) (oi := { dst := some 35, op := Op.move (Operand.tmp 1), type := 3, pos := "roll.go:39", after := #[], guard := none }) (v := ?_) rfl (by kernel_rfl) (by kernel_rfl) (by kernel_rfl) (fun _ _ _ h => h) (Or.inl ⟨by rfl, ?hy5⟩) hS0 ?_
  case hy5 => (intro w hSw; (try dsimp only at hSw); go_simp; try with_reducible rfl)
  try simp only [Act.put, List.setIfInBounds_toArray, List.set_cons_zero, List.set_cons_succ]
  refine wpAnyH_take (i := 5) (oi := { dst := some 36, op := Op.load 38 (Operand.tmp 5), type := 38, pos := "roll.go:39", after := #[], guard := none }) (v := ?_) rfl (by kernel_rfl) (by kernel_rfl) (by kernel_rfl) (fun _ _ _ h => h) (Or.inl ⟨by rfl, ?hy6⟩) hS0 ?_
  case hy6 => (intro w hSw; (try dsimp only at hSw); go_simp; try with_reducible rfl)
  try simp only [Act.put, List.setIfInBounds_toArray, List.set_cons_zero, List.set_cons_succ]
  refine wpAnyH_ready (rs := [6]) (by kernel_rfl) (by simp) ?_
  refine AllReadyH.cons (o := { dst := some 37, op := Op.call { callee := Callee.value (Operand.func 21), args := #[Operand.tmp 36], argTypes := #[38] }, type := 38, pos := "roll.go:39", after := #[{ on := 5, ground := Ground.data }], guard := none }) rfl (fun K hK => ?_) ?_
  · go_simp; with_reducible refine TB.out.mono ?_; rintro e w7 ⟨cs', rfl, hp, t7⟩; obtain ⟨na, nn, nc, rfl⟩ := plain_slice hp; obtain ⟨v9, w9, hrun, hin⟩ := AP.out w7 _ hp t7; have y7 := hin.1; have y8 := hin.2.1; have y9 := hin.2.2.1; have y11 := hin.2.2.2.1; have FIN := Lib.hid hin.2.2.2.2.2; obtain ⟨n1, n2, rfl⟩ := hin.2.2.2.2.1; have RUN := Lib.hid hrun; clear hrun hin hp t7; go_simp
    refine hK.out _ _ ?hs7 (fun hS7 => ?_)
    case hs7 => ((try dsimp only); first | with_reducible exact ⟨x0, x1, x2⟩ | exact ⟨x0, x1, x2⟩ | exact y7 | exact y8 | exact y9 | exact y11)
    clear hK K hS0
    refine wpAnyH_take (i := 7) (oi := { dst := some 38, op := Op.build 48 #[(0, Operand.tmp 35), (1, Operand.const (Value.int IntKind.i64 (-1))), (2, Operand.tmp 37)], type := 48, pos := "roll.go:39", after := #[{ on := 4, ground := Ground.data }, { on := 6, ground := Ground.data }], guard := none }) (v := ?_) rfl (by kernel_rfl) (by kernel_rfl) (by kernel_rfl) (fun _ _ _ h => h) (Or.inl ⟨by rfl, ?hy8⟩) hS7 ?_
    case hy8 => (intro w hSw; (try dsimp only at hSw); go_simp; try with_reducible rfl)
    try simp only [Act.put, List.setIfInBounds_toArray, List.set_cons_zero, List.set_cons_succ]
    refine wpAnyH_ready (rs := [8]) (by kernel_rfl) (by simp) ?_
    refine AllReadyH.cons (o := { dst := some 39, op := Op.buildSlice 25 1 #[(0, Operand.tmp 38)], type := 25, pos := "roll.go:39", after := #[{ on := 7, ground := Ground.data }], guard := none }) rfl (fun K hK => ?_) ?_
    · go_simp
      refine hK.out _ _ ?hs9 (fun hS9 => ?_)
      case hs9 => ((try dsimp only); first | with_reducible exact ⟨x0, x1, x2⟩ | exact ⟨x0, x1, x2⟩ | exact y7 | exact y8 | exact y9 | exact y11)
      clear hK K hS7
      refine wpAnyH_ready (rs := [9]) (by kernel_rfl) (by simp) ?_
      refine AllReadyH.cons (o := { dst := some 40, op := Op.call { callee := Callee.builtin Builtin.append, args := #[Operand.tmp 34, Operand.tmp 39], argTypes := #[25, 25] }, type := 25, pos := "roll.go:39", after := #[{ on := 3, ground := Ground.data }, { on := 8, ground := Ground.data }, { on := 6, ground := Ground.chain }], guard := none }) rfl (fun K hK => ?_) ?_
      · refine rs_append_run (by rfl) _ _ _ (by rfl) (by rfl) (by rfl) RUN.out ?_; go_simp
        refine hK.out _ _ ?hs10 (fun hS10 => ?_)
        case hs10 => ((try dsimp only); first | with_reducible exact ⟨x0, x1, x2⟩ | exact ⟨x0, x1, x2⟩ | exact y7 | exact y8 | exact y9 | exact y11)
        clear hK K hS9
        refine wpAnyH_take (i := 10) (oi := { dst := some 41, op := Op.build 59 #[(0, Operand.tmp 40)], type := 59, pos := "roll.go:39", after := #[{ on := 9, ground := Ground.data }], guard := none }) (v := ?_) rfl (by kernel_rfl) (by kernel_rfl) (by kernel_rfl) (fun _ _ _ h => h) (Or.inl ⟨by rfl, ?hy11⟩) hS10 ?_
        case hy11 => (intro w hSw; (try dsimp only at hSw); go_simp; try with_reducible rfl)
        try simp only [Act.put, List.setIfInBounds_toArray, List.set_cons_zero, List.set_cons_succ]
        refine wpAnyH_ready (rs := [11]) (by kernel_rfl) (by simp) ?_
        refine AllReadyH.cons (o := { dst := some 42, op := Op.box 59 (Operand.tmp 41), type := 24, pos := "roll.go:39", after := #[{ on := 10, ground := Ground.data }], guard := none }) rfl (fun K hK => ?_) ?_
        · go_simp
          refine hK.out _ _ ?hs12 (fun hS12 => ?_)
          case hs12 => ((try dsimp only); first | with_reducible exact ⟨x0, x1, x2⟩ | exact ⟨x0, x1, x2⟩ | exact y7 | exact y8 | exact y9 | exact y11)
          clear hK K hS10
          refine wpAnyH_take (i := 12) (oi := { dst := some 6, op := Op.assign (Operand.tmp 42), type := 24, pos := "roll.go:39", after := #[{ on := 11, ground := Ground.data }, { on := 9, ground := Ground.chain }, { on := 0, ground := Ground.phase }, { on := 1, ground := Ground.phase }, { on := 2, ground := Ground.phase }, { on := 3, ground := Ground.phase }, { on := 4, ground := Ground.phase }, { on := 5, ground := Ground.phase }, { on := 6, ground := Ground.phase }, { on := 7, ground := Ground.phase }, { on := 8, ground := Ground.phase }, { on := 9, ground := Ground.phase }, { on := 10, ground := Ground.phase }, { on := 11, ground := Ground.phase }], guard := none }) (v := ?_) rfl (by kernel_rfl) (by kernel_rfl) (by kernel_rfl) (fun _ _ _ h => h) (Or.inl ⟨by rfl, ?hy13⟩) hS12 ?_
          case hy13 => (intro w hSw; (try dsimp only at hSw); go_simp; try with_reducible rfl)
          try simp only [Act.put, List.setIfInBounds_toArray, List.set_cons_zero, List.set_cons_succ]
          refine wpAnyH_take (i := 13) (oi := { dst := some 7, op := Op.assign (Operand.const (Value.bool true)), type := 4, pos := "roll.go:39", after := #[{ on := 12, ground := Ground.chain }, { on := 0, ground := Ground.phase }, { on := 1, ground := Ground.phase }, { on := 2, ground := Ground.phase }, { on := 3, ground := Ground.phase }, { on := 4, ground := Ground.phase }, { on := 5, ground := Ground.phase }, { on := 6, ground := Ground.phase }, { on := 7, ground := Ground.phase }, { on := 8, ground := Ground.phase }, { on := 9, ground := Ground.phase }, { on := 10, ground := Ground.phase }, { on := 11, ground := Ground.phase }, { on := 12, ground := Ground.phase }], guard := none }) (v := ?_) rfl (by kernel_rfl) (by kernel_rfl) (by kernel_rfl) (fun _ _ _ h => h) (Or.inl ⟨by rfl, ?hy14⟩) hS12 ?_
          case hy14 => (intro w hSw; (try dsimp only at hSw); go_simp; try with_reducible rfl)
          try simp only [Act.put, List.setIfInBounds_toArray, List.set_cons_zero, List.set_cons_succ]
          refine wpAnyH_done (by kernel_rfl) ?_ _
          go_wp2_with fail
          go_ret2
          obtain ⟨cs9, h9, t9, p9⟩ := FIN.out
          exact ⟨_, rfl, cs9, h9, HWT2.out.trans t9, p9.low HWT2.out.size⟩
        exact AllReadyH.nil
      exact AllReadyH.nil
    exact AllReadyH.nil
  exact AllReadyH.nil
set_option maxRecDepth 100000 in
set_option maxHeartbeats 4000000 in
theorem add_no {w : World} {p : Option Addr} {l : List EV} {cs : Value} {o : Option Int} {x win : Int} (h : RollAt w p l) (hp : PlainTab 0 w cs o) (hx : x < 0 ∨ ∃ k e, k + 1 = l.length ∧ l[k]? = some e ∧ x ≤ e.id) :
    Calls Try.prog 11 #[.pointer p, .int .i64 x, .agg #[cs, .int .i64 win, .bool false]] w fun e w' => e = .returned (.tuple #[.pointer p, .bool false]) ∧ Turn (fun _ => False) w w' := by
  obtain ⟨ca, cn, cc, rfl⟩ := plain_slice hp
  have T0 : Turn (fun _ => False) w (w.alloc (.cells #[.slice ca cn cc, .int .i64 win, .bool false] 38)) := (Turn.refl _ w).alloc _
  have R := Lib.hid (row_is (h.turn T0))
  have TT := Lib.hid T0
  have HX := Lib.hid hx
  clear h hp T0 hx
  go_enter Try.func11, Try.ntmps11
  go_wp2_with fail
  refine R.out.mono ?_
  rintro e w1 ⟨v, rfl, hr, rfl⟩
  obtain ⟨W, hW⟩ : ∃ W, W = w.alloc (.cells #[.slice ca cn cc, .int .i64 win, .bool false] 38) := ⟨_, rfl⟩
  have HWT := TT.out
  rw [← hW] at hr HWT R ⊢
  obtain ⟨a, c, rfl, hg⟩ := own_slice hr.own
  have HR := Lib.hid hr
  have HWT2 := Lib.hid HWT
  clear hW R TT hr HWT
  by_cases hx0 : x < 0
  · have t1 : decide (x < 0) = true := by simpa using hx0
    go_wp2
    go_ret2
    exact ⟨rfl, HWT2.out⟩
  · have t1 : decide (x < 0) = false := by simpa using hx0
    obtain ⟨k, e, hk, he, hle⟩ := HX.out.resolve_left hx0
    obtain ⟨g, rfl⟩ := hg (by omega)
    have y0 := (HR.out.own.cellAt (k * 5) (by omega)).trans (ecells_at l k e he).1
    have hl := HR.out.lt
    have t2 : decide ((0 : Int) < (l.length : Int)) = true := by simp; omega
    have hl0 : 0 < l.length := by omega
    have t3 : decide (x ≤ e.id) = true := by simpa using hle
    have es : (l.length : Int) - 1 = (k : Int) := by omega
    have hk0 : (0 : Int) ≤ (k : Int) := by omega
    have hk1 : (k : Int) < (l.length : Int) := by omega
    have hwp : IntKind.i64.wrap (k : Int) = (k : Int) := IntWalk.i64_in _ (by omega)
    clear hk he HX
    go_wp2
    go_ret2
    exact ⟨rfl, HWT2.out⟩
end Go.Proofs.Ytbpcocobimdcnaa
