/-
  An entry's end: End, for the walks of the statements of layer 15.
-/
import Derived.Deep.RegionHeld3
import Derived.Test.YtbpcocobimdcnaaRf
namespace Go.Proofs.Ytbpcocobimdcnaa
open Go.ChangeShapes Go.WideShapes Go.ChangeAt Go.RowKit
set_option linter.unusedVariables false

theorem ecells_take : ∀ (l : List EV) (i : Nat), (ecells l).take (i * 5) = ecells (l.take i)
  | [], i => by simp [ecells]
  | e :: l, 0 => by simp [ecells]
  | e :: l, i + 1 => by
    rw [show (i + 1) * 5 = i * 5 + 5 from by omega]
    simp [ecells, EV.cells, ecells_take l i]
theorem ecells_drop : ∀ (l : List EV) (i : Nat), (ecells l).drop (i * 5) = ecells (l.drop i)
  | [], i => by simp [ecells]
  | e :: l, 0 => by simp [ecells]
  | e :: l, i + 1 => by
    rw [show (i + 1) * 5 = i * 5 + 5 from by omega]
    simp [ecells, EV.cells, ecells_drop l i]
theorem ecells_one {w : World} {l : List EV} (h : TabsAt w l) : ∀ u ∈ ecells l, u.oneCell' = true := fun u hu => by
  induction l with
  | nil => simp [ecells] at hu
  | cons e l ih =>
    simp only [ecells, List.mem_append] at hu
    rcases hu with hu | hu
    · simp [EV.cells] at hu
      rcases hu with rfl | rfl | rfl | rfl | rfl
      · rfl
      · rfl
      · exact plain_one (h e (List.mem_cons_self ..))
      · rfl
      · rfl
    · exact ih (fun e he => h e (List.mem_cons_of_mem _ he)) hu
set_option maxRecDepth 100000 in
/-- What lies behind a place put behind a row. -/
theorem rest_app {W : World} {b n q m g c : Nat} {v : Value} {xs ys : List Value} (h1 : W.ownsRow b 48 5 v m xs) (h2 : W.ownsRow 0 48 5 (.slice (some ⟨g, 0, none⟩) n c) n ys) (ho : ∀ u ∈ ys, u.oneCell' = true) (hq : q ≤ n) (hn : m + n ≤ 1000) (hb : b ≤ W.heap.size) :
    ∃ v' w', (Builtin.append_ #[25, 25] 25 #[v, .slice (some (if c = q then ⟨g, 0, none⟩ else ⟨g, q * 5, none⟩)) (n - q) (c - q)]).run Try.prog W = .ok v' w' ∧ w'.ownsRow b 48 5 v' (m + (n - q)) (xs ++ ys.drop (q * 5)) ∧ Turn (fun k => v.ownBlock = some k) W w' := by
  obtain ⟨i3, j1, j2, j3, j4⟩ := info_parts info48
  have hy := h2.1
  have hcn : n ≤ c := by
    rcases h2.2 with ⟨e, _⟩ | ⟨_, _, _, e, _, _, hc, _⟩
    · cases e
    · injection e with _ _ e
      omega
  obtain ⟨v', w', hrun, hown, hg, _⟩ := run_append_own W b 25 25 48 i3 _ 5 56 Try.underlying25 j1 j2 j3 j4 rfl (by decide) v m xs h1 (if c = q then ⟨g, 0, none⟩ else ⟨g, q * 5, none⟩) (n - q) (c - q) (ys.drop (q * 5)) (by rw [List.length_drop]; omega) (fun j u hu => by
    rw [List.getElem?_drop] at hu
    have hj := (List.getElem?_eq_some_iff.1 hu).1
    rw [if_neg (by omega), Go.WideShapes.add_plain]
    exact (h2.cellAt (q * 5 + j) (by omega)).trans hu) (fun u hu => ho u (List.mem_of_mem_drop hu)) (by unfold maxLen; omega) (by omega) hb
  exact ⟨v', w', hrun, hown, (Turn.refl _ W).grown hg (fun k hk => .inl hk)⟩
theorem turn_fresh {w wr wa : World} {v : Value} {e : TypeId} {s m : Nat} {xs : List Value} (T : Turn (fun _ => False) w wr) (hr : wr.ownsRow w.heap.size e s v m xs) (T2 : Turn (fun k => v.ownBlock = some k) wr wa) : Turn (fun _ => False) w wa :=
  ⟨T2.os.trans T.os, T2.tape.trans T.tape, T2.output.trans T.output, Nat.le_trans T.size T2.size, fun k hk _ => (T2.block k (Nat.lt_of_lt_of_le hk T.size) (fun e => by have := (hr.lt k e).1; omega)).trans (T.block k hk (fun f => f))⟩
theorem sorted_set {l : List EV} {i : Nat} {e e' : EV} (h : Sorted l) (he : l[i]? = some e) (hid : e'.id = e.id) : Sorted (l.set i e') := by
  have : (l.set i e').map EV.id = l.map EV.id := by
    rw [List.map_set, hid]
    refine List.ext_getElem? fun k => ?_
    rw [List.getElem?_set]
    split
    · next hk =>
      subst hk
      rw [List.getElem?_map, he]
      split
      · rfl
      · next hlt => exact absurd (List.getElem?_eq_some_iff.1 he).1 (by simpa using hlt)
    · rfl
  have h1 : (l.map EV.id).Pairwise (· < ·) := List.pairwise_map.2 h
  rw [← this] at h1
  exact List.pairwise_map.1 h1
/-- The cells of an entry at a block. -/
def At5 (w : World) (eb : Nat) (e : EV) : Prop := ∀ j u, e.cells[j]? = some u → w.cell? ⟨eb, j, none⟩ = some u
theorem At5.turn {w w' : World} {eb : Nat} {e : EV} (h : At5 w eb e) (t : Turn (fun _ => False) w w') : At5 w' eb e := fun j u hj => t.cell (fun f => f) (h j u hj)
theorem end_block {w W : World} {l : List EV} {i q g c eb : Nat} {e e' : EV} (hr : ERow W (.slice (some ⟨g, 0, none⟩) l.length c) l) (hs : Sorted l) (ht : TabsAt W l) (hm : l.length ≤ 200) (he : l[i]? = some e) (hq : q = i + 1) (hid : e'.id = e.id) (hcs : e'.cs = e.cs) (ho : e'.o = e.o) (hc : At5 W eb e') (T : Turn (fun _ => False) w W) :
    ∃ a6 c6 w6 a11 c11 w11, (Builtin.append_ #[25, 25] 25 #[.slice (some ⟨g, 0, none⟩) i i, .slice (some ⟨W.heap.size, 0, none⟩) 1 1]).run Try.prog (W.drew.alloc (.cells e'.cells.toArray 48)) = .ok (.slice a6 (i + 1) c6) w6 ∧
      (Builtin.append_ #[25, 25] 25 #[.slice a6 (i + 1) c6, .slice (some (if c = q then ⟨g, 0, none⟩ else ⟨g, q * 5, none⟩)) (l.length - q) (c - q)]).run Try.prog w6 = .ok (.slice a11 l.length c11) w11 ∧
      At5 (W.drew.alloc (.cells e'.cells.toArray 48)) eb e' ∧ At5 w6 eb e' ∧ At5 w11 eb e' ∧ At5 (w11.alloc (.cells #[.slice a11 l.length c11] 59)) eb e' ∧
      RollS (w11.alloc (.cells #[.slice a11 l.length c11] 59)) (some ⟨w11.heap.size, 0, none⟩) (l.set i e') ∧ Turn (fun _ => False) w (w11.alloc (.cells #[.slice a11 l.length c11] 59)) := by
  have hil := (List.getElem?_eq_some_iff.1 he).1
  have T5 : Turn (fun _ => False) W (W.drew.alloc (.cells e'.cells.toArray 48)) := ((Turn.refl _ W).drewN 1).alloc _
  have hpe := ht e (List.mem_of_getElem? he)
  have hown5 := own_turn hr.own T5 (fun _ _ h => h)
  obtain ⟨v6, w6, r6, o6, T6⟩ := entry_app (e := e') hown5 (n := i) (by omega) hm (by rw [hcs]; exact plain_one hpe) (t := W.heap.size) (fun j u hu => (World.cell?_alloc_new W.drew e'.cells.toArray 48 j).trans (by simpa using hu))
  obtain ⟨a6, c6, rfl, _⟩ := own_slice o6
  have o6' := row_low (b' := W.heap.size) o6 (by simp)
  obtain ⟨v11, w11, r11, o11, T11⟩ := rest_app (q := q) o6' (own_turn hown5 T6 (fun _ _ h => h)) (ecells_one ht) (by omega) (by omega) (Nat.le_trans T5.size T6.size)
  have e1 : (ecells l).take (i * 5) ++ e'.cells ++ (ecells l).drop (q * 5) = ecells (l.set i e') := by
    rw [ecells_take, ecells_drop, hq]
    have : l.set i e' = l.take i ++ e' :: l.drop (i + 1) := by rw [List.set_eq_take_append_cons_drop, if_pos hil]
    rw [this, ecells_app]
    simp [ecells]
  rw [e1, show i + 1 + (l.length - q) = l.length by omega] at o11
  obtain ⟨a11, c11, rfl, _⟩ := own_slice o11
  have T56 := T5.trans T6
  have T611 := turn_fresh T56 o6' T11
  have T13 : Turn (fun _ => False) w11 (w11.alloc (.cells #[.slice a11 l.length c11] 59)) := (Turn.refl _ w11).alloc _
  have TT := T611.trans T13
  refine ⟨a6, c6, w6, a11, c11, w11, r6, r11, hc.turn T5, hc.turn T56, hc.turn T611, hc.turn TT, ⟨.inr ⟨w11.heap.size, _, rfl, World.cell?_alloc_new w11 _ 59 0, ?_, ?_⟩, sorted_set hs he hid, fun x hx => ?_⟩, T.trans TT⟩
  · rw [List.length_set]
    exact own_turn (row_low o11 (Nat.zero_le _)) T13 (fun _ _ h => h)
  · rw [List.length_set]
    omega
  · rcases List.mem_or_eq_of_mem_set hx with hx | rfl
    · exact (ht x hx).turn TT
    · rw [hcs, ho]
      exact hpe.turn TT
set_option maxRecDepth 100000 in
set_option maxHeartbeats 4000000 in
theorem end_yes {w : World} {p : Option Addr} {l : List EV} {i : Nat} {e : EV} {at_ : Int} (h : RollS w p l) (hm : l.length ≤ 200) (he : l[i]? = some e) (hto : e.till = -1) (hat : e.id < at_) :
    Calls Try.prog 9 #[.pointer p, .int .i64 e.id, .int .i64 at_] w fun en w' => ∃ r, en = .returned (.tuple #[.pointer (some ⟨r, 0, none⟩), .bool true]) ∧ RollS w' (some ⟨r, 0, none⟩) (l.set i ⟨e.id, at_, e.cs, e.win, e.o⟩) ∧ Turn (fun _ => False) w w' := by
  have R := Lib.hid (row_is h.at_)
  have PL := Lib.hid (place_is h.at_ h.srt e.id)
  have HH := Lib.hid (And.intro h he)
  clear h he
  go_enter Try.func9, Try.ntmps9
  go_wp2_with fail
  refine R.out.mono ?_
  rintro en w1 ⟨v, rfl, hr, rfl⟩
  obtain ⟨a, c, rfl, hg⟩ := own_slice hr.own
  have HR := Lib.hid hr
  clear hr R
  go_wp2_with fail
  refine PL.out.mono ?_
  rintro en w2 ⟨i', rfl, hp, T2⟩
  have hii : i' = i := by
    have hil := (List.getElem?_eq_some_iff.1 HH.out.2).1
    by_cases h1 : i' < i
    · obtain ⟨e2, he2⟩ : ∃ e2, l[i']? = some e2 := ⟨_, List.getElem?_eq_getElem (by omega)⟩
      have := HH.out.1.srt.lt he2 HH.out.2 h1
      have := hp.2.2 i' e2 (Nat.le_refl _) he2
      omega
    · by_cases h2 : i < i'
      · have := hp.2.1 i e h2 HH.out.2
        omega
      · omega
  subst hii
  have hfb : foundB l e.id i' = true := by
    unfold foundB
    rw [HH.out.2]
    simp
  rw [hfb]
  have TT2 := Lib.hid T2
  have hil := (List.getElem?_eq_some_iff.1 HH.out.2).1
  obtain ⟨g, rfl⟩ := hg (by omega)
  have h2 := HH.out.1.turn T2
  have hr2 : ERow w2 (.slice (some ⟨g, 0, none⟩) l.length c) l := HR.out.turn T2
  obtain ⟨x0, x1, x2, x3, x4⟩ := ecells_at l i' e HH.out.2
  have y0 := (hr2.own.cellAt (i' * 5) (by omega)).trans x0
  have y1 := (hr2.own.cellAt (i' * 5 + 1) (by omega)).trans x1
  have y2 := (hr2.own.cellAt (i' * 5 + 2) (by omega)).trans x2
  have y3 := (hr2.own.cellAt (i' * 5 + 3) (by omega)).trans x3
  have y4 := (hr2.own.cellAt (i' * 5 + 4) (by omega)).trans x4
  rw [hto] at y1
  have hi1 : (i' : Int) < (l.length : Int) := by omega
  have hi0 : (0 : Int) ≤ (i' : Int) := by omega
  have t1 : decide (at_ ≤ e.id) = false := by simp; omega
  obtain ⟨ca, cn, cc, ecs⟩ := plain_slice (h2.tabs e (List.mem_of_getElem? HH.out.2))
  rw [ecs] at y2
  have H2 := Lib.hid (And.intro h2 hr2)
  have HC := Lib.hid (And.intro hto (And.intro hat (And.intro hil ecs)))
  clear hp T2 hfb x0 x1 x2 x3 x4 h2 hr2 PL hto hat ecs
  go_upto_region 7 with fail
  clear y0 y1 y2 y3 y4
  obtain ⟨W, hW⟩ : ∃ W, W = w2.alloc (.cells #[.int .i64 e.id, .int .i64 at_, .slice ca cn cc, .int .i64 e.win, .bool false] 48) := ⟨_, rfl⟩
  have TW : Turn (fun _ => False) w2 W := by rw [hW]; exact (Turn.refl _ _).alloc _
  have ecells : (EV.cells ⟨e.id, at_, e.cs, e.win, e.o⟩).toArray = #[.int .i64 e.id, .int .i64 at_, .slice ca cn cc, .int .i64 e.win, .bool false] := by
    unfold EV.cells
    dsimp only
    rw [HC.out.2.2.2]
  have h5 : At5 W w2.heap.size ⟨e.id, at_, e.cs, e.win, e.o⟩ := fun j u hj => by
    rw [hW]
    refine (World.cell?_alloc_new w2 _ 48 j).trans ?_
    rw [← ecells]
    simpa using hj
  obtain ⟨q, hq⟩ : ∃ q, q = i' + 1 := ⟨_, rfl⟩
  obtain ⟨a6, c6, w6, a11, c11, w11, r6, r11, k5, k6, k11, k13, fin, tfin⟩ := end_block (w := w1) (e' := ⟨e.id, at_, e.cs, e.win, e.o⟩) (H2.out.2.turn TW) H2.out.1.srt (H2.out.1.tabs.turn TW) hm HH.out.2 hq rfl rfl rfl h5 (TT2.out.trans TW)
  rw [ecells] at r6 k5
  have sp : ∀ (V : World), At5 V w2.heap.size ⟨e.id, at_, e.cs, e.win, e.o⟩ → V.cell? ⟨w2.heap.size, 0, none⟩ = some (.int .i64 e.id) ∧ V.cell? ⟨w2.heap.size, 1, none⟩ = some (.int .i64 at_) ∧ V.cell? ⟨w2.heap.size, 2, none⟩ = some (.slice ca cn cc) ∧ V.cell? ⟨w2.heap.size, 3, none⟩ = some (.int .i64 e.win) ∧ V.cell? ⟨w2.heap.size, 4, none⟩ = some (.bool false) := fun V h => ⟨h 0 _ rfl, h 1 _ rfl, h 2 _ (by unfold EV.cells; dsimp only; rw [HC.out.2.2.2]; rfl), h 3 _ rfl, h 4 _ rfl⟩
  have c0 := sp W h5
  have k5 := sp _ k5
  have k6 := sp _ k6
  have k11 := sp _ k11
  have k13 := sp _ k13
  have hcn : l.length ≤ c := by
    rcases HR.out.own.2 with ⟨e, e2⟩ | ⟨g, cap, cur, e, _, _, hc, _⟩
    · omega
    · injection e with _ _ e
      omega
  rw [← hW]
  have es : (i' : Int) + 1 = (q : Int) := by omega
  have hqn : q ≤ l.length := by have := HC.out.2.2.1; omega
  have hq1 : (q : Int) ≤ (l.length : Int) := by omega
  have hq0 : (0 : Int) ≤ (q : Int) := by omega
  have hqc : (q : Int) ≤ (c : Int) := by omega
  have hic : (i' : Int) ≤ (c : Int) := by omega
  have hwq : IntKind.i64.wrap (q : Int) = (q : Int) := IntWalk.i64_in _ (by omega)
  obtain ⟨n, hn⟩ : ∃ n, n = l.length := ⟨_, rfl⟩
  rw [← hn] at r11 hcn hqn hq1 hi1 fin tfin k13 ⊢
  have FIN := Lib.hid (And.intro fin tfin)
  clear sp h5 TW hW ecells fin tfin H2 HC HH TT2 hil hn hq
  generalize w2.heap.size = eb at *
  by_cases hck : c = q
  · obtain rfl : n = q := by omega
    obtain rfl : c = n := hck
    simp only [↓reduceIte, Nat.sub_self] at r11
    have RUN6 := Lib.hid r6
    have RUN11 := Lib.hid r11
    clear r6 r11 hcn hqn
    refine wp_region_held_drew (S := (fun w' => w'.cell? ⟨eb, 0, none⟩ = some (.int .i64 e.id) ∧ w'.cell? ⟨eb, 1, none⟩ = some (.int .i64 at_) ∧ w'.cell? ⟨eb, 2, none⟩ = some (.slice ca cn cc) ∧ w'.cell? ⟨eb, 3, none⟩ = some (.int .i64 e.win) ∧ w'.cell? ⟨eb, 4, none⟩ = some (.bool false))) (by kernel_rfl) ?hs0 (fun hS0 => ?_)
    case hs0 => ((try dsimp only); first | with_reducible exact c0 | exact c0 | exact k5 | exact k6 | exact k11 | exact k13)
    refine wpAnyH_take (i := 0) (oi := { dst := some 42, op := Op.move (Operand.tmp 8), type := 25, pos := "roll.go:51", after := #[], guard := none }) (v := ?_) rfl (by kernel_rfl) (by kernel_rfl) (by kernel_rfl) (fun _ _ _ h => h) (Or.inl ⟨by rfl, ?hy1⟩) hS0 ?_
    case hy1 => (intro w hSw; (try dsimp only at hSw); go_simp; try with_reducible rfl)
    try simp only [Act.put, List.setIfInBounds_toArray, List.set_cons_zero, List.set_cons_succ]
    refine wpAnyH_take (i := 1) (oi := { dst := some 43, op := Op.move (Operand.tmp 9), type := 3, pos := "roll.go:51", after := #[], guard := none }) (v := ?_) rfl (by kernel_rfl) (by kernel_rfl) (by kernel_rfl) (fun _ _ _ h => h) (Or.inl ⟨by rfl, ?hy2⟩) hS0 ?_
    case hy2 => (intro w hSw; (try dsimp only at hSw); go_simp; try with_reducible rfl)
    try simp only [Act.put, List.setIfInBounds_toArray, List.set_cons_zero, List.set_cons_succ]
    refine wpAnyH_take (i := 2) (oi := { dst := some 44, op := Op.move (Operand.tmp 9), type := 3, pos := "roll.go:51", after := #[], guard := none }) (v := ?_) rfl (by kernel_rfl) (by kernel_rfl) (by kernel_rfl) (fun _ _ _ h => h) (Or.inl ⟨by rfl, ?hy3⟩) hS0 ?_
    case hy3 => (intro w hSw; (try dsimp only at hSw); go_simp; try with_reducible rfl)
    try simp only [Act.put, List.setIfInBounds_toArray, List.set_cons_zero, List.set_cons_succ]
    refine wpAnyH_take (i := 3) (oi := { dst := some 45, op := Op.slice 25 (Operand.tmp 42) none (some (Operand.tmp 43)) (some (Operand.tmp 44)), type := 25, pos := "roll.go:51", after := #[{ on := 0, ground := Ground.data }, { on := 1, ground := Ground.data }, { on := 2, ground := Ground.data }], guard := none }) (v := ?_) rfl (by kernel_rfl) (by kernel_rfl) (by kernel_rfl) (fun _ _ _ h => h) (Or.inl ⟨by rfl, ?hy4⟩) hS0 ?_
    case hy4 => (intro w hSw; (try dsimp only at hSw); go_simp; try with_reducible rfl)
    try simp only [Act.put, List.setIfInBounds_toArray, List.set_cons_zero, List.set_cons_succ]
    refine wpAnyH_take (i := 4) (oi := { dst := some 46, op := Op.load 48 (Operand.tmp 11), type := 48, pos := "roll.go:51", after := #[], guard := none }) (v := ?_) rfl (by kernel_rfl) (by kernel_rfl) (by kernel_rfl) (fun _ _ _ h => h) (Or.inl ⟨by rfl, ?hy5⟩) hS0 ?_
    case hy5 => (intro w hSw; (try dsimp only at hSw); go_simp; try with_reducible rfl)
    try simp only [Act.put, List.setIfInBounds_toArray, List.set_cons_zero, List.set_cons_succ]
    refine wpAnyH_take (i := 7) (oi := { dst := some 49, op := Op.move (Operand.tmp 8), type := 25, pos := "roll.go:51", after := #[], guard := none }) (v := ?_) rfl (by kernel_rfl) (by kernel_rfl) (by kernel_rfl) (fun _ _ _ h => h) (Or.inl ⟨by rfl, ?hy6⟩) hS0 ?_
    case hy6 => (intro w hSw; (try dsimp only at hSw); go_simp; try with_reducible rfl)
    try simp only [Act.put, List.setIfInBounds_toArray, List.set_cons_zero, List.set_cons_succ]
    refine wpAnyH_take (i := 8) (oi := { dst := some 50, op := Op.move (Operand.tmp 9), type := 3, pos := "roll.go:51", after := #[], guard := none }) (v := ?_) rfl (by kernel_rfl) (by kernel_rfl) (by kernel_rfl) (fun _ _ _ h => h) (Or.inl ⟨by rfl, ?hy7⟩) hS0 ?_
    case hy7 => (intro w hSw; (try dsimp only at hSw); go_simp; try with_reducible rfl)
    try simp only [Act.put, List.setIfInBounds_toArray, List.set_cons_zero, List.set_cons_succ]
    refine wpAnyH_take (i := 9) (oi := { dst := some 51, op := Op.binOp BinOp.add 3 (Operand.tmp 50) (Operand.const (Value.int IntKind.i64 1)) 3, type := 3, pos := "roll.go:51", after := #[{ on := 8, ground := Ground.data }], guard := none }) (v := ?_) rfl (by kernel_rfl) (by kernel_rfl) (by kernel_rfl) (fun _ _ _ h => h) (Or.inl ⟨by rfl, ?hy8⟩) hS0 ?_
    case hy8 => (intro w hSw; (try dsimp only at hSw); go_simp; try with_reducible rfl)
    try simp only [Act.put, List.setIfInBounds_toArray, List.set_cons_zero, List.set_cons_succ]
    refine wpAnyH_take (i := 10) (oi := { dst := some 52, op := Op.slice 25 (Operand.tmp 49) (some (Operand.tmp 51)) none none, type := 25, pos := "roll.go:51", after := #[{ on := 7, ground := Ground.data }, { on := 9, ground := Ground.data }], guard := none }) (v := ?_) rfl (by kernel_rfl) (by kernel_rfl) (by kernel_rfl) (fun _ _ _ h => h) (Or.inl ⟨by rfl, ?hy9⟩) hS0 ?_
    case hy9 => (intro w hSw; (try dsimp only at hSw); go_simp; try with_reducible rfl)
    try simp only [Act.put, List.setIfInBounds_toArray, List.set_cons_zero, List.set_cons_succ]
    refine wpAnyH_ready (rs := [5]) (by kernel_rfl) (by simp) ?_
    refine AllReadyH.cons (o := { dst := some 47, op := Op.buildSlice 25 1 #[(0, Operand.tmp 46)], type := 25, pos := "roll.go:51", after := #[{ on := 4, ground := Ground.data }], guard := none }) rfl (fun K hK => ?_) ?_
    · go_simp
      refine hK.out _ _ ?hs10 (fun hS10 => ?_)
      case hs10 => ((try dsimp only); first | with_reducible exact c0 | exact c0 | exact k5 | exact k6 | exact k11 | exact k13)
      clear hK K hS0
      refine wpAnyH_ready (rs := [6]) (by kernel_rfl) (by simp) ?_
      refine AllReadyH.cons (o := { dst := some 48, op := Op.call { callee := Callee.builtin Builtin.append, args := #[Operand.tmp 45, Operand.tmp 47], argTypes := #[25, 25] }, type := 25, pos := "roll.go:51", after := #[{ on := 3, ground := Ground.data }, { on := 5, ground := Ground.data }], guard := none }) rfl (fun K hK => ?_) ?_
      · refine rs_append_run (by rfl) _ _ _ (by rfl) (by rfl) (by rfl) RUN6.out ?_; go_simp
        refine hK.out _ _ ?hs11 (fun hS11 => ?_)
        case hs11 => ((try dsimp only); first | with_reducible exact c0 | exact c0 | exact k5 | exact k6 | exact k11 | exact k13)
        clear hK K hS10
        refine wpAnyH_ready (rs := [11]) (by kernel_rfl) (by simp) ?_
        refine AllReadyH.cons (o := { dst := some 53, op := Op.call { callee := Callee.builtin Builtin.append, args := #[Operand.tmp 48, Operand.tmp 52], argTypes := #[25, 25] }, type := 25, pos := "roll.go:51", after := #[{ on := 6, ground := Ground.data }, { on := 10, ground := Ground.data }, { on := 6, ground := Ground.chain }], guard := none }) rfl (fun K hK => ?_) ?_
        · refine rs_append_run (by rfl) _ _ _ (by rfl) (by rfl) (by rfl) RUN11.out ?_; go_simp
          refine hK.out _ _ ?hs12 (fun hS12 => ?_)
          case hs12 => ((try dsimp only); first | with_reducible exact c0 | exact c0 | exact k5 | exact k6 | exact k11 | exact k13)
          clear hK K hS11
          refine wpAnyH_take (i := 12) (oi := { dst := some 54, op := Op.build 59 #[(0, Operand.tmp 53)], type := 59, pos := "roll.go:51", after := #[{ on := 11, ground := Ground.data }], guard := none }) (v := ?_) rfl (by kernel_rfl) (by kernel_rfl) (by kernel_rfl) (fun _ _ _ h => h) (Or.inl ⟨by rfl, ?hy13⟩) hS12 ?_
          case hy13 => (intro w hSw; (try dsimp only at hSw); go_simp; try with_reducible rfl)
          try simp only [Act.put, List.setIfInBounds_toArray, List.set_cons_zero, List.set_cons_succ]
          refine wpAnyH_ready (rs := [13]) (by kernel_rfl) (by simp) ?_
          refine AllReadyH.cons (o := { dst := some 55, op := Op.box 59 (Operand.tmp 54), type := 24, pos := "roll.go:51", after := #[{ on := 12, ground := Ground.data }], guard := none }) rfl (fun K hK => ?_) ?_
          · go_simp
            refine hK.out _ _ ?hs14 (fun hS14 => ?_)
            case hs14 => ((try dsimp only); first | with_reducible exact c0 | exact c0 | exact k5 | exact k6 | exact k11 | exact k13)
            clear hK K hS12
            refine wpAnyH_take (i := 14) (oi := { dst := some 6, op := Op.assign (Operand.tmp 55), type := 24, pos := "roll.go:51", after := #[{ on := 13, ground := Ground.data }, { on := 11, ground := Ground.chain }, { on := 0, ground := Ground.phase }, { on := 1, ground := Ground.phase }, { on := 2, ground := Ground.phase }, { on := 3, ground := Ground.phase }, { on := 4, ground := Ground.phase }, { on := 5, ground := Ground.phase }, { on := 6, ground := Ground.phase }, { on := 7, ground := Ground.phase }, { on := 8, ground := Ground.phase }, { on := 9, ground := Ground.phase }, { on := 10, ground := Ground.phase }, { on := 11, ground := Ground.phase }, { on := 12, ground := Ground.phase }, { on := 13, ground := Ground.phase }], guard := none }) (v := ?_) rfl (by kernel_rfl) (by kernel_rfl) (by kernel_rfl) (fun _ _ _ h => h) (Or.inl ⟨by rfl, ?hy15⟩) hS14 ?_
            case hy15 => (intro w hSw; (try dsimp only at hSw); go_simp; try with_reducible rfl)
            try simp only [Act.put, List.setIfInBounds_toArray, List.set_cons_zero, List.set_cons_succ]
            refine wpAnyH_take (i := 15) (oi := { dst := some 7, op := Op.assign (Operand.const (Value.bool true)), type := 4, pos := "roll.go:51", after := #[{ on := 14, ground := Ground.chain }, { on := 0, ground := Ground.phase }, { on := 1, ground := Ground.phase }, { on := 2, ground := Ground.phase }, { on := 3, ground := Ground.phase }, { on := 4, ground := Ground.phase }, { on := 5, ground := Ground.phase }, { on := 6, ground := Ground.phase }, { on := 7, ground := Ground.phase }, { on := 8, ground := Ground.phase }, { on := 9, ground := Ground.phase }, { on := 10, ground := Ground.phase }, { on := 11, ground := Ground.phase }, { on := 12, ground := Ground.phase }, { on := 13, ground := Ground.phase }, { on := 14, ground := Ground.phase }], guard := none }) (v := ?_) rfl (by kernel_rfl) (by kernel_rfl) (by kernel_rfl) (fun _ _ _ h => h) (Or.inl ⟨by rfl, ?hy16⟩) hS14 ?_
            case hy16 => (intro w hSw; (try dsimp only at hSw); go_simp; try with_reducible rfl)
            try simp only [Act.put, List.setIfInBounds_toArray, List.set_cons_zero, List.set_cons_succ]
            refine wpAnyH_done (by kernel_rfl) ?_ _
            go_wp2_with fail
            go_ret2
            exact ⟨_, rfl, FIN.out⟩
          exact AllReadyH.nil
        exact AllReadyH.nil
      exact AllReadyH.nil
    exact AllReadyH.nil
  · rw [if_neg hck] at r11
    have RUN6 := Lib.hid r6
    have RUN11 := Lib.hid r11
    clear r6 r11 hcn hqn
    refine wp_region_held_drew (S := (fun w' => w'.cell? ⟨eb, 0, none⟩ = some (.int .i64 e.id) ∧ w'.cell? ⟨eb, 1, none⟩ = some (.int .i64 at_) ∧ w'.cell? ⟨eb, 2, none⟩ = some (.slice ca cn cc) ∧ w'.cell? ⟨eb, 3, none⟩ = some (.int .i64 e.win) ∧ w'.cell? ⟨eb, 4, none⟩ = some (.bool false))) (by kernel_rfl) ?hs0 (fun hS0 => ?_)
    case hs0 => ((try dsimp only); first | with_reducible exact c0 | exact c0 | exact k5 | exact k6 | exact k11 | exact k13)
    refine wpAnyH_take (i := 0) (oi := { dst := some 42, op := Op.move (Operand.tmp 8), type := 25, pos := "roll.go:51", after := #[], guard := none }) (v := ?_) rfl (by kernel_rfl) (by kernel_rfl) (by kernel_rfl) (fun _ _ _ h => h) (Or.inl ⟨by rfl, ?hy1⟩) hS0 ?_
    case hy1 => (intro w hSw; (try dsimp only at hSw); go_simp; try with_reducible rfl)
    try simp only [Act.put, List.setIfInBounds_toArray, List.set_cons_zero, List.set_cons_succ]
    refine wpAnyH_take (i := 1) (oi := { dst := some 43, op := Op.move (Operand.tmp 9), type := 3, pos := "roll.go:51", after := #[], guard := none }) (v := ?_) rfl (by kernel_rfl) (by kernel_rfl) (by kernel_rfl) (fun _ _ _ h => h) (Or.inl ⟨by rfl, ?hy2⟩) hS0 ?_
    case hy2 => (intro w hSw; (try dsimp only at hSw); go_simp; try with_reducible rfl)
    try simp only [Act.put, List.setIfInBounds_toArray, List.set_cons_zero, List.set_cons_succ]
    refine wpAnyH_take (i := 2) (oi := { dst := some 44, op := Op.move (Operand.tmp 9), type := 3, pos := "roll.go:51", after := #[], guard := none }) (v := ?_) rfl (by kernel_rfl) (by kernel_rfl) (by kernel_rfl) (fun _ _ _ h => h) (Or.inl ⟨by rfl, ?hy3⟩) hS0 ?_
    case hy3 => (intro w hSw; (try dsimp only at hSw); go_simp; try with_reducible rfl)
    try simp only [Act.put, List.setIfInBounds_toArray, List.set_cons_zero, List.set_cons_succ]
    refine wpAnyH_take (i := 3) (oi := { dst := some 45, op := Op.slice 25 (Operand.tmp 42) none (some (Operand.tmp 43)) (some (Operand.tmp 44)), type := 25, pos := "roll.go:51", after := #[{ on := 0, ground := Ground.data }, { on := 1, ground := Ground.data }, { on := 2, ground := Ground.data }], guard := none }) (v := ?_) rfl (by kernel_rfl) (by kernel_rfl) (by kernel_rfl) (fun _ _ _ h => h) (Or.inl ⟨by rfl, ?hy4⟩) hS0 ?_
    case hy4 => (intro w hSw; (try dsimp only at hSw); go_simp; try with_reducible rfl)
    try simp only [Act.put, List.setIfInBounds_toArray, List.set_cons_zero, List.set_cons_succ]
    refine wpAnyH_take (i := 4) (oi := { dst := some 46, op := Op.load 48 (Operand.tmp 11), type := 48, pos := "roll.go:51", after := #[], guard := none }) (v := ?_) rfl (by kernel_rfl) (by kernel_rfl) (by kernel_rfl) (fun _ _ _ h => h) (Or.inl ⟨by rfl, ?hy5⟩) hS0 ?_
    case hy5 => (intro w hSw; (try dsimp only at hSw); go_simp; try with_reducible rfl)
    try simp only [Act.put, List.setIfInBounds_toArray, List.set_cons_zero, List.set_cons_succ]
    refine wpAnyH_take (i := 7) (oi := { dst := some 49, op := Op.move (Operand.tmp 8), type := 25, pos := "roll.go:51", after := #[], guard := none }) (v := ?_) rfl (by kernel_rfl) (by kernel_rfl) (by kernel_rfl) (fun _ _ _ h => h) (Or.inl ⟨by rfl, ?hy6⟩) hS0 ?_
    case hy6 => (intro w hSw; (try dsimp only at hSw); go_simp; try with_reducible rfl)
    try simp only [Act.put, List.setIfInBounds_toArray, List.set_cons_zero, List.set_cons_succ]
    refine wpAnyH_take (i := 8) (oi := { dst := some 50, op := Op.move (Operand.tmp 9), type := 3, pos := "roll.go:51", after := #[], guard := none }) (v := ?_) rfl (by kernel_rfl) (by kernel_rfl) (by kernel_rfl) (fun _ _ _ h => h) (Or.inl ⟨by rfl, ?hy7⟩) hS0 ?_
    case hy7 => (intro w hSw; (try dsimp only at hSw); go_simp; try with_reducible rfl)
    try simp only [Act.put, List.setIfInBounds_toArray, List.set_cons_zero, List.set_cons_succ]
    refine wpAnyH_take (i := 9) (oi := { dst := some 51, op := Op.binOp BinOp.add 3 (Operand.tmp 50) (Operand.const (Value.int IntKind.i64 1)) 3, type := 3, pos := "roll.go:51", after := #[{ on := 8, ground := Ground.data }], guard := none }) (v := ?_) rfl (by kernel_rfl) (by kernel_rfl) (by kernel_rfl) (fun _ _ _ h => h) (Or.inl ⟨by rfl, ?hy8⟩) hS0 ?_
    case hy8 => (intro w hSw; (try dsimp only at hSw); go_simp; try with_reducible rfl)
    try simp only [Act.put, List.setIfInBounds_toArray, List.set_cons_zero, List.set_cons_succ]
    refine wpAnyH_take (i := 10) (oi := { dst := some 52, op := Op.slice 25 (Operand.tmp 49) (some (Operand.tmp 51)) none none, type := 25, pos := "roll.go:51", after := #[{ on := 7, ground := Ground.data }, { on := 9, ground := Ground.data }], guard := none }) (v := ?_) rfl (by kernel_rfl) (by kernel_rfl) (by kernel_rfl) (fun _ _ _ h => h) (Or.inl ⟨by rfl, ?hy9⟩) hS0 ?_
    case hy9 => (intro w hSw; (try dsimp only at hSw); go_simp; try with_reducible rfl)
    try simp only [Act.put, List.setIfInBounds_toArray, List.set_cons_zero, List.set_cons_succ]
    refine wpAnyH_ready (rs := [5]) (by kernel_rfl) (by simp) ?_
    refine AllReadyH.cons (o := { dst := some 47, op := Op.buildSlice 25 1 #[(0, Operand.tmp 46)], type := 25, pos := "roll.go:51", after := #[{ on := 4, ground := Ground.data }], guard := none }) rfl (fun K hK => ?_) ?_
    · go_simp
      refine hK.out _ _ ?hs10 (fun hS10 => ?_)
      case hs10 => ((try dsimp only); first | with_reducible exact c0 | exact c0 | exact k5 | exact k6 | exact k11 | exact k13)
      clear hK K hS0
      refine wpAnyH_ready (rs := [6]) (by kernel_rfl) (by simp) ?_
      refine AllReadyH.cons (o := { dst := some 48, op := Op.call { callee := Callee.builtin Builtin.append, args := #[Operand.tmp 45, Operand.tmp 47], argTypes := #[25, 25] }, type := 25, pos := "roll.go:51", after := #[{ on := 3, ground := Ground.data }, { on := 5, ground := Ground.data }], guard := none }) rfl (fun K hK => ?_) ?_
      · refine rs_append_run (by rfl) _ _ _ (by rfl) (by rfl) (by rfl) RUN6.out ?_; go_simp
        refine hK.out _ _ ?hs11 (fun hS11 => ?_)
        case hs11 => ((try dsimp only); first | with_reducible exact c0 | exact c0 | exact k5 | exact k6 | exact k11 | exact k13)
        clear hK K hS10
        refine wpAnyH_ready (rs := [11]) (by kernel_rfl) (by simp) ?_
        refine AllReadyH.cons (o := { dst := some 53, op := Op.call { callee := Callee.builtin Builtin.append, args := #[Operand.tmp 48, Operand.tmp 52], argTypes := #[25, 25] }, type := 25, pos := "roll.go:51", after := #[{ on := 6, ground := Ground.data }, { on := 10, ground := Ground.data }, { on := 6, ground := Ground.chain }], guard := none }) rfl (fun K hK => ?_) ?_
        · refine rs_append_run (by rfl) _ _ _ (by rfl) (by rfl) (by rfl) RUN11.out ?_; go_simp
          refine hK.out _ _ ?hs12 (fun hS12 => ?_)
          case hs12 => ((try dsimp only); first | with_reducible exact c0 | exact c0 | exact k5 | exact k6 | exact k11 | exact k13)
          clear hK K hS11
          refine wpAnyH_take (i := 12) (oi := { dst := some 54, op := Op.build 59 #[(0, Operand.tmp 53)], type := 59, pos := "roll.go:51", after := #[{ on := 11, ground := Ground.data }], guard := none }) (v := ?_) rfl (by kernel_rfl) (by kernel_rfl) (by kernel_rfl) (fun _ _ _ h => h) (Or.inl ⟨by rfl, ?hy13⟩) hS12 ?_
          case hy13 => (intro w hSw; (try dsimp only at hSw); go_simp; try with_reducible rfl)
          try simp only [Act.put, List.setIfInBounds_toArray, List.set_cons_zero, List.set_cons_succ]
          refine wpAnyH_ready (rs := [13]) (by kernel_rfl) (by simp) ?_
          refine AllReadyH.cons (o := { dst := some 55, op := Op.box 59 (Operand.tmp 54), type := 24, pos := "roll.go:51", after := #[{ on := 12, ground := Ground.data }], guard := none }) rfl (fun K hK => ?_) ?_
          · go_simp
            refine hK.out _ _ ?hs14 (fun hS14 => ?_)
            case hs14 => ((try dsimp only); first | with_reducible exact c0 | exact c0 | exact k5 | exact k6 | exact k11 | exact k13)
            clear hK K hS12
            refine wpAnyH_take (i := 14) (oi := { dst := some 6, op := Op.assign (Operand.tmp 55), type := 24, pos := "roll.go:51", after := #[{ on := 13, ground := Ground.data }, { on := 11, ground := Ground.chain }, { on := 0, ground := Ground.phase }, { on := 1, ground := Ground.phase }, { on := 2, ground := Ground.phase }, { on := 3, ground := Ground.phase }, { on := 4, ground := Ground.phase }, { on := 5, ground := Ground.phase }, { on := 6, ground := Ground.phase }, { on := 7, ground := Ground.phase }, { on := 8, ground := Ground.phase }, { on := 9, ground := Ground.phase }, { on := 10, ground := Ground.phase }, { on := 11, ground := Ground.phase }, { on := 12, ground := Ground.phase }, { on := 13, ground := Ground.phase }], guard := none }) (v := ?_) rfl (by kernel_rfl) (by kernel_rfl) (by kernel_rfl) (fun _ _ _ h => h) (Or.inl ⟨by rfl, ?hy15⟩) hS14 ?_
            case hy15 => (intro w hSw; (try dsimp only at hSw); go_simp; try with_reducible rfl)
            try simp only [Act.put, List.setIfInBounds_toArray, List.set_cons_zero, List.set_cons_succ]
            refine wpAnyH_take (i := 15) (oi := { dst := some 7, op := Op.assign (Operand.const (Value.bool true)), type := 4, pos := "roll.go:51", after := #[{ on := 14, ground := Ground.chain }, { on := 0, ground := Ground.phase }, { on := 1, ground := Ground.phase }, { on := 2, ground := Ground.phase }, { on := 3, ground := Ground.phase }, { on := 4, ground := Ground.phase }, { on := 5, ground := Ground.phase }, { on := 6, ground := Ground.phase }, { on := 7, ground := Ground.phase }, { on := 8, ground := Ground.phase }, { on := 9, ground := Ground.phase }, { on := 10, ground := Ground.phase }, { on := 11, ground := Ground.phase }, { on := 12, ground := Ground.phase }, { on := 13, ground := Ground.phase }, { on := 14, ground := Ground.phase }], guard := none }) (v := ?_) rfl (by kernel_rfl) (by kernel_rfl) (by kernel_rfl) (fun _ _ _ h => h) (Or.inl ⟨by rfl, ?hy16⟩) hS14 ?_
            case hy16 => (intro w hSw; (try dsimp only at hSw); go_simp; try with_reducible rfl)
            try simp only [Act.put, List.setIfInBounds_toArray, List.set_cons_zero, List.set_cons_succ]
            refine wpAnyH_done (by kernel_rfl) ?_ _
            go_wp2_with fail
            go_ret2
            exact ⟨_, rfl, FIN.out⟩
          exact AllReadyH.nil
        exact AllReadyH.nil
      exact AllReadyH.nil
    exact AllReadyH.nil
end Go.Proofs.Ytbpcocobimdcnaa
