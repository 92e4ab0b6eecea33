/-
  New epochs, an advance, and a ref that is retired: contracts for the walks of the statements of layer 12.
-/
import Derived.Test.YtgfobgabdafclaaGreatEpo
namespace Go.Proofs.YtgfobgabdafclaaGreat
open Go.ChangeShapes Go.WideShapes Go.ChangeAt Go.RowKit
set_option linter.unusedVariables false

theorem info101 : (Tryz.prog.info? 372).map (fun i => (i.zero, i.size, i.bytes)) = some (some (.slice none 0 0), 1, 24) := by kernel_rfl
theorem info103 : (Tryz.prog.info? 374).map (fun i => (i.zero, i.size, i.bytes)) = some (some (.agg #[.int .i64 0, .int .i64 0, .int .i64 0]), 3, 24) := by kernel_rfl

theorem Blk.newA {w : World} {cs : Array Value} {t : TypeId} {b : Nat} (hb : b = w.heap.size) : Blk (w.alloc (.cells cs t)) b t := by
  subst hb
  exact ⟨cs, by show (Array.push _ _)[_]? = _; simp⟩
theorem Blk.alloc {w : World} {t : TypeId} {b : Nat} (h : Blk w b t) (o : Obj) : Blk (w.alloc o) b t := h.turn ((Turn.refl (fun _ => False) w).alloc o) (fun f => f)
theorem epo_new (n : Nat) (h1 : 1 ≤ n) (h16 : n ≤ 16) (w : World) : Calls Tryz.prog 60 #[.int .i64 (n : Int)] w fun e w' => e = .returned (.pointer (some ⟨w.heap.size + 1, 0, none⟩)) ∧ Epo w' (w.heap.size + 1) w.heap.size n (w.heap.size + 2) 0 (fun _ => -1) (fun _ => .slice none 0 0) (fun _ => []) ∧ Below w.heap.size w w' ∧ w'.heap.size = w.heap.size + 2 ∧ Blk w' (w.heap.size + 1) 213 ∧ Blk w' w.heap.size 372 := by
  obtain ⟨i, hi, hz, hs, hb⟩ := info_parts info101
  have hmk : ∀ w, (Instr.makeSlice 210 (.int .i64 (n : Int)) (.int .i64 (n : Int))).run Tryz.prog w = .ok (.slice (some ⟨w.heap.size, 0, none⟩) n n) (w.alloc (.cells (madeCells #[.slice none 0 0] n) 372)) := fun w => by
    have := run_make (P := Tryz.prog) w 210 372 i (.slice none 0 0) Tryz.underlying210 hi hz .i64 .i64 (n : Int) (n : Int) (by omega) (by omega) (by rw [hb]; omega) (by omega)
    rw [hs] at this
    simpa [Value.cells] using this
  clear hi hz hs hb
  have c1 : ¬ (n : Int) < 1 := by omega
  have c2 : ¬ (16 : Int) < (n : Int) := by omega
  go_enter Tryz.func60, Tryz.ntmps60
  go_wp2
  go_rounds 17
  go_ret
  refine ⟨rfl, ⟨by omega, by omega, by omega, by simp, World.cell?_alloc2_new .., fun k hk => ?_, World.cell?_alloc2_new .., fun a ha => ?_, fun i => ?_, fun i => ?_, fun a ha => World.ownsRow_nil _ _ _ _, fun a b _ _ _ => .inl rfl, h16, by decide⟩, by go_grown, by simp, Blk.newA (by simp), (Blk.newA rfl).alloc _⟩
  · have : k = 0 ∨ k = 1 ∨ k = 2 ∨ k = 3 ∨ k = 4 ∨ k = 5 ∨ k = 6 ∨ k = 7 ∨ k = 8 ∨ k = 9 ∨ k = 10 ∨ k = 11 ∨ k = 12 ∨ k = 13 ∨ k = 14 ∨ k = 15 := by omega
    rcases this with rfl | rfl | rfl | rfl | rfl | rfl | rfl | rfl | rfl | rfl | rfl | rfl | rfl | rfl | rfl | rfl <;> exact World.cell?_alloc2_new ..
  · refine (World.cell?_alloc2_first ..).trans ?_
    simp [madeCells, ha, Nat.mod_one]
  · rw [frozen?_alloc_cells, frozen?_alloc_cells]
    exact fz _ (by omega)
  · rw [frozen?_alloc_cells, frozen?_alloc_cells]
    exact fz _ (by omega)

section
variable {w w' : World} {x lb n base : Nat} {now : Int} {P : Nat → Int} {V : Nat → Value} {Q : Nat → List (Int × Int × Int)}

def AdvRel (n : Nat) (P : Nat → Int) (now : Int) (v : Value) : Prop := ∃ k : Nat, v = .int .i64 (k : Int) ∧ k ≤ n ∧ ∀ j, j < k → P j = -1 ∨ P j = now

set_option maxHeartbeats 1000000 in
theorem Epo.advance_yes (h : Epo w x lb n base now P V Q) (hn : 1 ≤ n) (hm : now < 1000000) (hall : ∀ j, j < n → P j = -1 ∨ P j = now) : Calls Tryz.prog 262 #[.pointer (some ⟨x, 0, none⟩)] w fun e w' => e = .returned (.bool true) ∧ Epo w' x lb n base (now + 1) P V Q ∧ Turn (EpoOwn x lb n V) w w' ∧ Kept w w' := by
  have H := Lib.hid (h.has_yes (a := 0) (by omega))
  have E := Lib.hid h
  have A := Lib.hid hall
  have c0 := h.c0
  have cl := h.cl
  have fx := h.fx
  obtain ⟨n0, n1⟩ := h.nn
  have n16 := h.n16
  clear h hall
  go_enter Tryz.func262, Tryz.ntmps262
  go_wp2_with fail
  refine H.out.mono ?_
  rintro e w1 ⟨rfl, rfl⟩
  go_wp2_with fail
  go_loop [21] (fun v => AdvRel n P now v) (fun v => n - (intOf v).toNat)
  case atStart => exact ⟨0, rfl, Nat.zero_le _, fun j hj => absurd hj (Nat.not_lt_zero j)⟩
  case round =>
    obtain ⟨k, rfl, hk, hok⟩ := hrel
    have K := Lib.hid hok
    clear hok
    by_cases hkn : k < n
    · have hA := A.out k hkn
      by_cases hp : P k = -1
      · have HP := Lib.hid (E.out.pinned_no hkn hp)
        clear hA hp
        go_wp2_with fail
        refine HP.out.mono ?_
        rintro e w1 ⟨rfl, rfl⟩
        go_wp2
        go_round
        case rel => exact ⟨k + 1, by go_num, by omega, fun j hj => A.out j (by omega)⟩
        case measure => simp [intOf]; omega
      · have HP0 := E.out.pinned_yes hkn hp
        rw [hA.resolve_left hp] at HP0
        have HP := Lib.hid HP0
        clear hA hp HP0
        go_wp2_with fail
        refine HP.out.mono ?_
        rintro e w1 ⟨rfl, rfl⟩
        go_wp2
        go_round
        case rel => exact ⟨k + 1, by go_num, by omega, fun j hj => A.out j (by omega)⟩
        case measure => simp [intOf]; omega
    · go_wp2
      go_ret
      exact ⟨rfl, E.out.setNow (now + 1) ⟨by omega, by omega⟩, E.out.turn_x _ _, fun b t hb => hb.set _ _⟩

set_option maxHeartbeats 1000000 in
theorem Epo.advance_no (h : Epo w x lb n base now P V Q) (j0 : Nat) (hj0 : j0 < n) (h1 : P j0 ≠ -1) (h2 : P j0 ≠ now) : Calls Tryz.prog 262 #[.pointer (some ⟨x, 0, none⟩)] w fun e w' => e = .returned (.bool false) ∧ w = w' := by
  have H := Lib.hid (h.has_yes (a := 0) (by omega))
  have E := Lib.hid h
  have A := Lib.hid (And.intro h1 h2)
  have c0 := h.c0
  have cl := h.cl
  have fx := h.fx
  obtain ⟨n0, n1⟩ := h.nn
  have n16 := h.n16
  clear h h1 h2
  go_enter Tryz.func262, Tryz.ntmps262
  go_wp2_with fail
  refine H.out.mono ?_
  rintro e w1 ⟨rfl, rfl⟩
  go_wp2_with fail
  go_loop [21] (fun v => AdvRel n P now v) (fun v => n - (intOf v).toNat)
  case atStart => exact ⟨0, rfl, Nat.zero_le _, fun j hj => absurd hj (Nat.not_lt_zero j)⟩
  case round =>
    obtain ⟨k, rfl, hk, hok⟩ := hrel
    have hkj : k ≤ j0 := by
      rcases Nat.lt_or_ge j0 k with q | q
      · rcases hok j0 q with q | q
        · exact absurd q A.out.1
        · exact absurd q A.out.2
      · exact q
    have hkn : k < n := by omega
    have K := Lib.hid hok
    clear hok
    by_cases hp : P k = -1
    · have HP := Lib.hid (E.out.pinned_no hkn hp)
      have hp' := Lib.hid hp
      clear hp
      go_wp2_with fail
      refine HP.out.mono ?_
      rintro e w1 ⟨rfl, rfl⟩
      go_wp2
      go_round
      case rel => exact ⟨k + 1, by go_num, by omega, fun j hj => by
          by_cases e : j = k
          · rw [e]; exact .inl hp'.out
          · exact K.out j (by omega)⟩
      case measure => simp [intOf]; omega
    · by_cases hq : P k = now
      · have HP0 := E.out.pinned_yes hkn hp
        rw [hq] at HP0
        have HP := Lib.hid HP0
        have hq' := Lib.hid hq
        clear hp HP0 hq
        go_wp2_with fail
        refine HP.out.mono ?_
        rintro e w1 ⟨rfl, rfl⟩
        go_wp2
        go_round
        case rel => exact ⟨k + 1, by go_num, by omega, fun j hj => by
            by_cases e : j = k
            · rw [e]; exact .inr hq'.out
            · exact K.out j (by omega)⟩
        case measure => simp [intOf]; omega
      · have HP0 := E.out.pinned_yes hkn hp
        generalize P k = p at HP0 hq
        have hpb : (p != now) = true := by simpa using hq
        have HP := Lib.hid HP0
        clear hp HP0 hq
        go_wp2_with fail
        refine HP.out.mono ?_
        rintro e w1 ⟨rfl, rfl⟩
        go_wp2
        go_ret
        exact ⟨rfl, rfl⟩

theorem advance_nil (w : World) : Calls Tryz.prog 262 #[.pointer none] w fun e w' => e = .returned (.bool false) ∧ w = w' := by
  have H := Lib.hid (has_nil w 0)
  go_enter Tryz.func262, Tryz.ntmps262
  go_wp2_with fail
  refine H.out.mono ?_
  rintro e w1 ⟨rfl, rfl⟩
  go_wp2
  go_ret
  exact ⟨rfl, rfl⟩

/-! ### What is retired -/
theorem retire_not (w : World) (p : Option Addr) (a r0 r1 : Int) (H : ∀ w, Calls Tryz.prog 219 #[.pointer p, .int .i64 a] w fun e w' => e = .returned (.bool false) ∧ w = w') :
    Calls Tryz.prog 236 #[.pointer p, .int .i64 a, .agg #[.int .i64 r0, .int .i64 r1]] w fun e w' => e = .returned (.bool false) ∧ w' = w.alloc (.cells #[.int .i64 r0, .int .i64 r1] 39) := by
  have H1 := Lib.hid H
  clear H
  go_enter Tryz.func236, Tryz.ntmps236
  go_wp2_with fail
  refine (H1.out _).mono ?_
  rintro e w1 ⟨rfl, rfl⟩
  go_wp2
  go_ret
  exact ⟨rfl, rfl⟩

theorem cells3_snoc : ∀ (l : List (Int × Int × Int)) (q : Int × Int × Int), cells3 (l ++ [q]) = cells3 l ++ [.int .i64 q.1, .int .i64 q.2.1, .int .i64 q.2.2]
  | [], q => rfl
  | y :: l, q => by simp [cells3, cells3_snoc l q]
theorem cells3_at : ∀ (l : List (Int × Int × Int)) (j : Nat) (q : Int × Int × Int), l[j]? = some q → (cells3 l)[j * 3]? = some (.int .i64 q.1) ∧ (cells3 l)[j * 3 + 1]? = some (.int .i64 q.2.1) ∧ (cells3 l)[j * 3 + 2]? = some (.int .i64 q.2.2)
  | [], j, q, h => by simp at h
  | y :: l, 0, q, h => by
    simp at h
    subst h
    exact ⟨rfl, rfl, rfl⟩
  | y :: l, j + 1, q, h => by
    have := cells3_at l j q (by simpa using h)
    rw [show (j + 1) * 3 = j * 3 + 1 + 1 + 1 from by omega]
    exact this

theorem Epo.put (h : Epo w x lb n base now P V Q) {a : Nat} (ha : a < n) {v' : Value} {q : Int × Int × Int} (ho : w'.ownsRow base 374 3 v' ((Q a).length + 1) (cells3 (Q a) ++ [.int .i64 q.1, .int .i64 q.2.1, .int .i64 q.2.2])) (hg : w.grownBy w' (V a).ownBlock)
    (hf : v'.ownBlock = (V a).ownBlock ∨ v'.ownBlock = some w.heap.size) : Epo (w'.setCell ⟨lb, a, none⟩ v') x lb n base now P (upd V a v') (upd Q a (Q a ++ [q])) ∧ Turn (EpoOwn x lb n V) w (w'.setCell ⟨lb, a, none⟩ v') := by
  have lx : x < w.heap.size := Nat.lt_of_lt_of_le h.bx h.bw
  have ll : lb < w.heap.size := Nat.lt_of_lt_of_le h.bl h.bw
  have hbx := h.bx
  have hbl := h.bl
  have e1 := hg.block x lx (fun e => by have := h.rowx ha e.symm; omega)
  have e2 := hg.block lb ll (fun e => by have := h.rowx ha e.symm; omega)
  have ne := h.ne
  refine ⟨⟨h.ne, h.bx, h.bl, by simpa using Nat.le_trans h.bw hg.size, by rw [cell_far _ _ _ _ _ _ (Ne.symm ne)]; exact (World.cell?_of_block (w := w) e1).trans h.c0, fun k hk => by rw [cell_far _ _ _ _ _ _ (Ne.symm ne)]; exact (World.cell?_of_block (w := w) e1).trans (h.cp k hk), by rw [cell_far _ _ _ _ _ _ (Ne.symm ne)]; exact (World.cell?_of_block (w := w) e1).trans h.cl,
    fun b hb => ?_, fun i => by simpa using (World.frozen?_of_block (w := w) e1).trans (h.fx i), fun i => by simpa using (World.frozen?_of_block (w := w) e2).trans (h.fl i), fun b hb => ?_, fun b c hb hc hbc => ?_, h.n16, h.nn⟩, ?_⟩
  · by_cases e : b = a
    · subst e
      rw [upd_at]
      exact World.cell?_setCell_same _ _ _ ((World.cell?_of_block (w := w) e2).trans (h.cv b hb))
    · rw [cell_off _ _ _ _ _ (Ne.symm e), upd_off _ _ e]
      exact (World.cell?_of_block (w := w) e2).trans (h.cv b hb)
  · by_cases e : b = a
    · subst e
      rw [upd_at, upd_at, cells3_snoc, List.length_append]
      exact own_keep ho (fun k hk => Below.heap_setCell _ _ _ _ (by have := (ho.lt k hk).1; show k ≠ lb; omega))
    · rw [upd_off _ _ e, upd_off _ _ e]
      refine own_keep (own_keep (h.rows b hb) (fun k hk => hg.block k ((h.rows b hb).lt k hk).2 (fun e3 => ?_))) (fun k hk => Below.heap_setCell _ _ _ _ (by have := h.rowx hb hk; show k ≠ lb; omega))
      rcases h.apart b a hb ha e with q | q
      · rw [hk] at q
        exact absurd q (by simp)
      · exact q (by rw [hk, e3])
  · have old : ∀ c, c < n → c ≠ a → (V c).ownBlock = none ∨ (V c).ownBlock ≠ v'.ownBlock := fun c hc hca => by
      rcases hf with q | q
      · rw [q]
        exact h.apart c a hc ha hca
      · rw [q]
        rcases e : (V c).ownBlock with _ | k
        · exact .inl rfl
        · refine .inr ?_
          have := ((h.rows c hc).lt k e).2
          intro q2
          injection q2 with q2
          omega
    by_cases eb : b = a
    · subst eb
      rw [upd_at, upd_off _ _ (Ne.symm hbc)]
      rcases old c hc (Ne.symm hbc) with q | q
      · rw [q]
        cases hv : v'.ownBlock with
        | none => exact .inl rfl
        | some k => exact .inr (by simp)
      · exact .inr (Ne.symm q)
    · by_cases ec : c = a
      · subst ec
        rw [upd_at, upd_off _ _ eb]
        exact old b hb eb
      · rw [upd_off _ _ eb, upd_off _ _ ec]
        exact h.apart b c hb hc hbc
  · exact ((Turn.refl _ w).grown hg (fun k hk => .inl (.inr (.inr ⟨a, ha, hk⟩)))).setCell (p := ⟨lb, a, none⟩) (.inl (.inr (.inl rfl))) _

set_option maxRecDepth 100000 in
set_option maxHeartbeats 3200000 in
theorem Epo.retire (h : Epo w x lb n base now P V Q) {a : Nat} (ha : a < n) (r0 r1 : Int) (hq : (Q a).length ≤ 1000000) :
    Calls Tryz.prog 236 #[.pointer (some ⟨x, 0, none⟩), .int .i64 (a : Int), .agg #[.int .i64 r0, .int .i64 r1]] w fun e w' => e = .returned (.bool true) ∧ ∃ v', Epo w' x lb n base now P (upd V a v') (upd Q a (Q a ++ [(r0, r1, now)])) ∧ Turn (EpoOwn x lb n V) w w' := by
  have H := Lib.hid (fun o => (h.alloc o).has_yes ha)
  obtain ⟨ad, cap, ev, hsome⟩ := own_slice (h.rows a ha)
  have a16 : a < 16 := by have := h.n16; omega
  obtain ⟨i3, j1, j2, j3, j4⟩ := info_parts info103
  have hE := h.alloc (.cells #[.int .i64 r0, .int .i64 r1] 39)
  have T0 : Turn (EpoOwn x lb n V) w (w.alloc (.cells #[.int .i64 r0, .int .i64 r1] 39)) := (Turn.refl _ w).alloc _
  have b0 : (w.alloc (.cells #[.int .i64 r0, .int .i64 r1] 39)).cell? ⟨w.heap.size, 0, none⟩ = some (.int .i64 r0) := World.cell?_alloc_new w #[.int .i64 r0, .int .i64 r1] 39 0
  have b1 : (w.alloc (.cells #[.int .i64 r0, .int .i64 r1] 39)).cell? ⟨w.heap.size, 1, none⟩ = some (.int .i64 r1) := World.cell?_alloc_new w #[.int .i64 r0, .int .i64 r1] 39 1
  have nb : ∀ k, (V a).ownBlock = some k → base ≤ k ∧ k < w.heap.size := (h.rows a ha).lt
  have HB := Lib.hid (And.intro j1 (And.intro j2 (And.intro j3 (And.intro j4 (And.intro ev (And.intro hE (And.intro T0 (And.intro b0 b1))))))))
  have bx := h.bx
  have bl := h.bl
  have bw := h.bw
  have ne := h.ne
  clear h ev hsome j1 j2 j3 j4 hE T0 b0 b1
  go_enter Tryz.func236, Tryz.ntmps236
  go_wp2_with fail
  refine (H.out _).mono ?_
  rintro e w1 ⟨rfl, rfl⟩
  go_wp2_with fail
  obtain ⟨j1, j2, j3, j4, ev, hE, T0, b0, b1⟩ := HB.out
  clear HB H
  have hz : w.heap.size < (w.alloc (.cells #[.int .i64 r0, .int .i64 r1] 39)).heap.size := by simp
  generalize w.alloc (.cells #[.int .i64 r0, .int .i64 r1] 39) = W0 at *
  obtain ⟨bb, hbb⟩ : ∃ bb, w.heap.size = bb := ⟨_, rfl⟩
  rw [hbb] at b0 b1 hz bw nb ⊢
  have c0 := hE.c0
  have cl := hE.cl
  have cv := hE.cv a ha
  rw [ev] at cv
  have fl := hE.fl a
  have an : ((a : Int)) < (n : Int) := by omega
  have an0 : (0 : Int) ≤ (a : Int) := by omega
  have nl : (V a).ownBlock ≠ some lb := fun e => by have := nb lb e; omega
  have nx : (V a).ownBlock ≠ some x := fun e => by have := nb x e; omega
  have nr : (V a).ownBlock ≠ some bb := fun e => by have := (nb _ e).2; omega
  have nbl : lb ≠ bb := by omega
  have rows := hE.rows a ha
  rw [ev] at rows nl nx nr
  have HE := Lib.hid (And.intro hE (And.intro T0 ev))
  have cv2 : (W0.alloc (.cells #[.int .i64 r0, .int .i64 r1, .int .i64 now] 374)).cell? ⟨lb, a, none⟩ = some (.slice ad (Q a).length cap) := past cv
  have cl2 : (W0.alloc (.cells #[.int .i64 r0, .int .i64 r1, .int .i64 now] 374)).cell? ⟨x, 17, none⟩ = some (.slice (some ⟨lb, 0, none⟩) n n) := past cl
  have ne2 := Ne.symm ne
  clear hE T0 ev nb hbb
  refine wp_region_held_drew (S := (fun w' => w'.cell? ⟨x, 0, none⟩ = some (.int .i64 now) ∧ w'.cell? ⟨x, 17, none⟩ = some (.slice (some ⟨lb, 0, none⟩) n n) ∧ w'.cell? ⟨bb, 0, none⟩ = some (.int .i64 r0) ∧ w'.cell? ⟨bb, 1, none⟩ = some (.int .i64 r1))) (by kernel_rfl) ?hs0 (fun hS0 => ?_)
  case hs0 => ((try dsimp only); first | (go_keep; done) | (refine ⟨?_, ?_, ?_, ?_⟩ <;> go_keep))
  refine wpAnyH_take (i := 0) (oi := { dst := some 11, op := Op.move (Operand.tmp 0), type := 126, pos := "epoch.go:82", after := #[], guard := none }) (v := ?_) rfl (by kernel_rfl) (by kernel_rfl) (by kernel_rfl) (fun _ _ _ h => h) (Or.inl ⟨by rfl, ?hy1⟩) hS0 ?_
  case hy1 => (intro w hSw; (try dsimp only at hSw); go_simp; try with_reducible rfl)
  try simp only [Act.put, List.setIfInBounds_toArray, List.set_cons_zero, List.set_cons_succ]
  refine wpAnyH_take (i := 4) (oi := { dst := some 15, op := Op.move (Operand.tmp 1), type := 3, pos := "epoch.go:82", after := #[], guard := none }) (v := ?_) rfl (by kernel_rfl) (by kernel_rfl) (by kernel_rfl) (fun _ _ _ h => h) (Or.inl ⟨by rfl, ?hy2⟩) hS0 ?_
  case hy2 => (intro w hSw; (try dsimp only at hSw); go_simp; try with_reducible rfl)
  try simp only [Act.put, List.setIfInBounds_toArray, List.set_cons_zero, List.set_cons_succ]
  refine wpAnyH_take (i := 5) (oi := { dst := some 16, op := Op.move (Operand.tmp 0), type := 126, pos := "epoch.go:82", after := #[], guard := none }) (v := ?_) rfl (by kernel_rfl) (by kernel_rfl) (by kernel_rfl) (fun _ _ _ h => h) (Or.inl ⟨by rfl, ?hy3⟩) hS0 ?_
  case hy3 => (intro w hSw; (try dsimp only at hSw); go_simp; try with_reducible rfl)
  try simp only [Act.put, List.setIfInBounds_toArray, List.set_cons_zero, List.set_cons_succ]
  refine wpAnyH_take (i := 9) (oi := { dst := some 20, op := Op.move (Operand.tmp 1), type := 3, pos := "epoch.go:82", after := #[], guard := none }) (v := ?_) rfl (by kernel_rfl) (by kernel_rfl) (by kernel_rfl) (fun _ _ _ h => h) (Or.inl ⟨by rfl, ?hy4⟩) hS0 ?_
  case hy4 => (intro w hSw; (try dsimp only at hSw); go_simp; try with_reducible rfl)
  try simp only [Act.put, List.setIfInBounds_toArray, List.set_cons_zero, List.set_cons_succ]
  refine wpAnyH_take (i := 13) (oi := { dst := some 24, op := Op.move (Operand.tmp 0), type := 126, pos := "epoch.go:82", after := #[], guard := none }) (v := ?_) rfl (by kernel_rfl) (by kernel_rfl) (by kernel_rfl) (fun _ _ _ h => h) (Or.inl ⟨by rfl, ?hy5⟩) hS0 ?_
  case hy5 => (intro w hSw; (try dsimp only at hSw); go_simp; try with_reducible rfl)
  try simp only [Act.put, List.setIfInBounds_toArray, List.set_cons_zero, List.set_cons_succ]
  refine wpAnyH_take (i := 1) (oi := { dst := some 12, op := Op.nilCheck (Operand.tmp 11), type := 0, pos := "epoch.go:82", after := #[{ on := 0, ground := Ground.data }], guard := none }) (v := ?_) rfl (by kernel_rfl) (by kernel_rfl) (by kernel_rfl) (fun _ _ _ h => h) (Or.inl ⟨by rfl, ?hy6⟩) hS0 ?_
  case hy6 => (intro w hSw; (try dsimp only at hSw); go_simp; try with_reducible rfl)
  try simp only [Act.put, List.setIfInBounds_toArray, List.set_cons_zero, List.set_cons_succ]
  refine wpAnyH_take (i := 6) (oi := { dst := some 17, op := Op.nilCheck (Operand.tmp 16), type := 0, pos := "epoch.go:82", after := #[{ on := 5, ground := Ground.data }], guard := none }) (v := ?_) rfl (by kernel_rfl) (by kernel_rfl) (by kernel_rfl) (fun _ _ _ h => h) (Or.inl ⟨by rfl, ?hy7⟩) hS0 ?_
  case hy7 => (intro w hSw; (try dsimp only at hSw); go_simp; try with_reducible rfl)
  try simp only [Act.put, List.setIfInBounds_toArray, List.set_cons_zero, List.set_cons_succ]
  refine wpAnyH_take (i := 14) (oi := { dst := some 25, op := Op.nilCheck (Operand.tmp 24), type := 0, pos := "epoch.go:82", after := #[{ on := 13, ground := Ground.data }], guard := none }) (v := ?_) rfl (by kernel_rfl) (by kernel_rfl) (by kernel_rfl) (fun _ _ _ h => h) (Or.inl ⟨by rfl, ?hy8⟩) hS0 ?_
  case hy8 => (intro w hSw; (try dsimp only at hSw); go_simp; try with_reducible rfl)
  try simp only [Act.put, List.setIfInBounds_toArray, List.set_cons_zero, List.set_cons_succ]
  refine wpAnyH_take (i := 2) (oi := { dst := some 13, op := Op.fieldAddr 213 (Operand.tmp 12) 2, type := 0, pos := "epoch.go:82", after := #[{ on := 1, ground := Ground.data }], guard := none }) (v := ?_) rfl (by kernel_rfl) (by kernel_rfl) (by kernel_rfl) (fun _ _ _ h => h) (Or.inl ⟨by rfl, ?hy9⟩) hS0 ?_
  case hy9 => (intro w hSw; (try dsimp only at hSw); go_simp; try with_reducible rfl)
  try simp only [Act.put, List.setIfInBounds_toArray, List.set_cons_zero, List.set_cons_succ]
  refine wpAnyH_take (i := 7) (oi := { dst := some 18, op := Op.fieldAddr 213 (Operand.tmp 17) 2, type := 0, pos := "epoch.go:82", after := #[{ on := 6, ground := Ground.data }], guard := none }) (v := ?_) rfl (by kernel_rfl) (by kernel_rfl) (by kernel_rfl) (fun _ _ _ h => h) (Or.inl ⟨by rfl, ?hy10⟩) hS0 ?_
  case hy10 => (intro w hSw; (try dsimp only at hSw); go_simp; try with_reducible rfl)
  try simp only [Act.put, List.setIfInBounds_toArray, List.set_cons_zero, List.set_cons_succ]
  refine wpAnyH_take (i := 15) (oi := { dst := some 26, op := Op.fieldAddr 213 (Operand.tmp 25) 0, type := 0, pos := "epoch.go:82", after := #[{ on := 14, ground := Ground.data }], guard := none }) (v := ?_) rfl (by kernel_rfl) (by kernel_rfl) (by kernel_rfl) (fun _ _ _ h => h) (Or.inl ⟨by rfl, ?hy11⟩) hS0 ?_
  case hy11 => (intro w hSw; (try dsimp only at hSw); go_simp; try with_reducible rfl)
  try simp only [Act.put, List.setIfInBounds_toArray, List.set_cons_zero, List.set_cons_succ]
  refine wpAnyH_take (i := 3) (oi := { dst := some 14, op := Op.load 210 (Operand.tmp 13), type := 210, pos := "epoch.go:82", after := #[{ on := 2, ground := Ground.data }], guard := none }) (v := ?_) rfl (by kernel_rfl) (by kernel_rfl) (by kernel_rfl) (fun _ _ _ h => h) (Or.inl ⟨by rfl, ?hy12⟩) hS0 ?_
  case hy12 => (intro w hSw; (try dsimp only at hSw); go_simp; try with_reducible rfl)
  try simp only [Act.put, List.setIfInBounds_toArray, List.set_cons_zero, List.set_cons_succ]
  refine wpAnyH_take (i := 8) (oi := { dst := some 19, op := Op.load 210 (Operand.tmp 18), type := 210, pos := "epoch.go:82", after := #[{ on := 7, ground := Ground.data }], guard := none }) (v := ?_) rfl (by kernel_rfl) (by kernel_rfl) (by kernel_rfl) (fun _ _ _ h => h) (Or.inl ⟨by rfl, ?hy13⟩) hS0 ?_
  case hy13 => (intro w hSw; (try dsimp only at hSw); go_simp; try with_reducible rfl)
  try simp only [Act.put, List.setIfInBounds_toArray, List.set_cons_zero, List.set_cons_succ]
  refine wpAnyH_take (i := 16) (oi := { dst := some 27, op := Op.load 3 (Operand.tmp 26), type := 3, pos := "epoch.go:82", after := #[{ on := 15, ground := Ground.data }], guard := none }) (v := ?_) rfl (by kernel_rfl) (by kernel_rfl) (by kernel_rfl) (fun _ _ _ h => h) (Or.inl ⟨by rfl, ?hy14⟩) hS0 ?_
  case hy14 => (intro w hSw; (try dsimp only at hSw); go_simp; try with_reducible rfl)
  try simp only [Act.put, List.setIfInBounds_toArray, List.set_cons_zero, List.set_cons_succ]
  refine wpAnyH_take (i := 10) (oi := { dst := some 21, op := Op.indexAddr 210 (Operand.tmp 19) (Operand.tmp 20), type := 0, pos := "epoch.go:82", after := #[{ on := 8, ground := Ground.data }, { on := 9, ground := Ground.data }], guard := none }) (v := ?_) rfl (by kernel_rfl) (by kernel_rfl) (by kernel_rfl) (fun _ _ _ h => h) (Or.inl ⟨by rfl, ?hy15⟩) hS0 ?_
  case hy15 => (intro w hSw; (try dsimp only at hSw); go_simp; try with_reducible rfl)
  try simp only [Act.put, List.setIfInBounds_toArray, List.set_cons_zero, List.set_cons_succ]
  refine wpAnyH_take (i := 12) (oi := { dst := some 23, op := Op.load 39 (Operand.tmp 5), type := 39, pos := "epoch.go:82", after := #[], guard := none }) (v := ?_) rfl (by kernel_rfl) (by kernel_rfl) (by kernel_rfl) (fun _ _ _ h => h) (Or.inl ⟨by rfl, ?hy16⟩) hS0 ?_
  case hy16 => (intro w hSw; (try dsimp only at hSw); go_simp; try with_reducible rfl)
  try simp only [Act.put, List.setIfInBounds_toArray, List.set_cons_zero, List.set_cons_succ]
  refine wpAnyH_take (i := 17) (oi := { dst := some 28, op := Op.build 374 #[(0, Operand.tmp 23), (1, Operand.tmp 27)], type := 374, pos := "epoch.go:82", after := #[{ on := 12, ground := Ground.data }, { on := 16, ground := Ground.data }], guard := none }) (v := ?_) rfl (by kernel_rfl) (by kernel_rfl) (by kernel_rfl) (fun _ _ _ h => h) (Or.inl ⟨by rfl, ?hy17⟩) hS0 ?_
  case hy17 => (intro w hSw; (try dsimp only at hSw); go_simp; try with_reducible rfl)
  try simp only [Act.put, List.setIfInBounds_toArray, List.set_cons_zero, List.set_cons_succ]
  refine wpAnyH_ready (rs := [11, 18]) (by kernel_rfl) (by simp) ?_
  refine AllReadyH.cons (o := { dst := some 22, op := Op.load 372 (Operand.tmp 21), type := 372, pos := "epoch.go:82", after := #[{ on := 10, ground := Ground.data }], guard := none }) rfl (fun K hK => ?_) ?_
  · go_simp
    refine hK.out _ _ ?hs18 (fun hS18 => ?_)
    case hs18 => ((try dsimp only); first | (go_keep; done) | (refine ⟨?_, ?_, ?_, ?_⟩ <;> go_keep))
    clear hK K hS0
    refine wpAnyH_ready (rs := [18]) (by kernel_rfl) (by simp) ?_
    refine AllReadyH.cons (o := { dst := some 29, op := Op.buildSlice 372 1 #[(0, Operand.tmp 28)], type := 372, pos := "epoch.go:82", after := #[{ on := 17, ground := Ground.data }], guard := none }) rfl (fun K hK => ?_) ?_
    · go_simp
      refine hK.out _ _ ?hs19 (fun hS19 => ?_)
      case hs19 => ((try dsimp only); first | (go_keep; done) | (refine ⟨?_, ?_, ?_, ?_⟩ <;> go_keep))
      clear hK K hS18
      refine wpAnyH_ready (rs := [19]) (by kernel_rfl) (by simp) ?_
      refine AllReadyH.cons (o := { dst := some 30, op := Op.call { callee := Callee.builtin Builtin.append, args := #[Operand.tmp 22, Operand.tmp 29], argTypes := #[372, 372] }, type := 372, pos := "epoch.go:82", after := #[{ on := 11, ground := Ground.data }, { on := 18, ground := Ground.data }], guard := none }) rfl (fun K hK => ?_) ?_
      · refine step_append_lies _ (by rfl) _ _ _ (by rfl) base 374 i3 _ 3 24 Tryz.underlying372 j1 j2 j3 j4 rfl (by omega) (.slice ad (Q a).length cap) (Q a).length (cells3 (Q a)) (by rfl) ((rows.alloc _).drew) ⟨W0.heap.size, 0, none⟩ 1 1 [.int .i64 r0, .int .i64 r1, .int .i64 now] (by rfl) (by rfl) (World.news_of_block (cs := #[.int .i64 r0, .int .i64 r1, .int .i64 now]) (t := 374) (fr := (0, 0)) (heap_alloc_new W0 _)) (by simp [Value.oneCell']) (by omega) (by unfold maxLen; omega) (by omega) (by simp; omega) (W0.heap.size + 1) (by simp) ?_; intro gg cap2 w1 hown1 hgrow hat hlt; have f1 : w1.frozen? ⟨lb, a, none⟩ = false := (by rw [hgrow.frozen_far _ (by simp; omega) (Ne.symm nl)]; exact (frozen?_alloc_cells _ _ _ _).trans fl); have k1 : w1.cell? ⟨lb, a, none⟩ = some (.slice ad (Q a).length cap) := (by rw [hgrow.cell_far _ (by simp; omega) (Ne.symm nl)]; exact past cv); have k2 : w1.cell? ⟨x, 17, none⟩ = some (.slice (some ⟨lb, 0, none⟩) n n) := (by rw [hgrow.cell_far _ (by simp; omega) (Ne.symm nx)]; exact past cl); have k3 : w1.cell? ⟨x, 0, none⟩ = some (.int .i64 now) := (by rw [hgrow.cell_far _ (by simp; omega) (Ne.symm nx)]; exact past c0); have k4 : w1.cell? ⟨bb, 0, none⟩ = some (.int .i64 r0) := (by rw [hgrow.cell_far _ (by simp; omega) (Ne.symm nr)]; exact past b0); have k5 : w1.cell? ⟨bb, 1, none⟩ = some (.int .i64 r1) := (by rw [hgrow.cell_far _ (by simp; omega) (Ne.symm nr)]; exact past b1)
        refine hK.out _ _ ?hs20 (fun hS20 => ?_)
        case hs20 => ((try dsimp only); first | (go_keep; done) | (refine ⟨?_, ?_, ?_, ?_⟩ <;> go_keep))
        clear hK K hS19
        refine wpAnyH_ready (rs := [20]) (by kernel_rfl) (by simp) ?_
        refine AllReadyH.cons (o := { dst := some 31, op := Op.indexAddr 210 (Operand.tmp 14) (Operand.tmp 15), type := 0, pos := "epoch.go:82", after := #[{ on := 3, ground := Ground.data }, { on := 4, ground := Ground.data }, { on := 0, ground := Ground.phase }, { on := 1, ground := Ground.phase }, { on := 2, ground := Ground.phase }, { on := 3, ground := Ground.phase }, { on := 4, ground := Ground.phase }, { on := 5, ground := Ground.phase }, { on := 6, ground := Ground.phase }, { on := 7, ground := Ground.phase }, { on := 8, ground := Ground.phase }, { on := 9, ground := Ground.phase }, { on := 10, ground := Ground.phase }, { on := 11, ground := Ground.phase }, { on := 12, ground := Ground.phase }, { on := 13, ground := Ground.phase }, { on := 14, ground := Ground.phase }, { on := 15, ground := Ground.phase }, { on := 16, ground := Ground.phase }, { on := 17, ground := Ground.phase }, { on := 18, ground := Ground.phase }, { on := 19, ground := Ground.phase }], guard := none }) rfl (fun K hK => ?_) ?_
        · go_simp
          refine hK.out _ _ ?hs21 (fun hS21 => ?_)
          case hs21 => ((try dsimp only); first | (go_keep; done) | (refine ⟨?_, ?_, ?_, ?_⟩ <;> go_keep))
          clear hK K hS20
          refine wpAnyH_ready (rs := [21]) (by kernel_rfl) (by simp) ?_
          refine AllReadyH.cons (o := { dst := none, op := Op.store 372 (Operand.tmp 31) (Operand.tmp 30), type := 0, pos := "epoch.go:82", after := #[{ on := 20, ground := Ground.data }, { on := 19, ground := Ground.data }, { on := 19, ground := Ground.chain }, { on := 0, ground := Ground.phase }, { on := 1, ground := Ground.phase }, { on := 2, ground := Ground.phase }, { on := 3, ground := Ground.phase }, { on := 4, ground := Ground.phase }, { on := 5, ground := Ground.phase }, { on := 6, ground := Ground.phase }, { on := 7, ground := Ground.phase }, { on := 8, ground := Ground.phase }, { on := 9, ground := Ground.phase }, { on := 10, ground := Ground.phase }, { on := 11, ground := Ground.phase }, { on := 12, ground := Ground.phase }, { on := 13, ground := Ground.phase }, { on := 14, ground := Ground.phase }, { on := 15, ground := Ground.phase }, { on := 16, ground := Ground.phase }, { on := 17, ground := Ground.phase }, { on := 18, ground := Ground.phase }, { on := 19, ground := Ground.phase }], guard := none }) rfl (fun K hK => ?_) ?_
          · go_simp
            refine hK.out _ _ ?hs22 (fun hS22 => ?_)
            case hs22 => ((try dsimp only); first | (go_keep; done) | (refine ⟨?_, ?_, ?_, ?_⟩ <;> go_keep))
            clear hK K hS21
            refine wpAnyH_done (by kernel_rfl) ?_ _
            go_wp2
            go_ret
            obtain ⟨hE, T0, ev⟩ := HE.out
            have Z := Epo.put (w := (W0.alloc (.cells #[.int .i64 r0, .int .i64 r1, .int .i64 now] 374)).drew) ((hE.alloc _).drewN 1) ha (q := (r0, r1, now)) hown1 (by rw [ev]; exact hgrow) (by rw [ev]; exact hat.elim (fun q => .inl q.symm) (fun q => .inr (by rw [q]; simp [Value.ownBlock])))
            exact ⟨rfl, _, Z.1, (T0.trans (((Turn.refl _ W0).alloc _).drewN 1)).trans Z.2⟩
          exact AllReadyH.nil
        exact AllReadyH.nil
      exact AllReadyH.nil
    exact AllReadyH.nil
  refine AllReadyH.cons (o := { dst := some 29, op := Op.buildSlice 372 1 #[(0, Operand.tmp 28)], type := 372, pos := "epoch.go:82", after := #[{ on := 17, ground := Ground.data }], guard := none }) rfl (fun K hK => ?_) ?_
  · go_simp
    refine hK.out _ _ ?hs23 (fun hS23 => ?_)
    case hs23 => ((try dsimp only); first | (go_keep; done) | (refine ⟨?_, ?_, ?_, ?_⟩ <;> go_keep))
    clear hK K hS0
    refine wpAnyH_ready (rs := [11]) (by kernel_rfl) (by simp) ?_
    refine AllReadyH.cons (o := { dst := some 22, op := Op.load 372 (Operand.tmp 21), type := 372, pos := "epoch.go:82", after := #[{ on := 10, ground := Ground.data }], guard := none }) rfl (fun K hK => ?_) ?_
    · go_simp
      refine hK.out _ _ ?hs24 (fun hS24 => ?_)
      case hs24 => ((try dsimp only); first | (go_keep; done) | (refine ⟨?_, ?_, ?_, ?_⟩ <;> go_keep))
      clear hK K hS23
      refine wpAnyH_ready (rs := [19]) (by kernel_rfl) (by simp) ?_
      refine AllReadyH.cons (o := { dst := some 30, op := Op.call { callee := Callee.builtin Builtin.append, args := #[Operand.tmp 22, Operand.tmp 29], argTypes := #[372, 372] }, type := 372, pos := "epoch.go:82", after := #[{ on := 11, ground := Ground.data }, { on := 18, ground := Ground.data }], guard := none }) rfl (fun K hK => ?_) ?_
      · refine step_append_lies _ (by rfl) _ _ _ (by rfl) base 374 i3 _ 3 24 Tryz.underlying372 j1 j2 j3 j4 rfl (by omega) (.slice ad (Q a).length cap) (Q a).length (cells3 (Q a)) (by rfl) ((rows.alloc _).drew) ⟨W0.heap.size, 0, none⟩ 1 1 [.int .i64 r0, .int .i64 r1, .int .i64 now] (by rfl) (by rfl) (World.news_of_block (cs := #[.int .i64 r0, .int .i64 r1, .int .i64 now]) (t := 374) (fr := (0, 0)) (heap_alloc_new W0 _)) (by simp [Value.oneCell']) (by omega) (by unfold maxLen; omega) (by omega) (by simp; omega) (W0.heap.size + 1) (by simp) ?_; intro gg cap2 w1 hown1 hgrow hat hlt; have f1 : w1.frozen? ⟨lb, a, none⟩ = false := (by rw [hgrow.frozen_far _ (by simp; omega) (Ne.symm nl)]; exact (frozen?_alloc_cells _ _ _ _).trans fl); have k1 : w1.cell? ⟨lb, a, none⟩ = some (.slice ad (Q a).length cap) := (by rw [hgrow.cell_far _ (by simp; omega) (Ne.symm nl)]; exact past cv); have k2 : w1.cell? ⟨x, 17, none⟩ = some (.slice (some ⟨lb, 0, none⟩) n n) := (by rw [hgrow.cell_far _ (by simp; omega) (Ne.symm nx)]; exact past cl); have k3 : w1.cell? ⟨x, 0, none⟩ = some (.int .i64 now) := (by rw [hgrow.cell_far _ (by simp; omega) (Ne.symm nx)]; exact past c0); have k4 : w1.cell? ⟨bb, 0, none⟩ = some (.int .i64 r0) := (by rw [hgrow.cell_far _ (by simp; omega) (Ne.symm nr)]; exact past b0); have k5 : w1.cell? ⟨bb, 1, none⟩ = some (.int .i64 r1) := (by rw [hgrow.cell_far _ (by simp; omega) (Ne.symm nr)]; exact past b1)
        refine hK.out _ _ ?hs25 (fun hS25 => ?_)
        case hs25 => ((try dsimp only); first | (go_keep; done) | (refine ⟨?_, ?_, ?_, ?_⟩ <;> go_keep))
        clear hK K hS24
        refine wpAnyH_ready (rs := [20]) (by kernel_rfl) (by simp) ?_
        refine AllReadyH.cons (o := { dst := some 31, op := Op.indexAddr 210 (Operand.tmp 14) (Operand.tmp 15), type := 0, pos := "epoch.go:82", after := #[{ on := 3, ground := Ground.data }, { on := 4, ground := Ground.data }, { on := 0, ground := Ground.phase }, { on := 1, ground := Ground.phase }, { on := 2, ground := Ground.phase }, { on := 3, ground := Ground.phase }, { on := 4, ground := Ground.phase }, { on := 5, ground := Ground.phase }, { on := 6, ground := Ground.phase }, { on := 7, ground := Ground.phase }, { on := 8, ground := Ground.phase }, { on := 9, ground := Ground.phase }, { on := 10, ground := Ground.phase }, { on := 11, ground := Ground.phase }, { on := 12, ground := Ground.phase }, { on := 13, ground := Ground.phase }, { on := 14, ground := Ground.phase }, { on := 15, ground := Ground.phase }, { on := 16, ground := Ground.phase }, { on := 17, ground := Ground.phase }, { on := 18, ground := Ground.phase }, { on := 19, ground := Ground.phase }], guard := none }) rfl (fun K hK => ?_) ?_
        · go_simp
          refine hK.out _ _ ?hs26 (fun hS26 => ?_)
          case hs26 => ((try dsimp only); first | (go_keep; done) | (refine ⟨?_, ?_, ?_, ?_⟩ <;> go_keep))
          clear hK K hS25
          refine wpAnyH_ready (rs := [21]) (by kernel_rfl) (by simp) ?_
          refine AllReadyH.cons (o := { dst := none, op := Op.store 372 (Operand.tmp 31) (Operand.tmp 30), type := 0, pos := "epoch.go:82", after := #[{ on := 20, ground := Ground.data }, { on := 19, ground := Ground.data }, { on := 19, ground := Ground.chain }, { on := 0, ground := Ground.phase }, { on := 1, ground := Ground.phase }, { on := 2, ground := Ground.phase }, { on := 3, ground := Ground.phase }, { on := 4, ground := Ground.phase }, { on := 5, ground := Ground.phase }, { on := 6, ground := Ground.phase }, { on := 7, ground := Ground.phase }, { on := 8, ground := Ground.phase }, { on := 9, ground := Ground.phase }, { on := 10, ground := Ground.phase }, { on := 11, ground := Ground.phase }, { on := 12, ground := Ground.phase }, { on := 13, ground := Ground.phase }, { on := 14, ground := Ground.phase }, { on := 15, ground := Ground.phase }, { on := 16, ground := Ground.phase }, { on := 17, ground := Ground.phase }, { on := 18, ground := Ground.phase }, { on := 19, ground := Ground.phase }], guard := none }) rfl (fun K hK => ?_) ?_
          · go_simp
            refine hK.out _ _ ?hs27 (fun hS27 => ?_)
            case hs27 => ((try dsimp only); first | (go_keep; done) | (refine ⟨?_, ?_, ?_, ?_⟩ <;> go_keep))
            clear hK K hS26
            refine wpAnyH_done (by kernel_rfl) ?_ _
            go_wp2
            go_ret
            obtain ⟨hE, T0, ev⟩ := HE.out
            have Z := Epo.put (w := (W0.alloc (.cells #[.int .i64 r0, .int .i64 r1, .int .i64 now] 374)).drew) ((hE.alloc _).drewN 1) ha (q := (r0, r1, now)) hown1 (by rw [ev]; exact hgrow) (by rw [ev]; exact hat.elim (fun q => .inl q.symm) (fun q => .inr (by rw [q]; simp [Value.ownBlock])))
            exact ⟨rfl, _, Z.1, (T0.trans (((Turn.refl _ W0).alloc _).drewN 1)).trans Z.2⟩
          exact AllReadyH.nil
        exact AllReadyH.nil
      exact AllReadyH.nil
    exact AllReadyH.nil
  exact AllReadyH.nil
end
end Go.Proofs.YtgfobgabdafclaaGreat
