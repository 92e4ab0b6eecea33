/-
  The document's own log, in memory: a command is filled in.
-/
import Derived.Test.YteokdibfdahabaaRf5
namespace Go.Proofs.Yteokdibfdahabaa
open Go.ChangeShapes Go.WideShapes Go.ChangeAt Go.RowKit
set_option linter.unusedVariables false
theorem upd_upd {α : Type} (f : Nat → α) (k : Nat) (a b : α) : upd (upd f k a) k b = upd f k b := by
  funext j
  by_cases e : j = k
  · rw [e, upd_at, upd_at]
  · rw [upd_off _ _ e, upd_off _ _ e, upd_off _ _ e]
/-- Some cells of a stamp's are put anew. -/
theorem own_cell {w : World} {base g cap t n : Nat} {D : Nat → DC} (h : w.ownsRow base 126 20 (.slice (some ⟨g, 0, none⟩) t cap) t (flat (fun k => (D k).cells n) t)) {i : Nat} (hi : i < t) (d : DC) (o : Nat) (vs : List Value) (hl : o + vs.length ≤ 20) (he : setL ((D i).cells n) o vs = d.cells n) :
    (w.setCells g (i * 20 + o) vs).ownsRow base 126 20 (.slice (some ⟨g, 0, none⟩) t cap) t (flat (fun k => (upd D i d k).cells n) t) := by
  have := own_sets vs (i * 20 + o) h
  rw [flat_setL vs (fun k => DC.len n (D k)) hi hl, he] at this
  rw [flat_congr (g := fun k => (upd D i d k).cells n) (g' := upd (fun k => (D k).cells n) i (d.cells n)) (fun k _ => by
    by_cases e : k = i
    · rw [e, upd_at, upd_at]
    · rw [upd_off _ _ e, upd_off _ _ e])]
  exact this
theorem own_there {w : World} {base g cap t : Nat} {xs : List Value} (h : w.ownsRow base 126 20 (.slice (some ⟨g, 0, none⟩) t cap) t xs) {i o n : Nat} (hi : i < t) (hl : o + n ≤ 20) : w.there g (i * 20 + o) n := fun j hj => by
  refine ⟨?_, h.frozenAt _⟩
  have hx := h.1
  rw [h.cellAt _ (by omega), List.getElem?_eq_getElem (by omega)]
  rfl
section
variable {w w' : World} {R : RB} {c : Cf} {s : LSt}
theorem RefAt.put_cell (h : RefAt w R c s) {g cap i : Nat} (hv : R.v = .slice (some ⟨g, 0, none⟩) s.tail cap) (hi : i < s.tail) {d : DC} (hob : d.ob = (R.D i).ob) (T : Turn (fun b => b = g) w w')
    (ho : w'.ownsRow R.base 126 20 (.slice (some ⟨g, 0, none⟩) s.tail cap) s.tail (flat (fun k => (upd R.D i d k).cells c.sh) s.tail)) {X : Int → Option (Int × Int)} {G : Int → Option Nd}
    (h1 : s.low ≤ i → d.fl = (X (i : Int)).isSome ∧ ∀ p, X (i : Int) = some p → d.p = p) (h2 : d.wt = (G (i : Int)).isSome ∧ ∀ q, G (i : Int) = some q → d.q = q)
    (h3 : ∀ k : Nat, k ≠ i → X (k : Int) = s.X (k : Int) ∧ G (k : Int) = s.G (k : Int)) :
    RefAt w' { R with D := upd R.D i d } c { s with X := X, G := G } := by
  have hown := h.own
  rw [hv] at hown
  have hg : Blk w g 126 := own_blk hown rfl
  have n2 : ∀ b (u : TypeId), Blk w b u → u ≠ 126 → b ≠ g := fun b u hb hu => hb.ne hg hu
  have nr := n2 _ _ h.br (by decide)
  have nk := n2 _ _ h.bk (by decide)
  obtain ⟨cp, k10⟩ := h.k10
  have obe : ∀ k, (upd R.D i d k).ob = (R.D k).ob := fun k => by
    by_cases e : k = i
    · rw [e, upd_at, hob]
    · rw [upd_off _ _ e]
  refine ⟨h.br.turn T nr, T.cell nr h.k0, T.cell nr h.k1, T.cell nr h.k6, T.cell nr h.k7, T.cell nr h.k8, T.cell nr h.k9, ⟨cp, T.cell nr k10⟩, h.bk.turn T nk, fun i hi => T.cell nk (h.w0 i hi), fun i hi => T.cell nk (h.w1 i hi), by show w'.ownsRow R.base 126 20 R.v s.tail _; rw [hv]; exact ho,
    fun k hk => ?_, fun k j hk hj hkj => ?_, h.b1, h.b2, fun k hk hl => ?_, fun k hk hl p hp => ?_, fun k hk => ?_, fun k hk q hq => ?_, fun k hk hl j hj => ?_⟩
  · show Blk w' (upd R.D i d k).ob 62 ∧ R.base ≤ (upd R.D i d k).ob
    rw [obe]
    exact ⟨(h.ob k hk).1.turn T (n2 _ _ (h.ob k hk).1 (by decide)), (h.ob k hk).2⟩
  · show (upd R.D i d k).ob ≠ (upd R.D i d j).ob
    rw [obe, obe]
    exact h.obne k j hk hj hkj
  · show (upd R.D i d k).fl = (X (k : Int)).isSome
    by_cases e : k = i
    · subst e
      rw [upd_at]
      exact (h1 hl).1
    · rw [upd_off _ _ e, (h3 k e).1]
      exact h.fl k hk hl
  · show (upd R.D i d k).p = p
    have hp : X (k : Int) = some p := hp
    by_cases e : k = i
    · subst e
      rw [upd_at]
      exact (h1 hl).2 p hp
    · rw [upd_off _ _ e]
      rw [(h3 k e).1] at hp
      exact h.cm k hk hl p hp
  · show (upd R.D i d k).wt = (G (k : Int)).isSome
    by_cases e : k = i
    · subst e
      rw [upd_at]
      exact h2.1
    · rw [upd_off _ _ e, (h3 k e).2]
      exact h.wt k hk
  · show (upd R.D i d k).q = q
    have hq : G (k : Int) = some q := hq
    by_cases e : k = i
    · subst e
      rw [upd_at]
      exact h2.2 q hq
    · rw [upd_off _ _ e]
      rw [(h3 k e).2] at hq
      exact h.an k hk q hq
  · show OutC w' (upd R.D i d k).ob j ((s.Y j (k : Int)).getD none)
    rw [obe]
    exact (h.outs k hk hl j hj).turn T (n2 _ _ (h.ob k hk).1 (by decide)) (fun b hb => n2 b _ hb (by decide))
set_option maxRecDepth 100000 in
set_option maxHeartbeats 4000000 in
theorem RefAt.fill_yes (h : RefAt w R c s) {i : Nat} (h1 : s.low ≤ i) (h2 : i < s.tail) (hx : s.X (i : Int) = none) (p : Int × Int) :
    Calls Try.prog 40 #[.pointer (some ⟨R.r, 0, none⟩), .int .i64 (i : Int), .agg (cmdL p).toArray] w fun e w' => e = .returned (.bool true) ∧ ∃ R' : RB, R'.base = R.base ∧ R'.r = R.r ∧ RefAt w' R' c { s with X := updI s.X (i : Int) (some p) } ∧ Turn (RS R.base w) w w' := by
  obtain ⟨W, hW⟩ : ∃ W, W = w.alloc (.cells (cmdL p).toArray 51) := ⟨_, rfl⟩
  have T : Turn (fun _ => False) w W := by rw [hW]; exact (Turn.refl _ w).alloc _
  have Bk : Blk W w.heap.size 51 := by rw [hW]; exact Blk.new w (cmdL p) 51
  have RG : W.rangeAt w.heap.size 0 (cmdL p) := by rw [hW]; exact range_new w (cmdL p) 51
  have hh := h.keep T
  obtain ⟨g, cap, hv, hb, hgb, rows⟩ := hh.row h2
  have k7 := hh.k7
  rw [hv] at k7
  have k9 := hh.k9
  have c0 : W.cell? ⟨g, i * 20, none⟩ = some (.bool false) := by
    have := rows i h2 0 (.bool (R.D i).fl) rfl
    rw [hh.fl i h2 h1, hx] at this
    exact this
  have hown := hh.own
  rw [hv] at hown
  have T1 : Turn (fun b => b = g) W (W.setCell ⟨g, i * 20, none⟩ (.bool true)) := Turn.put _ _ _ _
  have O1 := own_cell hown h2 { R.D i with fl := true } 0 [.bool true] (by decide) (DC.set_fl _ _ _)
  have O1 : (W.setCell ⟨g, i * 20, none⟩ (.bool true)).ownsRow R.base 126 20 (.slice (some ⟨g, 0, none⟩) s.tail cap) s.tail (flat (fun k => (upd R.D i { R.D i with fl := true } k).cells c.sh) s.tail) := O1
  obtain ⟨W1, hW1⟩ : ∃ W1, W1 = W.setCell ⟨g, i * 20, none⟩ (.bool true) := ⟨_, rfl⟩
  rw [← hW1] at T1 O1
  have O2 := own_cell O1.drew h2 { R.D i with fl := true, p := p } 2 (cmdL p) (by rw [(cmdL_is p).len]; decide) (by rw [upd_at]; exact DC.set_p _ _ _)
  rw [upd_upd] at O2
  have T2 : Turn (fun b => b = g) W1 (W1.drew.setCells g (i * 20 + 2) (cmdL p)) := Turn.setCells _ _ ((Turn.refl _ W1).drewN 1) (.inl rfl)
  have F := hh.put_cell hv h2 (d := { R.D i with fl := true, p := p }) rfl (T1.trans T2) O2 (X := updI s.X (i : Int) (some p)) (G := s.G) (fun _ => ⟨by rw [updI_at]; rfl, fun q hq => by rw [updI_at] at hq; injection hq⟩) ⟨hh.wt i h2, hh.an i h2⟩ (fun k hk => ⟨updI_off _ _ (by omega), rfl⟩)
  have FIN := Lib.hid (show ∃ R' : RB, R'.base = R.base ∧ R'.r = R.r ∧ RefAt (W1.drew.setCells g (i * 20 + 2) (cmdL p)) R' c { s with X := updI s.X (i : Int) (some p) } ∧ Turn (RS R.base w) w (W1.drew.setCells g (i * 20 + 2) (cmdL p)) from
    ⟨{ R with D := upd R.D i { R.D i with fl := true, p := p } }, rfl, rfl, F, (T.more (S' := RS R.base w) (fun _ _ f => f.elim)).comp (T1.trans T2) (fun k hk e => by rw [e]; exact ⟨hgb, .inr (.inr (.inl (by
      obtain ⟨cs, hc⟩ := hb
      exact ⟨cs, (T.block g (by rw [e] at hk; exact hk) (fun f => f)).symm.trans hc⟩)))⟩)⟩)
  have nbg : w.heap.size ≠ g := Bk.ne hb (by decide)
  have nrg : R.r ≠ g := hh.br.ne hb (by decide)
  have z7 : W1.cell? ⟨R.r, 7, none⟩ = some (.slice (some ⟨g, 0, none⟩) s.tail cap) := T1.cell nrg k7
  have zb : W1.rangeAt w.heap.size 0 (cmdL p) := range_turn RG T1 nbg
  have y0 : W1.drew.cell? ⟨R.r, 7, none⟩ = some (.slice (some ⟨g, 0, none⟩) s.tail cap) ∧ W1.drew.rangeAt w.heap.size 0 (cmdL p) := ⟨z7, zb⟩
  have y1 : (W1.drew.setCells g (i * 20 + 2) (cmdL p)).cell? ⟨R.r, 7, none⟩ = some (.slice (some ⟨g, 0, none⟩) s.tail cap) ∧ (W1.drew.setCells g (i * 20 + 2) (cmdL p)).rangeAt w.heap.size 0 (cmdL p) := ⟨T2.cell nrg z7, range_turn zb T2 nbg⟩
  have TH := Lib.hid (show W1.drew.there g (i * 20 + 2) 14 from own_there O1.drew h2 (by decide))
  have HC := Lib.hid (cmdL_is p)
  have t1 : decide ((i : Int) < (s.low : Int)) = false := by simp; omega
  have t2 : decide ((s.tail : Int) ≤ (i : Int)) = false := by simp; omega
  have t1n : ¬ i < s.low := by omega
  have t2n : ¬ s.tail ≤ i := by omega
  have m1 : (0 : Int) ≤ (i : Int) := by omega
  have m2 : (i : Int) < (s.tail : Int) := by omega
  have fz : W.frozen? ⟨g, i * 20, none⟩ = false := hb.fz _
  clear T Bk RG hh hv hb hgb rows hown T1 O1 O2 T2 F nbg nrg zb h h1 h2 hx
  generalize cmdL p = cs at *
  generalize s.low = lo at *
  generalize s.tail = n at *
  go_enter Try.func40, Try.ntmps40
  go_upto_region 1 with fail
  rw [← hW]
  clear hW
  generalize w.heap.size = b5 at *
  go_upto_region 4 with fail
  rw [← hW1]
  clear hW1
  refine wp_region_held_drew (S := (fun w' => w'.cell? ⟨R.r, 7, none⟩ = some (.slice (some ⟨g, 0, none⟩) n cap) ∧ w'.rangeAt b5 0 cs)) (by kernel_rfl) ?hs0 (fun hS0 => ?_)
  case hs0 => ((try dsimp only); first | with_reducible exact y0 | with_reducible exact y1 | exact y0 | exact y1)
  refine wpAnyH_take (i := 0) (oi := { dst := some 39, op := Op.move (Operand.tmp 0), type := 30, pos := "ref.go:60", after := #[], guard := none }) (v := ?_) rfl (by kernel_rfl) (by kernel_rfl) (by kernel_rfl) (fun _ _ _ h => h) (Or.inl ⟨by rfl, ?hy1⟩) hS0 ?_
  case hy1 => (intro w hSw; (try dsimp only at hSw); go_simp; try with_reducible rfl)
  try simp only [Act.put, List.setIfInBounds_toArray, List.set_cons_zero, List.set_cons_succ]
  refine wpAnyH_take (i := 1) (oi := { dst := some 40, op := Op.nilCheck (Operand.tmp 39), type := 0, pos := "ref.go:60", after := #[{ on := 0, ground := Ground.data }], guard := none }) (v := ?_) rfl (by kernel_rfl) (by kernel_rfl) (by kernel_rfl) (fun _ _ _ h => h) (Or.inl ⟨by rfl, ?hy2⟩) hS0 ?_
  case hy2 => (intro w hSw; (try dsimp only at hSw); go_simp; try with_reducible rfl)
  try simp only [Act.put, List.setIfInBounds_toArray, List.set_cons_zero, List.set_cons_succ]
  refine wpAnyH_take (i := 2) (oi := { dst := some 41, op := Op.fieldAddr 101 (Operand.tmp 40) 1, type := 0, pos := "ref.go:60", after := #[{ on := 1, ground := Ground.data }], guard := none }) (v := ?_) rfl (by kernel_rfl) (by kernel_rfl) (by kernel_rfl) (fun _ _ _ h => h) (Or.inl ⟨by rfl, ?hy3⟩) hS0 ?_
  case hy3 => (intro w hSw; (try dsimp only at hSw); go_simp; try with_reducible rfl)
  try simp only [Act.put, List.setIfInBounds_toArray, List.set_cons_zero, List.set_cons_succ]
  refine wpAnyH_take (i := 3) (oi := { dst := some 42, op := Op.load 99 (Operand.tmp 41), type := 99, pos := "ref.go:60", after := #[{ on := 2, ground := Ground.data }], guard := none }) (v := ?_) rfl (by kernel_rfl) (by kernel_rfl) (by kernel_rfl) (fun _ _ _ h => h) (Or.inl ⟨by rfl, ?hy4⟩) hS0 ?_
  case hy4 => (intro w hSw; (try dsimp only at hSw); go_simp; try with_reducible rfl)
  try simp only [Act.put, List.setIfInBounds_toArray, List.set_cons_zero, List.set_cons_succ]
  refine wpAnyH_take (i := 4) (oi := { dst := some 43, op := Op.move (Operand.tmp 1), type := 3, pos := "ref.go:60", after := #[], guard := none }) (v := ?_) rfl (by kernel_rfl) (by kernel_rfl) (by kernel_rfl) (fun _ _ _ h => h) (Or.inl ⟨by rfl, ?hy5⟩) hS0 ?_
  case hy5 => (intro w hSw; (try dsimp only at hSw); go_simp; try with_reducible rfl)
  try simp only [Act.put, List.setIfInBounds_toArray, List.set_cons_zero, List.set_cons_succ]
  refine wpAnyH_take (i := 5) (oi := { dst := some 44, op := Op.load 51 (Operand.tmp 5), type := 51, pos := "ref.go:60", after := #[], guard := none }) (v := .agg cs.toArray) rfl (by kernel_rfl) (by kernel_rfl) (by kernel_rfl) (fun _ _ _ h => h) (yieldsIf_load_mid (by rfl) 51 _ rfl b5 0 rfl cs _ (fun _ h => h.2) Try.underlying51 rfl (by rw [HC.out.len]; exact size51)) hS0 ?_
  try simp only [Act.put, List.setIfInBounds_toArray, List.set_cons_zero, List.set_cons_succ]
  refine wpAnyH_take (i := 6) (oi := { dst := some 45, op := Op.indexAddr 99 (Operand.tmp 42) (Operand.tmp 43), type := 0, pos := "ref.go:60", after := #[{ on := 3, ground := Ground.data }, { on := 4, ground := Ground.data }, { on := 0, ground := Ground.phase }, { on := 1, ground := Ground.phase }, { on := 2, ground := Ground.phase }, { on := 3, ground := Ground.phase }, { on := 4, ground := Ground.phase }, { on := 5, ground := Ground.phase }], guard := none }) (v := ?_) rfl (by kernel_rfl) (by kernel_rfl) (by kernel_rfl) (fun _ _ _ h => h) (Or.inl ⟨by rfl, ?hy7⟩) hS0 ?_
  case hy7 => (intro w hSw; (try dsimp only at hSw); go_simp; try with_reducible rfl)
  try simp only [Act.put, List.setIfInBounds_toArray, List.set_cons_zero, List.set_cons_succ]
  refine wpAnyH_take (i := 7) (oi := { dst := some 46, op := Op.fieldAddr 126 (Operand.tmp 45) 2, type := 0, pos := "ref.go:60", after := #[{ on := 6, ground := Ground.data }, { on := 0, ground := Ground.phase }, { on := 1, ground := Ground.phase }, { on := 2, ground := Ground.phase }, { on := 3, ground := Ground.phase }, { on := 4, ground := Ground.phase }, { on := 5, ground := Ground.phase }], guard := none }) (v := ?_) rfl (by kernel_rfl) (by kernel_rfl) (by kernel_rfl) (fun _ _ _ h => h) (Or.inl ⟨by rfl, ?hy8⟩) hS0 ?_
  case hy8 => (intro w hSw; (try dsimp only at hSw); go_simp; try with_reducible rfl)
  try simp only [Act.put, List.setIfInBounds_toArray, List.set_cons_zero, List.set_cons_succ]
  refine wpAnyH_ready (rs := [8]) (by kernel_rfl) (by simp) ?_
  refine AllReadyH.cons (o := { dst := none, op := Op.store 51 (Operand.tmp 46) (Operand.tmp 44), type := 0, pos := "ref.go:60", after := #[{ on := 7, ground := Ground.data }, { on := 5, ground := Ground.data }, { on := 0, ground := Ground.phase }, { on := 1, ground := Ground.phase }, { on := 2, ground := Ground.phase }, { on := 3, ground := Ground.phase }, { on := 4, ground := Ground.phase }, { on := 5, ground := Ground.phase }], guard := none }) rfl (fun K hK => ?_) ?_
  · rw [if_pos (by rfl)]; refine wp_store_mid 51 _ _ rfl g (i * 20 + 2) cs.toArray rfl rfl (by rw [List.size_toArray, HC.out.len]; exact TH.out) (by rw [List.size_toArray, HC.out.len]; exact size51) HC.out.one ?_
    refine hK.out _ _ ?hs9 (fun hS9 => ?_)
    case hs9 => ((try dsimp only); first | with_reducible exact y0 | with_reducible exact y1 | exact y0 | exact y1)
    clear hK K hS0
    refine wpAnyH_done (by kernel_rfl) ?_ _
    go_wp2_with fail
    go_ret
    exact ⟨rfl, FIN.out⟩
  exact AllReadyH.nil
set_option maxRecDepth 100000 in
set_option maxHeartbeats 1000000 in
theorem RefAt.fill_no (h : RefAt w R c s) {at_ : Int} (h1 : (s.tail : Int) ≤ at_ ∨ at_ < (s.low : Int) ∨ (s.X at_).isSome = true) (p : Int × Int) :
    Calls Try.prog 40 #[.pointer (some ⟨R.r, 0, none⟩), .int .i64 at_, .agg (cmdL p).toArray] w fun e w' => e = .returned (.bool false) ∧ Turn (fun _ => False) w w' := by
  obtain ⟨W, hW⟩ : ∃ W, W = w.alloc (.cells (cmdL p).toArray 51) := ⟨_, rfl⟩
  have T : Turn (fun _ => False) w W := by rw [hW]; exact (Turn.refl _ w).alloc _
  have hh := h.keep T
  have k7 := hh.k7
  have k9 := hh.k9
  obtain ⟨a, cap, hv, _⟩ := own_slice hh.own
  by_cases q1 : at_ < (s.low : Int)
  · have t1 : decide (at_ < (s.low : Int)) = true := by simpa using q1
    have K := Lib.hid T
    clear T hh h h1 hv q1
    generalize cmdL p = cs at *
    generalize s.low = lo at *
    go_enter Try.func40, Try.ntmps40
    go_upto_region 1 with fail
    rw [← hW]
    clear hW
    go_wp2
    go_ret
    exact ⟨rfl, K.out⟩
  · have t1 : decide (at_ < (s.low : Int)) = false := by simpa using q1
    by_cases q2 : (s.tail : Int) ≤ at_
    · have t2 : decide ((s.tail : Int) ≤ at_) = true := by simpa using q2
      rw [hv] at k7
      have K := Lib.hid T
      clear T hh h h1 hv q1 q2
      generalize cmdL p = cs at *
      generalize s.low = lo at *
      generalize s.tail = n at *
      go_enter Try.func40, Try.ntmps40
      go_upto_region 1 with fail
      rw [← hW]
      clear hW
      go_wp2
      go_ret
      exact ⟨rfl, K.out⟩
    · have q3 : (s.X at_).isSome = true := by
        rcases h1 with h1 | h1 | h1
        · exact absurd h1 q2
        · exact absurd h1 q1
        · exact h1
      obtain ⟨i, rfl⟩ : ∃ i : Nat, at_ = (i : Int) := ⟨at_.toNat, by omega⟩
      obtain ⟨g, cap, hv, hb, _, rows⟩ := hh.row (i := i) (by omega)
      rw [hv] at k7
      have c0 : W.cell? ⟨g, i * 20, none⟩ = some (.bool true) := by
        have := rows i (by omega) 0 (.bool (R.D i).fl) rfl
        rw [hh.fl i (by omega) (by omega), q3] at this
        exact this
      have t2 : decide ((s.tail : Int) ≤ (i : Int)) = false := by simp; omega
      have t1n : ¬ i < s.low := by omega
      have t2n : ¬ s.tail ≤ i := by omega
      have m1 : (0 : Int) ≤ (i : Int) := by omega
      have m2 : (i : Int) < (s.tail : Int) := by omega
      have K := Lib.hid T
      clear T hh h h1 hv q1 q2 q3 rows hb
      generalize cmdL p = cs at *
      generalize s.low = lo at *
      generalize s.tail = n at *
      go_enter Try.func40, Try.ntmps40
      go_upto_region 1 with fail
      rw [← hW]
      clear hW
      go_wp2
      go_ret
      exact ⟨rfl, K.out⟩
end
end Go.Proofs.Yteokdibfdahabaa
