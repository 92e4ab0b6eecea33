/-
  The document's own log, in memory: what a worker tells.
-/
import Derived.Test.YteokdibfdahabaaRf6
namespace Go.Proofs.Yteokdibfdahabaa
open Go.ChangeShapes Go.WideShapes Go.ChangeAt Go.RowKit
set_option linter.unusedVariables false
section
variable {w w' : World} {R : RB} {c : Cf} {s : LSt}
theorem RefAt.put_out (h : RefAt w R c s) {i j : Nat} (hi : i < s.tail) (hj : j < c.sh) {a : Option Addr} {n m : Nat} {o : Option Int} (ho : OutV w (.slice a n m) o) (th : w.there (R.D i).ob (j * 4) 4) :
    RefAt (w.setCells (R.D i).ob (j * 4) [.slice none 0 0, .slice a n m, .slice none 0 0, .slice none 0 0]) R c { s with Y := upd s.Y j (updI (s.Y j) (i : Int) (some o)) } := by
  have T : Turn (fun b => b = (R.D i).ob) w (w.setCells (R.D i).ob (j * 4) [.slice none 0 0, .slice a n m, .slice none 0 0, .slice none 0 0]) := Turn.setCells _ _ (Turn.refl _ w) (.inl rfl)
  have hb := (h.ob i hi).1
  have n2 : ∀ b (u : TypeId), Blk w b u → u ≠ 62 → b ≠ (R.D i).ob := fun b u hb' hu => hb'.ne hb hu
  have nr := n2 _ _ h.br (by decide)
  have nk := n2 _ _ h.bk (by decide)
  obtain ⟨cp, k10⟩ := h.k10
  refine ⟨h.br.setCells _ _, T.cell nr h.k0, T.cell nr h.k1, T.cell nr h.k6, T.cell nr h.k7, T.cell nr h.k8, T.cell nr h.k9, ⟨cp, T.cell nr k10⟩, h.bk.setCells _ _, fun i hi => T.cell nk (h.w0 i hi), fun i hi => T.cell nk (h.w1 i hi),
    own_turn h.own T (fun b e => n2 b _ (own_blk h.own e) (by decide)), fun k hk => ⟨(h.ob k hk).1.setCells _ _, (h.ob k hk).2⟩, h.obne, h.b1, h.b2, h.fl, h.cm, h.wt, h.an, fun k hk hl q hq => ?_⟩
  show OutC _ (R.D k).ob q ((upd s.Y j (updI (s.Y j) (i : Int) (some o)) q (k : Int)).getD none)
  by_cases e : k = i
  · subst e
    by_cases e2 : q = j
    · subst e2
      rw [upd_at, updI_at]
      exact ⟨a, n, m, World.rangeAt_setCells_same _ _ _ _ th, ho.turn T (fun b hb => n2 b _ hb (by decide))⟩
    · rw [upd_off _ _ e2]
      obtain ⟨a', n', m', hr, hv⟩ := h.outs k hk hl q hq
      refine ⟨a', n', m', World.rangeAt_setCells_apart hr _ _ _ (.inr ?_), hv.turn T (fun b hb => n2 b _ hb (by decide))⟩
      simp only [List.length_cons, List.length_nil]
      omega
  · have : (upd s.Y j (updI (s.Y j) (i : Int) (some o)) q (k : Int)) = s.Y q (k : Int) := by
      by_cases e2 : q = j
      · subst e2
        rw [upd_at, updI_off _ _ (by omega)]
      · rw [upd_off _ _ e2]
    rw [this]
    exact (h.outs k hk hl q hq).turn T (h.obne k i hk hi e) (fun b hb => n2 b _ hb (by decide))
set_option maxRecDepth 100000 in
set_option maxHeartbeats 4000000 in
theorem RefAt.post_is (h : RefAt w R c s) (hsh : c.sh ≤ 15) {i : Nat} (hi : i < c.sh) (hl : s.left i = false) (hcb : s.cur i ≤ 100000) {a : Option Addr} {n0 m : Nat} {o : Option Int} (ho : OutV w (.slice a n0 m) o) :
    Calls Try.prog 41 #[.pointer (some ⟨R.r, 0, none⟩), .int .i64 (i : Int), .agg #[.slice none 0 0, .slice a n0 m, .slice none 0 0, .slice none 0 0]] w fun e w' =>
      (¬ LiesB s (s.cur i : Int) ∧ e = .returned (.bool false) ∧ Turn (fun _ => False) w w') ∨
      (LiesB s (s.cur i : Int) ∧ e = .returned (.bool true) ∧ RefAt w' R c { s with cur := upd s.cur i (s.cur i + 1), Y := upd s.Y i (updI (s.Y i) (s.cur i) (some o)) } ∧ Turn (RS R.base w) w w') := by
  obtain ⟨W, hW⟩ : ∃ W, W = w.alloc (.cells #[.slice none 0 0, .slice a n0 m, .slice none 0 0, .slice none 0 0] 62) := ⟨_, rfl⟩
  have T : Turn (fun _ => False) w W := by rw [hW]; exact (Turn.refl _ w).alloc _
  have Bk : Blk W w.heap.size 62 := by rw [hW]; exact Blk.new w [.slice none 0 0, .slice a n0 m, .slice none 0 0, .slice none 0 0] 62
  have RG : W.rangeAt w.heap.size 0 [.slice none 0 0, .slice a n0 m, .slice none 0 0, .slice none 0 0] := by rw [hW]; exact range_new w [.slice none 0 0, .slice a n0 m, .slice none 0 0, .slice none 0 0] 62
  have hh := h.keep T
  have H := Lib.hid (hh.is_yes hsh hi hl)
  obtain ⟨cp, k10⟩ := hh.k10
  have w0 := hh.w0 i hi
  have m1 : (0 : Int) ≤ (i : Int) := by omega
  have m2 : (i : Int) < (c.sh : Int) := by omega
  by_cases hL : LiesB s (s.cur i : Int)
  · have L := Lib.hid (hh.lies_yes hL)
    have HL := Lib.hid hL
    obtain ⟨q1, q2, q3⟩ := hL
    have hit : s.cur i < s.tail := by omega
    obtain ⟨g, cap, hv, hb, hgb, rows⟩ := hh.row hit
    have k7 := hh.k7
    rw [hv] at k7
    have c16 : W.cell? ⟨g, s.cur i * 20 + 16, none⟩ = some (.slice (some ⟨(R.D (s.cur i)).ob, 0, none⟩) c.sh c.sh) := rows _ hit 16 _ rfl
    have obb := hh.ob _ hit
    have th : W.there (R.D (s.cur i)).ob (i * 4) 4 := by
      obtain ⟨a', n', m', hr, _⟩ := hh.outs _ hit (by omega) i hi
      exact range_there hr rfl obb.1
    have thd : W.drew.there (R.D (s.cur i)).ob (i * 4) 4 := (World.there_drew _ _ _ _).2 th
    have hd := hh.keep ((Turn.refl (fun _ => False) W).drewN 1)
    have hod : OutV W.drew (.slice a n0 m) o := (ho.turn T (fun _ _ f => f)).turn ((Turn.refl (fun _ => False) W).drewN 1) (fun _ _ f => f)
    have F := (RefAt.put_out (w := W.drew) hd hit hi hod thd).put_cur hi (s.cur i + 1)
    have T3 : Turn (fun b => b = (R.D (s.cur i)).ob) W (W.drew.setCells (R.D (s.cur i)).ob (i * 4) [.slice none 0 0, .slice a n0 m, .slice none 0 0, .slice none 0 0]) := Turn.setCells _ _ ((Turn.refl _ W).drewN 1) (.inl rfl)
    have sro : ∀ b, b < w.heap.size → b = (R.D (s.cur i)).ob → RS R.base w b := fun b hb e => by rw [e]; exact ⟨(h.ob _ hit).2, .inr (.inr (.inr (h.ob _ hit).1))⟩
    have FIN := Lib.hid (show RefAt ((W.drew.setCells (R.D (s.cur i)).ob (i * 4) [.slice none 0 0, .slice a n0 m, .slice none 0 0, .slice none 0 0]).setCell ⟨R.wk, i * 2, none⟩ (.int .i64 ((s.cur i : Int) + 1))) R c { s with cur := upd s.cur i (s.cur i + 1), Y := upd s.Y i (updI (s.Y i) (s.cur i) (some o)) } ∧ Turn (RS R.base w) w ((W.drew.setCells (R.D (s.cur i)).ob (i * 4) [.slice none 0 0, .slice a n0 m, .slice none 0 0, .slice none 0 0]).setCell ⟨R.wk, i * 2, none⟩ (.int .i64 ((s.cur i : Int) + 1))) from
      ⟨F, ((T.more (S' := RS R.base w) (fun _ _ f => f.elim)).comp T3 sro).setCell (p := ⟨R.wk, i * 2, none⟩) (.inl h.sk) _⟩)
    have nr : R.r ≠ (R.D (s.cur i)).ob := hh.br.ne obb.1 (by decide)
    have nk : R.wk ≠ (R.D (s.cur i)).ob := hh.bk.ne obb.1 (by decide)
    have ng : g ≠ (R.D (s.cur i)).ob := hb.ne obb.1 (by decide)
    have nb : w.heap.size ≠ (R.D (s.cur i)).ob := by have := (h.ob _ hit).1.lt; omega
    have y0 : W.drew.cell? ⟨R.r, 7, none⟩ = some (.slice (some ⟨g, 0, none⟩) s.tail cap) ∧ W.drew.cell? ⟨g, s.cur i * 20 + 16, none⟩ = some (.slice (some ⟨(R.D (s.cur i)).ob, 0, none⟩) c.sh c.sh) ∧ W.drew.rangeAt w.heap.size 0 [.slice none 0 0, .slice a n0 m, .slice none 0 0, .slice none 0 0] := ⟨k7, c16, RG⟩
    have y1 := And.intro (T3.cell nr k7) (And.intro (T3.cell ng c16) (range_turn RG T3 nb))
    have z10 := T3.cell nr k10
    have z0 := T3.cell nk w0
    have zf : (W.drew.setCells (R.D (s.cur i)).ob (i * 4) [.slice none 0 0, .slice a n0 m, .slice none 0 0, .slice none 0 0]).frozen? ⟨R.wk, i * 2, none⟩ = false := (hh.bk.turn T3 nk).fz _
    have TH := Lib.hid thd
    have HC := Lib.hid (o1_isc a n0 m)
    have e4 : wrap64 ((s.cur i : Int) + 1) = (s.cur i : Int) + 1 := by unfold wrap64; omega
    have m3 : (0 : Int) ≤ (s.cur i : Int) := by omega
    have m4 : (s.cur i : Int) < (s.tail : Int) := by omega
    clear T Bk RG hh hv hb hgb rows obb th thd hd hod F T3 sro nr nk ng nb q1 q2 q3 hit h ho hl hcb hsh
    generalize (R.D (s.cur i)).ob = ob at *
    go_enter Try.func41, Try.ntmps41
    go_upto_region 1 with fail
    rw [← hW]
    clear hW
    generalize [Value.slice none 0 0, Value.slice a n0 m, Value.slice none 0 0, Value.slice none 0 0] = cs at *
    generalize w.heap.size = b5 at *
    go_wp2_with fail
    with_reducible refine H.out.mono ?_
    rintro e w1 ⟨rfl, rfl⟩
    go_wp2_with fail
    with_reducible refine L.out.mono ?_
    rintro e w1 ⟨rfl, rfl⟩
    go_upto_region 8 with fail


    refine wp_region_held_drew (S := (fun w' => w'.cell? ⟨R.r, 7, none⟩ = some (.slice (some ⟨g, 0, none⟩) s.tail cap) ∧ w'.cell? ⟨g, s.cur i * 20 + 16, none⟩ = some (.slice (some ⟨ob, 0, none⟩) c.sh c.sh) ∧ w'.rangeAt b5 0 cs)) (by kernel_rfl) ?hs0 (fun hS0 => ?_)
    case hs0 => ((try dsimp only); first | with_reducible exact y0 | with_reducible exact y1 | exact y0 | exact y1)
    refine wpAnyH_take (i := 0) (oi := { dst := some 28, op := Op.move (Operand.tmp 0), type := 30, pos := "ref.go:101", after := #[], guard := none }) (v := ?_) rfl (by kernel_rfl) (by kernel_rfl) (by kernel_rfl) (fun _ _ _ h => h) (Or.inl ⟨by rfl, ?hy1⟩) hS0 ?_
    case hy1 => (intro w hSw; (try dsimp only at hSw); go_simp; try with_reducible rfl)
    try simp only [Act.put, List.setIfInBounds_toArray, List.set_cons_zero, List.set_cons_succ]
    refine wpAnyH_take (i := 1) (oi := { dst := some 29, op := Op.nilCheck (Operand.tmp 28), type := 0, pos := "ref.go:101", after := #[{ on := 0, ground := Ground.data }], guard := none }) (v := ?_) rfl (by kernel_rfl) (by kernel_rfl) (by kernel_rfl) (fun _ _ _ h => h) (Or.inl ⟨by rfl, ?hy2⟩) hS0 ?_
    case hy2 => (intro w hSw; (try dsimp only at hSw); go_simp; try with_reducible rfl)
    try simp only [Act.put, List.setIfInBounds_toArray, List.set_cons_zero, List.set_cons_succ]
    refine wpAnyH_take (i := 2) (oi := { dst := some 30, op := Op.fieldAddr 101 (Operand.tmp 29) 1, type := 0, pos := "ref.go:101", after := #[{ on := 1, ground := Ground.data }], guard := none }) (v := ?_) rfl (by kernel_rfl) (by kernel_rfl) (by kernel_rfl) (fun _ _ _ h => h) (Or.inl ⟨by rfl, ?hy3⟩) hS0 ?_
    case hy3 => (intro w hSw; (try dsimp only at hSw); go_simp; try with_reducible rfl)
    try simp only [Act.put, List.setIfInBounds_toArray, List.set_cons_zero, List.set_cons_succ]
    refine wpAnyH_take (i := 3) (oi := { dst := some 31, op := Op.load 99 (Operand.tmp 30), type := 99, pos := "ref.go:101", after := #[{ on := 2, ground := Ground.data }], guard := none }) (v := ?_) rfl (by kernel_rfl) (by kernel_rfl) (by kernel_rfl) (fun _ _ _ h => h) (Or.inl ⟨by rfl, ?hy4⟩) hS0 ?_
    case hy4 => (intro w hSw; (try dsimp only at hSw); go_simp; try with_reducible rfl)
    try simp only [Act.put, List.setIfInBounds_toArray, List.set_cons_zero, List.set_cons_succ]
    refine wpAnyH_take (i := 4) (oi := { dst := some 32, op := Op.move (Operand.tmp 8), type := 3, pos := "ref.go:101", after := #[], guard := none }) (v := ?_) rfl (by kernel_rfl) (by kernel_rfl) (by kernel_rfl) (fun _ _ _ h => h) (Or.inl ⟨by rfl, ?hy5⟩) hS0 ?_
    case hy5 => (intro w hSw; (try dsimp only at hSw); go_simp; try with_reducible rfl)
    try simp only [Act.put, List.setIfInBounds_toArray, List.set_cons_zero, List.set_cons_succ]
    refine wpAnyH_take (i := 5) (oi := { dst := some 33, op := Op.indexAddr 99 (Operand.tmp 31) (Operand.tmp 32), type := 0, pos := "ref.go:101", after := #[{ on := 3, ground := Ground.data }, { on := 4, ground := Ground.data }], guard := none }) (v := ?_) rfl (by kernel_rfl) (by kernel_rfl) (by kernel_rfl) (fun _ _ _ h => h) (Or.inl ⟨by rfl, ?hy6⟩) hS0 ?_
    case hy6 => (intro w hSw; (try dsimp only at hSw); go_simp; try with_reducible rfl)
    try simp only [Act.put, List.setIfInBounds_toArray, List.set_cons_zero, List.set_cons_succ]
    refine wpAnyH_take (i := 6) (oi := { dst := some 34, op := Op.fieldAddr 126 (Operand.tmp 33) 3, type := 0, pos := "ref.go:101", after := #[{ on := 5, ground := Ground.data }], guard := none }) (v := ?_) rfl (by kernel_rfl) (by kernel_rfl) (by kernel_rfl) (fun _ _ _ h => h) (Or.inl ⟨by rfl, ?hy7⟩) hS0 ?_
    case hy7 => (intro w hSw; (try dsimp only at hSw); go_simp; try with_reducible rfl)
    try simp only [Act.put, List.setIfInBounds_toArray, List.set_cons_zero, List.set_cons_succ]
    refine wpAnyH_take (i := 7) (oi := { dst := some 35, op := Op.load 74 (Operand.tmp 34), type := 74, pos := "ref.go:101", after := #[{ on := 6, ground := Ground.data }], guard := none }) (v := ?_) rfl (by kernel_rfl) (by kernel_rfl) (by kernel_rfl) (fun _ _ _ h => h) (Or.inl ⟨by rfl, ?hy8⟩) hS0 ?_
    case hy8 => (intro w hSw; (try dsimp only at hSw); go_simp; try with_reducible rfl)
    try simp only [Act.put, List.setIfInBounds_toArray, List.set_cons_zero, List.set_cons_succ]
    refine wpAnyH_take (i := 8) (oi := { dst := some 36, op := Op.move (Operand.tmp 1), type := 3, pos := "ref.go:101", after := #[], guard := none }) (v := ?_) rfl (by kernel_rfl) (by kernel_rfl) (by kernel_rfl) (fun _ _ _ h => h) (Or.inl ⟨by rfl, ?hy9⟩) hS0 ?_
    case hy9 => (intro w hSw; (try dsimp only at hSw); go_simp; try with_reducible rfl)
    try simp only [Act.put, List.setIfInBounds_toArray, List.set_cons_zero, List.set_cons_succ]
    refine wpAnyH_take (i := 9) (oi := { dst := some 37, op := Op.load 62 (Operand.tmp 5), type := 62, pos := "ref.go:101", after := #[], guard := none }) (v := .agg cs.toArray) rfl (by kernel_rfl) (by kernel_rfl) (by kernel_rfl) (fun _ _ _ h => h) (yieldsIf_load_mid (by rfl) 62 _ rfl b5 0 rfl cs _ (fun _ h => h.2.2) Try.underlying62 rfl (by rw [HC.out.len]; exact size62)) hS0 ?_
    try simp only [Act.put, List.setIfInBounds_toArray, List.set_cons_zero, List.set_cons_succ]
    refine wpAnyH_take (i := 10) (oi := { dst := some 38, op := Op.indexAddr 74 (Operand.tmp 35) (Operand.tmp 36), type := 0, pos := "ref.go:101", after := #[{ on := 7, ground := Ground.data }, { on := 8, ground := Ground.data }, { on := 0, ground := Ground.phase }, { on := 1, ground := Ground.phase }, { on := 2, ground := Ground.phase }, { on := 3, ground := Ground.phase }, { on := 4, ground := Ground.phase }, { on := 5, ground := Ground.phase }, { on := 6, ground := Ground.phase }, { on := 7, ground := Ground.phase }, { on := 8, ground := Ground.phase }, { on := 9, ground := Ground.phase }], guard := none }) (v := ?_) rfl (by kernel_rfl) (by kernel_rfl) (by kernel_rfl) (fun _ _ _ h => h) (Or.inl ⟨by rfl, ?hy11⟩) hS0 ?_
    case hy11 => (intro w hSw; (try dsimp only at hSw); go_simp; try with_reducible rfl)
    try simp only [Act.put, List.setIfInBounds_toArray, List.set_cons_zero, List.set_cons_succ]
    refine wpAnyH_ready (rs := [11]) (by kernel_rfl) (by simp) ?_
    refine AllReadyH.cons (o := { dst := none, op := Op.store 62 (Operand.tmp 38) (Operand.tmp 37), type := 0, pos := "ref.go:101", after := #[{ on := 10, ground := Ground.data }, { on := 9, ground := Ground.data }, { on := 0, ground := Ground.phase }, { on := 1, ground := Ground.phase }, { on := 2, ground := Ground.phase }, { on := 3, ground := Ground.phase }, { on := 4, ground := Ground.phase }, { on := 5, ground := Ground.phase }, { on := 6, ground := Ground.phase }, { on := 7, ground := Ground.phase }, { on := 8, ground := Ground.phase }, { on := 9, ground := Ground.phase }], guard := none }) rfl (fun K hK => ?_) ?_
    · rw [if_pos (by rfl)]; refine wp_store_mid 62 _ _ rfl ob (i * 4) cs.toArray rfl rfl (by rw [List.size_toArray, HC.out.len]; exact TH.out) (by rw [List.size_toArray, HC.out.len]; exact size62) HC.out.one ?_
      refine hK.out _ _ ?hs12 (fun hS12 => ?_)
      case hs12 => ((try dsimp only); first | with_reducible exact y0 | with_reducible exact y1 | exact y0 | exact y1)
      clear hK K hS0
      refine wpAnyH_done (by kernel_rfl) ?_ _
      generalize W.drew.setCells ob (i * 4) cs = W3 at *
      go_wp2_with fail
      go_ret
      exact .inr ⟨HL.out, rfl, FIN.out⟩
    exact AllReadyH.nil
  · have L := Lib.hid (hh.lies_no hL)
    have HL := Lib.hid (And.intro hL T)
    clear T Bk RG hh h ho hl hcb hsh hL
    go_enter Try.func41, Try.ntmps41
    go_upto_region 1 with fail
    rw [← hW]
    clear hW
    go_wp2_with fail
    with_reducible refine H.out.mono ?_
    rintro e w1 ⟨rfl, rfl⟩
    go_wp2_with fail
    with_reducible refine L.out.mono ?_
    rintro e w1 ⟨rfl, rfl⟩
    go_wp2_with fail
    go_ret
    exact .inl ⟨HL.out.1, rfl, HL.out.2⟩
set_option maxRecDepth 100000 in
theorem RefAt.post_no (h : RefAt w R c s) (hsh : c.sh ≤ 15) {at_ : Int} (hn : ¬ IsW c.sh s.left at_) (v0 v1 v2 v3 : Value) :
    Calls Try.prog 41 #[.pointer (some ⟨R.r, 0, none⟩), .int .i64 at_, .agg #[v0, v1, v2, v3]] w fun e w' => e = .returned (.bool false) ∧ Turn (fun _ => False) w w' := by
  obtain ⟨W, hW⟩ : ∃ W, W = w.alloc (.cells #[v0, v1, v2, v3] 62) := ⟨_, rfl⟩
  have T : Turn (fun _ => False) w W := by rw [hW]; exact (Turn.refl _ w).alloc _
  have H := Lib.hid ((h.keep T).is_no hsh hn)
  have K := Lib.hid T
  clear h hn T
  go_enter Try.func41, Try.ntmps41
  go_upto_region 1 with fail
  rw [← hW]
  clear hW
  go_wp2_with fail
  with_reducible refine H.out.mono ?_
  rintro e w1 ⟨rfl, rfl⟩
  go_wp2
  go_ret
  exact ⟨rfl, K.out⟩
end
end Go.Proofs.Yteokdibfdahabaa
