/-
  The document's own answers: how often a ref is in a row.
-/
import Derived.Test.YtepmealhnnoahaaSa
namespace Go.Proofs.Ytepmealhnnoahaa
set_option linter.unusedSimpArgs false
open Go.ChangeShapes Go.WideShapes Go.ChangeAt Go.RowKit
set_option linter.unusedVariables false
/-- A row of refs that is read. -/
def RefsAt (w : World) (v : Value) (l : List (Int × Int)) : Prop :=
  ∃ (a : Option Addr) (b cap : Nat), v = .slice a l.length cap ∧ (l = [] ∨ a = some ⟨b, 0, none⟩) ∧ ∀ (k : Nat) (p : Int × Int), l[k]? = some p → w.rangeAt b (k * 2) [.int .i64 p.1, .int .i64 p.2]
theorem RefsAt.turn {Z : Nat → Prop} {w w' : World} {v : Value} {l : List (Int × Int)} (h : RefsAt w v l) (T : Turn Z w w') (hz : ∀ k, v.ownBlock = some k → ¬ Z k) : RefsAt w' v l := by
  obtain ⟨a, b, cap, e, h1, h2⟩ := h
  refine ⟨a, b, cap, e, h1, fun k p hp => ?_⟩
  obtain rfl := h1.resolve_left (fun e => by rw [e] at hp; simp at hp)
  exact range_turn (h2 k p hp) T (hz b (by rw [e]; rfl))
theorem rcells_at : ∀ (l : List (Int × Int)) (k : Nat) (p : Int × Int), l[k]? = some p → (rcells l)[k * 2]? = some (.int .i64 p.1) ∧ (rcells l)[k * 2 + 1]? = some (.int .i64 p.2)
  | [], k, p, h => by simp at h
  | q :: l, 0, p, h => by
    simp at h
    subst h
    simp [rcells]
  | q :: l, k + 1, p, h => by
    have := rcells_at l k p (by simpa using h)
    rw [show (k + 1) * 2 = k * 2 + 1 + 1 from by omega]
    simp only [rcells, List.getElem?_cons_succ]
    exact this
theorem refs_own {w : World} {base : Nat} {v : Value} {l : List (Int × Int)} (h : w.ownsRow base 38 2 v l.length (rcells l)) : RefsAt w v l := by
  rcases h.2 with ⟨e, e2⟩ | ⟨g, cap, cur, e, _⟩
  · obtain rfl := List.eq_nil_of_length_eq_zero e2
    exact ⟨none, 0, 0, e, .inl rfl, fun k p h => by simp at h⟩
  · subst e
    refine ⟨_, g, cap, rfl, .inr rfl, fun k p hp j v hv => ?_⟩
    have hk := (List.getElem?_eq_some_iff.1 hp).1
    obtain ⟨c1, c2⟩ := rcells_at l k p hp
    match j, hv with
    | 0, hv => cases hv; exact (h.cellAt (k * 2) (by omega)).trans c1
    | 1, hv => cases hv; exact (h.cellAt (k * 2 + 1) (by omega)).trans c2
theorem eql38 (a b c d : Int) (w : World) : (binOp BinOp.eql 38 (.agg #[.int .i64 a, .int .i64 b]) (.agg #[.int .i64 c, .int .i64 d])).run Try.prog w = .ok (.bool (a == c && b == d)) w := by
  go_simp
  by_cases h1 : a = c <;> by_cases h2 : b = d <;> simp [h1, h2]
/-- How often a ref is in a row. -/
def cntR (r : Int × Int) : List (Int × Int) → Nat
  | [] => 0
  | p :: l => (if p.1 == r.1 && p.2 == r.2 then 1 else 0) + cntR r l
theorem cntR_app (r : Int × Int) : ∀ l m, cntR r (l ++ m) = cntR r l + cntR r m
  | [], m => by simp [cntR]
  | p :: l, m => by simp only [List.cons_append, cntR]; rw [cntR_app r l m]; omega
theorem cntR_le (r : Int × Int) : ∀ l, cntR r l ≤ l.length
  | [] => Nat.le_refl _
  | p :: l => by have := cntR_le r l; simp only [cntR, List.length_cons]; split <;> omega
theorem size38 : (Try.prog.info? 38).map (·.size) = some 2 := by kernel_rfl
theorem cntR_take {r : Int × Int} {l : List (Int × Int)} {k : Nat} {p : Int × Int} (h : l[k]? = some p) : cntR r (l.take (k + 1)) = cntR r (l.take k) + (if p.1 == r.1 && p.2 == r.2 then 1 else 0) := by
  rw [List.take_add_one, h, cntR_app]
  simp [cntR]
def CtRel (W0 : World) (l : List (Int × Int)) (r : Int × Int) (gh : Nat) (v5 v6 : Value) (wr : World) : Prop :=
  ∃ k : Nat, v6 = .int .i64 (k : Int) ∧ v5 = .int .i64 (cntR r (l.take k) : Int) ∧ k ≤ l.length ∧ gh = l.length - k ∧ Turn (fun _ => False) W0 wr
set_option maxRecDepth 100000 in
set_option maxHeartbeats 4000000 in
theorem count_is {w : World} {v : Value} {l : List (Int × Int)} (h : RefsAt w v l) (hl : l.length ≤ 1000000) (r : Int × Int) :
    Calls Try.prog 24 #[v, .agg #[.int .i64 r.1, .int .i64 r.2]] w fun e w' => e = .returned (.int .i64 (cntR r l : Int)) ∧ Turn (fun _ => False) w w' := by
  obtain ⟨a, b, cap, rfl, e0, hx⟩ := h
  obtain ⟨W0, hW0⟩ : ∃ W0, W0 = w.alloc (.cells #[.int .i64 r.1, .int .i64 r.2] 38) := ⟨_, rfl⟩
  have T0 : Turn (fun _ => False) w W0 := by rw [hW0]; exact (Turn.refl _ w).alloc _
  have R0 : W0.rangeAt w.heap.size 0 [.int .i64 r.1, .int .i64 r.2] := by rw [hW0]; exact range_new w [.int .i64 r.1, .int .i64 r.2] 38
  have bw : w.heap.size < W0.heap.size := by rw [hW0, World.size_alloc]; omega
  have HX := Lib.hid (And.intro (fun k p hp => range_turn (hx k p hp) T0 id) (And.intro R0 T0))
  have RR : CtRel W0 l r l.length (.int .i64 0) (.int .i64 0) W0 := ⟨0, rfl, by simp [cntR], Nat.zero_le _, rfl, Turn.refl _ _⟩
  have HB := Lib.hid bw
  clear hx R0 T0 bw
  go_enter Try.func24, Try.ntmps24
  go_upto_region 1 with fail
  rw [← hW0]
  clear hW0
  generalize w.heap.size = rb at *
  go_wp2_with fail
  go_loopg [5, 6] l.length (fun gh v5 v6 wr => CtRel W0 l r gh v5 v6 wr)
  case atStart => exact RR
  case round =>
    clear RR
    obtain ⟨k, rfl, rfl, hk, hg, T⟩ := hrel
    by_cases hkl : k < l.length
    · obtain ⟨p, hp⟩ : ∃ p, l[k]? = some p := ⟨_, List.getElem?_eq_getElem hkl⟩
      obtain rfl := e0.resolve_left (fun e => by rw [e] at hkl; simp at hkl)
      have hr := range_turn (HX.out.1 k p hp) T id
      have y0 : wr.cell? ⟨b, k * 2, none⟩ = some (.int .i64 p.1) := hr 0 _ rfl
      have y1 : wr.cell? ⟨b, k * 2 + 1, none⟩ = some (.int .i64 p.2) := hr 1 _ rfl
      have hr2 := range_turn HX.out.2.1 T id
      have z0 : wr.cell? ⟨rb, 0, none⟩ = some (.int .i64 r.1) := hr2 0 _ rfl
      have z1 : wr.cell? ⟨rb, 1, none⟩ = some (.int .i64 r.2) := hr2 1 _ rfl
      have EQ := eql38 p.1 p.2 r.1 r.2
      have t1 : decide ((k : Int) < (l.length : Int)) = true := by simp; omega
      have hk1 : (k : Int) < (l.length : Int) := by omega
      have hk0 : (0 : Int) ≤ (k : Int) := by omega
      have cl : cntR r (l.take k) ≤ 1000000 := Nat.le_trans (cntR_le _ _) (by rw [List.length_take]; omega)
      have hs := cntR_take (r := r) hp
      have G := Lib.hid (And.intro hg (And.intro T (And.intro hkl hs)))
      clear hr hr2 hg T hkl hs hp hk
      generalize cntR r (l.take k) = c at *
      cases hq : (p.1 == r.1 && p.2 == r.2) with
      | true =>
        rw [hq] at EQ
        go_wp2_with fail
        go_quiet (fail)
        go_wp2_with fail
        go_roundg (l.length - (k + 1))
        case measure => have := G.out.1; have := G.out.2.2.1; omega
        case rel => exact ⟨k + 1, by go_num, by rw [G.out.2.2.2, hq]; rfl, by have := G.out.2.2.1; omega, rfl, G.out.2.1.trans ((Turn.refl _ wr).drewN _)⟩
      | false =>
        rw [hq] at EQ
        go_wp2_with fail
        go_quiet (fail)
        go_wp2_with fail
        go_roundg (l.length - (k + 1))
        case measure => have := G.out.1; have := G.out.2.2.1; omega
        case rel => exact ⟨k + 1, by go_num, by rw [G.out.2.2.2, hq]; rfl, by have := G.out.2.2.1; omega, rfl, G.out.2.1.trans ((Turn.refl _ wr).drewN _)⟩
    · obtain rfl : k = l.length := by omega
      have t1 : decide ((l.length : Int) < (l.length : Int)) = false := by simp
      rw [List.take_length]
      have F := Lib.hid (HX.out.2.2.trans T)
      clear hk hg T HX
      go_wp2
      go_ret
      exact ⟨rfl, F.out⟩
def BoolYes (q : Prop) (w : World) (e : Ending) (w' : World) : Prop := ∃ t, e = .returned (.bool t) ∧ (q → t = true) ∧ Turn (fun _ => False) w w'
def SrRel (W0 : World) (l : List (Int × Int)) (gh : Nat) (v5 : Value) (wr : World) : Prop :=
  ∃ k : Nat, v5 = .int .i64 (k : Int) ∧ k ≤ l.length ∧ gh = l.length - k ∧ Turn (fun _ => False) W0 wr
set_option maxRecDepth 100000 in
set_option maxHeartbeats 4000000 in
theorem srefs_is {w : World} {v1 v2 : Value} {l m : List (Int × Int)} (h1 : RefsAt w v1 l) (h2 : RefsAt w v2 m) (hl : l.length ≤ 1000000) (hm : m.length ≤ 1000000) :
    Calls Try.prog 16 #[v1, v2] w (BoolYes (l = m) w) := by
  have CC := Lib.hid (show ∀ W, Turn (fun _ => False) w W → ∀ p : Int × Int, Calls Try.prog 24 #[v1, .agg #[.int .i64 p.1, .int .i64 p.2]] W (fun e w' => e = .returned (.int .i64 (cntR p l : Int)) ∧ Turn (fun _ => False) W w') ∧ Calls Try.prog 24 #[v2, .agg #[.int .i64 p.1, .int .i64 p.2]] W (fun e w' => e = .returned (.int .i64 (cntR p m : Int)) ∧ Turn (fun _ => False) W w') from
    fun W T p => ⟨count_is (h1.turn T (fun _ _ q => q)) hl p, count_is (h2.turn T (fun _ _ q => q)) hm p⟩)
  obtain ⟨a1, b1, c1, rfl, e1, x1⟩ := h1
  obtain ⟨a2, b2, c2, rfl, e2, x2⟩ := h2
  have H := Lib.hid x1
  clear x1 x2
  have RR : SrRel w l l.length (.int .i64 0) w := ⟨0, rfl, Nat.zero_le _, rfl, Turn.refl _ _⟩
  by_cases hlm : l.length = m.length
  · have s1 : ((l.length : Int) != (m.length : Int)) = false := by simp; omega
    have HA := Lib.hid hlm
    clear hlm
    go_enter Try.func16, Try.ntmps16
    go_wp2_with fail
    go_loopg [5] l.length (fun gh v wr => SrRel w l gh v wr)
    case atStart => exact RR
    case round =>
      clear RR
      obtain ⟨i, rfl, hi, hg, T⟩ := hrel
      by_cases hil : i < l.length
      · obtain ⟨p, hp⟩ : ∃ p, l[i]? = some p := ⟨_, List.getElem?_eq_getElem hil⟩
        obtain rfl := e1.resolve_left (fun e => by rw [e] at hil; simp at hil)
        have hr := range_turn (H.out i p hp) T id
        have t1 : decide ((i : Int) < (l.length : Int)) = true := by simp; omega
        have hi1 : (i : Int) < (l.length : Int) := by omega
        have hi0 : (0 : Int) ≤ (i : Int) := by omega
        have C1 := Lib.hid (fun W (t : Turn (fun _ => False) wr W) => (CC.out W (T.trans t) p).1)
        have C2 := Lib.hid (fun W (t : Turn (fun _ => False) wr W) => (CC.out W (T.trans t) p).2)
        have KS := Lib.hid (show ∀ w1, Turn (fun _ => False) wr w1 → w1.rangeAt b1 (i * 2) [.int .i64 p.1, .int .i64 p.2] from fun w1 t => range_turn hr t id)
        have G := Lib.hid (And.intro hg (And.intro T hil))
        have T1 : Turn (fun _ => False) wr wr.drew := (Turn.refl _ wr).drewN 1
        clear hr hg T hil hp hi
        go_upto_region 6 with fail
        refine wp_region_held_drew (S := (fun w' => w'.rangeAt b1 (i * 2) [.int .i64 p.1, .int .i64 p.2])) (by kernel_rfl) ?hs0 (fun hS0 => ?_)
        case hs0 => ((try dsimp only); first | exact KS.out _ T1 | exact KS.out _ T2 | exact KS.out _ T3)
        refine wpAnyH_take (i := 0) (oi := { dst := some 17, op := Op.move (Operand.tmp 0), type := 54, pos := "ref.go:185", after := #[], guard := none }) (v := ?_) rfl (by kernel_rfl) (by kernel_rfl) (by kernel_rfl) (fun _ _ _ h => h) (Or.inl ⟨by rfl, ?hy1⟩) hS0 ?_
        case hy1 => (intro w hSw; (try dsimp only at hSw); go_simp; try with_reducible rfl)
        try simp only [Act.put, List.setIfInBounds_toArray, List.set_cons_zero, List.set_cons_succ]
        refine wpAnyH_take (i := 1) (oi := { dst := some 18, op := Op.move (Operand.tmp 0), type := 54, pos := "ref.go:185", after := #[], guard := none }) (v := ?_) rfl (by kernel_rfl) (by kernel_rfl) (by kernel_rfl) (fun _ _ _ h => h) (Or.inl ⟨by rfl, ?hy2⟩) hS0 ?_
        case hy2 => (intro w hSw; (try dsimp only at hSw); go_simp; try with_reducible rfl)
        try simp only [Act.put, List.setIfInBounds_toArray, List.set_cons_zero, List.set_cons_succ]
        refine wpAnyH_take (i := 2) (oi := { dst := some 19, op := Op.move (Operand.tmp 5), type := 3, pos := "ref.go:185", after := #[], guard := none }) (v := ?_) rfl (by kernel_rfl) (by kernel_rfl) (by kernel_rfl) (fun _ _ _ h => h) (Or.inl ⟨by rfl, ?hy3⟩) hS0 ?_
        case hy3 => (intro w hSw; (try dsimp only at hSw); go_simp; try with_reducible rfl)
        try simp only [Act.put, List.setIfInBounds_toArray, List.set_cons_zero, List.set_cons_succ]
        refine wpAnyH_take (i := 3) (oi := { dst := some 20, op := Op.indexAddr 54 (Operand.tmp 18) (Operand.tmp 19), type := 0, pos := "ref.go:185", after := #[{ on := 1, ground := Ground.data }, { on := 2, ground := Ground.data }], guard := none }) (v := ?_) rfl (by kernel_rfl) (by kernel_rfl) (by kernel_rfl) (fun _ _ _ h => h) (Or.inl ⟨by rfl, ?hy4⟩) hS0 ?_
        case hy4 => (intro w hSw; (try dsimp only at hSw); go_simp; try with_reducible rfl)
        try simp only [Act.put, List.setIfInBounds_toArray, List.set_cons_zero, List.set_cons_succ]
        refine wpAnyH_take (i := 4) (oi := { dst := some 21, op := Op.load 38 (Operand.tmp 20), type := 38, pos := "ref.go:185", after := #[{ on := 3, ground := Ground.data }], guard := none }) (v := .agg #[.int .i64 p.1, .int .i64 p.2]) rfl (by kernel_rfl) (by kernel_rfl) (by kernel_rfl) (fun _ _ _ h => h) (yieldsIf_load_mid rfl 38 _ rfl b1 (i * 2) rfl [.int .i64 p.1, .int .i64 p.2] _ (fun _ hSw => hSw) Try.underlying38 rfl size38) hS0 ?_
        try simp only [Act.put, List.setIfInBounds_toArray, List.set_cons_zero, List.set_cons_succ]
        refine wpAnyH_take (i := 6) (oi := { dst := some 23, op := Op.move (Operand.tmp 1), type := 54, pos := "ref.go:185", after := #[], guard := none }) (v := ?_) rfl (by kernel_rfl) (by kernel_rfl) (by kernel_rfl) (fun _ _ _ h => h) (Or.inl ⟨by rfl, ?hy6⟩) hS0 ?_
        case hy6 => (intro w hSw; (try dsimp only at hSw); go_simp; try with_reducible rfl)
        try simp only [Act.put, List.setIfInBounds_toArray, List.set_cons_zero, List.set_cons_succ]
        refine wpAnyH_take (i := 7) (oi := { dst := some 24, op := Op.move (Operand.tmp 0), type := 54, pos := "ref.go:185", after := #[], guard := none }) (v := ?_) rfl (by kernel_rfl) (by kernel_rfl) (by kernel_rfl) (fun _ _ _ h => h) (Or.inl ⟨by rfl, ?hy7⟩) hS0 ?_
        case hy7 => (intro w hSw; (try dsimp only at hSw); go_simp; try with_reducible rfl)
        try simp only [Act.put, List.setIfInBounds_toArray, List.set_cons_zero, List.set_cons_succ]
        refine wpAnyH_take (i := 8) (oi := { dst := some 25, op := Op.move (Operand.tmp 5), type := 3, pos := "ref.go:185", after := #[], guard := none }) (v := ?_) rfl (by kernel_rfl) (by kernel_rfl) (by kernel_rfl) (fun _ _ _ h => h) (Or.inl ⟨by rfl, ?hy8⟩) hS0 ?_
        case hy8 => (intro w hSw; (try dsimp only at hSw); go_simp; try with_reducible rfl)
        try simp only [Act.put, List.setIfInBounds_toArray, List.set_cons_zero, List.set_cons_succ]
        refine wpAnyH_take (i := 9) (oi := { dst := some 26, op := Op.indexAddr 54 (Operand.tmp 24) (Operand.tmp 25), type := 0, pos := "ref.go:185", after := #[{ on := 7, ground := Ground.data }, { on := 8, ground := Ground.data }], guard := none }) (v := ?_) rfl (by kernel_rfl) (by kernel_rfl) (by kernel_rfl) (fun _ _ _ h => h) (Or.inl ⟨by rfl, ?hy9⟩) hS0 ?_
        case hy9 => (intro w hSw; (try dsimp only at hSw); go_simp; try with_reducible rfl)
        try simp only [Act.put, List.setIfInBounds_toArray, List.set_cons_zero, List.set_cons_succ]
        refine wpAnyH_take (i := 10) (oi := { dst := some 27, op := Op.load 38 (Operand.tmp 26), type := 38, pos := "ref.go:185", after := #[{ on := 9, ground := Ground.data }], guard := none }) (v := .agg #[.int .i64 p.1, .int .i64 p.2]) rfl (by kernel_rfl) (by kernel_rfl) (by kernel_rfl) (fun _ _ _ h => h) (yieldsIf_load_mid rfl 38 _ rfl b1 (i * 2) rfl [.int .i64 p.1, .int .i64 p.2] _ (fun _ hSw => hSw) Try.underlying38 rfl size38) hS0 ?_
        try simp only [Act.put, List.setIfInBounds_toArray, List.set_cons_zero, List.set_cons_succ]
        refine wpAnyH_ready (rs := [5]) (by kernel_rfl) (by simp) ?_
        refine AllReadyH.cons (o := { dst := some 22, op := Op.call { callee := Callee.value (Operand.func 24), args := #[Operand.tmp 17, Operand.tmp 21], argTypes := #[54, 38] }, type := 3, pos := "ref.go:185", after := #[{ on := 0, ground := Ground.data }, { on := 4, ground := Ground.data }], guard := none }) rfl (fun K hK => ?_) ?_
        · go_simp; with_reducible refine (C1.out _ T1).mono ?_; rintro en W4 ⟨rfl, T14⟩; have T2 := T1.trans T14; go_simp
          refine hK.out _ _ ?hs11 (fun hS11 => ?_)
          case hs11 => ((try dsimp only); first | exact KS.out _ T1 | exact KS.out _ T2 | exact KS.out _ T3)
          clear hK K hS0
          refine wpAnyH_ready (rs := [11]) (by kernel_rfl) (by simp) ?_
          refine AllReadyH.cons (o := { dst := some 28, op := Op.call { callee := Callee.value (Operand.func 24), args := #[Operand.tmp 23, Operand.tmp 27], argTypes := #[54, 38] }, type := 3, pos := "ref.go:185", after := #[{ on := 6, ground := Ground.data }, { on := 10, ground := Ground.data }, { on := 5, ground := Ground.chain }], guard := none }) rfl (fun K hK => ?_) ?_
          · go_simp; with_reducible refine (C2.out _ T2).mono ?_; rintro en W5 ⟨rfl, T25⟩; have T3 := T2.trans T25; go_simp
            refine hK.out _ _ ?hs12 (fun hS12 => ?_)
            case hs12 => ((try dsimp only); first | exact KS.out _ T1 | exact KS.out _ T2 | exact KS.out _ T3)
            clear hK K hS11
            refine wpAnyH_take (i := 12) (oi := { dst := some 29, op := Op.binOp BinOp.neq 3 (Operand.tmp 22) (Operand.tmp 28) 3, type := 4, pos := "ref.go:185", after := #[{ on := 5, ground := Ground.data }, { on := 11, ground := Ground.data }], guard := none }) (v := ?_) rfl (by kernel_rfl) (by kernel_rfl) (by kernel_rfl) (fun _ _ _ h => h) (Or.inl ⟨by rfl, ?hy13⟩) hS12 ?_
            case hy13 => (intro w hSw; (try dsimp only at hSw); go_simp; try with_reducible rfl)
            try simp only [Act.put, List.setIfInBounds_toArray, List.set_cons_zero, List.set_cons_succ]
            refine wpAnyH_done (by kernel_rfl) ?_ _
            by_cases hc : cntR p l = cntR p m
            · have hb : ((cntR p l : Int) != (cntR p m : Int)) = false := by simp; omega
              go_wp2_with fail
              go_roundg (l.length - (i + 1))
              case measure => have := G.out.1; omega
              case rel => exact ⟨i + 1, by go_num, by have := G.out.2.2; omega, rfl, G.out.2.1.trans T3⟩
            · have hb : ((cntR p l : Int) != (cntR p m : Int)) = true := by simp; omega
              go_wp2
              go_ret
              exact ⟨_, rfl, fun e => absurd (by rw [e]) hc, G.out.2.1.trans T3⟩
          exact AllReadyH.nil
        exact AllReadyH.nil
      · obtain rfl : i = l.length := by omega
        have t1 : decide ((l.length : Int) < (l.length : Int)) = false := by simp
        have F := Lib.hid T
        clear hi hg T hil
        go_wp2
        go_ret
        exact ⟨_, rfl, fun _ => rfl, F.out⟩
  · have s1 : ((l.length : Int) != (m.length : Int)) = true := by simp; omega
    have NE := Lib.hid (show l ≠ m from fun e => hlm (by rw [e]))
    clear RR hlm
    go_enter Try.func16, Try.ntmps16
    go_wp2
    go_ret
    exact ⟨_, rfl, fun e => absurd e NE.out, Turn.refl _ _⟩
end Go.Proofs.Ytepmealhnnoahaa
