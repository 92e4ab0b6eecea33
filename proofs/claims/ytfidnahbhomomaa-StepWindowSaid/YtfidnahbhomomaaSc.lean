/-
  A table is right.
-/
import Derived.Test.YtfidnahbhomomaaSb
namespace Go.Proofs.Ytfidnahbhomomaa
open Go.ChangeShapes Go.WideShapes Go.ChangeAt Go.RowKit
set_option linter.unusedVariables false
set_option linter.unusedSimpArgs false
/-- A cell of a table without rules: its type, whether it is Plus, the types of its guards. -/
structure Cel where
  typ : Int
  plus : Bool
  nots : List Int
structure Tab where
  cells : List Cel
  win : Int
  key : Bool
def GuardsAt (w : World) (v : Value) (l : List Int) : Prop :=
  ∃ (a : Option Addr) (b off cap : Nat), v = .slice a l.length cap ∧ (l = [] ∨ a = some ⟨b, off, none⟩) ∧ ∀ (k : Nat) (g : Int), l[k]? = some g → w.rangeAt b (off + k * 2) [.int .i64 g, .slice none 0 0]
def CellsAt (w : World) (v : Value) (l : List Cel) : Prop :=
  ∃ (b off cap : Nat), v = .slice (some ⟨b, off, none⟩) l.length cap ∧ ∀ (k : Nat) (c : Cel), l[k]? = some c → ∃ nv, w.rangeAt b (off + k * 4) [.int .i64 c.typ, .bool c.plus, .slice none 0 0, nv] ∧ GuardsAt w nv c.nots
theorem GuardsAt.turn {w w' : World} {v : Value} {l : List Int} (h : GuardsAt w v l) (T : Turn (fun _ => False) w w') : GuardsAt w' v l := by
  obtain ⟨a, b, off, cap, e, ha, hx⟩ := h
  exact ⟨a, b, off, cap, e, ha, fun k g hg => range_turn (hx k g hg) T id⟩
theorem CellsAt.turn {w w' : World} {v : Value} {l : List Cel} (h : CellsAt w v l) (T : Turn (fun _ => False) w w') : CellsAt w' v l := by
  obtain ⟨b, off, cap, e, hx⟩ := h
  exact ⟨b, off, cap, e, fun k c hc => by
    obtain ⟨nv, h1, h2⟩ := hx k c hc
    exact ⟨nv, range_turn h1 T id, h2.turn T⟩⟩
theorem CellsAt.sl {w : World} {v : Value} {l : List Cel} (h : CellsAt w v l) : ∃ b off cap, v = .slice (some ⟨b, off, none⟩) l.length cap := by
  obtain ⟨b, off, cap, e, _⟩ := h
  exact ⟨b, off, cap, e⟩
theorem CellsAt.at {w : World} {b off n cap : Nat} {l : List Cel} (h : CellsAt w (.slice (some ⟨b, off, none⟩) n cap) l) {k : Nat} {c : Cel} (hc : l[k]? = some c) : ∃ nv, w.rangeAt b (off + k * 4) [.int .i64 c.typ, .bool c.plus, .slice none 0 0, nv] ∧ GuardsAt w nv c.nots := by
  obtain ⟨b', off', cap', e, hx⟩ := h
  have e2 : b = b' ∧ off = off' := by injection e with z1 z2 z3; injection z1 with z1; injection z1 with z1 z4; exact ⟨z1, z4⟩
  obtain ⟨rfl, rfl⟩ := e2
  exact hx k c hc
/-- A table that is as it should be. -/
structure Tab.ok (T : Tab) : Prop where
  n1 : 1 ≤ T.cells.length
  n6 : T.cells.length ≤ 6
  w1 : 1 ≤ T.win
  w8 : T.win ≤ 8
  last : ∀ c, T.cells[T.cells.length - 1]? = some c → c.nots = []
  typ : ∀ c ∈ T.cells, 0 ≤ c.typ ∧ c.typ < 8
  nots : ∀ c ∈ T.cells, c.nots.length ≤ 100 ∧ ∀ g ∈ c.nots, 0 ≤ g ∧ g < 8
theorem typed_is (x : Int) (h : 0 ≤ x ∧ x < 8) (w : World) : Calls Try.prog 51 #[.int .i64 x] w fun e w' => e = .returned (.bool true) ∧ w = w' := by
  have t1 : decide ((0 : Int) ≤ x) = true := decide_eq_true h.1
  have t2 : decide (x < 8) = true := decide_eq_true h.2
  go_enter Try.func51, Try.ntmps51
  go_wp2
  go_ret
  exact ⟨rfl, rfl⟩
theorem ruled_nil (f : Value) (w : World) : Calls Try.prog 52 #[.slice none 0 0, f] w fun e w' => e = .returned (.bool true) ∧ w = w' := by
  have R0 : ∃ k : Nat, (Value.int .i64 0) = .int .i64 (k : Int) ∧ k = 0 ∧ w = w := ⟨0, rfl, rfl, rfl⟩
  go_enter Try.func52, Try.ntmps52
  go_wp2_with fail
  go_loopg [13] 0 (fun gh v13 wr => v13 = .int .i64 0 ∧ wr = w)
  case atStart => exact ⟨rfl, rfl⟩
  case round =>
    obtain ⟨rfl, rfl⟩ := hrel
    go_wp2
    go_ret
    exact ⟨rfl, rfl⟩
def RgRel (w : World) (n gh : Nat) (v42 : Value) (wr : World) : Prop := ∃ k : Nat, v42 = .int .i64 (k : Int) ∧ k ≤ n ∧ gh = n - k ∧ Turn (fun _ => False) w wr
theorem wrapR {k n : Nat} (h : k < n) (hn : n ≤ 100) : wrap64 ((k : Int) + 1) = (k : Int) + 1 := by unfold wrap64; omega
set_option maxRecDepth 100000 in
set_option maxHeartbeats 8000000 in
theorem right_is {w : World} {cv : Value} {T : Tab} (h : CellsAt w cv T.cells) (ok : T.ok) : Calls Try.prog 30 #[.agg #[cv, .int .i64 T.win, .bool T.key]] w fun e w' => e = .returned (.bool true) ∧ Turn (fun _ => False) w w' := by
  obtain ⟨b, off, cap, rfl⟩ := h.sl
  have n1 := ok.n1
  have n6 := ok.n6
  have hlt : T.cells.length - 1 < T.cells.length := by omega
  obtain ⟨cl, hcl⟩ : ∃ c, T.cells[T.cells.length - 1]? = some c := ⟨_, List.getElem?_eq_getElem hlt⟩
  have hln := ok.last cl hcl
  obtain ⟨W, hW⟩ : ∃ W, W = (w.alloc (.cells #[.slice (some ⟨b, off, none⟩) T.cells.length cap, .int .i64 T.win, .bool T.key] 26)).alloc (.cells #[.int .i64 (T.cells.length : Int)] 3) := ⟨_, rfl⟩
  have TW : Turn (fun _ => False) w W := by rw [hW]; exact ((Turn.refl _ w).alloc _).alloc _
  have R1 : W.rangeAt w.heap.size 0 [.slice (some ⟨b, off, none⟩) T.cells.length cap, .int .i64 T.win, .bool T.key] := by
    rw [hW]
    exact range_turn (range_new w [.slice (some ⟨b, off, none⟩) T.cells.length cap, .int .i64 T.win, .bool T.key] 26) ((Turn.refl (fun _ => False) _).alloc _) id
  have R2 : W.cell? ⟨w.heap.size + 1, 0, none⟩ = some (.int .i64 (T.cells.length : Int)) := by
    rw [hW]
    have := range_new (w.alloc (.cells #[.slice (some ⟨b, off, none⟩) T.cells.length cap, .int .i64 T.win, .bool T.key] 26)) [.int .i64 (T.cells.length : Int)] 3 0 _ rfl
    rw [World.size_alloc] at this
    exact this
  have hWW := h.turn TW
  obtain ⟨nv, hl, hg⟩ := hWW.at hcl
  rw [hln] at hg
  obtain ⟨na, nb, no, nc, rfl, -, -⟩ := hg
  have x0 := R1 0 _ rfl
  have x1 := R1 1 _ rfl
  rw [Nat.zero_add] at x1
  have x3 := hl 3 _ rfl
  have FF := Lib.hid (And.intro h (And.intro ok TW))
  have HR := Lib.hid (And.intro R1 R2)
  have HW := Lib.hid hW
  have e1 : wrap64 ((T.cells.length : Int) - 1) = ((T.cells.length - 1 : Nat) : Int) := by unfold wrap64; omega
  have t1 : decide ((T.cells.length : Int) < 1) = false := decide_eq_false (by omega)
  have t2 : decide ((6 : Int) < (T.cells.length : Int)) = false := decide_eq_false (by omega)
  have t3 : decide (T.win < 1) = false := decide_eq_false (by have := ok.w1; omega)
  have t4 : decide ((8 : Int) < T.win) = false := decide_eq_false (by have := ok.w8; omega)
  have i0 : (0 : Int) ≤ ((T.cells.length - 1 : Nat) : Int) := Int.natCast_nonneg _
  have i1 : ((T.cells.length - 1 : Nat) : Int) < (T.cells.length : Int) := Int.ofNat_lt.2 hlt
  clear h ok TW R1 hWW hl hcl hln hW n1 n6 hlt
  go_enter Try.func30, Try.ntmps30
  go_upto_region 2 with fail
  rw [← HW.out]
  clear HW
  generalize w.heap.size + 1 = nbx at *
  generalize hnk : T.cells.length - 1 = nk at *
  go_upto_region 4 with fail
  have R0 : RgRel W T.cells.length T.cells.length (.int .i64 0) W := ⟨0, rfl, Nat.zero_le _, rfl, Turn.refl _ _⟩
  clear x1 x3 R2 e1 t1 t2 t3 t4 i0 i1 hnk
  go_wp2_with fail
  clear x0
  go_loopg [4, 5, 6, 8, 42] T.cells.length (fun gh v4 v5 v6 v8 v42 wr => RgRel W T.cells.length gh v42 wr)
  case atStart => exact R0
  case round =>
    clear R0
    obtain ⟨k, rfl, hk, hgk, TV⟩ := hrel
    obtain ⟨h, ok, TW⟩ := FF.out
    by_cases hkl : k < T.cells.length
    · obtain ⟨c, hc⟩ : ∃ c, T.cells[k]? = some c := ⟨_, List.getElem?_eq_getElem hkl⟩
      have hcm := List.mem_of_getElem? hc
      obtain ⟨nv, hl, hgd⟩ := (h.turn (TW.trans TV)).at hc
      obtain ⟨na2, gb, go, gc, rfl, hga, hgx⟩ := hgd
      have y0 := hl 0 _ rfl
      have y1 := hl 1 _ rfl
      have y2 := hl 2 _ rfl
      have y3 := hl 3 _ rfl
      rw [Nat.add_zero] at y0
      have u1 : decide ((k : Int) < (T.cells.length : Int)) = true := decide_eq_true (Int.ofNat_lt.2 hkl)
      have u2 : decide (k < T.cells.length) = true := decide_eq_true hkl
      have k0 : (0 : Int) ≤ (k : Int) := Int.natCast_nonneg k
      have k1 : (k : Int) < (T.cells.length : Int) := Int.ofNat_lt.2 hkl
      have ek := wrapR hkl (Nat.le_trans ok.n6 (by decide))
      obtain ⟨U, hU⟩ : ∃ U, U = ((wr.alloc (.cells #[.int .i64 (k : Int)] 3)).alloc (.cells #[.int .i64 c.typ, .bool c.plus, .slice none 0 0, .slice na2 c.nots.length gc] 59)).alloc (.cells #[Value.nilFunc] 93) := ⟨_, rfl⟩
      have TU : Turn (fun _ => False) wr U := by rw [hU]; exact (((Turn.refl _ wr).alloc _).alloc _).alloc _
      have zc0 : U.rangeAt (wr.heap.size + 1) 0 [.int .i64 c.typ, .bool c.plus, .slice none 0 0, .slice na2 c.nots.length gc] := by
        rw [hU]
        have := range_new (wr.alloc (.cells #[.int .i64 (k : Int)] 3)) [.int .i64 c.typ, .bool c.plus, .slice none 0 0, .slice na2 c.nots.length gc] 59
        rw [World.size_alloc] at this
        exact range_turn this ((Turn.refl (fun _ => False) _).alloc _) id
      have zf0 : U.cell? ⟨wr.heap.size + 1 + 1, 0, none⟩ = some Value.nilFunc ∧ Blk U (wr.heap.size + 1 + 1) 93 := by
        rw [hU]
        have h1 := range_new ((wr.alloc (.cells #[.int .i64 (k : Int)] 3)).alloc (.cells #[.int .i64 c.typ, .bool c.plus, .slice none 0 0, .slice na2 c.nots.length gc] 59)) [Value.nilFunc] 93 0 _ rfl
        have h2 := Blk.new ((wr.alloc (.cells #[.int .i64 (k : Int)] 3)).alloc (.cells #[.int .i64 c.typ, .bool c.plus, .slice none 0 0, .slice na2 c.nots.length gc] 59)) [Value.nilFunc] 93
        rw [World.size_alloc, World.size_alloc] at h1 h2
        exact ⟨h1, h2⟩
      obtain ⟨V, hV⟩ : ∃ V, V = U.setCell ⟨wr.heap.size + 1 + 1, 0, none⟩ (.func (.func 50) #[] #[.pointer (some ⟨wr.heap.size, 0, none⟩)]) := ⟨_, rfl⟩
      have SF : (store ⟨wr.heap.size + 1 + 1, 0, none⟩ (.func (.func 50) #[] #[.pointer (some ⟨wr.heap.size, 0, none⟩)])).run Try.prog U = .ok () V := by
        rw [hV]
        rw [run_store Try.prog _ _ _ _ (by rfl), zf0.1]
        dsimp only
        rw [zf0.2.fz]
        rfl
      have TVV : Turn (fun _ => False) wr V := by rw [hV]; exact TU.setCell (.inr (by show _ ≤ wr.heap.size + 1 + 1; omega)) _
      have zc : V.rangeAt (wr.heap.size + 1) 0 [.int .i64 c.typ, .bool c.plus, .slice none 0 0, .slice na2 c.nots.length gc] := by
        rw [hV]
        exact range_turn zc0 (Turn.put _ _ _ _) (by show ¬ (wr.heap.size + 1 = wr.heap.size + 1 + 1); omega)
      have zf : V.cell? ⟨wr.heap.size + 1 + 1, 0, none⟩ = some (.func (.func 50) #[] #[.pointer (some ⟨wr.heap.size, 0, none⟩)]) := by
        rw [hV]
        exact World.cell?_setCell_same _ _ _ zf0.1
      have c0 := zc 0 _ rfl
      have c2 := zc 2 _ rfl
      have c3 := zc 3 _ rfl
      rw [Nat.zero_add] at c2 c3
      have TY := Lib.hid (typed_is c.typ (ok.typ c hcm))
      have RN := Lib.hid (ruled_nil (.func (.func 50) #[] #[.pointer (some ⟨wr.heap.size, 0, none⟩)]))
      have GD := Lib.hid (And.intro (fun k g hg => range_turn (hgx k g hg) TVV id) (And.intro hga (ok.nots c hcm)))
      have STEP := Lib.hid (show ∀ U, Turn (fun _ => False) V U → RgRel W T.cells.length (T.cells.length - (k + 1)) (.int .i64 ((k : Int) + 1)) U from fun U TU => ⟨k + 1, congrArg (Value.int .i64) (Int.natCast_succ k).symm, hkl, rfl, (TV.trans TVV).trans TU⟩)
      have G := Lib.hid (And.intro hgk hkl)
      clear hk hgk TV h ok TW hc hcm hl hga hgx hV TVV zc hkl zc0 zf0 TU
      rw [hU] at SF
      clear hU
      go_upto_region 8 with fail
      clear y0 y1 y2 y3 SF
      generalize wr.heap.size + 1 = cb at *
      generalize cb + 1 = fb at *
      go_wp2_with fail
      with_reducible refine (TY.out _).mono ?_
      rintro en W1 ⟨rfl, rfl⟩
      go_wp2_with fail
      with_reducible refine (RN.out _).mono ?_
      rintro en W1 ⟨rfl, rfl⟩
      go_upto_region 10 with fail
      have I0 : RgRel V c.nots.length c.nots.length (.int .i64 0) V := ⟨0, rfl, Nat.zero_le _, rfl, Turn.refl _ _⟩
      clear TY RN c0 c2 zf
      go_wp2_with fail
      clear c3
      go_loopg [8, 62] c.nots.length (fun gh v8 v62 wg => RgRel V c.nots.length gh v62 wg)
      case atStart => exact I0
      case round =>
        clear I0
        obtain ⟨j, rfl, hj, hgj, TJ⟩ := hrel
        rename World => wg
        by_cases hjl : j < c.nots.length
        · obtain ⟨g, hg⟩ : ∃ g, c.nots[j]? = some g := ⟨_, List.getElem?_eq_getElem hjl⟩
          obtain ⟨hgx, hga, hgn⟩ := GD.out
          obtain rfl := hga.resolve_left (fun e => by rw [e] at hjl; exact absurd hjl (Nat.not_lt_zero j))
          have hr := range_turn (hgx j g hg) TJ id
          have g0 := hr 0 _ rfl
          have g1 := hr 1 _ rfl
          rw [Nat.add_zero] at g0
          have v1 : decide ((j : Int) < (c.nots.length : Int)) = true := decide_eq_true (Int.ofNat_lt.2 hjl)
          have v2 : decide (j < c.nots.length) = true := decide_eq_true hjl
          have l0 : (0 : Int) ≤ (j : Int) := Int.natCast_nonneg j
          have l1 : (j : Int) < (c.nots.length : Int) := Int.ofNat_lt.2 hjl
          have ej := wrapR hjl hgn.1
          have TY := Lib.hid (typed_is g (hgn.2 g (List.mem_of_getElem? hg)))
          have TX : Turn (fun _ => False) wg (wg.alloc (.cells #[.int .i64 g, .slice none 0 0] 70)) := (Turn.refl _ wg).alloc _
          have RX := range_new wg [.int .i64 g, .slice none 0 0] 70
          have q0 := RX 0 _ rfl
          have q1 := RX 1 _ rfl
          rw [Nat.zero_add] at q1
          have ST2 := Lib.hid (show RgRel V c.nots.length (c.nots.length - (j + 1)) (.int .i64 ((j : Int) + 1)) (wg.alloc (.cells #[.int .i64 g, .slice none 0 0] 70)) from ⟨j + 1, congrArg (Value.int .i64) (Int.natCast_succ j).symm, hjl, rfl, TJ.trans TX⟩)
          have G2 := Lib.hid (And.intro hgj hjl)
          have RN := Lib.hid (fun f => ruled_nil f (wg.alloc (.cells #[.int .i64 g, .slice none 0 0] 70)))
          clear hj hgj TJ hjl hg hgx hga hgn hr TX RX
          go_upto_region 13 with fail
          clear g0 g1
          generalize wg.alloc (.cells #[.int .i64 g, .slice none 0 0] 70) = wh at *
          go_wp2_with fail
          with_reducible refine (TY.out _).mono ?_
          rintro en W1 ⟨rfl, rfl⟩
          go_wp2_with fail
          with_reducible refine (RN.out _).mono ?_
          rintro en W1 ⟨rfl, rfl⟩
          go_wp2_with fail
          go_roundg (c.nots.length - (j + 1))
          case measure => have := G2.out.1; have := G2.out.2; omega
          case rel => first | exact ST2.out | (rw [ej]; exact ST2.out)
        · obtain rfl : j = c.nots.length := Nat.le_antisymm hj (Nat.not_lt.1 hjl)
          have v1 : decide ((c.nots.length : Int) < (c.nots.length : Int)) = false := decide_eq_false (Int.lt_irrefl _)
          have v2 : decide (c.nots.length < c.nots.length) = false := decide_eq_false (Nat.lt_irrefl _)
          have ST2 := Lib.hid (STEP.out _ TJ)
          clear hj hjl hgj TJ GD STEP
          go_wp2_with fail
          go_roundg (T.cells.length - (k + 1))
          case measure => have := G.out.1; have := G.out.2; omega
          case rel => first | exact ST2.out | (rw [ek]; exact ST2.out)
    · obtain rfl : k = T.cells.length := Nat.le_antisymm hk (Nat.not_lt.1 hkl)
      have u1 : decide ((T.cells.length : Int) < (T.cells.length : Int)) = false := decide_eq_false (Int.lt_irrefl _)
      have u2 : decide (T.cells.length < T.cells.length) = false := decide_eq_false (Nat.lt_irrefl _)
      have FIN := Lib.hid (show Turn (fun _ => False) w wr from TW.trans TV)
      clear hk hgk hkl TV h ok TW
      go_wp2
      go_ret
      exact ⟨rfl, FIN.out⟩
end Go.Proofs.Ytfidnahbhomomaa
