/-
  Two rows of entries held against each other, of layer 15: a contract for the walks.
-/
import Derived.Test.YtbpcocobimdcnaaRo
import Derived.Test.YtbpcocobimdcnaaRv
import Derived.Deep.QuietTactic
namespace Go.Proofs.Ytbpcocobimdcnaa
open Go.ChangeShapes Go.WideShapes Go.ChangeAt Go.RowKit
set_option linter.unusedVariables false

theorem SameL.len {ys xs : List EV} (h : SameL ys xs) : ys.length = xs.length := by
  have := congrArg List.length h
  simpa using this
theorem SameL.at {ys xs : List EV} (h : SameL ys xs) {i : Nat} {y x : EV} (hy : ys[i]? = some y) (hx : xs[i]? = some x) : y.id = x.id ∧ y.till = x.till ∧ y.win = x.win ∧ y.o = x.o := by
  have e := congrArg (fun l => l[i]?) h
  simp only [List.getElem?_map, hy, hx, Option.map_some, Option.some.injEq, EV.key, Prod.mk.injEq] at e
  exact e
def QRel (w : World) (N : Nat) (gh : Nat) (v5 : Value) (wr : World) : Prop :=
  ∃ i : Nat, v5 = .int .i64 (i : Int) ∧ i ≤ N ∧ gh = N - i ∧ Turn (fun _ => False) w wr
set_option maxRecDepth 100000 in
set_option maxHeartbeats 2000000 in
theorem sameRows_is {w : World} {B1 B2 : Nat} {v1 v2 : Value} {ys xs : List EV} (h1 : w.ownsRow B1 48 5 v1 ys.length (ecells ys)) (h2 : w.ownsRow B2 48 5 v2 xs.length (ecells xs)) (t1 : TabsAt w ys) (t2 : TabsAt w xs) (hs : SameL ys xs) (hl : xs.length ≤ 1000) :
    Calls Try.prog 23 #[v1, v2] w fun e w' => e = .returned (.bool true) ∧ Turn (fun _ => False) w w' := by
  have hlen := hs.len
  rw [hlen] at h1
  obtain ⟨a1, c1, rfl, hg1⟩ := own_slice h1
  obtain ⟨a2, c2, rfl, hg2⟩ := own_slice h2
  have H := Lib.hid (And.intro h1 (And.intro h2 (And.intro t1 (And.intro t2 (And.intro hs (And.intro hlen (And.intro hg1 hg2)))))))
  obtain ⟨N, hN⟩ : ∃ N, xs.length = N := ⟨_, rfl⟩
  have HN := Lib.hid hN
  rw [hN] at hl ⊢
  have R0 : QRel w N N (.int .i64 0) w := ⟨0, rfl, Nat.zero_le _, by omega, Turn.refl _ _⟩
  clear h1 h2 t1 t2 hs hlen hg1 hg2 hN
  go_enter Try.func23, Try.ntmps23
  go_wp2_with fail
  go_loopg [5] N (fun gh v5 wr => QRel w N gh v5 wr)
  case atStart => exact R0
  case round =>
    clear R0
    obtain ⟨i, rfl, hi, hgh, T⟩ := hrel
    by_cases hlt : i < N
    · have u1 : decide ((i : Int) < (N : Int)) = true := decide_eq_true (by omega)
      have hN := HN.out
      obtain ⟨y, hy⟩ : ∃ e, ys[i]? = some e := ⟨_, List.getElem?_eq_getElem (by have := H.out.2.2.2.2.2.1; omega)⟩
      obtain ⟨x, hx⟩ : ∃ e, xs[i]? = some e := ⟨_, List.getElem?_eq_getElem (by omega)⟩
      obtain ⟨k1, k2, k3, k4⟩ := H.out.2.2.2.2.1.at hy hx
      obtain ⟨g1, rfl⟩ := H.out.2.2.2.2.2.2.1 (by omega)
      obtain ⟨g2, rfl⟩ := H.out.2.2.2.2.2.2.2 (by omega)
      have p1 := (H.out.2.2.1 y (List.mem_of_getElem? hy)).turn T
      have p2 := (H.out.2.2.2.1 x (List.mem_of_getElem? hx)).turn T
      obtain ⟨y0, y1, y2, y3, y4⟩ := ecells_at ys i y hy
      obtain ⟨x0, x1, x2, x3, x4⟩ := ecells_at xs i x hx
      have o1 := own_turn H.out.1 T (fun _ _ f => f)
      have o2 := own_turn H.out.2.1 T (fun _ _ f => f)
      obtain ⟨ad, an, ac, e1⟩ := plain_slice p1
      obtain ⟨bd, bn, bc, e2⟩ := plain_slice p2
      obtain ⟨yid, ytill, ycs, ywin, yo⟩ := y
      obtain ⟨xid, xtill, xcs, xwin, xo⟩ := x
      dsimp only at *
      subst e1 e2 k1 k2 k3 k4
      have hT := fun (W : World) (hW : W = wr.drew) => And.intro (sameTab_is (win := ywin) (p1.turn (show Turn (fun _ => False) wr W from by rw [hW]; exact (Turn.refl _ wr).drewN 1)) (p2.turn (by rw [hW]; exact (Turn.refl _ wr).drewN 1))) (show Turn (fun _ => False) wr W from by rw [hW]; exact (Turn.refl _ wr).drewN 1)
      have ST := Lib.hid hT
      have F := Lib.hid (show ∀ W, Turn (fun _ => False) wr W → QRel w N (N - (i + 1)) (.int .i64 ((i + 1 : Nat) : Int)) W from fun W t => ⟨i + 1, rfl, by omega, rfl, T.trans t⟩)
      have y0 := (o1.cellAt (i * 5) (by omega)).trans y0
      have y1 := (o1.cellAt (i * 5 + 1) (by omega)).trans y1
      have y2 := (o1.cellAt (i * 5 + 2) (by omega)).trans y2
      have y3 := (o1.cellAt (i * 5 + 3) (by omega)).trans y3
      have y4 := (o1.cellAt (i * 5 + 4) (by omega)).trans y4
      have x0 := (o2.cellAt (i * 5) (by omega)).trans x0
      have x1 := (o2.cellAt (i * 5 + 1) (by omega)).trans x1
      have x2 := (o2.cellAt (i * 5 + 2) (by omega)).trans x2
      have x3 := (o2.cellAt (i * 5 + 3) (by omega)).trans x3
      have x4 := (o2.cellAt (i * 5 + 4) (by omega)).trans x4
      have hi0 : (0 : Int) ≤ (i : Int) := by omega
      have hi1 : (i : Int) < (N : Int) := by omega
      have n1 : (yid != yid) = false := by simp
      have n2 : (ytill != ytill) = false := by simp
      have G := Lib.hid hgh
      clear hT o1 o2 p1 p2 hy hx T hN hgh
      go_wp2_with fail
      refine wp_tail_any 10 (by kernel_rfl) (by kernel_rfl) ?_
      intro W hW
      obtain ⟨S1, TW⟩ := ST.out W hW
      have S1 := Lib.hid S1
      have kp : ∀ {k j v}, wr.cell? ⟨k, j, none⟩ = some v → W.cell? ⟨k, j, none⟩ = some v := fun h => TW.cell (fun f => f) h
      have y0 := kp y0
      have y1 := kp y1
      have y2 := kp y2
      have y3 := kp y3
      have y4 := kp y4
      have x0 := kp x0
      have x1 := kp x1
      have x2 := kp x2
      have x3 := kp x3
      have x4 := kp x4
      have TW := Lib.hid TW
      clear ST kp hW
      simp only [List.take_succ_cons, List.take_zero, List.drop_succ_cons, List.drop_zero]
      repeat still_step
      refine wpStill_nil ?_
      go_wp2_with fail
      refine S1.out.mono ?_
      rintro en w2 ⟨rfl, T2⟩
      have y0 := T2.cell (fun f => f) y0
      have y1 := T2.cell (fun f => f) y1
      have x0 := T2.cell (fun f => f) x0
      have x1 := T2.cell (fun f => f) x1
      have F2 := Lib.hid (fun n => F.out (w2.drewN n) ((TW.out.trans T2).drewN n))
      clear y2 y3 y4 x2 x3 x4 S1 T2 TW F
      go_wp2_with fail
      go_quiet (fail)
      have F3 := Lib.hid (F2.out nq)
      clear F2 y0 y1 x0 x1
      generalize w2.drewN nq = W4 at *
      clear nq
      go_wp2_with fail
      go_roundg (N - (i + 1))
      case measure => have := G.out; omega
      case rel => exact F3.out
    · obtain rfl : i = N := by omega
      have u1 : decide ((i : Int) < (i : Int)) = false := by simp
      have F := Lib.hid T
      clear T hgh
      go_wp2
      go_ret
      exact ⟨rfl, F.out⟩
end Go.Proofs.Ytbpcocobimdcnaa
