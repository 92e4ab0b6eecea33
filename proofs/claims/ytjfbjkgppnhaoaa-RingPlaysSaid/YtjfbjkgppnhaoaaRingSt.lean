/-
  What a put, a drop leave of what lies in a ring; are two rows of items the same.
-/
import Derived.Test.YtjfbjkgppnhaoaaItm
import Derived.Deep.LoopGhost
namespace Go.Proofs.Ytjfbjkgppnhaoaa
open Go.ChangeShapes Go.WideShapes Go.ChangeAt Go.RowKit
set_option linter.unusedVariables false

/-- A ring that counts what lies in it. -/
def Lv (w : World) (r pb N L : Nat) (x : Nat → Int) (t : Nat → Bool) : Prop := Ringy w r pb N (L : Int) (((its N L x t N).length : Nat) : Int) x t

section
variable {w w' : World} {r pb N L : Nat} {x : Nat → Int} {t : Nat → Bool}
theorem Lv.drewN (h : Lv w r pb N L x t) (d : Nat) : Lv (w.drewN d) r pb N L x t := Ringy.drewN h d
theorem Lv.below (h : Lv w r pb N L x t) (hb : Below w.heap.size w w') (h1 : r < w.heap.size) (h2 : pb < w.heap.size) : Lv w' r pb N L x t := Ringy.keep h (hb.block r h1) (hb.block pb h2)
theorem Lv.blocks (h : Lv w r pb N L x t) : r < w.heap.size ∧ (0 < N → pb < w.heap.size) := ⟨block_lt_of_cell h.c0, fun hN => block_lt_of_cell (h.cx 0 hN)⟩
theorem Lv.ringOf (h : Lv w r pb N L x t) (hL : L ≤ 1000) (h1 : 1 ≤ N) (h9 : N ≤ 9) : RingOf (fun k => k = r ∨ k = pb) w (some ⟨r, 0, none⟩) (its N L x t N) :=
  .inr ⟨r, pb, N, L, _, x, t, rfl, .inl rfl, .inr rfl, hL, h1, h9, h, rfl⟩
theorem Lv.items (h : Lv w r pb N L x t) (hL : L ≤ 1000) (h1 : 1 ≤ N) (h9 : N ≤ 9) :
    Calls Try.prog 34 #[.pointer (some ⟨r, 0, none⟩)] w fun e W' => ∃ v, e = .returned v ∧ W'.ownsRow w.heap.size 77 2 v (its N L x t N).length (icells (its N L x t N)) ∧ Below w.heap.size w W' :=
  items_any _ _ _ w (fun k hk => by
    have := h.blocks
    rcases hk with rfl | rfl
    · exact this.1
    · exact this.2 (by omega)) (h.ringOf hL h1 h9)

/-- What was done: it went well, or all is as it was. -/
def Done (w : World) (r pb N L : Nat) (x : Nat → Int) (t : Nat → Bool) (w' : World) (ok : Bool) : Prop :=
  ∃ (L' : Nat) (x' : Nat → Int) (t' : Nat → Bool), Lv w' r pb N L' x' t' ∧ Near r pb w w' ∧ L ≤ L' ∧ L' ≤ L + 1 ∧ (ok = true ∨ (L' = L ∧ x' = x ∧ t' = t))
theorem Done.no (h : Lv w r pb N L x t) (hd : ∃ k, w' = w.drewN k) (ok : Bool) : Done w r pb N L x t w' ok := by
  obtain ⟨k, rfl⟩ := hd
  exact ⟨L, x, t, h.drewN k, Near.drewN k, Nat.le_refl _, Nat.le_succ _, .inr ⟨rfl, rfl, rfl⟩⟩

theorem Lv.put_in (h : Lv w r pb N L x t) (hL : L ≤ 1000) (h9 : N ≤ 9) {i : Nat} (hi : i < N) (hf : t ((L + i) % N) = false) (v : Int) :
    Calls Try.prog 29 #[.pointer (some ⟨r, 0, none⟩), .int .i64 ((L + i : Nat) : Int), .int .i64 v] w fun e w' => e = .returned (.bool true) ∧ Lv w' r pb N L (upd x ((L + i) % N) v) (upd t ((L + i) % N) true) ∧ Near r pb w w' := by
  have hl := its_len (n := N) (L := L) (x := x) (t := t) (k := N)
  have e := its_put_len (x := x) hi hf v N (Nat.le_refl _)
  rw [if_pos hi] at e
  refine (Ringy.put h (at_of (n := N) (L := L) (a := L + i) (by omega) (by omega) (by omega)) hf ⟨by omega, by omega⟩ v).mono fun en w' ⟨he, h1, h2⟩ => ⟨he, ?_, h2⟩
  unfold Lv
  rw [e]
  exact h1
theorem Lv.put_any (h : Lv w r pb N L x t) (hL : L ≤ 1000) (h9 : N ≤ 9) (at_ : Int) (hb : at_ ≤ 9223372036854775807) (v : Int) :
    Calls Try.prog 29 #[.pointer (some ⟨r, 0, none⟩), .int .i64 at_, .int .i64 v] w fun e w' => ∃ ok, e = .returned (.bool ok) ∧ Done w r pb N L x t w' ok := by
  by_cases h1 : at_ < (L : Int)
  · exact (put_no _ at_ v w (find_low r pb N (L : Int) at_ w h.c0 h.c1 h1)).mono fun e w' ⟨he, hd⟩ => ⟨false, he, Done.no h hd _⟩
  · by_cases h2 : (N : Int) ≤ at_ - (L : Int)
    · exact (put_no _ at_ v w (find_high r pb N (L : Int) at_ w h.c0 h.c1 (by omega) (by omega) hb h2)).mono fun e w' ⟨he, hd⟩ => ⟨false, he, Done.no h hd _⟩
    · obtain ⟨i, rfl⟩ : ∃ i : Nat, at_ = ((L + i : Nat) : Int) := ⟨(at_ - L).toNat, by omega⟩
      have hi : i < N := by omega
      cases hf : t ((L + i) % N) with
      | true => exact (Ringy.put_used h (at_of (n := N) (L := L) (a := L + i) (by omega) (by omega) (by omega)) hf v).mono fun e w' ⟨he, hd⟩ => ⟨false, he, Done.no h hd _⟩
      | false => exact (h.put_in hL h9 hi hf v).mono fun e w' ⟨he, h3, h4⟩ => ⟨true, he, L, _, _, h3, h4, Nat.le_refl _, Nat.le_succ _, .inl rfl⟩
theorem Lv.drop_yes (h : Lv w r pb N L x t) (hL : L ≤ 1000) (h1 : 1 ≤ N) (h9 : N ≤ 9) (ht : t (L % N) = true) :
    Calls Try.prog 27 #[.pointer (some ⟨r, 0, none⟩)] w fun e w' => e = .returned (.tuple #[.int .i64 (x (L % N)), .bool true]) ∧ Lv w' r pb N (L + 1) (upd x (L % N) 0) (upd t (L % N) false) ∧ Near r pb w w' := by
  have hl := its_len (n := N) (L := L) (x := x) (t := t) (k := N)
  have e := congrArg List.length (its_drop (n := N) (L := L) (x := x) (t := t) h1 ht)
  rw [List.length_cons] at e
  refine (Ringy.drop h (at_of (n := N) (L := L) (a := L) (by omega) (by omega) (by omega)) ht ⟨by omega, by omega⟩).mono fun en w' ⟨he, h2, h3⟩ => ⟨he, ?_, h3⟩
  unfold Lv
  rw [e] at h2
  rw [show (((its N (L + 1) (upd x (L % N) 0) (upd t (L % N) false) N).length + 1 : Nat) : Int) - 1 = (((its N (L + 1) (upd x (L % N) 0) (upd t (L % N) false) N).length : Nat) : Int) from by omega] at h2
  exact h2
theorem Lv.drop_not (h : Lv w r pb N L x t) (hL : L ≤ 1000) (h1 : 1 ≤ N) (h9 : N ≤ 9) (ht : t (L % N) = false) :
    Calls Try.prog 27 #[.pointer (some ⟨r, 0, none⟩)] w fun e w' => e = .returned (.tuple #[.int .i64 0, .bool false]) ∧ ∃ k, w' = w.drewN k :=
  Ringy.drop_no h (at_of (n := N) (L := L) (a := L) (by omega) (by omega) (by omega)) ht
theorem Lv.drop_any (h : Lv w r pb N L x t) (hL : L ≤ 1000) (h1 : 1 ≤ N) (h9 : N ≤ 9) :
    Calls Try.prog 27 #[.pointer (some ⟨r, 0, none⟩)] w fun e w' => ∃ v ok, e = .returned (.tuple #[.int .i64 v, .bool ok]) ∧ Done w r pb N L x t w' ok := by
  cases ht : t (L % N) with
  | true => exact (h.drop_yes hL h1 h9 ht).mono fun e w' ⟨he, h3, h4⟩ => ⟨_, true, he, L + 1, _, _, h3, h4, Nat.le_succ _, Nat.le_refl _, .inl rfl⟩
  | false => exact (h.drop_not hL h1 h9 ht).mono fun e w' ⟨he, hd⟩ => ⟨0, false, he, Done.no h hd _⟩
end

theorem row77_at {w : World} {b k N : Nat} {v : Value} {l : List (Int × Int)} {q : Int × Int} (h : w.ownsRow b 77 2 v N (icells l)) (hl : l.length = N) (hk : l[k]? = some q) :
    ∃ g cap, v = .slice (some ⟨g, 0, none⟩) N cap ∧ w.cell? ⟨g, k * 2, none⟩ = some (.int .i64 q.1) ∧ w.cell? ⟨g, k * 2 + 1, none⟩ = some (.int .i64 q.2) := by
  subst hl
  have hl := (List.getElem?_eq_some_iff.1 hk).1
  obtain ⟨a, b⟩ := icells_at l k q hk
  rcases h.2 with ⟨_, e⟩ | ⟨g, cap, cur, rfl, _⟩
  · omega
  · exact ⟨g, cap, rfl, (h.cellAt (k * 2) (by omega)).trans a, (h.cellAt (k * 2 + 1) (by omega)).trans b⟩
def DrewRel (W : World) (m : Nat) (gh : Nat) (v : Value) (wr : World) : Prop := ∃ j : Nat, v = .int .i64 (j : Int) ∧ j ≤ m ∧ gh = m - j ∧ ∃ d, wr = W.drewN d
theorem drew_more {W wr : World} (h : ∃ d, wr = W.drewN d) (k : Nat) : ∃ d, wr.drewN k = W.drewN d := by
  obtain ⟨d, rfl⟩ := h
  exact ⟨_, World.drewN_drewN ..⟩
theorem drew_cell {W wr : World} {a : Addr} {v : Value} (h : ∃ d, wr = W.drewN d) (hc : W.cell? a = some v) : wr.cell? a = some v := by
  obtain ⟨d, rfl⟩ := h
  exact hc

set_option maxHeartbeats 1000000 in
theorem same_eq {w : World} {b1 b2 N : Nat} {v1 v2 : Value} {l : List (Int × Int)} (h1 : w.ownsRow b1 77 2 v1 N (icells l)) (h2 : w.ownsRow b2 77 2 v2 N (icells l)) (hl : l.length = N) (hs : N ≤ 1000) :
    Calls Try.prog 33 #[v1, v2] w fun e w' => e = .returned (.bool true) ∧ ∃ d, w' = w.drewN d := by
  obtain ⟨a1, c1, rfl, _⟩ := row_slice h1
  obtain ⟨a2, c2, rfl, _⟩ := row_slice h2
  have O := Lib.hid (And.intro h1 (And.intro h2 hl))
  have R0 : DrewRel w N N (.int .i64 0) w := ⟨0, rfl, Nat.zero_le _, rfl, 0, rfl⟩
  clear h1 h2 hl
  go_enter Try.func33, Try.ntmps33
  go_wp2_with fail
  go_loopg [5] N (fun gh v5 wr => DrewRel w N gh v5 wr)
  case atStart => exact R0
  case round =>
    clear R0
    obtain ⟨k, rfl, hk, hg, hd⟩ := hrel
    by_cases hkl : k < N
    · obtain ⟨⟨q0, q1⟩, hq⟩ : ∃ q, l[k]? = some q := ⟨_, List.getElem?_eq_getElem (by rw [O.out.2.2]; exact hkl)⟩
      obtain ⟨g1, k1, e1, x0, x1⟩ := row77_at O.out.1 O.out.2.2 hq
      obtain ⟨g2, k2, e2, y0, y1⟩ := row77_at O.out.2.1 O.out.2.2 hq
      injection e1 with e1 _ e3
      injection e2 with e2 _ e4
      subst e1
      subst e2
      simp only at x0 x1 y0 y1
      have x0 := drew_cell hd x0
      have x1 := drew_cell hd x1
      have y0 := drew_cell hd y0
      have y1 := drew_cell hd y1
      have D := Lib.hid hd
      clear hq e3 e4 hd
      go_wp2_with fail
      go_quiet (fail)
      go_wp2_with fail
      go_roundg (N - (k + 1))
      case measure => omega
      case rel => exact ⟨k + 1, by go_num, by omega, rfl, drew_more D.out _⟩
    · have D := Lib.hid hd
      clear hd
      go_wp2
      go_ret
      exact ⟨rfl, D.out⟩
end Go.Proofs.Ytjfbjkgppnhaoaa
