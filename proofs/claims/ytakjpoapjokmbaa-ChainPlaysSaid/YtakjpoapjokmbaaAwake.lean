/-
  The chapter's examples of layer 13.
-/
import Derived.Test.YtakjpoapjokmbaaApi
namespace Go.Proofs.Ytakjpoapjokmbaa
open Go.ChangeShapes Go.WideShapes Go.ChangeAt Go.RowKit
set_option linter.unusedVariables false

def G1 : Int → Option Nd := updG (fun _ => none) 0 (some ⟨-1, 0, 5, 1, 0, 1⟩)
def G2 : Int → Option Nd := updG (updG G1 0 (some ⟨-1, 0, 5, 1, 0, 2⟩)) 1 (some ⟨0, 1, 7, 2, 0, 1⟩)
theorem path_G2 : pathG 2 G2 1 = [⟨0, 1, 7, 2, 0, 1⟩, ⟨-1, 0, 5, 1, 0, 2⟩] := rfl
theorem ok_G2 : PathOk 2 G2 1 := by
  intro q hq
  have : q = ⟨0, 1, 7, 2, 0, 1⟩ := by injection hq with hq; exact hq.symm
  subst this
  refine ⟨by decide, fun q hq => ?_⟩
  have : q = ⟨-1, 0, 5, 1, 0, 2⟩ := by injection hq with hq; exact hq.symm
  subst this
  exact ⟨by decide, rfl⟩
def G3 : Int → Option Nd := (dropG 2 G2 0).1
theorem drop_G2 : (dropG 2 G2 0).2 = [] := rfl
theorem drop_G3 : (dropG 2 G3 1).2 = [(2, 0), (1, 0)] := rfl
theorem dok_G2 : DropOk 2 G2 0 := .inr ⟨_, rfl, by decide, by decide, by decide, by decide, .inl (by decide)⟩
theorem dok_G3 : DropOk 2 G3 1 := .inr ⟨_, rfl, by decide, by decide, by decide, by decide, .inr (.inr ⟨_, rfl, by decide, by decide, by decide, by decide, .inr rfl⟩)⟩
theorem below_drewN (w : World) (d : Nat) : Below w.heap.size w (w.drewN d) := ⟨rfl, rfl, rfl, Nat.le_refl _, fun _ _ => rfl⟩
/-- Two refs in variables of their own. -/
structure Two (W : World) (t : Nat) : Prop where
  r : W.heap[t]? = some (.cells #[.int .i64 1, .int .i64 0] 39 (0, 0))
  s : W.heap[t + 1]? = some (.cells #[.int .i64 2, .int .i64 0] 39 (0, 0))
theorem Two.lt {W : World} {t : Nat} (h : Two W t) : t + 1 < W.heap.size := (Array.getElem?_eq_some_iff.1 h.s).1
theorem Two.below {W W' : World} {t : Nat} (h : Two W t) (b : Below W.heap.size W W') : Two W' t := ⟨(b.block t (by have := h.lt; omega)).trans h.r, (b.block (t + 1) h.lt).trans h.s⟩
theorem Two.bt {W W' : World} {t c mb : Nat} (h : Two W t) (b : Bt c mb W W') (h1 : c < t) (h2 : mb < t) : Two W' t := ⟨(b.block t (by have := h.lt; omega) (by omega) (by omega)).trans h.r, (b.block (t + 1) h.lt (by omega) (by omega)).trans h.s⟩
theorem ints_one {W : World} {b : Nat} {x : Int} (h : W.heap[b]? = some (.cells #[.int .i64 x] 3 (0, 0))) : IntsAt W (some ⟨b, 0, none⟩) [x] := by
  intro j y hy
  have hj : j = 0 := by have := (List.getElem?_eq_some_iff.1 hy).1; simp at this; omega
  subst hj
  simp at hy
  subst hy
  exact ⟨b, 0, rfl, cells_of (vs := [_]) h 0 _ rfl⟩
theorem grid_two (W : World) (x y : Int) : GridAt (((W.alloc (.cells #[.int .i64 x] 3)).alloc (.cells #[.int .i64 y] 3)).alloc (.cells #[.slice (some ⟨W.heap.size, 0, none⟩) 1 1, .slice (some ⟨W.heap.size + 1, 0, none⟩) 1 1] 46)) (some ⟨W.heap.size + 1 + 1, 0, none⟩) [[x], [y]] := by
  have h0 : (((W.alloc (.cells #[.int .i64 x] 3)).alloc (.cells #[.int .i64 y] 3)).alloc (.cells #[.slice (some ⟨W.heap.size, 0, none⟩) 1 1, .slice (some ⟨W.heap.size + 1, 0, none⟩) 1 1] 46)).heap[W.heap.size]? = some (.cells #[.int .i64 x] 3 (0, 0)) := by
    rw [Below.heap_alloc _ _ _ (by simp; omega), Below.heap_alloc _ _ _ (by simp)]
    exact World.alloc_heap_new _ _
  have h1 : (((W.alloc (.cells #[.int .i64 x] 3)).alloc (.cells #[.int .i64 y] 3)).alloc (.cells #[.slice (some ⟨W.heap.size, 0, none⟩) 1 1, .slice (some ⟨W.heap.size + 1, 0, none⟩) 1 1] 46)).heap[W.heap.size + 1]? = some (.cells #[.int .i64 y] 3 (0, 0)) := by
    rw [Below.heap_alloc _ _ _ (by simp)]
    have := World.alloc_heap_new (W.alloc (.cells #[.int .i64 x] 3)) (.cells #[.int .i64 y] 3)
    rwa [World.size_alloc] at this
  have h2 : (((W.alloc (.cells #[.int .i64 x] 3)).alloc (.cells #[.int .i64 y] 3)).alloc (.cells #[.slice (some ⟨W.heap.size, 0, none⟩) 1 1, .slice (some ⟨W.heap.size + 1, 0, none⟩) 1 1] 46)).heap[W.heap.size + 1 + 1]? = some (.cells #[.slice (some ⟨W.heap.size, 0, none⟩) 1 1, .slice (some ⟨W.heap.size + 1, 0, none⟩) 1 1] 46 (0, 0)) := by
    have := World.alloc_heap_new ((W.alloc (.cells #[.int .i64 x] 3)).alloc (.cells #[.int .i64 y] 3)) (.cells #[.slice (some ⟨W.heap.size, 0, none⟩) 1 1, .slice (some ⟨W.heap.size + 1, 0, none⟩) 1 1] 46)
    rwa [World.size_alloc, World.size_alloc] at this
  generalize ((W.alloc (.cells #[.int .i64 x] 3)).alloc (.cells #[.int .i64 y] 3)).alloc (.cells #[.slice (some ⟨W.heap.size, 0, none⟩) 1 1, .slice (some ⟨W.heap.size + 1, 0, none⟩) 1 1] 46) = W2 at *
  intro j l hl
  match j, hl with
  | 0, hl =>
    simp at hl
    subst hl
    exact ⟨_, 0, _, 1, 1, rfl, cells_of (vs := [_, _]) h2 0 _ rfl, rfl, by decide, ints_one h0⟩
  | 1, hl =>
    simp at hl
    subst hl
    exact ⟨_, 0, _, 1, 1, rfl, cells_of (vs := [_, _]) h2 1 _ rfl, rfl, by decide, ints_one h1⟩
  | j + 2, hl => simp at hl
set_option maxRecDepth 100000 in
set_option maxHeartbeats 4000000 in
theorem chain_awake (w : World) : Calls Try.prog 8 #[] w fun e w' => e = .returned (.bool true) ∧ Below w.heap.size w w' := by
  have N := Lib.hid (new_at w)
  go_enter Try.func8, Try.ntmps8
  go_wp2_with fail
  refine N.out.mono ?_
  rintro e w1 ⟨rfl, h1, b1⟩
  have hs1 := b1.size
  obtain ⟨c, hc⟩ : ∃ c, w.heap.size + 1 = c := ⟨_, rfl⟩
  obtain ⟨mb, hmb⟩ : ∃ mb, w.heap.size = mb := ⟨_, rfl⟩
  rw [hc] at h1 ⊢
  rw [hmb] at h1
  have hlc := h1.lt.1
  have hlm := h1.lt.2
  have E := Lib.hid (And.intro hc (And.intro hmb b1))
  clear N b1
  have h2 := (h1.alloc (.cells #[.int .i64 1, .int .i64 0] 39)).alloc (.cells #[.int .i64 2, .int .i64 0] 39)
  have P1 := Lib.hid (push_first h2 (by omega) (by decide) rfl rfl 5 1 0)
  have bb : Below w.heap.size w1 ((w1.alloc (.cells #[.int .i64 1, .int .i64 0] 39)).alloc (.cells #[.int .i64 2, .int .i64 0] 39)) := ((Below.refl _ w1).alloc (by omega) _).alloc (by simp; omega) _
  have T2 : Two ((w1.alloc (.cells #[.int .i64 1, .int .i64 0] 39)).alloc (.cells #[.int .i64 2, .int .i64 0] 39)) w1.heap.size :=
    ⟨(Below.heap_alloc _ _ _ (by simp)).trans (World.alloc_heap_new _ _), by have := World.alloc_heap_new (w1.alloc (.cells #[.int .i64 1, .int .i64 0] 39)) (.cells #[.int .i64 2, .int .i64 0] 39); rwa [World.size_alloc] at this⟩
  have BB := Lib.hid (E.out.2.2.trans bb)
  clear h1 h2 hc hmb bb
  go_wp2_with fail
  generalize (w1.alloc (.cells #[.int .i64 1, .int .i64 0] 39)).alloc (.cells #[.int .i64 2, .int .i64 0] 39) = W2 at *
  generalize w1.heap.size = t at *
  clear hs1
  refine P1.out.mono ?_
  rintro e W3 ⟨rfl, h3, bt3⟩
  have T3 := T2.bt bt3 hlc hlm
  have z0 := cells_of (vs := [_, _]) T3.s 0 _ rfl
  have z1 := cells_of (vs := [_, _]) T3.s 1 _ rfl
  have P2 := Lib.hid (push_next h3 (by omega) (by decide) rfl (i := 0) (q := ⟨-1, 0, 5, 1, 0, 1⟩) (by decide) (by decide) rfl (cell := 1) (by decide) (.inr rfl) (by decide) (by decide) 7 2 0)
  have BB3 := Lib.hid (BB.out.trans (bt3.below (by have := E.out.1; omega) (by have := E.out.2.1; omega) BB.out.size))
  have T3 := Lib.hid T3
  clear h3 bt3 T2 BB P1
  go_wp2_with fail
  refine P2.out.mono ?_
  rintro e W4 ⟨rfl, h4, bt4⟩
  have T4 := Lib.hid (T3.out.bt bt4 hlc hlm)
  have BB4 := Lib.hid (BB3.out.trans (bt4.below (by have := E.out.1; omega) (by have := E.out.2.1; omega) BB3.out.size))
  have h4 : Chn W4 c mb (0 + 1 + 1 + 1) 2 2 G2 := h4
  have ST := Lib.hid (h4.sets (i := 1) (by decide) ok_G2 (by omega) (by rw [path_G2]; intro q hq; simp at hq; rcases hq with rfl | rfl <;> decide))
  have H4 := Lib.hid h4
  clear h4 bt4 z0 z1 T3 P2 BB3
  go_wp2_with fail
  refine ST.out.mono ?_
  rintro e W5 ⟨v, rfl, hS, b5⟩
  obtain ⟨ad, cap, rfl⟩ := hS.shape
  have hS : Sts W5 W4.heap.size (.slice ad 2 cap) [[5], [7]] := hS
  have S5 := Lib.hid (And.intro hS b5)
  clear hS b5 ST
  simp only [show (setsG (pathG 2 G2 1)).length = 2 from rfl]
  go_wp2_with fail
  have b6 : Below W5.heap.size W5 (((W5.alloc (.cells #[.int .i64 5] 3)).alloc (.cells #[.int .i64 7] 3)).alloc (.cells #[.slice (some ⟨W5.heap.size, 0, none⟩) 1 1, .slice (some ⟨W5.heap.size + 1, 0, none⟩) 1 1] 46)) := (((Below.refl _ W5).alloc (Nat.le_refl _) _).alloc (by simp) _).alloc (by simp; omega) _
  have g1 := grid_of (S5.out.1.blocks (fun k _ hk => b6.block k hk)) (by intro j l hl; have := (List.getElem?_eq_some_iff.1 hl).1; match j, hl with | 0, hl => simp at hl; subst hl; decide | 1, hl => simp at hl; subst hl; decide | j + 2, hl => simp at hl)
  have CM := Lib.hid (compare_at (c1 := cap) (c2 := 2) (n1 := 2) (n2 := 2) g1 (grid_two W5 5 7) rfl rfl (by decide) (by decide))
  have b46 := S5.out.2.trans (b6.mono S5.out.2.size)
  have H6 := Lib.hid (H4.out.below b46)
  have T6 := Lib.hid (T4.out.below b46)
  have BB6 := Lib.hid (BB4.out.trans (b46.mono BB4.out.size))
  clear b6 g1 b46 S5 H4 T4 BB4
  generalize ((W5.alloc (.cells #[.int .i64 5] 3)).alloc (.cells #[.int .i64 7] 3)).alloc (.cells #[.slice (some ⟨W5.heap.size, 0, none⟩) 1 1, .slice (some ⟨W5.heap.size + 1, 0, none⟩) 1 1] 46) = W6 at *
  refine CM.out.mono ?_
  rintro e W7 ⟨rfl, d, rfl⟩
  rw [cmpM_self]
  have h7 := H6.out.below (below_drewN W6 d)
  have D1 := Lib.hid (drop_at (f := 2) h7 (i := 0) (q0 := ⟨-1, 0, 5, 1, 0, 2⟩) rfl (by decide) (by decide) dok_G2 (by decide) (by decide))
  have T7 := Lib.hid (T6.out.below (below_drewN W6 d))
  have BB7 := Lib.hid (BB6.out.trans ((below_drewN W6 d).mono BB6.out.size))
  clear h7 CM H6 T6 BB6
  generalize W6.drewN d = W7 at *
  go_wp2_with fail
  refine D1.out.mono ?_
  rintro e W8 ⟨v1, n8, rfl, r8, h8, hn8, bt8⟩
  rw [drop_G2] at r8 h8
  obtain ⟨a8, c8, rfl, _⟩ := rrow_slice r8
  simp only [List.length_nil] at *
  have T8 := Lib.hid (T7.out.bt (Bt.of_but bt8) hlc hlm)
  have BB8 := Lib.hid (BB7.out.trans (bt8.below (by have := E.out.2.1; omega) BB7.out.size))
  have D2 := Lib.hid (drop_at (f := 2) (G := G3) h8 (i := 1) (q0 := ⟨0, 1, 7, 2, 0, 1⟩) rfl (by decide) (by decide) dok_G3 (by decide) (by omega))
  clear r8 h8 bt8 hn8 D1 T7 BB7
  go_wp2_with fail
  refine D2.out.mono ?_
  rintro e W9 ⟨v2, n9, rfl, r9, h9, hn9, bt9⟩
  rw [drop_G3] at r9
  obtain ⟨a9, c9, rfl, ha9⟩ := rrow_slice r9
  obtain ⟨g, rfl⟩ := ha9 (by decide)
  have T9 := T8.out.bt (Bt.of_but bt9) hlc hlm
  have q0 := cells_of (vs := [_, _]) T9.r 0 _ rfl
  have q1 := cells_of (vs := [_, _]) T9.r 1 _ rfl
  have q2 := cells_of (vs := [_, _]) T9.s 0 _ rfl
  have q3 := cells_of (vs := [_, _]) T9.s 1 _ rfl
  have y0 := (r9.cellAt 0 (by decide)).trans (show _ = some (Value.int .i64 2) from rfl)
  have y1 := (r9.cellAt 1 (by decide)).trans (show _ = some (Value.int .i64 0) from rfl)
  have y2 := (r9.cellAt 2 (by decide)).trans (show _ = some (Value.int .i64 1) from rfl)
  have y3 := (r9.cellAt 3 (by decide)).trans (show _ = some (Value.int .i64 0) from rfl)
  have BB9 := Lib.hid (BB8.out.trans (bt9.below (by have := E.out.2.1; omega) BB8.out.size))
  clear r9 h9 bt9 hn9 T9 D2 T8 BB8
  simp only [List.length_cons, List.length_nil]
  go_wp2_with fail
  go_quiet (fail)
  go_wp2_with fail
  go_ret
  exact ⟨rfl, BB9.out.trans ((below_drewN W9 nq).mono BB9.out.size)⟩
end Go.Proofs.Ytakjpoapjokmbaa
