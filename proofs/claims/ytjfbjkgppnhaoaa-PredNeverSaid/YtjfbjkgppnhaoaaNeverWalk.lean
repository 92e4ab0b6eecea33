/-
  The walk of PredNever.
-/
import Derived.Test.YtjfbjkgppnhaoaaHold
import Derived.Deep.RegionHeld3
import Derived.Deep.Cut
namespace Go.Proofs.Ytjfbjkgppnhaoaa
open Go.ChangeShapes Go.WideShapes Go.ChangeAt Go.RowKit
set_option linter.unusedVariables false

def R3 (W : World) (b : Nat) (o : Int) (v1 v2 : Value) : Prop := W.cell? ⟨b, 0, none⟩ = some (.int .i64 o) ∧ W.cell? ⟨b, 1, none⟩ = some v1 ∧ W.cell? ⟨b, 2, none⟩ = some v2
theorem R3.keep {W W' : World} {b : Nat} {o : Int} {v1 v2 : Value} (h : R3 W b o v1 v2) (hb : Below W.heap.size W W') : R3 W' b o v1 v2 := by
  have hl := block_lt_of_cell h.1
  exact ⟨(hb.cell (p := ⟨b, 0, none⟩) hl).trans h.1, (hb.cell (p := ⟨b, 1, none⟩) hl).trans h.2.1, (hb.cell (p := ⟨b, 2, none⟩) hl).trans h.2.2⟩
def Zero3 (W : World) (b : Nat) : Prop := W.cell? ⟨b, 0, none⟩ = some (.int .i64 0) ∧ W.cell? ⟨b, 1, none⟩ = some (.slice none 0 0) ∧ W.cell? ⟨b, 2, none⟩ = some (.slice none 0 0) ∧ W.frozen? ⟨b, 0, none⟩ = false ∧ W.frozen? ⟨b, 1, none⟩ = false ∧ W.frozen? ⟨b, 2, none⟩ = false
theorem zero3 {w wB : World} (hb : Below (w.alloc (.cells #[.int .i64 0, .slice none 0 0, .slice none 0 0] 41)).heap.size (w.alloc (.cells #[.int .i64 0, .slice none 0 0, .slice none 0 0] 41)) wB) : Zero3 wB w.heap.size := by
  have hz : w.heap.size < (w.alloc (.cells #[.int .i64 0, .slice none 0 0, .slice none 0 0] 41)).heap.size := by rw [World.size_alloc]; omega
  have x0 := World.cell?_alloc_new w #[.int .i64 0, .slice none 0 0, .slice none 0 0] 41 0
  have x1 := World.cell?_alloc_new w #[.int .i64 0, .slice none 0 0, .slice none 0 0] 41 1
  have x2 := World.cell?_alloc_new w #[.int .i64 0, .slice none 0 0, .slice none 0 0] 41 2
  simp only [List.getElem?_toArray, List.getElem?_cons_zero, List.getElem?_cons_succ] at x0 x1 x2
  have f : ∀ i, (w.alloc (.cells #[.int .i64 0, .slice none 0 0, .slice none 0 0] 41)).frozen? ⟨w.heap.size, i, none⟩ = false := fun i => by
    rw [frozen?_alloc_cells]
    unfold World.frozen?
    rw [Array.getElem?_eq_none (Nat.le_refl _)]
  exact ⟨(hb.cell (p := ⟨w.heap.size, 0, none⟩) hz).trans x0, (hb.cell (p := ⟨w.heap.size, 1, none⟩) hz).trans x1, (hb.cell (p := ⟨w.heap.size, 2, none⟩) hz).trans x2, (hb.frozen (p := ⟨w.heap.size, 0, none⟩) hz).trans (f 0), (hb.frozen (p := ⟨w.heap.size, 1, none⟩) hz).trans (f 1), (hb.frozen (p := ⟨w.heap.size, 2, none⟩) hz).trans (f 2)⟩
theorem Zero3.keep6 {W W' : World} {b : Nat} (h : Zero3 W b) (hz : b < W.heap.size) (hb : Below W.heap.size W W') : Zero3 W' b :=
  ⟨(hb.cell (p := ⟨b, 0, none⟩) hz).trans h.1, (hb.cell (p := ⟨b, 1, none⟩) hz).trans h.2.1, (hb.cell (p := ⟨b, 2, none⟩) hz).trans h.2.2.1, (hb.frozen (p := ⟨b, 0, none⟩) hz).trans h.2.2.2.1, (hb.frozen (p := ⟨b, 1, none⟩) hz).trans h.2.2.2.2.1, (hb.frozen (p := ⟨b, 2, none⟩) hz).trans h.2.2.2.2.2⟩
theorem prow_base {w : World} {b b' n e s : Nat} {v : Value} {xs : List Value} (h : w.ownsRow b e s v n xs) (hb : b' ≤ b) : w.ownsRow b' e s v n xs := by
  refine ⟨h.1, ?_⟩
  rcases h.2 with h0 | ⟨g, cap, cur, rfl, hg, rest⟩
  · exact .inl h0
  · exact .inr ⟨g, cap, cur, rfl, Nat.le_trans hb hg, rest⟩
theorem set3_far {w : World} {rb tb j : Nat} {u0 u1 u2 : Value} (hne : tb ≠ rb) : (((w.setCell ⟨rb, 0, none⟩ u0).setCell ⟨rb, 1, none⟩ u1).setCell ⟨rb, 2, none⟩ u2).cell? ⟨tb, j, none⟩ = w.cell? ⟨tb, j, none⟩ := by
  rw [World.cell?_setCell_other _ _ _ _ (fun e => hne (by injection e with e; exact e.symm)), World.cell?_setCell_other _ _ _ _ (fun e => hne (by injection e with e; exact e.symm)), World.cell?_setCell_other _ _ _ _ (fun e => hne (by injection e with e; exact e.symm))]
theorem set3 {W3 w : World} {rb : Nat} {o : Int} {v1 v2 u0 u1 u2 : Value} (hb : Below W3.heap.size W3 w) (hrb : W3.heap.size ≤ rb) (q0 : w.cell? ⟨rb, 0, none⟩ = some u0) (q1 : w.cell? ⟨rb, 1, none⟩ = some u1) (q2 : w.cell? ⟨rb, 2, none⟩ = some u2) :
    R3 (((w.setCell ⟨rb, 0, none⟩ (.int .i64 o)).setCell ⟨rb, 1, none⟩ v1).setCell ⟨rb, 2, none⟩ v2) rb o v1 v2 ∧ Below W3.heap.size W3 (((w.setCell ⟨rb, 0, none⟩ (.int .i64 o)).setCell ⟨rb, 1, none⟩ v1).setCell ⟨rb, 2, none⟩ v2) ∧
      ∀ k, k ≠ rb → (((w.setCell ⟨rb, 0, none⟩ (.int .i64 o)).setCell ⟨rb, 1, none⟩ v1).setCell ⟨rb, 2, none⟩ v2).heap[k]? = w.heap[k]? := by
  have off : ∀ (W : World) (i j : Nat) (u : Value), i ≠ j → (W.setCell ⟨rb, i, none⟩ u).cell? ⟨rb, j, none⟩ = W.cell? ⟨rb, j, none⟩ := fun W i j u hij => World.cell?_setCell_other _ _ _ _ (fun e => hij (by injection e))
  have blk : ∀ k, k ≠ rb → (((w.setCell ⟨rb, 0, none⟩ (.int .i64 o)).setCell ⟨rb, 1, none⟩ v1).setCell ⟨rb, 2, none⟩ v2).heap[k]? = w.heap[k]? := fun k hk => (Below.heap_setCell _ _ _ _ hk).trans ((Below.heap_setCell _ _ _ _ hk).trans (Below.heap_setCell _ _ _ _ hk))
  refine ⟨⟨?_, ?_, ?_⟩, ?_, blk⟩
  · rw [off _ _ _ _ (by decide), off _ _ _ _ (by decide)]
    exact World.cell?_setCell_same _ _ _ q0
  · rw [off _ _ _ _ (by decide)]
    exact World.cell?_setCell_same _ _ _ ((off _ _ _ _ (by decide)).trans q1)
  · exact World.cell?_setCell_same _ _ _ ((off _ _ _ _ (by decide)).trans ((off _ _ _ _ (by decide)).trans q2))
  · exact ⟨hb.os, hb.tape, hb.output, by simpa [World.setCell] using hb.size, fun k hk => (blk k (by omega)).trans (hb.block k hk)⟩
theorem keep2 {w w' : World} {n : Nat} {u0 u1 : Value} (hb : Below w.heap.size w w') (h : w.cell? ⟨n, 0, none⟩ = some u0 ∧ w.cell? ⟨n, 1, none⟩ = some u1) : w'.cell? ⟨n, 0, none⟩ = some u0 ∧ w'.cell? ⟨n, 1, none⟩ = some u1 := by
  have hl := block_lt_of_cell h.1
  exact ⟨(hb.cell (p := ⟨n, 0, none⟩) hl).trans h.1, (hb.cell (p := ⟨n, 1, none⟩) hl).trans h.2⟩
/-- Between two calls. -/
structure NSt (w W : World) (rb cb : Nat) (k : Int) (v1 v2 : Value) (cs1 cs2 : List Cd) (a : Option Addr) (m : Nat) (v : Env) : Prop where
  r : R3 W rb (k + 1) v1 v2
  n : R3 W cb (notOf k) v1 v2
  c1 : W.ownsRow w.heap.size 54 5 v1 cs1.length (ccells cs1)
  c2 : W.ownsRow w.heap.size 54 5 v2 cs2.length (ccells cs2)
  env : EnvAt W a m v
  bel : Below w.heap.size w W
theorem NSt.keep {w W W' : World} {rb cb : Nat} {k : Int} {v1 v2 : Value} {cs1 cs2 : List Cd} {a : Option Addr} {m : Nat} {v : Env} (h : NSt w W rb cb k v1 v2 cs1 cs2 a m v) (hb : Below W.heap.size W W') : NSt w W' rb cb k v1 v2 cs1 cs2 a m v :=
  ⟨h.r.keep hb, h.n.keep hb, prow_keep (e := 0) h.c1 (fun q hq => hb.block q (prow_lt h.c1 hq).2), prow_keep (e := 0) h.c2 (fun q hq => hb.block q (prow_lt h.c2 hq).2), h.env.keep hb, h.bel.trans (hb.mono h.bel.size)⟩
theorem NSt.codes1 {w W : World} {rb cb : Nat} {k : Int} {a1 a2 : Option Addr} {n1 n2 c1 c2 : Nat} {cs1 cs2 : List Cd} {a : Option Addr} {m : Nat} {v : Env} (h : NSt w W rb cb k (.slice a1 n1 c1) (.slice a2 n2 c2) cs1 cs2 a m v) : cs1.length = n1 ∧ CodesAt W a1 cs1 := by
  obtain ⟨ad, cap, e, hC⟩ := codes_at h.c1
  injection e with e1 e2 _
  subst e1
  exact ⟨e2.symm, hC⟩
theorem NSt.codes2 {w W : World} {rb cb : Nat} {k : Int} {a1 a2 : Option Addr} {n1 n2 c1 c2 : Nat} {cs1 cs2 : List Cd} {a : Option Addr} {m : Nat} {v : Env} (h : NSt w W rb cb k (.slice a1 n1 c1) (.slice a2 n2 c2) cs1 cs2 a m v) : cs2.length = n2 ∧ CodesAt W a2 cs2 := by
  obtain ⟨ad, cap, e, hC⟩ := codes_at h.c2
  injection e with e1 e2 _
  subst e1
  exact ⟨e2.symm, hC⟩
/-- A call of Eval, or of Holds, from such a state. -/
theorem NSt.eval1 {w W : World} {rb cb : Nat} {k : Int} {a1 a2 : Option Addr} {n1 n2 c1 c2 : Nat} {cs1 cs2 : List Cd} {a : Option Addr} {m : Nat} {v : Env} (h : NSt w W rb cb k (.slice a1 n1 c1) (.slice a2 n2 c2) cs1 cs2 a m v) (hl : n1 ≤ 12) (cap2 : Nat) :
    ∃ x, Calls Try.prog 23 #[.slice a1 n1 c1, .slice a m cap2] W fun e w' => e = .returned (.tuple #[.int .i64 x, .bool (evalCd v cs1).isSome]) ∧ NSt w w' rb cb k (.slice a1 n1 c1) (.slice a2 n2 c2) cs1 cs2 a m v := by
  obtain ⟨h1, h2⟩ := h.codes1
  obtain ⟨x, o, ⟨_, rfl⟩, hk⟩ := eval_let h.env h2 h1 (by omega) c1 cap2
  exact ⟨x, hk.mono fun e w' h' => ⟨h'.1, h.keep h'.2⟩⟩
theorem NSt.eval2 {w W : World} {rb cb : Nat} {k : Int} {a1 a2 : Option Addr} {n1 n2 c1 c2 : Nat} {cs1 cs2 : List Cd} {a : Option Addr} {m : Nat} {v : Env} (h : NSt w W rb cb k (.slice a1 n1 c1) (.slice a2 n2 c2) cs1 cs2 a m v) (hl : n2 ≤ 12) (cap2 : Nat) :
    ∃ x, Calls Try.prog 23 #[.slice a2 n2 c2, .slice a m cap2] W fun e w' => e = .returned (.tuple #[.int .i64 x, .bool (evalCd v cs2).isSome]) ∧ NSt w w' rb cb k (.slice a1 n1 c1) (.slice a2 n2 c2) cs1 cs2 a m v := by
  obtain ⟨h1, h2⟩ := h.codes2
  obtain ⟨x, o, ⟨_, rfl⟩, hk⟩ := eval_let h.env h2 h1 (by omega) c2 cap2
  exact ⟨x, hk.mono fun e w' h' => ⟨h'.1, h.keep h'.2⟩⟩
theorem NSt.holds {w W : World} {rb cb : Nat} {k : Int} {a1 a2 : Option Addr} {n1 n2 c1 c2 : Nat} {cs1 cs2 : List Cd} {a : Option Addr} {m : Nat} {v : Env} (h : NSt w W rb cb k (.slice a1 n1 c1) (.slice a2 n2 c2) cs1 cs2 a m v) (hl1 : n1 ≤ 12) (hl2 : n2 ≤ 12) (cap2 : Nat) {op : Int} (p1 : 1 ≤ op) (p6 : op ≤ 6) :
    Calls Try.prog 20 #[.agg #[.int .i64 op, .slice a1 n1 c1, .slice a2 n2 c2], .slice a m cap2] W fun e w' => e = .returned (.bool (holdsB v op cs1 cs2)) ∧ NSt w w' rb cb k (.slice a1 n1 c1) (.slice a2 n2 c2) cs1 cs2 a m v :=
  (holds_any h.env h.codes1.1 (by omega) h.codes2.1 (by omega) p1 p6 c1 c2 cap2 (fun W' hb => (h.keep hb).codes1.2) (fun W' hb => (h.keep hb).codes2.2)).mono fun e w' h' => ⟨h'.1, h.keep h'.2⟩
theorem holds_not {v : Env} {k : Int} {l m : List Cd} (h0 : 0 ≤ k) (h5 : k ≤ 5) : (((evalCd v l).isSome = false ∨ (evalCd v m).isSome = false) ∧ holdsB v (k + 1) l m = false ∧ holdsB v (notOf k) l m = false) ∨ ((evalCd v l).isSome = true ∧ (evalCd v m).isSome = true ∧ holdsB v (notOf k) l m = !holdsB v (k + 1) l m) := by
  unfold holdsB
  cases evalCd v l with
  | none => exact .inl ⟨.inl rfl, rfl, rfl⟩
  | some x =>
    cases evalCd v m with
    | none => exact .inl ⟨.inr rfl, rfl, rfl⟩
    | some y => exact .inr ⟨rfl, rfl, testB_not h0 h5 x y⟩
theorem not_new (w : World) {r : Nat} (hr : r < 6) : (w.alloc (.cells #[.int .i64 2, .int .i64 1, .int .i64 6, .int .i64 5, .int .i64 4, .int .i64 3] 44)).cell? ⟨w.heap.size, r, none⟩ = some (.int .i64 (notOf (r : Int))) := by
  have e := World.cell?_alloc_new w #[.int .i64 2, .int .i64 1, .int .i64 6, .int .i64 5, .int .i64 4, .int .i64 3] 44 r
  rw [e]
  have hr' : r = 0 ∨ r = 1 ∨ r = 2 ∨ r = 3 ∨ r = 4 ∨ r = 5 := by omega
  rcases hr' with rfl | rfl | rfl | rfl | rfl | rfl <;> rfl
set_option maxRecDepth 100000 in
set_option maxHeartbeats 8000000 in
theorem never_walk (a0 : Option Addr) (l0 c0 : Nat) (a1 : Option Addr) (l1 c1 : Nat) (ar : Option Addr) (lenr capr : Nat) (op : Int) (w : World) (h0 : StepsX w a0 l0) (h1 : StepsX w a1 l1) (hrw : ∃ L X, RowsX w ar lenr L X ∧ ∀ r c, r < lenr → c < L r → I64 (X r c)) :
    Calls Try.prog 4 #[.agg #[.slice a0 l0 c0, .slice a1 l1 c1], .slice ar lenr capr, .int .i64 op] w fun e w' => e = .returned (.bool true) ∧ Below w.heap.size w w' := by
  obtain ⟨L, X, hR, _⟩ := hrw
  obtain ⟨cs1, hl1, _, hc1⟩ := codes_any_x h0
  obtain ⟨cs2, hl2, _, hc2⟩ := codes_any_x h1
  obtain ⟨y7, k, p1, p2, p3, p4, p5, p6, k0, k6, p9⟩ := rem_facts op 6 (by decide) (by decide)
  obtain ⟨r, rfl⟩ : ∃ r : Nat, k = (r : Int) := ⟨k.toNat, by omega⟩
  have r6 : r < 6 := by omega
  have e1 : wrap64 ((r : Int) + 1) = (r : Int) + 1 := by unfold wrap64; omega
  have b0 : Below w.heap.size w (w.alloc (.cells #[.slice a0 l0 c0, .slice a1 l1 c1] 25)) := (Below.refl _ w).alloc (Nat.le_refl _) _
  have z0 : w.heap.size < (w.alloc (.cells #[.slice a0 l0 c0, .slice a1 l1 c1] 25)).heap.size := by rw [World.size_alloc]; omega
  have x0 := World.cell?_alloc_new w #[.slice a0 l0 c0, .slice a1 l1 c1] 25 0
  have x1 := World.cell?_alloc_new w #[.slice a0 l0 c0, .slice a1 l1 c1] 25 1
  simp only [List.getElem?_toArray, List.getElem?_cons_zero, List.getElem?_cons_succ] at x0 x1
  have AW := Lib.hid (pred_awake (w.alloc (.cells #[.slice a0 l0 c0, .slice a1 l1 c1] 25)))
  have B0 := Lib.hid b0
  have HR := Lib.hid hR
  have HC1 := Lib.hid hc1
  have HC2 := Lib.hid hc2
  clear hR hc1 hc2 h0 h1 b0 p9
  go_enter Try.func4, Try.ntmps4
  go_wp2_with fail
  generalize htb : w.heap.size = tb at x0 x1 z0 ⊢
  generalize w.alloc (.cells #[.slice a0 l0 c0, .slice a1 l1 c1] 25) = W0 at *
  have TB := Lib.hid htb
  clear htb
  refine AW.out.mono ?_
  rintro e w1 ⟨rfl, b1⟩
  have z1 : tb < w1.heap.size := Nat.lt_of_lt_of_le z0 b1.size
  have x0 := (b1.cell (p := ⟨tb, 0, none⟩) z0).trans x0
  have x1 := (b1.cell (p := ⟨tb, 1, none⟩) z0).trans x1
  have B1 := Lib.hid (B0.out.trans (b1.mono B0.out.size))
  have SS := Lib.hid (sets_any_x HR.out B1.out capr)
  clear b1 AW z0
  go_wp2_with fail
  refine SS.out.mono ?_
  rintro e w2 ⟨v, us, rfl, hs, hlen, hmade, b2⟩
  obtain ⟨a, cap2, rfl, hE⟩ := hs.env
  have z2 : tb < w2.heap.size := Nat.lt_of_lt_of_le z1 b2.size
  have x0 := (b2.cell (p := ⟨tb, 0, none⟩) z1).trans x0
  have x1 := (b2.cell (p := ⟨tb, 1, none⟩) z1).trans x1
  have B2 := Lib.hid ((B1.out).trans (b2.mono B1.out.size))
  have hn := not_new w2 r6
  have E2 := Lib.hid (hE.new (.cells #[.int .i64 2, .int .i64 1, .int .i64 6, .int .i64 5, .int .i64 4, .int .i64 3] 44))
  clear hs hlen hmade b2 hE SS z1
  generalize envOf (lsOf lenr L X) = env at *
  generalize us.length = m at *
  go_wp2_with fail
  --REGION5
  have b3 := B2.out.alloc B2.out.size (.cells #[.int .i64 2, .int .i64 1, .int .i64 6, .int .i64 5, .int .i64 4, .int .i64 3] 44)
  have x0 := (World.cell?_alloc_lt w2 (.cells #[.int .i64 2, .int .i64 1, .int .i64 6, .int .i64 5, .int .i64 4, .int .i64 3] 44) ⟨tb, 0, none⟩ z2).trans x0
  have x1 := (World.cell?_alloc_lt w2 (.cells #[.int .i64 2, .int .i64 1, .int .i64 6, .int .i64 5, .int .i64 4, .int .i64 3] 44) ⟨tb, 1, none⟩ z2).trans x1
  have z3 : w2.heap.size < (w2.alloc (.cells #[.int .i64 2, .int .i64 1, .int .i64 6, .int .i64 5, .int .i64 4, .int .i64 3] 44)).heap.size := by rw [World.size_alloc]; omega
  clear B2
  generalize w2.heap.size = nb at *
  generalize w2.alloc (.cells #[.int .i64 2, .int .i64 1, .int .i64 6, .int .i64 5, .int .i64 4, .int .i64 3] 44) = W3 at *
  have B3 := Lib.hid b3
  have S3 := b3.size
  have t3 : tb < W3.heap.size := by omega
  have XX := Lib.hid (And.intro x0 x1)
  clear b3
  go_cut [11] from 27 (fun v11 wc => ∃ rb a1' k1 a2' k2, v11 = .pointer (some ⟨rb, 0, none⟩) ∧ R3 wc rb ((r : Int) + 1) (.slice a1' cs1.length k1) (.slice a2' cs2.length k2) ∧ wc.ownsRow w.heap.size 54 5 (.slice a1' cs1.length k1) cs1.length (ccells cs1) ∧ wc.ownsRow w.heap.size 54 5 (.slice a2' cs2.length k2) cs2.length (ccells cs2) ∧ Below W3.heap.size W3 wc ∧ W3.heap.size ≤ rb)
  case first =>
    refine wp_region_held_drew (S := (fun w' => w'.cell? ⟨tb, 0, none⟩ = some (.slice a0 l0 c0) ∧ w'.cell? ⟨tb, 1, none⟩ = some (.slice a1 l1 c1))) (by kernel_rfl) ?hs0 (fun hS0 => ?_)
    case hs0 => ((try dsimp only); first | with_reducible exact ⟨x0, x1⟩ | with_reducible exact ⟨(set3_far (by omega)).trans x0, (set3_far (by omega)).trans x1⟩ | (refine ⟨?_, ?_⟩ <;> first | assumption | (go_keep; done)))
    refine wpAnyH_take (i := 0) (oi := { dst := some 27, op := Op.move (Operand.tmp 10), type := 3, pos := "law.go:102", after := #[], guard := none }) (v := ?_) rfl (by kernel_rfl) (by kernel_rfl) (by kernel_rfl) (fun _ _ _ h => h) (Or.inl ⟨by rfl, ?hy1⟩) hS0 ?_
    case hy1 => (intro w hSw; (try dsimp only at hSw); go_simp; try with_reducible rfl)
    try simp only [Act.put, List.setIfInBounds_toArray, List.set_cons_zero, List.set_cons_succ]
    refine wpAnyH_take (i := 1) (oi := { dst := some 28, op := Op.binOp BinOp.add 3 (Operand.tmp 27) (Operand.const (Value.int IntKind.i64 1)) 3, type := 3, pos := "law.go:102", after := #[{ on := 0, ground := Ground.data }], guard := none }) (v := ?_) rfl (by kernel_rfl) (by kernel_rfl) (by kernel_rfl) (fun _ _ _ h => h) (Or.inl ⟨by rfl, ?hy2⟩) hS0 ?_
    case hy2 => (intro w hSw; (try dsimp only at hSw); go_simp; try with_reducible rfl)
    try simp only [Act.put, List.setIfInBounds_toArray, List.set_cons_zero, List.set_cons_succ]
    refine wpAnyH_take (i := 2) (oi := { dst := some 29, op := Op.indexAddr 25 (Operand.tmp 3) (Operand.const (Value.int IntKind.i64 0)), type := 0, pos := "law.go:102", after := #[], guard := none }) (v := ?_) rfl (by kernel_rfl) (by kernel_rfl) (by kernel_rfl) (fun _ _ _ h => h) (Or.inl ⟨by rfl, ?hy3⟩) hS0 ?_
    case hy3 => (intro w hSw; (try dsimp only at hSw); go_simp; try with_reducible rfl)
    try simp only [Act.put, List.setIfInBounds_toArray, List.set_cons_zero, List.set_cons_succ]
    refine wpAnyH_take (i := 3) (oi := { dst := some 30, op := Op.load 24 (Operand.tmp 29), type := 24, pos := "law.go:102", after := #[{ on := 2, ground := Ground.data }], guard := none }) (v := ?_) rfl (by kernel_rfl) (by kernel_rfl) (by kernel_rfl) (fun _ _ _ h => h) (Or.inl ⟨by rfl, ?hy4⟩) hS0 ?_
    case hy4 => (intro w hSw; (try dsimp only at hSw); go_simp; try with_reducible rfl)
    try simp only [Act.put, List.setIfInBounds_toArray, List.set_cons_zero, List.set_cons_succ]
    refine wpAnyH_take (i := 5) (oi := { dst := some 32, op := Op.indexAddr 25 (Operand.tmp 3) (Operand.const (Value.int IntKind.i64 1)), type := 0, pos := "law.go:102", after := #[], guard := none }) (v := ?_) rfl (by kernel_rfl) (by kernel_rfl) (by kernel_rfl) (fun _ _ _ h => h) (Or.inl ⟨by rfl, ?hy5⟩) hS0 ?_
    case hy5 => (intro w hSw; (try dsimp only at hSw); go_simp; try with_reducible rfl)
    try simp only [Act.put, List.setIfInBounds_toArray, List.set_cons_zero, List.set_cons_succ]
    refine wpAnyH_take (i := 6) (oi := { dst := some 33, op := Op.load 24 (Operand.tmp 32), type := 24, pos := "law.go:102", after := #[{ on := 5, ground := Ground.data }], guard := none }) (v := ?_) rfl (by kernel_rfl) (by kernel_rfl) (by kernel_rfl) (fun _ _ _ h => h) (Or.inl ⟨by rfl, ?hy6⟩) hS0 ?_
    case hy6 => (intro w hSw; (try dsimp only at hSw); go_simp; try with_reducible rfl)
    try simp only [Act.put, List.setIfInBounds_toArray, List.set_cons_zero, List.set_cons_succ]
    refine wpAnyH_ready (rs := [4, 9]) (by kernel_rfl) (by simp) ?_
    refine AllReadyH.cons (o := { dst := some 31, op := Op.call { callee := Callee.value (Operand.func 22), args := #[Operand.tmp 30], argTypes := #[24] }, type := 39, pos := "law.go:102", after := #[{ on := 3, ground := Ground.data }], guard := none }) rfl (fun K hK => ?_) ?_
    · go_simp; refine (HC1.out _ _ (by first | exact B3.out | exact B3.out.drew | exact (B3.out.alloc B3.out.size _) | exact (B3.out.drew.alloc B3.out.size _) | exact (B3.out.alloc B3.out.size _).drew)).mono ?_; rintro e wA ⟨vA, rfl, rowA, bA⟩; obtain ⟨aA, cA, rfl, _⟩ := codes_at rowA; have sK := keep2 bA ⟨x0, x1⟩; obtain ⟨x0, x1⟩ := sK; have B4 := Lib.hid (show Below W3.heap.size W3 wA from ((Below.refl W3.heap.size W3).drew).trans bA); have S4 := B4.out.size; go_simp
      refine hK.out _ _ ?hs7 (fun hS7 => ?_)
      case hs7 => ((try dsimp only); first | with_reducible exact ⟨x0, x1⟩ | with_reducible exact ⟨(set3_far (by omega)).trans x0, (set3_far (by omega)).trans x1⟩ | (refine ⟨?_, ?_⟩ <;> first | assumption | (go_keep; done)))
      clear hK K hS0
      refine wpAnyH_ready (rs := [7, 9]) (by kernel_rfl) (by simp) ?_
      refine AllReadyH.cons (o := { dst := some 34, op := Op.call { callee := Callee.value (Operand.func 22), args := #[Operand.tmp 33], argTypes := #[24] }, type := 39, pos := "law.go:102", after := #[{ on := 6, ground := Ground.data }, { on := 4, ground := Ground.chain }], guard := none }) rfl (fun K hK => ?_) ?_
      · go_simp; refine (HC2.out _ _ (by first | exact B3.out.trans (B4.out.mono S3) | exact (B3.out.trans (B4.out.mono S3)).drew | exact (B3.out.trans (B4.out.mono S3)).alloc (Nat.le_trans S3 S4) _ | exact ((B3.out.trans (B4.out.mono S3)).alloc (Nat.le_trans S3 S4) _).drew)).mono ?_; rintro e wB ⟨vB, rfl, rowB, bB⟩; obtain ⟨aB, cB, rfl, _⟩ := codes_at rowB; have sK := keep2 bB ⟨x0, x1⟩; obtain ⟨x0, x1⟩ := sK; go_simp
        refine hK.out _ _ ?hs8 (fun hS8 => ?_)
        case hs8 => ((try dsimp only); first | with_reducible exact ⟨x0, x1⟩ | with_reducible exact ⟨(set3_far (by omega)).trans x0, (set3_far (by omega)).trans x1⟩ | (refine ⟨?_, ?_⟩ <;> first | assumption | (go_keep; done)))
        clear hK K hS7
        refine wpAnyH_take (i := 8) (oi := { dst := some 35, op := Op.build 41 #[(0, Operand.tmp 28), (1, Operand.tmp 31), (2, Operand.tmp 34)], type := 41, pos := "law.go:102", after := #[{ on := 1, ground := Ground.data }, { on := 4, ground := Ground.data }, { on := 7, ground := Ground.data }], guard := none }) (v := ?_) rfl (by kernel_rfl) (by kernel_rfl) (by kernel_rfl) (fun _ _ _ h => h) (Or.inl ⟨by rfl, ?hy9⟩) hS8 ?_
        case hy9 => (intro w hSw; (try dsimp only at hSw); go_simp; try with_reducible rfl)
        try simp only [Act.put, List.setIfInBounds_toArray, List.set_cons_zero, List.set_cons_succ]
        refine wpAnyH_ready (rs := [9]) (by kernel_rfl) (by simp) ?_
        refine AllReadyH.cons (o := { dst := some 11, op := Op.alloc 41, type := 0, pos := "law.go:102", after := #[], guard := none }) rfl (fun K hK => ?_) ?_
        · go_simp
          refine hK.out _ _ ?hs10 (fun hS10 => ?_)
          case hs10 => ((try dsimp only); first | with_reducible exact ⟨x0, x1⟩ | with_reducible exact ⟨(set3_far (by omega)).trans x0, (set3_far (by omega)).trans x1⟩ | (refine ⟨?_, ?_⟩ <;> first | assumption | (go_keep; done)))
          clear hK K hS8
          refine wpAnyH_ready (rs := [10]) (by kernel_rfl) (by simp) ?_
          refine AllReadyH.cons (o := { dst := none, op := Op.store 41 (Operand.tmp 11) (Operand.tmp 35), type := 0, pos := "law.go:102", after := #[{ on := 9, ground := Ground.data }, { on := 8, ground := Ground.data }, { on := 7, ground := Ground.chain }, { on := 0, ground := Ground.phase }, { on := 1, ground := Ground.phase }, { on := 2, ground := Ground.phase }, { on := 3, ground := Ground.phase }, { on := 4, ground := Ground.phase }, { on := 5, ground := Ground.phase }, { on := 6, ground := Ground.phase }, { on := 7, ground := Ground.phase }, { on := 8, ground := Ground.phase }, { on := 9, ground := Ground.phase }], guard := none }) rfl (fun K hK => ?_) ?_
          · go_simp
            refine hK.out _ _ ?hs11 (fun hS11 => ?_)
            case hs11 => ((try dsimp only); first | with_reducible exact ⟨x0, x1⟩ | with_reducible exact ⟨(set3_far (by omega)).trans x0, (set3_far (by omega)).trans x1⟩ | (refine ⟨?_, ?_⟩ <;> first | assumption | (go_keep; done)))
            clear hK K hS10
            refine wpAnyH_done (by kernel_rfl) ?_ _
            have ew : IntKind.i64.wrap ((r : Int) + 1) = (r : Int) + 1 := IntWalk.i64_in _ (by omega)
            rw [ew]
            have rA := prow_base ((prow_keep (e := 0) rowA (fun q hq => bB.block q (prow_lt rowA hq).2)).alloc (.cells #[.int .i64 ((r : Int) + 1), .slice aA cs1.length cA, .slice aB cs2.length cB] 41)) (show w.heap.size ≤ W3.heap.size from S3)
            have rB := prow_base (rowB.alloc (.cells #[.int .i64 ((r : Int) + 1), .slice aA cs1.length cA, .slice aB cs2.length cB] 41)) (Nat.le_trans S3 S4)
            have bZ := (B4.out.trans (bB.mono S4)).alloc (Nat.le_trans S4 bB.size) (.cells #[.int .i64 ((r : Int) + 1), .slice aA cs1.length cA, .slice aB cs2.length cB] 41)
            have y0 := World.cell?_alloc_new wB #[.int .i64 ((r : Int) + 1), .slice aA cs1.length cA, .slice aB cs2.length cB] 41 0
            have y1 := World.cell?_alloc_new wB #[.int .i64 ((r : Int) + 1), .slice aA cs1.length cA, .slice aB cs2.length cB] 41 1
            have y2 := World.cell?_alloc_new wB #[.int .i64 ((r : Int) + 1), .slice aA cs1.length cA, .slice aB cs2.length cB] 41 2
            simp only [List.getElem?_toArray, List.getElem?_cons_zero, List.getElem?_cons_succ] at y0 y1 y2
            go_wp2_with fail
            go_meet
            case rel => exact ⟨_, _, _, _, _, rfl, ⟨y0, y1, y2⟩, rA, rB, bZ, Nat.le_trans S4 bB.size⟩
          exact AllReadyH.nil
        exact AllReadyH.nil
      refine AllReadyH.cons (o := { dst := some 11, op := Op.alloc 41, type := 0, pos := "law.go:102", after := #[], guard := none }) rfl (fun K hK => ?_) ?_
      · go_simp
        refine hK.out _ _ ?hs12 (fun hS12 => ?_)
        case hs12 => ((try dsimp only); first | with_reducible exact ⟨x0, x1⟩ | with_reducible exact ⟨(set3_far (by omega)).trans x0, (set3_far (by omega)).trans x1⟩ | (refine ⟨?_, ?_⟩ <;> first | assumption | (go_keep; done)))
        clear hK K hS7
        refine wpAnyH_ready (rs := [7]) (by kernel_rfl) (by simp) ?_
        refine AllReadyH.cons (o := { dst := some 34, op := Op.call { callee := Callee.value (Operand.func 22), args := #[Operand.tmp 33], argTypes := #[24] }, type := 39, pos := "law.go:102", after := #[{ on := 6, ground := Ground.data }, { on := 4, ground := Ground.chain }], guard := none }) rfl (fun K hK => ?_) ?_
        · go_simp; refine (HC2.out _ _ (by first | exact B3.out.trans (B4.out.mono S3) | exact (B3.out.trans (B4.out.mono S3)).drew | exact (B3.out.trans (B4.out.mono S3)).alloc (Nat.le_trans S3 S4) _ | exact ((B3.out.trans (B4.out.mono S3)).alloc (Nat.le_trans S3 S4) _).drew)).mono ?_; rintro e wB ⟨vB, rfl, rowB, bB⟩; obtain ⟨aB, cB, rfl, _⟩ := codes_at rowB; have sK := keep2 bB ⟨(World.cell?_alloc_lt wA (.cells #[.int .i64 0, .slice none 0 0, .slice none 0 0] 41) ⟨tb, 0, none⟩ (Nat.lt_of_lt_of_le t3 S4)).trans x0, (World.cell?_alloc_lt wA (.cells #[.int .i64 0, .slice none 0 0, .slice none 0 0] 41) ⟨tb, 1, none⟩ (Nat.lt_of_lt_of_le t3 S4)).trans x1⟩; obtain ⟨x0, x1⟩ := sK; have Z := zero3 (w := wA) bB; obtain ⟨q0, q1, q2, g0, g1, g2⟩ := Z; go_simp
          refine hK.out _ _ ?hs13 (fun hS13 => ?_)
          case hs13 => ((try dsimp only); first | with_reducible exact ⟨x0, x1⟩ | with_reducible exact ⟨(set3_far (by omega)).trans x0, (set3_far (by omega)).trans x1⟩ | (refine ⟨?_, ?_⟩ <;> first | assumption | (go_keep; done)))
          clear hK K hS12
          refine wpAnyH_take (i := 8) (oi := { dst := some 35, op := Op.build 41 #[(0, Operand.tmp 28), (1, Operand.tmp 31), (2, Operand.tmp 34)], type := 41, pos := "law.go:102", after := #[{ on := 1, ground := Ground.data }, { on := 4, ground := Ground.data }, { on := 7, ground := Ground.data }], guard := none }) (v := ?_) rfl (by kernel_rfl) (by kernel_rfl) (by kernel_rfl) (fun _ _ _ h => h) (Or.inl ⟨by rfl, ?hy14⟩) hS13 ?_
          case hy14 => (intro w hSw; (try dsimp only at hSw); go_simp; try with_reducible rfl)
          try simp only [Act.put, List.setIfInBounds_toArray, List.set_cons_zero, List.set_cons_succ]
          refine wpAnyH_ready (rs := [10]) (by kernel_rfl) (by simp) ?_
          refine AllReadyH.cons (o := { dst := none, op := Op.store 41 (Operand.tmp 11) (Operand.tmp 35), type := 0, pos := "law.go:102", after := #[{ on := 9, ground := Ground.data }, { on := 8, ground := Ground.data }, { on := 7, ground := Ground.chain }, { on := 0, ground := Ground.phase }, { on := 1, ground := Ground.phase }, { on := 2, ground := Ground.phase }, { on := 3, ground := Ground.phase }, { on := 4, ground := Ground.phase }, { on := 5, ground := Ground.phase }, { on := 6, ground := Ground.phase }, { on := 7, ground := Ground.phase }, { on := 8, ground := Ground.phase }, { on := 9, ground := Ground.phase }], guard := none }) rfl (fun K hK => ?_) ?_
          · go_simp
            refine hK.out _ _ ?hs15 (fun hS15 => ?_)
            case hs15 => ((try dsimp only); first | with_reducible exact ⟨x0, x1⟩ | with_reducible exact ⟨(set3_far (by omega)).trans x0, (set3_far (by omega)).trans x1⟩ | (refine ⟨?_, ?_⟩ <;> first | assumption | (go_keep; done)))
            clear hK K hS13
            refine wpAnyH_done (by kernel_rfl) ?_ _
            have ew : IntKind.i64.wrap ((r : Int) + 1) = (r : Int) + 1 := IntWalk.i64_in _ (by omega)
            rw [ew]
            have hAB : wA.heap.size < wB.heap.size := block_lt_of_cell q0
            have bZ : Below W3.heap.size W3 wB := B4.out.trans ((((Below.refl wA.heap.size wA).alloc (Nat.le_refl _) (.cells #[.int .i64 0, .slice none 0 0, .slice none 0 0] 41)).trans (bB.mono (by show _ ≤ (wA.alloc _).heap.size; rw [World.size_alloc]; omega))).mono S4)
            have T := set3 (o := (r : Int) + 1) (v1 := .slice aA cs1.length cA) (v2 := .slice aB cs2.length cB) bZ S4 q0 q1 q2
            have rA := prow_base (prow_keep (e := 0) (prow_keep (e := 0) rowA (fun q hq => (bB.block q (by show _ < (wA.alloc _).heap.size; rw [World.size_alloc]; have := (prow_lt rowA hq).2; omega)).trans (Below.heap_alloc _ _ _ (prow_lt rowA hq).2))) (fun q hq => T.2.2 q (by have := (prow_lt rowA hq).2; omega))) (show w.heap.size ≤ W3.heap.size from S3)
            have rB := prow_base (prow_keep (e := 0) rowB (fun q hq => T.2.2 q (by have h9 := (prow_lt rowB hq).1; have h8 : (wA.alloc (.cells #[.int .i64 0, .slice none 0 0, .slice none 0 0] 41)).heap.size ≤ q := h9; rw [World.size_alloc] at h8; omega))) (show w.heap.size ≤ _ from Nat.le_trans (Nat.le_trans S3 S4) (by show _ ≤ (wA.alloc _).heap.size; rw [World.size_alloc]; omega))
            go_wp2_with fail
            go_meet
            case rel => exact ⟨_, _, _, _, _, rfl, T.1, rA, rB, T.2.1, S4⟩
          exact AllReadyH.nil
        exact AllReadyH.nil
      exact AllReadyH.nil
    refine AllReadyH.cons (o := { dst := some 11, op := Op.alloc 41, type := 0, pos := "law.go:102", after := #[], guard := none }) rfl (fun K hK => ?_) ?_
    · go_simp
      refine hK.out _ _ ?hs16 (fun hS16 => ?_)
      case hs16 => ((try dsimp only); first | with_reducible exact ⟨x0, x1⟩ | with_reducible exact ⟨(set3_far (by omega)).trans x0, (set3_far (by omega)).trans x1⟩ | (refine ⟨?_, ?_⟩ <;> first | assumption | (go_keep; done)))
      clear hK K hS0
      refine wpAnyH_ready (rs := [4]) (by kernel_rfl) (by simp) ?_
      refine AllReadyH.cons (o := { dst := some 31, op := Op.call { callee := Callee.value (Operand.func 22), args := #[Operand.tmp 30], argTypes := #[24] }, type := 39, pos := "law.go:102", after := #[{ on := 3, ground := Ground.data }], guard := none }) rfl (fun K hK => ?_) ?_
      · go_simp; refine (HC1.out _ _ (by first | exact B3.out | exact B3.out.drew | exact (B3.out.alloc B3.out.size _) | exact (B3.out.drew.alloc B3.out.size _) | exact (B3.out.alloc B3.out.size _).drew)).mono ?_; rintro e wA ⟨vA, rfl, rowA, bA⟩; obtain ⟨aA, cA, rfl, _⟩ := codes_at rowA; have sK := keep2 bA ⟨(World.cell?_alloc_lt W3 (.cells #[.int .i64 0, .slice none 0 0, .slice none 0 0] 41) ⟨tb, 0, none⟩ t3).trans XX.out.1, (World.cell?_alloc_lt W3 (.cells #[.int .i64 0, .slice none 0 0, .slice none 0 0] 41) ⟨tb, 1, none⟩ t3).trans XX.out.2⟩; obtain ⟨x0, x1⟩ := sK; have B4 := Lib.hid (show Below W3.heap.size W3 wA from ((Below.refl W3.heap.size W3).alloc (Nat.le_refl _) (.cells #[.int .i64 0, .slice none 0 0, .slice none 0 0] 41)).drew.trans (bA.mono (by show _ ≤ (W3.alloc _).heap.size; rw [World.size_alloc]; omega))); have S4 := B4.out.size; go_simp
        refine hK.out _ _ ?hs17 (fun hS17 => ?_)
        case hs17 => ((try dsimp only); first | with_reducible exact ⟨x0, x1⟩ | with_reducible exact ⟨(set3_far (by omega)).trans x0, (set3_far (by omega)).trans x1⟩ | (refine ⟨?_, ?_⟩ <;> first | assumption | (go_keep; done)))
        clear hK K hS16
        refine wpAnyH_ready (rs := [7]) (by kernel_rfl) (by simp) ?_
        refine AllReadyH.cons (o := { dst := some 34, op := Op.call { callee := Callee.value (Operand.func 22), args := #[Operand.tmp 33], argTypes := #[24] }, type := 39, pos := "law.go:102", after := #[{ on := 6, ground := Ground.data }, { on := 4, ground := Ground.chain }], guard := none }) rfl (fun K hK => ?_) ?_
        · go_simp; refine (HC2.out _ _ (by first | exact B3.out.trans (B4.out.mono S3) | exact (B3.out.trans (B4.out.mono S3)).drew)).mono ?_; rintro e wB ⟨vB, rfl, rowB, bB⟩; obtain ⟨aB, cB, rfl, _⟩ := codes_at rowB; have sK := keep2 bB ⟨x0, x1⟩; obtain ⟨x0, x1⟩ := sK; have Z0 := zero3 (w := W3) (((Below.refl (W3.alloc (.cells #[.int .i64 0, .slice none 0 0, .slice none 0 0] 41)).heap.size (W3.alloc (.cells #[.int .i64 0, .slice none 0 0, .slice none 0 0] 41))).drew).trans bA); have hz : W3.heap.size < wA.heap.size := Nat.lt_of_lt_of_le (by show _ < (W3.alloc _).heap.size; rw [World.size_alloc]; omega) (bA.size : (W3.alloc (.cells #[.int .i64 0, .slice none 0 0, .slice none 0 0] 41)).heap.size ≤ _); have Z := Z0.keep6 hz bB; obtain ⟨q0, q1, q2, g0, g1, g2⟩ := Z; go_simp
          refine hK.out _ _ ?hs18 (fun hS18 => ?_)
          case hs18 => ((try dsimp only); first | with_reducible exact ⟨x0, x1⟩ | with_reducible exact ⟨(set3_far (by omega)).trans x0, (set3_far (by omega)).trans x1⟩ | (refine ⟨?_, ?_⟩ <;> first | assumption | (go_keep; done)))
          clear hK K hS17
          refine wpAnyH_take (i := 8) (oi := { dst := some 35, op := Op.build 41 #[(0, Operand.tmp 28), (1, Operand.tmp 31), (2, Operand.tmp 34)], type := 41, pos := "law.go:102", after := #[{ on := 1, ground := Ground.data }, { on := 4, ground := Ground.data }, { on := 7, ground := Ground.data }], guard := none }) (v := ?_) rfl (by kernel_rfl) (by kernel_rfl) (by kernel_rfl) (fun _ _ _ h => h) (Or.inl ⟨by rfl, ?hy19⟩) hS18 ?_
          case hy19 => (intro w hSw; (try dsimp only at hSw); go_simp; try with_reducible rfl)
          try simp only [Act.put, List.setIfInBounds_toArray, List.set_cons_zero, List.set_cons_succ]
          refine wpAnyH_ready (rs := [10]) (by kernel_rfl) (by simp) ?_
          refine AllReadyH.cons (o := { dst := none, op := Op.store 41 (Operand.tmp 11) (Operand.tmp 35), type := 0, pos := "law.go:102", after := #[{ on := 9, ground := Ground.data }, { on := 8, ground := Ground.data }, { on := 7, ground := Ground.chain }, { on := 0, ground := Ground.phase }, { on := 1, ground := Ground.phase }, { on := 2, ground := Ground.phase }, { on := 3, ground := Ground.phase }, { on := 4, ground := Ground.phase }, { on := 5, ground := Ground.phase }, { on := 6, ground := Ground.phase }, { on := 7, ground := Ground.phase }, { on := 8, ground := Ground.phase }, { on := 9, ground := Ground.phase }], guard := none }) rfl (fun K hK => ?_) ?_
          · go_simp
            refine hK.out _ _ ?hs20 (fun hS20 => ?_)
            case hs20 => ((try dsimp only); first | with_reducible exact ⟨x0, x1⟩ | with_reducible exact ⟨(set3_far (by omega)).trans x0, (set3_far (by omega)).trans x1⟩ | (refine ⟨?_, ?_⟩ <;> first | assumption | (go_keep; done)))
            clear hK K hS18
            refine wpAnyH_done (by kernel_rfl) ?_ _
            have ew : IntKind.i64.wrap ((r : Int) + 1) = (r : Int) + 1 := IntWalk.i64_in _ (by omega)
            rw [ew]
            have hA : (W3.alloc (.cells #[.int .i64 0, .slice none 0 0, .slice none 0 0] 41)).heap.size ≤ wA.heap.size := bA.size
            have T := set3 (o := (r : Int) + 1) (v1 := .slice aA cs1.length cA) (v2 := .slice aB cs2.length cB) (B4.out.trans (bB.mono S4)) (Nat.le_refl _) q0 q1 q2
            have rA := prow_base (prow_keep (e := 0) (prow_keep (e := 0) rowA (fun q hq => bB.block q (prow_lt rowA hq).2)) (fun q hq => T.2.2 q (by have h9 := (prow_lt rowA hq).1; have h8 : (W3.alloc (.cells #[.int .i64 0, .slice none 0 0, .slice none 0 0] 41)).heap.size ≤ q := h9; rw [World.size_alloc] at h8; omega))) (show w.heap.size ≤ _ from Nat.le_trans S3 (by show _ ≤ (W3.alloc _).heap.size; rw [World.size_alloc]; omega))
            have rB := prow_base (prow_keep (e := 0) rowB (fun q hq => T.2.2 q (by have h9 := (prow_lt rowB hq).1; omega))) (Nat.le_trans S3 S4)
            go_wp2_with fail
            go_meet
            case rel => exact ⟨_, _, _, _, _, rfl, T.1, rA, rB, T.2.1, Nat.le_refl _⟩
          exact AllReadyH.nil
        exact AllReadyH.nil
      exact AllReadyH.nil
    exact AllReadyH.nil
  case rest =>
    obtain ⟨rb, q1, k1, q2, k2, rfl, hr, hw1, hw2, hbw, hrb⟩ := hcut
    have hnc := (hbw.cell (p := ⟨nb, r, none⟩) z3).trans hn
    have hnb : nb < wc.heap.size := block_lt_of_cell hnc
    have hrl : rb < wc.heap.size := block_lt_of_cell hr.1
    have hna := (World.cell?_alloc_lt wc (.cells #[.int .i64 ((r : Int) + 1), .slice q1 cs1.length k1, .slice q2 cs2.length k2] 41) ⟨nb, r, none⟩ hnb).trans hnc
    have y0 := (World.cell?_alloc_lt wc (.cells #[.int .i64 ((r : Int) + 1), .slice q1 cs1.length k1, .slice q2 cs2.length k2] 41) ⟨rb, 0, none⟩ hrl).trans hr.1
    have y1 := (World.cell?_alloc_lt wc (.cells #[.int .i64 ((r : Int) + 1), .slice q1 cs1.length k1, .slice q2 cs2.length k2] 41) ⟨rb, 1, none⟩ hrl).trans hr.2.1
    have y2 := (World.cell?_alloc_lt wc (.cells #[.int .i64 ((r : Int) + 1), .slice q1 cs1.length k1, .slice q2 cs2.length k2] 41) ⟨rb, 2, none⟩ hrl).trans hr.2.2
    have r0 := hr.1
    have r1 := hr.2.1
    have r2 := hr.2.2
    have WC := Lib.hid (And.intro hr (And.intro hw1 (And.intro hw2 (And.intro (E2.out.keep hbw) (B3.out.trans (hbw.mono S3))))))
    clear hn hnc hr hw1 hw2 hbw hrb E2 B3 XX x0 x1 HC1 HC2
    go_wp2_with fail
    have c0 := World.cell?_alloc_new wc #[.int .i64 (notOf (r : Int)), .slice q1 cs1.length k1, .slice q2 cs2.length k2] 41 0
    have c1 := World.cell?_alloc_new wc #[.int .i64 (notOf (r : Int)), .slice q1 cs1.length k1, .slice q2 cs2.length k2] 41 1
    have c2 := World.cell?_alloc_new wc #[.int .i64 (notOf (r : Int)), .slice q1 cs1.length k1, .slice q2 cs2.length k2] 41 2
    simp only [List.getElem?_toArray, List.getElem?_cons_zero, List.getElem?_cons_succ] at c0 c1 c2
    have bb := (Below.refl wc.heap.size wc).alloc (Nat.le_refl _) (.cells #[.int .i64 (notOf (r : Int)), .slice q1 cs1.length k1, .slice q2 cs2.length k2] 41)
    have st : NSt w (wc.alloc (.cells #[.int .i64 (notOf (r : Int)), .slice q1 cs1.length k1, .slice q2 cs2.length k2] 41)) rb wc.heap.size (r : Int) (.slice q1 cs1.length k1) (.slice q2 cs2.length k2) cs1 cs2 a m env :=
      ⟨WC.out.1.keep bb, ⟨c0, c1, c2⟩, WC.out.2.1.alloc _, WC.out.2.2.1.alloc _, WC.out.2.2.2.1.new _, WC.out.2.2.2.2.trans (bb.mono WC.out.2.2.2.2.size)⟩
    have HN := Lib.hid (holds_not (v := env) (k := (r : Int)) (l := cs1) (m := cs2) k0 (by omega))
    have HOP := Lib.hid (And.intro (show (1 : Int) ≤ (r : Int) + 1 by omega) (And.intro (show (r : Int) + 1 ≤ 6 by omega) (notOf_in (r : Int))))
    obtain ⟨z1, K⟩ := st.eval1 hl1 cap2
    have K1 := Lib.hid K
    clear c0 c1 c2 bb WC K st hna y0 y1 y2 r0 r1 r2 hnb hrl
    refine K1.out.mono ?_
    rintro e W1 ⟨rfl, st⟩
    have e2 := st.r.2.2
    obtain ⟨z2, K⟩ := st.eval2 hl2 cap2
    have K2 := Lib.hid K
    clear K st K1
    go_wp2_with fail
    clear e2
    refine K2.out.mono ?_
    rintro e W2 ⟨rfl, st⟩
    obtain ⟨e0, e1', e2⟩ := st.r
    have K3 := Lib.hid (st.holds hl1 hl2 cap2 HOP.out.1 HOP.out.2.1)
    clear st K2
    go_wp2_with fail
    clear e0 e1' e2
    refine K3.out.mono ?_
    rintro e W3' ⟨rfl, st⟩
    obtain ⟨e0, e1', e2⟩ := st.n
    have K4 := Lib.hid (st.holds hl1 hl2 cap2 HOP.out.2.2.1 HOP.out.2.2.2)
    clear st K3
    go_wp2_with fail
    clear e0 e1' e2
    refine K4.out.mono ?_
    rintro e W4 ⟨rfl, st⟩
    have BZ := Lib.hid st.bel
    have HN := HN.out
    clear st K4
    generalize (evalCd env cs1).isSome = o1 at *
    generalize (evalCd env cs2).isSome = o2 at *
    generalize holdsB env ((r : Int) + 1) cs1 cs2 = hA at *
    generalize holdsB env (notOf (r : Int)) cs1 cs2 = hB at *
    rcases HN with ⟨ho, rfl, rfl⟩ | ⟨rfl, rfl, rfl⟩
    · rcases ho with rfl | rfl
      · go_wp2_with fail
        go_ret
        exact ⟨rfl, BZ.out⟩
      · cases o1 <;>
        · go_wp2_with fail
          go_ret
          exact ⟨rfl, BZ.out⟩
    · cases hA <;>
      · go_wp2_with fail
        go_ret
        exact ⟨rfl, BZ.out⟩

end Go.Proofs.Ytjfbjkgppnhaoaa
