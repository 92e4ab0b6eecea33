/-
  num.Test and pred.Holds: what they answer.
-/
import Derived.Test.YtjfbjkgppnhaoaaNeverArg
namespace Go.Proofs.Ytjfbjkgppnhaoaa
open Go.ChangeShapes Go.WideShapes Go.ChangeAt Go.RowKit Go.Deep
set_option linter.unusedVariables false

def testB (op a b : Int) : Bool :=
  if op = 1 then a == b else if op = 2 then !(a == b) else if op = 3 then decide (a < b) else if op = 4 then decide (a ≤ b) else if op = 5 then decide (b < a) else decide (b ≤ a)
theorem test_any {op : Int} (h1 : 1 ≤ op) (h6 : op ≤ 6) (a b : Int) (w : World) : Calls Try.prog 53 #[.int .i64 op, .int .i64 a, .int .i64 b] w fun e w' => e = .returned (.bool (testB op a b)) ∧ w = w' := by
  have ho : op = 1 ∨ op = 2 ∨ op = 3 ∨ op = 4 ∨ op = 5 ∨ op = 6 := by omega
  rcases ho with rfl | rfl | rfl | rfl | rfl | rfl <;>
  · go_enter Try.func53, Try.ntmps53
    go_wp2
    go_ret
    exact ⟨rfl, rfl⟩
def notOf (k : Int) : Int := if k = 0 then 2 else if k = 1 then 1 else if k = 2 then 6 else if k = 3 then 5 else if k = 4 then 4 else 3
theorem notOf_in (k : Int) : 1 ≤ notOf k ∧ notOf k ≤ 6 := by unfold notOf; split <;> (try split) <;> (try split) <;> (try split) <;> (try split) <;> omega
theorem testB_not {k : Int} (h0 : 0 ≤ k) (h5 : k ≤ 5) (a b : Int) : testB (notOf k) a b = !testB (k + 1) a b := by
  have hk : k = 0 ∨ k = 1 ∨ k = 2 ∨ k = 3 ∨ k = 4 ∨ k = 5 := by omega
  rcases hk with rfl | rfl | rfl | rfl | rfl | rfl <;> simp [testB, notOf] <;> (try (by_cases h : a = b <;> simp [h] <;> omega)) <;> (try (rw [← decide_not]; congr 1; simp))
/-- What a rule of these codes tells. -/
def holdsB (v : Env) (op : Int) (l m : List Cd) : Bool :=
  match evalCd v l, evalCd v m with
  | some x, some y => testB op x y
  | _, _ => false
set_option maxRecDepth 100000 in
set_option maxHeartbeats 1000000 in
theorem holds_any {w : World} {ad ad2 a : Option Addr} {m n n2 : Nat} {v : Env} {l l2 : List Cd} (hE : EnvAt w a m v) (hn : l.length = n) (hl : n ≤ 100) (hn2 : l2.length = n2) (hl2 : n2 ≤ 100)
    {op : Int} (h1 : 1 ≤ op) (h6 : op ≤ 6) (c c2 cap2 : Nat) (hJ : ∀ W, Below w.heap.size w W → CodesAt W ad l) (hK : ∀ W, Below w.heap.size w W → CodesAt W ad2 l2) :
    Calls Try.prog 20 #[.agg #[.int .i64 op, .slice ad n c, .slice ad2 n2 c2], .slice a m cap2] w fun e w' => e = .returned (.bool (holdsB v op l l2)) ∧ Below w.heap.size w w' := by
  have b0 : Below w.heap.size w (w.alloc (.cells #[.int .i64 op, .slice ad n c, .slice ad2 n2 c2] 41)) := (Below.refl _ w).alloc (Nat.le_refl _) _
  have z0 : w.heap.size < (w.alloc (.cells #[.int .i64 op, .slice ad n c, .slice ad2 n2 c2] 41)).heap.size := by rw [World.size_alloc]; omega
  have x0 := World.cell?_alloc_new w #[.int .i64 op, .slice ad n c, .slice ad2 n2 c2] 41 0
  have x1 := World.cell?_alloc_new w #[.int .i64 op, .slice ad n c, .slice ad2 n2 c2] 41 1
  have x2 := World.cell?_alloc_new w #[.int .i64 op, .slice ad n c, .slice ad2 n2 c2] 41 2
  simp only [List.getElem?_toArray, List.getElem?_cons_zero, List.getElem?_cons_succ] at x0 x1 x2
  obtain ⟨x, o, hx, k1⟩ := eval_let (hE.keep b0) (hJ _ b0) hn hl c cap2
  have X := Lib.hid hx
  have K1 := Lib.hid k1
  have E := Lib.hid hE
  have D := Lib.hid hK
  have B0 := Lib.hid b0
  clear hx k1 hE hK hJ b0
  go_enter Try.func20, Try.ntmps20
  go_wp2_with fail
  generalize hb : w.heap.size = tb at *
  generalize w.alloc (.cells #[.int .i64 op, .slice ad n c, .slice ad2 n2 c2] 41) = W0 at *
  refine K1.out.mono ?_
  rintro e w1 ⟨rfl, b1⟩
  have y0 := (b1.cell (p := ⟨tb, 0, none⟩) z0).trans x0
  have y2 := (b1.cell (p := ⟨tb, 2, none⟩) z0).trans x2
  have B1 := Lib.hid (B0.out.trans (b1.mono (Nat.le_of_lt z0)))
  have z1 := b1.size
  obtain ⟨y, p, hy, k2⟩ := eval_let (E.out.keep (by rw [hb]; exact B1.out)) (D.out w1 B1.out) hn2 hl2 c2 cap2
  have Y := Lib.hid hy
  have K2 := Lib.hid k2
  clear hy k2 b1 K1 x0 x1 x2
  have HB := Lib.hid hb
  clear hb
  cases o with
  | false =>
    go_wp2_with fail
    go_ret
    refine ⟨?_, by rw [HB.out]; exact B1.out⟩
    have h := X.out.2
    unfold holdsB
    cases hq : evalCd v l with
    | none => rfl
    | some z => rw [hq] at h; simp at h
  | true =>
    go_wp2_with fail
    refine K2.out.mono ?_
    rintro e w2 ⟨rfl, b2⟩
    have u0 := (b2.cell (p := ⟨tb, 0, none⟩) (Nat.lt_of_lt_of_le z0 z1)).trans y0
    have B2 := Lib.hid (B1.out.trans (b2.mono (Nat.le_trans (Nat.le_of_lt z0) z1)))
    have T := Lib.hid (fun w => test_any h1 h6 x y w)
    clear b2 K2
    obtain ⟨z, hz⟩ : ∃ z, evalCd v l = some z := by
      cases hq : evalCd v l with
      | none => have h := X.out.2; rw [hq] at h; exact absurd h (by decide)
      | some z => exact ⟨z, rfl⟩
    have ex : x = z := by rw [X.out.1, hz]; rfl
    have Z := Lib.hid (And.intro hz ex)
    clear hz ex
    cases p with
    | false =>
      go_wp2_with fail
      go_ret
      refine ⟨?_, by rw [HB.out]; exact B2.out⟩
      have h := Y.out.2
      unfold holdsB
      cases hq : evalCd v l2 with
      | none => rw [Z.out.1]; rfl
      | some z => rw [hq] at h; simp at h
    | true =>
      go_wp2_with fail
      refine (T.out _).mono ?_
      rintro e w3 ⟨rfl, rfl⟩
      go_wp2_with fail
      go_ret
      refine ⟨?_, by rw [HB.out]; exact B2.out⟩
      obtain ⟨u, hu⟩ : ∃ u, evalCd v l2 = some u := by
        cases hq : evalCd v l2 with
        | none => have h := Y.out.2; rw [hq] at h; exact absurd h (by decide)
        | some u => exact ⟨u, rfl⟩
      have ey : y = u := by rw [Y.out.1, hu]; rfl
      unfold holdsB
      rw [Z.out.1, hu, Z.out.2, ey]
      rfl
end Go.Proofs.Ytjfbjkgppnhaoaa
