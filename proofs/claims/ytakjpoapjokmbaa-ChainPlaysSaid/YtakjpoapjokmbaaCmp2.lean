/-
  The document's own comparing of two rows of rows of numbers.
-/
import Derived.Test.YtakjpoapjokmbaaCmp
namespace Go.Proofs.Ytakjpoapjokmbaa
open Go.ChangeShapes Go.WideShapes Go.ChangeAt Go.RowKit
set_option linter.unusedVariables false

theorem IntsAt.drewN {w : World} {ad : Option Addr} {xs : List Int} (h : IntsAt w ad xs) (d : Nat) : IntsAt (w.drewN d) ad xs := h
/-- Rows of numbers that lie in a row. -/
def GridAt (w : World) (ad : Option Addr) (L : List (List Int)) : Prop := ∀ (j : Nat) (l : List Int), L[j]? = some l → ∃ b off u n c, ad = some ⟨b, off, none⟩ ∧ w.cell? ⟨b, off + j, none⟩ = some (.slice u n c) ∧ l.length = n ∧ n ≤ 100000 ∧ IntsAt w u l
def cmpM : List (List Int) → List (List Int) → Int
  | [], [] => 0
  | [], _ :: _ => -1
  | _ :: _, [] => 1
  | x :: l, y :: m => if cmpR x y = 0 then cmpM l m else cmpR x y
theorem cmpM_drop {xs ys : List (List Int)} {j : Nat} {x y : List Int} (hx : xs[j]? = some x) (hy : ys[j]? = some y) : cmpM (xs.drop j) (ys.drop j) = if cmpR x y = 0 then cmpM (xs.drop (j + 1)) (ys.drop (j + 1)) else cmpR x y := by
  obtain ⟨h1, e1⟩ := List.getElem?_eq_some_iff.1 hx
  obtain ⟨h2, e2⟩ := List.getElem?_eq_some_iff.1 hy
  rw [List.drop_eq_getElem_cons h1, List.drop_eq_getElem_cons h2, e1, e2, cmpM]
theorem cmpM_left {xs ys : List (List Int)} {j : Nat} (h1 : xs.length ≤ j) (h2 : j < ys.length) : cmpM (xs.drop j) (ys.drop j) = -1 := by
  rw [List.drop_eq_nil_iff.2 h1, List.drop_eq_getElem_cons h2, cmpM]
theorem cmpM_right {xs ys : List (List Int)} {j : Nat} (h1 : j < xs.length) (h2 : ys.length ≤ j) : cmpM (xs.drop j) (ys.drop j) = 1 := by
  rw [List.drop_eq_nil_iff.2 h2, List.drop_eq_getElem_cons h1, cmpM]
theorem cmpM_both {xs ys : List (List Int)} {j : Nat} (h1 : xs.length ≤ j) (h2 : ys.length ≤ j) : cmpM (xs.drop j) (ys.drop j) = 0 := by
  rw [List.drop_eq_nil_iff.2 h1, List.drop_eq_nil_iff.2 h2, cmpM]
theorem cmpM_self : ∀ l, cmpM l l = 0
  | [] => rfl
  | x :: l => by rw [cmpM, if_pos (cmpR_self x)]; exact cmpM_self l
def MRel (w : World) (xs ys : List (List Int)) (gh : Nat) (v5 : Value) (wr : World) : Prop :=
  ∃ j : Nat, v5 = .int .i64 (j : Int) ∧ j ≤ xs.length ∧ j ≤ ys.length ∧ gh = xs.length - j ∧ cmpM xs ys = cmpM (xs.drop j) (ys.drop j) ∧ ∃ d, wr = w.drewN d
set_option maxRecDepth 100000 in
set_option maxHeartbeats 1000000 in
theorem compare_at {w : World} {a1 a2 : Option Addr} {xs ys : List (List Int)} {n1 n2 c1 c2 : Nat} (h1 : GridAt w a1 xs) (h2 : GridAt w a2 ys) (e1 : xs.length = n1) (e2 : ys.length = n2) (b1 : n1 ≤ 100000) (b2 : n2 ≤ 100000) :
    Calls Try.prog 20 #[.slice a1 n1 c1, .slice a2 n2 c2] w fun e w' => e = .returned (.int .i64 (cmpM xs ys)) ∧ ∃ d, w' = w.drewN d := by
  subst e1
  subst e2
  have H := Lib.hid (And.intro h1 h2)
  have R0 : MRel w xs ys xs.length (.int .i64 0) w := ⟨0, rfl, Nat.zero_le _, Nat.zero_le _, rfl, rfl, 0, rfl⟩
  clear h1 h2
  go_enter Try.func20, Try.ntmps20
  go_wp2_with fail
  go_loopg [5] xs.length (fun gh v5 wr => MRel w xs ys gh v5 wr)
  case atStart => exact R0
  case round =>
    clear R0
    obtain ⟨j, rfl, hj1, hj2, hg, hcmp, hd⟩ := hrel
    have D := Lib.hid hd
    have C := Lib.hid hcmp
    by_cases q1 : j < xs.length
    · have t1 : decide ((j : Int) < (xs.length : Int)) = true := by simp; omega
      by_cases q2 : j < ys.length
      · have t2 : decide ((j : Int) < (ys.length : Int)) = true := by simp; omega
        obtain ⟨x, hx⟩ : ∃ x, xs[j]? = some x := ⟨_, List.getElem?_eq_getElem q1⟩
        obtain ⟨y, hy⟩ : ∃ y, ys[j]? = some y := ⟨_, List.getElem?_eq_getElem q2⟩
        obtain ⟨g1, o1, u1, m1, k1, rfl, x0, xl, xb, xi⟩ := H.out.1 j x hx
        obtain ⟨g2, o2, u2, m2, k2, rfl, y0, yl, yb, yi⟩ := H.out.2 j y hy
        have x0 : wr.cell? ⟨g1, o1 + j, none⟩ = some (.slice u1 m1 k1) := by obtain ⟨d, rfl⟩ := hd; exact x0
        have y0 : wr.cell? ⟨g2, o2 + j, none⟩ = some (.slice u2 m2 k2) := by obtain ⟨d, rfl⟩ := hd; exact y0
        have RW := Lib.hid (fun d => show Calls Try.prog 33 #[.slice u1 m1 k1, .slice u2 m2 k2] (wr.drewN d) (fun e w' => e = Ending.returned (.int .i64 (cmpR x y)) ∧ ∃ m, w' = wr.drewN m) from by
          obtain ⟨d0, rfl⟩ := hd
          rw [World.drewN_drewN]
          exact (row_at (xi.drewN _) (yi.drewN _) xl yl xb yb).mono fun e w' ⟨a, m, b⟩ => ⟨a, d + m, by rw [b, World.drewN_drewN, World.drewN_drewN, Nat.add_assoc]⟩)
        have cd := Lib.hid (cmpM_drop hx hy)
        clear hd hcmp hx hy xl yl xb yb xi yi
        generalize cmpR x y = cc at *
        by_cases p1 : cc = 0
        · subst p1
          go_wp2_with fail
          go_quiet ((go_at_call 33; exact RW.out _))
          go_wp2_with fail
          go_roundg (xs.length - (j + 1))
          case measure => omega
          case rel => exact ⟨j + 1, by go_num, by omega, by omega, rfl, by rw [C.out, cd.out]; simp, drewC D.out _⟩
        · have t3 : (cc == 0) = false := by simpa using p1
          have P := Lib.hid p1
          clear p1
          go_wp2_with fail
          go_quiet ((go_at_call 33; exact RW.out _))
          go_wp2_with fail
          go_ret
          exact ⟨by rw [C.out, cd.out, if_neg P.out]; rfl, drewC D.out _⟩
      · have t2 : decide ((j : Int) < (ys.length : Int)) = false := by simp; omega
        have cd := Lib.hid (cmpM_right q1 (show ys.length ≤ j by omega))
        have t3 : decide ((xs.length : Int) < (ys.length : Int)) = false := by simp; omega
        have t4 : decide ((ys.length : Int) < (xs.length : Int)) = true := by simp; omega
        clear hd hcmp
        go_wp2_with fail
        go_ret
        exact ⟨by rw [C.out, cd.out]; rfl, D.out⟩
    · have t1 : decide ((j : Int) < (xs.length : Int)) = false := by simp; omega
      by_cases q2 : j < ys.length
      · have cd := Lib.hid (cmpM_left (show xs.length ≤ j by omega) q2)
        have t3 : decide ((xs.length : Int) < (ys.length : Int)) = true := by simp; omega
        clear hd hcmp
        go_wp2_with fail
        go_ret
        exact ⟨by rw [C.out, cd.out]; rfl, D.out⟩
      · have cd := Lib.hid (cmpM_both (show xs.length ≤ j by omega) (show ys.length ≤ j by omega))
        have t3 : decide ((xs.length : Int) < (ys.length : Int)) = false := by simp; omega
        have t4 : decide ((ys.length : Int) < (xs.length : Int)) = false := by simp; omega
        clear hd hcmp
        go_wp2_with fail
        go_ret
        exact ⟨by rw [C.out, cd.out]; rfl, D.out⟩
end Go.Proofs.Ytakjpoapjokmbaa
