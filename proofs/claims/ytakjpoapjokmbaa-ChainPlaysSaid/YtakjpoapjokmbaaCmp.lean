/-
  The document's own comparing of two rows of numbers.
-/
import Derived.Test.YtakjpoapjokmbaaRRow
namespace Go.Proofs.Ytakjpoapjokmbaa
open Go.ChangeShapes Go.WideShapes Go.ChangeAt Go.RowKit
set_option linter.unusedVariables false

/-- Numbers that lie in a row. -/
def IntsAt (w : World) (ad : Option Addr) (xs : List Int) : Prop := ∀ (j : Nat) (x : Int), xs[j]? = some x → ∃ b off, ad = some ⟨b, off, none⟩ ∧ w.cell? ⟨b, off + j, none⟩ = some (.int .i64 x)
def cmpR : List Int → List Int → Int
  | [], [] => 0
  | [], _ :: _ => -1
  | _ :: _, [] => 1
  | x :: l, y :: m => if x < y then -1 else if y < x then 1 else cmpR l m
theorem cmpR_drop {xs ys : List Int} {j : Nat} {x y : Int} (hx : xs[j]? = some x) (hy : ys[j]? = some y) : cmpR (xs.drop j) (ys.drop j) = if x < y then -1 else if y < x then 1 else cmpR (xs.drop (j + 1)) (ys.drop (j + 1)) := by
  obtain ⟨h1, e1⟩ := List.getElem?_eq_some_iff.1 hx
  obtain ⟨h2, e2⟩ := List.getElem?_eq_some_iff.1 hy
  rw [List.drop_eq_getElem_cons h1, List.drop_eq_getElem_cons h2, e1, e2, cmpR]
theorem cmpR_left {xs ys : List Int} {j : Nat} (h1 : xs.length ≤ j) (h2 : j < ys.length) : cmpR (xs.drop j) (ys.drop j) = -1 := by
  rw [List.drop_eq_nil_iff.2 h1, List.drop_eq_getElem_cons h2, cmpR]
theorem cmpR_right {xs ys : List Int} {j : Nat} (h1 : j < xs.length) (h2 : ys.length ≤ j) : cmpR (xs.drop j) (ys.drop j) = 1 := by
  rw [List.drop_eq_nil_iff.2 h2, List.drop_eq_getElem_cons h1, cmpR]
theorem cmpR_both {xs ys : List Int} {j : Nat} (h1 : xs.length ≤ j) (h2 : ys.length ≤ j) : cmpR (xs.drop j) (ys.drop j) = 0 := by
  rw [List.drop_eq_nil_iff.2 h1, List.drop_eq_nil_iff.2 h2, cmpR]
theorem cmpR_self : ∀ l, cmpR l l = 0
  | [] => rfl
  | x :: l => by rw [cmpR, if_neg (by omega), if_neg (by omega)]; exact cmpR_self l
def CRel (w : World) (xs ys : List Int) (gh : Nat) (v5 : Value) (wr : World) : Prop :=
  ∃ j : Nat, v5 = .int .i64 (j : Int) ∧ j ≤ xs.length ∧ j ≤ ys.length ∧ gh = xs.length - j ∧ cmpR xs ys = cmpR (xs.drop j) (ys.drop j) ∧ ∃ d, wr = w.drewN d
theorem drewC {W wr : World} (h : ∃ d, wr = W.drewN d) (k : Nat) : ∃ d, wr.drewN k = W.drewN d := by
  obtain ⟨d, rfl⟩ := h
  exact ⟨_, World.drewN_drewN ..⟩
set_option maxRecDepth 100000 in
set_option maxHeartbeats 1000000 in
theorem row_at {w : World} {a1 a2 : Option Addr} {xs ys : List Int} {n1 n2 c1 c2 : Nat} (h1 : IntsAt w a1 xs) (h2 : IntsAt w a2 ys) (e1 : xs.length = n1) (e2 : ys.length = n2) (b1 : n1 ≤ 100000) (b2 : n2 ≤ 100000) :
    Calls Try.prog 33 #[.slice a1 n1 c1, .slice a2 n2 c2] w fun e w' => e = .returned (.int .i64 (cmpR xs ys)) ∧ ∃ d, w' = w.drewN d := by
  subst e1
  subst e2
  have H := Lib.hid (And.intro h1 h2)
  have R0 : CRel w xs ys xs.length (.int .i64 0) w := ⟨0, rfl, Nat.zero_le _, Nat.zero_le _, rfl, rfl, 0, rfl⟩
  clear h1 h2
  go_enter Try.func33, Try.ntmps33
  go_wp2_with fail
  go_loopg [5] xs.length (fun gh v5 wr => CRel w xs ys gh v5 wr)
  case atStart => exact R0
  case round =>
    clear R0
    obtain ⟨j, rfl, hj1, hj2, hg, hcmp, hd⟩ := hrel
    have D := Lib.hid hd
    have C := Lib.hid hcmp
    by_cases q1 : j < xs.length
    · have t1 : decide ((j : Int) < (xs.length : Int)) = true := by simp; omega
      by_cases q2 : j < ys.length
      · have t2 : decide ((j : Int) < (ys.length : Int)) = true := by simp; omega
        obtain ⟨x, hx⟩ : ∃ x, xs[j]? = some x := ⟨_, List.getElem?_eq_getElem q1⟩
        obtain ⟨y, hy⟩ : ∃ y, ys[j]? = some y := ⟨_, List.getElem?_eq_getElem q2⟩
        obtain ⟨g1, o1, rfl, x0⟩ := H.out.1 j x hx
        obtain ⟨g2, o2, rfl, y0⟩ := H.out.2 j y hy
        have x0 : wr.cell? ⟨g1, o1 + j, none⟩ = some (.int .i64 x) := by obtain ⟨d, rfl⟩ := hd; exact x0
        have y0 : wr.cell? ⟨g2, o2 + j, none⟩ = some (.int .i64 y) := by obtain ⟨d, rfl⟩ := hd; exact y0
        have cd := Lib.hid (cmpR_drop hx hy)
        clear hd hcmp hx hy
        by_cases p1 : x < y
        · have t3 : decide (x < y) = true := by simpa using p1
          go_wp2_with fail
          go_quiet (fail)
          go_wp2_with fail
          go_ret
          exact ⟨by rw [C.out, cd.out, if_pos (by omega)]; rfl, drewC D.out _⟩
        · have t3 : decide (x < y) = false := by simpa using p1
          go_wp2_with fail
          go_quiet (fail)
          have D2 := Lib.hid (drewC D.out nq)
          have x0 : (wr.drewN nq).cell? ⟨g1, o1 + j, none⟩ = some (.int .i64 x) := x0
          have y0 : (wr.drewN nq).cell? ⟨g2, o2 + j, none⟩ = some (.int .i64 y) := y0
          clear D
          generalize wr.drewN nq = w3 at *
          clear nq
          by_cases p2 : y < x
          · have t4 : decide (y < x) = true := by simpa using p2
            go_wp2_with fail
            go_quiet (fail)
            go_wp2_with fail
            go_ret
            exact ⟨by rw [C.out, cd.out, if_neg (by omega), if_pos (by omega)]; rfl, drewC D2.out _⟩
          · have t4 : decide (y < x) = false := by simpa using p2
            go_wp2_with fail
            go_quiet (fail)
            go_wp2_with fail
            go_roundg (xs.length - (j + 1))
            case measure => omega
            case rel => exact ⟨j + 1, by go_num, by omega, by omega, rfl, by rw [C.out, cd.out, if_neg (by omega), if_neg (by omega)], drewC D2.out _⟩
      · have t2 : decide ((j : Int) < (ys.length : Int)) = false := by simp; omega
        have e2 : j = ys.length := by omega
        have cd := Lib.hid (cmpR_right q1 (show ys.length ≤ j by omega))
        have t3 : decide ((xs.length : Int) < (ys.length : Int)) = false := by simp; omega
        have t4 : decide ((ys.length : Int) < (xs.length : Int)) = true := by simp; omega
        clear hd hcmp e2
        go_wp2_with fail
        go_ret
        exact ⟨by rw [C.out, cd.out]; rfl, D.out⟩
    · have t1 : decide ((j : Int) < (xs.length : Int)) = false := by simp; omega
      by_cases q2 : j < ys.length
      · have cd := Lib.hid (cmpR_left (show xs.length ≤ j by omega) q2)
        have t3 : decide ((xs.length : Int) < (ys.length : Int)) = true := by simp; omega
        clear hd hcmp
        go_wp2_with fail
        go_ret
        exact ⟨by rw [C.out, cd.out]; rfl, D.out⟩
      · have cd := Lib.hid (cmpR_both (show xs.length ≤ j by omega) (show ys.length ≤ j by omega))
        have t3 : decide ((xs.length : Int) < (ys.length : Int)) = false := by simp; omega
        have t4 : decide ((ys.length : Int) < (xs.length : Int)) = false := by simp; omega
        clear hd hcmp
        go_wp2_with fail
        go_ret
        exact ⟨by rw [C.out, cd.out]; rfl, D.out⟩
end Go.Proofs.Ytakjpoapjokmbaa
