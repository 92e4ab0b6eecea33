/-
  What the functions that are handed to a store's slot do.
-/
import Derived.Test.YtjfbjkgppnhaoaaStore
namespace Go.Proofs.Ytjfbjkgppnhaoaa
open Go.ChangeShapes Go.WideShapes Go.ChangeAt Go.RowKit
set_option linter.unusedVariables false

theorem cl_count (sb o p : Nat) (c v0 : Int) (w : World) (hc : w.cell? ⟨sb, o + 7, none⟩ = some (.int .i64 c)) (hp : w.cell? ⟨p, 0, none⟩ = some (.int .i64 v0)) (hf : w.frozen? ⟨p, 0, none⟩ = false) :
    Calls Try.prog 72 #[.pointer (some ⟨sb, o, none⟩), .pointer (some ⟨p, 0, none⟩)] w fun e w' => e = .returned (.tuple #[]) ∧ w' = w.setCell ⟨p, 0, none⟩ (.int .i64 c) := by
  go_enter Try.func72, Try.ntmps72
  go_wp2
  go_end0
  exact ⟨rfl, rfl⟩

theorem cl_get (sb o p : Nat) (e0 e1 e2 e3 e4 e5 v0 v1 v2 v3 v4 v5 : Int) (w : World) (h0 : w.cell? ⟨sb, o, none⟩ = some (.int .i64 e0)) (h1 : w.cell? ⟨sb, o + 1, none⟩ = some (.int .i64 e1)) (h2 : w.cell? ⟨sb, o + 2, none⟩ = some (.int .i64 e2)) (h3 : w.cell? ⟨sb, o + 3, none⟩ = some (.int .i64 e3)) (h4 : w.cell? ⟨sb, o + 4, none⟩ = some (.int .i64 e4)) (h5 : w.cell? ⟨sb, o + 5, none⟩ = some (.int .i64 e5))
    (g0 : w.cell? ⟨p, 0, none⟩ = some (.int .i64 v0)) (g1 : w.cell? ⟨p, 1, none⟩ = some (.int .i64 v1)) (g2 : w.cell? ⟨p, 2, none⟩ = some (.int .i64 v2)) (g3 : w.cell? ⟨p, 3, none⟩ = some (.int .i64 v3)) (g4 : w.cell? ⟨p, 4, none⟩ = some (.int .i64 v4)) (g5 : w.cell? ⟨p, 5, none⟩ = some (.int .i64 v5)) (hf : ∀ i, w.frozen? ⟨p, i, none⟩ = false) :
    Calls Try.prog 71 #[.pointer (some ⟨sb, o, none⟩), .pointer (some ⟨p, 0, none⟩)] w fun e w' => e = .returned (.tuple #[]) ∧ w' = (((((w.setCell ⟨p, 0, none⟩ (.int .i64 e0)).setCell ⟨p, 1, none⟩ (.int .i64 e1)).setCell ⟨p, 2, none⟩ (.int .i64 e2)).setCell ⟨p, 3, none⟩ (.int .i64 e3)).setCell ⟨p, 4, none⟩ (.int .i64 e4)).setCell ⟨p, 5, none⟩ (.int .i64 e5) := by
  go_enter Try.func71, Try.ntmps71
  go_wp2
  go_end0
  exact ⟨rfl, rfl⟩

theorem cl_free1 (sb o p : Nat) (c : Int) (v0 : Bool) (w : World) (hk : (c == 0) = false) (hc : w.cell? ⟨sb, o + 7, none⟩ = some (.int .i64 c)) (hp : w.cell? ⟨p, 0, none⟩ = some (.bool v0)) (hf : w.frozen? ⟨p, 0, none⟩ = false) :
    Calls Try.prog 69 #[.pointer (some ⟨sb, o, none⟩), .pointer (some ⟨p, 0, none⟩)] w fun e w' => e = .returned (.tuple #[]) ∧ w' = w.setCell ⟨p, 0, none⟩ (.bool false) := by
  go_enter Try.func69, Try.ntmps69
  go_wp2
  go_end0
  exact ⟨rfl, rfl⟩

theorem cl_free0 (sb o p : Nat) (e0 e1 e2 e3 e4 e5 G : Int) (u v0 : Bool) (w : World) (hne : p ≠ sb) (hg : 0 ≤ G ∧ G ≤ 1000000) (h0 : w.cell? ⟨sb, o, none⟩ = some (.int .i64 e0)) (h1 : w.cell? ⟨sb, o + 1, none⟩ = some (.int .i64 e1)) (h2 : w.cell? ⟨sb, o + 2, none⟩ = some (.int .i64 e2)) (h3 : w.cell? ⟨sb, o + 3, none⟩ = some (.int .i64 e3)) (h4 : w.cell? ⟨sb, o + 4, none⟩ = some (.int .i64 e4)) (h5 : w.cell? ⟨sb, o + 5, none⟩ = some (.int .i64 e5))
    (h6 : w.cell? ⟨sb, o + 6, none⟩ = some (.bool u)) (h7 : w.cell? ⟨sb, o + 7, none⟩ = some (.int .i64 0)) (h8 : w.cell? ⟨sb, o + 8, none⟩ = some (.int .i64 G)) (hp : w.cell? ⟨p, 0, none⟩ = some (.bool v0)) (hf : w.frozen? ⟨p, 0, none⟩ = false) (hfs : ∀ i, w.frozen? ⟨sb, i, none⟩ = false) :
    Calls Try.prog 69 #[.pointer (some ⟨sb, o, none⟩), .pointer (some ⟨p, 0, none⟩)] w fun e w' => e = .returned (.tuple #[]) ∧ w' = (((((((((w.setCell ⟨p, 0, none⟩ (.bool true)).setCell ⟨sb, o, none⟩ (.int .i64 0)).setCell ⟨sb, o + 1, none⟩ (.int .i64 0)).setCell ⟨sb, o + 2, none⟩ (.int .i64 0)).setCell ⟨sb, o + 3, none⟩ (.int .i64 0)).setCell ⟨sb, o + 4, none⟩ (.int .i64 0)).setCell ⟨sb, o + 5, none⟩ (.int .i64 0)).setCell ⟨sb, o + 6, none⟩ (.bool false)).setCell ⟨sb, o + 7, none⟩ (.int .i64 0)).setCell ⟨sb, o + 8, none⟩ (.int .i64 (G + 1)) := by
  have m1 := Ne.symm hne
  have g0 := hg.1
  have g1 := hg.2
  clear hg
  go_enter Try.func69, Try.ntmps69
  go_wp2
  go_end0
  exact ⟨rfl, rfl⟩

theorem cl_add (sb o p q r : Nat) (c by_ v0 : Int) (v1 : Bool) (w : World) (hne : p ≠ sb ∧ q ≠ sb ∧ r ≠ sb ∧ p ≠ q ∧ p ≠ r ∧ q ≠ r) (hc : w.cell? ⟨sb, o + 7, none⟩ = some (.int .i64 c)) (hvp : w.cell? ⟨p, 0, none⟩ = some (.int .i64 by_)) (hvq : w.cell? ⟨q, 0, none⟩ = some (.int .i64 v0)) (hvr : w.cell? ⟨r, 0, none⟩ = some (.bool v1)) (hfq : w.frozen? ⟨q, 0, none⟩ = false) (hfr : w.frozen? ⟨r, 0, none⟩ = false) (hfs : ∀ i, w.frozen? ⟨sb, i, none⟩ = false)
    (k0 : (c == 0) = false) (k1 : decide (by_ < -c) = false) (k2 : decide (1099511627776 - c < by_) = false) (cb : 0 ≤ c ∧ c ≤ 1000000) (bb : -1000000 ≤ by_ ∧ by_ ≤ 1000000) :
    Calls Try.prog 70 #[.pointer (some ⟨sb, o, none⟩), .pointer (some ⟨p, 0, none⟩), .pointer (some ⟨q, 0, none⟩), .pointer (some ⟨r, 0, none⟩)] w fun e w' => e = .returned (.tuple #[]) ∧ ∃ d : Nat, w' = (((w.drewN d).setCell ⟨sb, o + 7, none⟩ (.int .i64 (c + by_))).setCell ⟨q, 0, none⟩ (.int .i64 (c + by_))).setCell ⟨r, 0, none⟩ (.bool true) := by
  obtain ⟨n1, n2, n3, n4, n5, n6⟩ := hne
  have m1 := Ne.symm n1
  have m2 := Ne.symm n2
  have m3 := Ne.symm n3
  have m4 := Ne.symm n4
  have m5 := Ne.symm n5
  have m6 := Ne.symm n6
  have cb0 := cb.1
  have cb1 := cb.2
  have bb0 := bb.1
  have bb1 := bb.2
  clear cb bb
  go_enter Try.func70, Try.ntmps70
  go_wp2_with fail
  go_quiet (fail)
  go_wp2_with fail
  go_region
  go_wp2
  go_end0
  exact ⟨rfl, _, rfl⟩

theorem cl_add_dead (sb o p q r : Nat) (by_ : Int) (w : World) (hc : w.cell? ⟨sb, o + 7, none⟩ = some (.int .i64 0)) :
    Calls Try.prog 70 #[.pointer (some ⟨sb, o, none⟩), .pointer (some ⟨p, 0, none⟩), .pointer (some ⟨q, 0, none⟩), .pointer (some ⟨r, 0, none⟩)] w fun e w' => e = .returned (.tuple #[]) ∧ ∃ d : Nat, w' = w.drewN d := by
  go_enter Try.func70, Try.ntmps70
  go_wp2_with fail
  go_quiet (fail)
  go_wp2
  go_returns
  exact ⟨rfl, _, rfl⟩

theorem cl_add_under (sb o p q r : Nat) (c by_ : Int) (w : World) (hc : w.cell? ⟨sb, o + 7, none⟩ = some (.int .i64 c)) (hvp : w.cell? ⟨p, 0, none⟩ = some (.int .i64 by_)) (k0 : (c == 0) = false) (k1 : decide (by_ < -c) = true) (cb : 0 ≤ c ∧ c ≤ 1000000) :
    Calls Try.prog 70 #[.pointer (some ⟨sb, o, none⟩), .pointer (some ⟨p, 0, none⟩), .pointer (some ⟨q, 0, none⟩), .pointer (some ⟨r, 0, none⟩)] w fun e w' => e = .returned (.tuple #[]) ∧ ∃ d : Nat, w' = w.drewN d := by
  have cb0 := cb.1
  have cb1 := cb.2
  clear cb
  go_enter Try.func70, Try.ntmps70
  go_wp2_with fail
  go_quiet (fail)
  go_wp2
  go_returns
  exact ⟨rfl, _, rfl⟩
end Go.Proofs.Ytjfbjkgppnhaoaa
