/-
  What a ring of texts finds at a place.
-/
import Derived.Test.YtjfbjkgppnhaoaaRows
import Derived.WalkKit
import Derived.ProofKit
import Derived.OpenShut
import Derived.Handy
import Derived.WalkLawsBesides
import Derived.BigQuiet
import Derived.IntWalk
namespace Go.Proofs.Ytjfbjkgppnhaoaa
open Go.ChangeShapes Go.WideShapes Go.ChangeAt Go.RowKit
set_option linter.unusedVariables false

theorem sfind_nil (at_ : Int) (w : World) :
    Calls Try.prog 85 #[.pointer none, .int .i64 at_] w fun e w' => e = .returned (.pointer none) ∧ ∃ k, w' = w.drewN k := by
  go_enter Try.func85, Try.ntmps85
  go_wp2_with fail
  go_quiet (fail)
  go_wp2
  go_ret
  exact ⟨rfl, _, rfl⟩

theorem sfind_low (r pb n : Nat) (low at_ : Int) (w : World) (hr0 : w.cell? ⟨r, 0, none⟩ = some (.slice (some ⟨pb, 0, none⟩) n n)) (hr1 : w.cell? ⟨r, 1, none⟩ = some (.int .i64 low)) (hlt : at_ < low) :
    Calls Try.prog 85 #[.pointer (some ⟨r, 0, none⟩), .int .i64 at_] w fun e w' => e = .returned (.pointer none) ∧ ∃ k, w' = w.drewN k := by
  have hd : decide (at_ < low) = true := by simpa using hlt
  go_enter Try.func85, Try.ntmps85
  go_wp2_with fail
  go_quiet (fail)
  go_wp2
  go_ret
  exact ⟨rfl, _, rfl⟩

theorem sfind_high (r pb n : Nat) (low at_ : Int) (w : World) (hr0 : w.cell? ⟨r, 0, none⟩ = some (.slice (some ⟨pb, 0, none⟩) n n)) (hr1 : w.cell? ⟨r, 1, none⟩ = some (.int .i64 low)) (h0 : 0 ≤ low) (hle : low ≤ at_) (hb : at_ ≤ 9223372036854775807) (hge : (n : Int) ≤ at_ - low) :
    Calls Try.prog 85 #[.pointer (some ⟨r, 0, none⟩), .int .i64 at_] w fun e w' => e = .returned (.pointer none) ∧ ∃ k, w' = w.drewN k := by
  have hd : decide (at_ < low) = false := by simp; omega
  have hw : wrap64 (at_ - low) = at_ - low := by unfold wrap64; omega
  have hd2 : decide ((n : Int) ≤ at_ - low) = true := by simpa using hge
  clear hb hge
  go_enter Try.func85, Try.ntmps85
  go_wp2_with fail
  go_quiet (fail)
  go_wp2
  go_ret
  exact ⟨rfl, _, rfl⟩

theorem sfind_in (r pb n : Nat) (low at_ : Int) (w : World) (hr0 : w.cell? ⟨r, 0, none⟩ = some (.slice (some ⟨pb, 0, none⟩) n n)) (hr1 : w.cell? ⟨r, 1, none⟩ = some (.int .i64 low)) (h0 : 0 ≤ low) (hle : low ≤ at_) (hb : at_ ≤ 9223372036854775807) (hlt : at_ - low < (n : Int)) :
    Calls Try.prog 85 #[.pointer (some ⟨r, 0, none⟩), .int .i64 at_] w fun e w' => e = .returned (.pointer (some ⟨pb, (at_ % n).toNat * 2, none⟩)) ∧ ∃ k, w' = w.drewN k := by
  have hd : decide (at_ < low) = false := by simp; omega
  have hw : wrap64 (at_ - low) = at_ - low := by unfold wrap64; omega
  have hd2 : decide ((n : Int) ≤ at_ - low) = false := by simp; omega
  have hm : at_.tmod (n : Int) = at_ % (n : Int) := Int.tmod_eq_emod_of_nonneg (by omega)
  have m0 : 0 ≤ at_ % (n : Int) := Int.emod_nonneg _ (by omega)
  have m1 : at_ % (n : Int) < (n : Int) := Int.emod_lt_of_pos _ (by omega)
  have nz : ((n : Int) == 0) = false := by simp; omega
  clear hb
  go_enter Try.func85, Try.ntmps85
  go_wp2_with fail
  go_quiet (fail)
  go_wp2_with fail
  go_quiet (fail)
  go_wp2
  go_ret
  exact ⟨rfl, _, World.drewN_drewN ..⟩

end Go.Proofs.Ytjfbjkgppnhaoaa
