/-
  Two rows that hold the same tokens are the same.
-/
import Derived.Test.YtjahjdmabconeaaDoorQh
namespace Go.Proofs.YtjahjdmabconeaaDoor
open Go.ChangeShapes Go.WideShapes Go.ChangeAt Go.RowKit
set_option linter.unusedVariables false
def SmRel (w : World) (n : Nat) (v : Value) (wr : World) : Prop := ∃ j : Nat, v = .int .i64 (j : Int) ∧ j ≤ n ∧ Turn (fun _ => False) w wr
theorem tok_cells {w : World} {base n : Nat} {g : Nat} {cap : Nat} {s : ByteArray} {L : List (Nat × Tok)} (ho : w.ownsRow base 30 4 (.slice (some ⟨g, 0, none⟩) n cap) n (toksC s L)) (hL : L.length = n) {j : Nat} {x : Nat × Tok} (hx : L[j]? = some x) :
    w.cell? ⟨g, j * 4, none⟩ = some (.int .i64 (x.2.kind : Int)) ∧ w.cell? ⟨g, j * 4 + 1, none⟩ = some (.int .i64 (x.1 : Int)) ∧ w.cell? ⟨g, j * 4 + 2, none⟩ = some (.string (s.extract x.1 (x.1 + x.2.len))) ∧ w.cell? ⟨g, j * 4 + 3, none⟩ = some (.int .i64 (x.2.n : Int)) := by
  have hj : j < n := by rw [← hL]; exact (List.getElem?_eq_some_iff.1 hx).1
  refine ⟨?_, ?_, ?_, ?_⟩
  · have := ho.cellAt (j * 4 + 0) (by omega)
    rw [Nat.add_zero] at this
    exact this.trans ((toksC_at s L j 0 x hx (by omega)).trans rfl)
  · exact (ho.cellAt (j * 4 + 1) (by omega)).trans ((toksC_at s L j 1 x hx (by omega)).trans rfl)
  · exact (ho.cellAt (j * 4 + 2) (by omega)).trans ((toksC_at s L j 2 x hx (by omega)).trans rfl)
  · exact (ho.cellAt (j * 4 + 3) (by omega)).trans ((toksC_at s L j 3 x hx (by omega)).trans rfl)
theorem meas_j {j n : Nat} (h : j < n) : n + 1 - (intOf (.int .i64 ((j + 1 : Nat) : Int))).toNat < n + 1 - (intOf (.int .i64 (j : Int))).toNat := by simp only [intOf]; omega
set_option maxRecDepth 100000 in
set_option maxHeartbeats 2000000 in
theorem same_is {w : World} {b1 b2 : Nat} {v1 v2 : Value} {s : ByteArray} {L : List (Nat × Tok)} (h1 : w.ownsRow b1 30 4 v1 L.length (toksC s L)) (h2 : w.ownsRow b2 30 4 v2 L.length (toksC s L)) (hn : L.length ≤ 1000000) :
    Calls Tryd.prog 16 #[v1, v2] w fun e w' => e = .returned (.bool true) ∧ Turn (fun _ => False) w w' := by
  obtain ⟨a1, c1, rfl, g1⟩ := own_slice h1
  obtain ⟨a2, c2, rfl, g2⟩ := own_slice h2
  obtain ⟨n, hL⟩ : ∃ n, n = L.length := ⟨_, rfl⟩
  rw [← hL] at h1 h2 hn g1 g2 ⊢
  have H1 := Lib.hid (And.intro h1 (And.intro h2 (And.intro hL hn)))
  have HG := Lib.hid (And.intro g1 g2)
  clear h1 h2 hn hL g1 g2
  go_enter Tryd.func16, Tryd.ntmps16
  go_wp2_with fail
  go_loopw [5] (fun v wr => SmRel w n v wr) (fun v _ => n + 1 - (intOf v).toNat)
  case atStart => exact ⟨0, by simp, Nat.zero_le _, Turn.refl _ _⟩
  case round =>
    obtain ⟨j, rfl, hj, TT⟩ := hrel
    by_cases hjn : j < n
    · obtain ⟨x, hx⟩ : ∃ x, L[j]? = some x := ⟨_, List.getElem?_eq_getElem (by have := H1.out.2.2.1; omega)⟩
      obtain ⟨g1, rfl⟩ := HG.out.1 (by omega)
      obtain ⟨g2, rfl⟩ := HG.out.2 (by omega)
      obtain ⟨p0, p1, p2, p3⟩ := tok_cells H1.out.1 H1.out.2.2.1.symm hx
      obtain ⟨q0, q1, q2, q3⟩ := tok_cells H1.out.2.1 H1.out.2.2.1.symm hx
      replace p0 := TT.cell id p0
      replace p1 := TT.cell id p1
      replace p2 := TT.cell id p2
      replace p3 := TT.cell id p3
      replace q0 := TT.cell id q0
      replace q1 := TT.cell id q1
      replace q2 := TT.cell id q2
      replace q3 := TT.cell id q3
      have u1 := dec_ilt hjn
      have u2 : decide (j < n) = true := decide_eq_true hjn
      have i0 : (0 : Int) ≤ (j : Int) := Int.natCast_nonneg j
      have i1 : (j : Int) < (n : Int) := Int.ofNat_lt.2 hjn
      have hw := wrap_one (a := j) (by have := H1.out.2.2.2; omega)
      have FIN := Lib.hid (And.intro hjn TT)
      obtain ⟨tx, htx⟩ : ∃ tx, tx = s.extract x.1 (x.1 + x.2.len) := ⟨_, rfl⟩
      rw [← htx] at p2 q2
      clear hx hj hjn TT htx
      go_wp2_with fail
      go_region
      all_goals go_wp2_with fail
      all_goals exact ⟨by rw [hw]; exact ⟨j + 1, rfl, FIN.out.1, FIN.out.2.drewN 1⟩, by rw [hw]; exact meas_j FIN.out.1⟩
    · obtain rfl : j = n := by omega
      have u1 := dec_inlt hjn
      have u2 : decide (j < j) = false := decide_eq_false hjn
      have FIN := Lib.hid TT
      clear hj hjn TT
      go_wp2_with fail
      go_ret
      exact ⟨rfl, FIN.out⟩
end Go.Proofs.YtjahjdmabconeaaDoor
