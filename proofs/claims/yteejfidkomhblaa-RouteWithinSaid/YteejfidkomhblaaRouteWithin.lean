/-
  Of any three numbers, and any number of shards, the Go function RouteWithin of layer 16 answers true. No conditions.
-/
import Derived.Test.YteejfidkomhblaaRows
import Derived.WalkKit
import Derived.ProofKit
import Derived.OpenShut
import Derived.ShutString
import Derived.Handy
import Derived.WalkLawsBesides
import Derived.Lib.Hide
import Derived.Test.YteejfidkomhblaaArr
import Derived.Test.YteejfidkomhblaaRoute
namespace Go.Proofs.Yteejfidkomhblaa.routeWithin
open Go.ChangeShapes Go.WideShapes Go.ChangeAt Go.RowKit
set_option linter.unusedVariables false

theorem own : ownKnob Try.prog.godebug = none := by kernel_rfl
theorem c33 : Try.prog.cellsOf 33 = 3 := by kernel_rfl
theorem c3 : Try.prog.cellsOf 3 = 1 := by kernel_rfl

set_option maxHeartbeats 1000000 in
theorem walk (a b c s : Int) (w : World) :
    Calls Try.prog 11 #[.agg #[.int .i64 a, .int .i64 b, .int .i64 c], .int .i64 s] w fun e w' => e = .returned (.bool true) ∧ Grown w w' := by
  have hn := and_bd s 1073741823 (by decide)
  obtain ⟨m, hm⟩ : ∃ m, wrap64 (1 + bits .and .i64 s 1073741823) = m := ⟨_, rfl⟩
  have m0 : 1 ≤ m ∧ m ≤ 1073741824 := by
    rw [← hm]
    have h0 : 0 ≤ bits .and .i64 s 1073741823 ∧ bits .and .i64 s 1073741823 ≤ 1073741823 := hn
    unfold wrap64
    omega
  have hr := sh_bd a m m0.1
  have K1 := shard_pos a m (by omega) (by omega)
  have K2 := shard_pos a 1 (by omega) (by omega)
  rw [sh_one] at K2
  have HA := Lib.hid route_awake
  have H1 := Lib.hid K1
  have H2 := Lib.hid K2
  have H3 := Lib.hid (owner_true b a m _ K1)
  have H4 := Lib.hid (owner_true c a m _ K1)
  have H5 := Lib.hid (owner_false a b m _ K1)
  have H6 := Lib.hid (owner_false a c m _ K1)
  have HM := Lib.hid hm
  clear K1 K2 hm hn
  generalize shI a m = r at H1 H3 H4 H5 H6 hr
  have r0 : 0 ≤ r := hr.1
  have r1 : r < m := hr.2
  clear hr m0
  go_enter Try.func11, Try.ntmps11
  go_wp2_with fail
  refine (HA.out _).mono ?_
  rintro e w1 ⟨rfl, g1⟩
  have t1 := (has3 _ _ _ _ _).next g1
  have p1 := t1.1
  have q1 := t1.2.1
  have s1 := t1.2.2
  go_wp2_with fail
  rw [HM.out]
  refine (H1.out _).mono ?_
  rintro e w2 ⟨rfl, g2⟩
  have t2 := t1.next g2
  have p2 := t2.1
  have q2 := t2.2.1
  have s2 := t2.2.2
  go_wp2_with fail
  refine (H2.out _).mono ?_
  rintro e w3 ⟨rfl, g3⟩
  have t3 := t2.next g3
  have p3 := t3.1
  have q3 := t3.2.1
  have s3 := t3.2.2
  go_wp2_with fail
  refine (H3.out _).mono ?_
  rintro e w4 ⟨rfl, g4⟩
  have t4 := t3.next g4
  have p4 := t4.1
  have q4 := t4.2.1
  have s4 := t4.2.2
  go_wp2_with fail
  refine (H4.out _).mono ?_
  rintro e w5 ⟨rfl, g5⟩
  have t5 := t4.next g5
  have p5 := t5.1
  have q5 := t5.2.1
  have s5 := t5.2.2
  go_wp2_with fail
  refine (H5.out _).mono ?_
  rintro e w6 ⟨rfl, g6⟩
  have t6 := t5.next g6
  have p6 := t6.1
  have q6 := t6.2.1
  have s6 := t6.2.2
  go_wp2_with fail
  refine (H6.out _).mono ?_
  rintro e w7 ⟨rfl, g7⟩
  go_wp2
  go_ret
  exact ⟨rfl, grown_on ((Grown.refl _).alloc _ _) (grown_on g1 (grown_on g2 (grown_on g3 (grown_on g4 (grown_on g5 (grown_on g6 g7))))))⟩

set_option maxRecDepth 100000 in
theorem lifted (os : Os) (started : os.Started) (H : Type) (enc : TypeId × Value → H) :
    ReturnsInHanded {} Try.checked os 11 .any (Rows.routeWithinSpec.pre6 enc Try.prog Try.f11 Rows.routeWithinRow.domain false) (Rows.routeWithinSpec.post enc Try.prog Try.f11 false true false false) := by
  refine returnsInHanded_of_change (C := Try.checked) own started (by kernel_rfl) Try.func11
    (ChangeSpec.witness6 (enc := enc) (C := Try.checked) false ⟨#[], #[.agg #[.int .i64 0, .int .i64 0, .int .i64 0], .int .i64 0], []⟩ 8 (by kernel_rfl) (by kernel_rfl) (by kernel_rfl) (by kernel_rfl)) ?_
  intro W base args ds gs before hval0 hW hcnd _
  have hval : ∀ (j : Nat) t v, Try.f11.params[j]? = some t → args[j]? = some v → Value.okWide Try.prog W .any base t v := hval0
  have hW' := hW
  obtain ⟨p, q, hA0, hV, rfl, hfz, hnd⟩ := hW
  have hA : DataW.TrodAll enc Try.prog W 0 (fun _ => true) true Try.f11.params.toList args.toList ds p := hA0
  rw [Try.params11] at hA hval
  obtain ⟨v0, vs0, d0, ds0, p0, q0, hargs, rfl, rfl, h0, r0⟩ := trodAll_cons hA
  obtain ⟨v1, vs1, d1, ds1, p1, q1, rfl, rfl, rfl, h1, r1⟩ := trodAll_cons r0
  obtain ⟨rfl, rfl, rfl⟩ := trodAll_nil r1
  obtain rfl : args = #[v0, v1] := by cases args; simp_all
  obtain ⟨rfl, rfl⟩ := trodVars_none hV
  obtain ⟨a, b, c, rfl, rfl, rfl, wa, wb, wc⟩ := open_int3 Try.underlying33 Try.underlying3 c33 c3 (hval 0 33 v0 rfl rfl) h0
  obtain ⟨s, rfl, rfl, rfl, ws⟩ := open_int Try.underlying3 (hval 1 3 v1 rfl rfl) h1
  clear hA0 hval0
  simp only [List.append_nil] at hW'
  refine (walk a b c s W).mono fun e W' ⟨he, hg⟩ => ?_
  subst he
  exact ⟨_, rfl, post_of_same (pa := []) (pv := []) hW' (fun _ _ _ => (trodAll_cons_mk (shut_bool Try.underlying4 _) trodAll_mk0)) (fun sp _ => (trodAll_cons_mk (shut_int3 Try.underlying33 Try.underlying3 c33 c3 wa wb wc) (trodAll_cons_mk (shut_int Try.underlying3 ws) trodAll_mk0))) (fun _ _ => rfl) rfl
    (hg.frame _) hg.2.1 (ok_one (by kernel_rfl) rfl (okWide_bool_mk Try.underlying4 _))⟩

theorem over : Rows.routeWithinRow.holds Try.pinned (OpenSpec.ofChange Rows.routeWithinSpec) :=
  OpenClaim.holds_of_wide 11 Try.f11 rfl rfl rfl rfl rfl rfl rfl ⟨rfl, rfl, rfl, rfl, rfl⟩ rfl rfl rfl rfl rfl (by kernel_rfl) Try.func11 (by kernel_rfl)
    (of_decide_eq_true (by kernel_rfl)) (by unfold Func.isWrapper; first | (rw [if_pos (by decide +kernel)]; kernel_rfl) | (rw [if_neg (by decide +kernel)]; exact ⟨rfl, rfl⟩))
    (fun os started H enc _ => lifted os started H enc)

theorem proved : Rows.RouteWithinSaid :=
  over
#print axioms proved
end Go.Proofs.Yteejfidkomhblaa.routeWithin
