/-
  Of any three numbers the Go function NumRing of layer 1 answers true. No conditions.
-/
import Derived.Test.YteejfidkomhblaaRows
import Derived.WalkKit
import Derived.ProofKit
import Derived.OpenShut
import Derived.ShutString
import Derived.Lib.Hide
import Derived.Test.YteejfidkomhblaaNum
import Derived.Test.YteejfidkomhblaaArr
namespace Go.Proofs.Yteejfidkomhblaa.numRing
open Go.ChangeShapes Go.WideShapes Go.ChangeAt Go.RowKit
set_option linter.unusedVariables false

theorem own : ownKnob Try.prog.godebug = none := by kernel_rfl
theorem c27 : Try.prog.cellsOf 27 = 3 := by kernel_rfl
theorem c2 : Try.prog.cellsOf 2 = 1 := by kernel_rfl

theorem w_ex (x : Int) : ∃ k : Int, wrap64 x = x + 18446744073709551616 * k := by
  refine ⟨-((x + 9223372036854775808) / 18446744073709551616), ?_⟩
  unfold wrap64
  omega
theorem w_same (x y k : Int) (e : x = y + 18446744073709551616 * k) : wrap64 x = wrap64 y := by
  unfold wrap64
  omega
theorem w_in (x : Int) (h : -9223372036854775808 ≤ x ∧ x ≤ 9223372036854775807) : wrap64 x = x := by
  unfold wrap64
  omega
theorem assoc (a b c : Int) : wrap64 (a + wrap64 (b + c)) = wrap64 (wrap64 (a + b) + c) := by
  unfold wrap64
  omega
theorem taken (a b : Int) (h : -9223372036854775808 ≤ a ∧ a ≤ 9223372036854775807) : wrap64 (wrap64 (a + b) + wrap64 (-b)) = a := by
  unfold wrap64
  omega
theorem over_sum (a b c : Int) : wrap64 (wrap64 (a * b) + wrap64 (a * c)) = wrap64 (a * wrap64 (b + c)) := by
  obtain ⟨k, hk⟩ := w_ex (a * b)
  obtain ⟨l, hl⟩ := w_ex (a * c)
  obtain ⟨m, hm⟩ := w_ex (b + c)
  rw [hk, hl, hm]
  refine w_same _ _ (k + l - a * m) ?_
  rw [Int.mul_add, Int.mul_add, Int.mul_left_comm a 18446744073709551616 m]
  omega

theorem walk (a b c : Int) (wa : (Lit.int .i64 a).wf = true) (w : World) :
    Calls Try.prog 5 #[.agg #[.int .i64 a, .int .i64 b, .int .i64 c]] w fun e w' => e = .returned (.bool true) ∧ Grown w w' := by
  obtain ⟨p, hp⟩ : ∃ p, wrap64 (a + b) = p := ⟨_, rfl⟩
  obtain ⟨s, hs⟩ : ∃ s, wrap64 (p + c) = s := ⟨_, rfl⟩
  obtain ⟨t, ht⟩ : ∃ t, wrap64 (b + c) = t := ⟨_, rfl⟩
  obtain ⟨x, hx⟩ : ∃ x, wrap64 (a * b) = x := ⟨_, rfl⟩
  obtain ⟨z, hz⟩ : ∃ z, wrap64 (a * t) = z := ⟨_, rfl⟩
  obtain ⟨v, hv⟩ : ∃ v, wrap64 (a * c) = v := ⟨_, rfl⟩
  have H0 := Lib.hid num_awake
  have H1 := Lib.hid (do_add a b)
  have H2 := Lib.hid (do_add b a)
  have H3 := Lib.hid (do_add p c)
  have H4 := Lib.hid (do_add b c)
  have H5 := Lib.hid (do_add a t)
  have H6 := Lib.hid (do_sub p b)
  have H7 := Lib.hid (do_mul a b)
  have H8 := Lib.hid (do_mul b a)
  have H9 := Lib.hid (do_mul a t)
  have H10 := Lib.hid (do_mul a c)
  have H11 := Lib.hid (do_add x v)
  rw [hp] at H1
  rw [Int.add_comm b a, hp] at H2
  rw [hs] at H3
  rw [ht] at H4
  rw [← ht, assoc, hp, hs, ht] at H5
  rw [← hp, taken a b (bounds_i64 wa), hp] at H6
  rw [hx] at H7
  rw [Int.mul_comm b a, hx] at H8
  rw [hz] at H9
  rw [hv] at H10
  rw [← hx, ← hv, over_sum, ht, hz, hx, hv] at H11
  clear hp hs ht hx hz hv wa
  go_enter Try.func5, Try.ntmps5
  go_wp2_with fail
  refine (H0.out _).mono ?_
  rintro e w' ⟨rfl, rfl⟩
  go_wp2_with fail
  refine (H1.out _).mono ?_
  rintro e w' ⟨rfl, rfl⟩
  go_wp2_with fail
  refine (H2.out _).mono ?_
  rintro e w' ⟨rfl, rfl⟩
  go_wp2_with fail
  refine (H3.out _).mono ?_
  rintro e w' ⟨rfl, rfl⟩
  go_wp2_with fail
  refine (H4.out _).mono ?_
  rintro e w' ⟨rfl, rfl⟩
  go_wp2_with fail
  refine (H5.out _).mono ?_
  rintro e w' ⟨rfl, rfl⟩
  go_wp2_with fail
  refine (H6.out _).mono ?_
  rintro e w' ⟨rfl, rfl⟩
  go_wp2_with fail
  refine (H7.out _).mono ?_
  rintro e w' ⟨rfl, rfl⟩
  go_wp2_with fail
  refine (H8.out _).mono ?_
  rintro e w' ⟨rfl, rfl⟩
  go_wp2_with fail
  refine (H9.out _).mono ?_
  rintro e w' ⟨rfl, rfl⟩
  go_wp2_with fail
  refine (H10.out _).mono ?_
  rintro e w' ⟨rfl, rfl⟩
  go_wp2_with fail
  refine (H11.out _).mono ?_
  rintro e w' ⟨rfl, rfl⟩
  go_wp2
  go_ret
  exact ⟨rfl, by repeat (first | exact Grown.refl _ | apply Grown.drew | apply Grown.alloc)⟩

set_option maxRecDepth 100000 in
theorem lifted (os : Os) (started : os.Started) (H : Type) (enc : TypeId × Value → H) :
    ReturnsInHanded {} Try.checked os 5 .any (Rows.numRingSpec.pre6 enc Try.prog Try.f5 Rows.numRingRow.domain false) (Rows.numRingSpec.post enc Try.prog Try.f5 false true false false) := by
  refine returnsInHanded_of_change (C := Try.checked) own started (by kernel_rfl) Try.func5
    (ChangeSpec.witness6 (enc := enc) (C := Try.checked) false ⟨#[], #[.agg #[.int .i64 0, .int .i64 0, .int .i64 0]], []⟩ 8 (by kernel_rfl) (by kernel_rfl) (by kernel_rfl) (by kernel_rfl)) ?_
  intro W base args ds gs before hval0 hW hcnd _
  have hval : ∀ (j : Nat) t v, Try.f5.params[j]? = some t → args[j]? = some v → Value.okWide Try.prog W .any base t v := hval0
  have hW' := hW
  obtain ⟨p, q, hA0, hV, rfl, hfz, hnd⟩ := hW
  have hA : DataW.TrodAll enc Try.prog W 0 (fun _ => true) true Try.f5.params.toList args.toList ds p := hA0
  rw [Try.params5] at hA hval
  obtain ⟨v0, vs0, d0, ds0, p0, q0, hargs, rfl, rfl, h0, r0⟩ := trodAll_cons hA
  obtain ⟨rfl, rfl, rfl⟩ := trodAll_nil r0
  obtain rfl : args = #[v0] := by cases args; simp_all
  obtain ⟨rfl, rfl⟩ := trodVars_none hV
  obtain ⟨a, b, c, rfl, rfl, rfl, wa, wb, wc⟩ := open_int3 Try.underlying27 Try.underlying2 c27 c2 (hval 0 27 v0 rfl rfl) h0
  clear hA0 hval0
  simp only [List.append_nil] at hW'
  refine (walk a b c wa W).mono fun e W' ⟨he, hg⟩ => ?_
  subst he
  exact ⟨_, rfl, post_of_same (pa := []) (pv := []) hW' (fun _ _ _ => (trodAll_cons_mk (shut_bool Try.underlying4 _) trodAll_mk0)) (fun sp _ => (trodAll_cons_mk (shut_int3 Try.underlying27 Try.underlying2 c27 c2 wa wb wc) trodAll_mk0)) (fun _ _ => rfl) rfl
    (hg.frame _) hg.2.1 (ok_one (by kernel_rfl) rfl (okWide_bool_mk Try.underlying4 _))⟩

theorem over : Rows.numRingRow.holds Try.pinned (OpenSpec.ofChange Rows.numRingSpec) :=
  OpenClaim.holds_of_wide 5 Try.f5 rfl rfl rfl rfl rfl rfl rfl ⟨rfl, rfl, rfl, rfl, rfl⟩ rfl rfl rfl rfl rfl (by kernel_rfl) Try.func5 (by kernel_rfl)
    (of_decide_eq_true (by kernel_rfl)) (by unfold Func.isWrapper; first | (rw [if_pos (by decide +kernel)]; kernel_rfl) | (rw [if_neg (by decide +kernel)]; exact ⟨rfl, rfl⟩))
    (fun os started H enc _ => lifted os started H enc)

theorem proved : Rows.NumRingSaid :=
  over
#print axioms proved
end Go.Proofs.Yteejfidkomhblaa.numRing
