/-
  Of any three numbers, by key or not, the Go function RouteTells of layer 16 answers true. No conditions.
-/
import Derived.Test.YteejfidkomhblaaRows
import Derived.WalkKit
import Derived.ProofKit
import Derived.OpenShut
import Derived.ShutString
import Derived.Handy
import Derived.WalkLawsBesides
import Derived.Lib.Hide
import Derived.Lib.QuietBelow
import Derived.BigQuiet
import Derived.Test.YteejfidkomhblaaArr
import Derived.Test.YteejfidkomhblaaRouteB
namespace Go.Proofs.Yteejfidkomhblaa.routeTells
open Go.ChangeShapes Go.WideShapes Go.ChangeAt Go.RowKit Go.Sort
set_option linter.unusedVariables false

theorem own : ownKnob Try.prog.godebug = none := by kernel_rfl
theorem laidOut : laidOutB Try.prog = true := by kernel_rfl
theorem c33 : Try.prog.cellsOf 33 = 3 := by kernel_rfl
theorem c3 : Try.prog.cellsOf 3 = 1 := by kernel_rfl

/-- A call in a world of the class of the region. -/
abbrev Again (w : World) (f : FuncId) (args : Array Value) (v : Value) : Prop :=
  ∀ d os, Calls Try.prog f args (grow (redrawn w d) os) fun e w'' => e = .returned v ∧ ∃ p : Regrown, w'' = grow (redrawn w p.d) p.os
theorem again {f : FuncId} {args : Array Value} {v : Value} (h : Tells f args v) (w : World) : Again w f args v := fun d os => Calls.regrown_of (h _)

set_option maxHeartbeats 1000000 in
theorem walk (k : Bool) (a b c : Int) (wc : (Lit.int .i64 c).wf = true) (w : World) :
    Calls Try.prog 9 #[.bool k, .agg #[.int .i64 a, .int .i64 b, .int .i64 c]] w fun e w' => e = .returned (.bool true) ∧ Below w.heap.size w w' := by
  have hn := and_bd c 63 (by decide)
  obtain ⟨m, hm⟩ : ∃ m, wrap64 (1 + bits .and .i64 c 63) = m := ⟨_, rfl⟩
  have m0 : 1 ≤ m ∧ m ≤ 64 := by
    rw [← hm]
    have h0 : 0 ≤ bits .and .i64 c 63 ∧ bits .and .i64 c 63 ≤ 63 := hn
    unfold wrap64
    omega
  obtain ⟨r1, S1, T1⟩ := shards a c (bounds_i64 wc).2
  obtain ⟨r2, S2, T2⟩ := shards a m (by omega)
  obtain ⟨r3, S3, T3⟩ := owners k a b m (by omega)
  have HA := Lib.hid b_awake
  have M := b_mix a
  have R := b_refmix a
  generalize mixI a = x at M R
  have HM := Lib.hid hm
  clear hm hn wc m0
  have HS := Lib.hid (And.intro M (And.intro R (And.intro S1 (And.intro T1 (And.intro S2 (And.intro T2 (And.intro S3 T3)))))))
  clear M R S1 T1 S2 T2 S3 T3
  go_enter Try.func9, Try.ntmps9
  go_wp2_with fail
  refine (HA.out _).mono ?_
  rintro e w1 ⟨rfl, g1⟩
  have t0 : ∀ (i : Nat) (v : Value), (w.alloc (.cells #[.int .i64 a, .int .i64 b, .int .i64 c] 33)).cell? ⟨w.heap.size, i, none⟩ = some v → w1.cell? ⟨w.heap.size, i, none⟩ = some v := fun i v h => (g1.cell (block_lt_of_cell h)).trans h
  have p0 := t0 0 _ (World.cell?_alloc_new ..)
  have p1 := t0 1 _ (World.cell?_alloc_new ..)
  have p2 := t0 2 _ (World.cell?_alloc_new ..)
  have gg : Below w.heap.size w w1 := ((Below.refl _ _).alloc (Nat.le_refl _) _).trans (g1.mono (by simp))
  clear t0 g1
  go_wp2_with fail
  rw [HM.out]
  obtain ⟨M, R, S1, T1, S2, T2, S3, T3⟩ := HS.out
  have k0 := cell_regrown p0
  have k1 := cell_regrown p1
  have k2 := cell_regrown p2
  have C1 := again M w1
  have C2 := again R w1
  have C3 := again S1 w1
  have C4 := again T1 w1
  have C5 := again S2 w1
  have C6 := again T2 w1
  have C7 := again S3 w1
  have C8 := again T3 w1
  refine wp_region_quiet_below (by kernel_rfl) (by kernel_rfl) ?_
  repeat (first | go_big_quiet_step ((first | (go_at_call 20; with_reducible exact C1 _ _) | (go_at_call 21; with_reducible exact C2 _ _) | (go_at_call 22; first | with_reducible exact C3 _ _ | with_reducible exact C5 _ _) | (go_at_call 23; first | with_reducible exact C4 _ _ | with_reducible exact C6 _ _) | (go_at_call 24; with_reducible exact C7 _ _) | (go_at_call 25; with_reducible exact C8 _ _))) | quiet_step ((first | (go_at_call 20; with_reducible exact C1 _ _) | (go_at_call 21; with_reducible exact C2 _ _) | (go_at_call 22; first | with_reducible exact C3 _ _ | with_reducible exact C5 _ _) | (go_at_call 23; first | with_reducible exact C4 _ _ | with_reducible exact C6 _ _) | (go_at_call 24; with_reducible exact C7 _ _) | (go_at_call 25; with_reducible exact C8 _ _))))
  go_goals
  refine wpQuiet_nil ?_
  intro _ hw'
  obtain ⟨⟨dq, osq⟩, hw''⟩ := hw'
  subst hw''
  go_wp2
  go_ret
  exact ⟨rfl, gg.trans ((below_regrown w1 dq osq).mono gg.size)⟩

set_option maxRecDepth 100000 in
theorem lifted (os : Os) (started : os.Started) (H : Type) (enc : TypeId × Value → H) :
    ReturnsInHanded {} Try.checked os 9 .any (Rows.routeTellsSpec.pre6 enc Try.prog Try.f9 Rows.routeTellsRow.domain false) (Rows.routeTellsSpec.post enc Try.prog Try.f9 false true false false) := by
  refine returnsInHanded_of_change (C := Try.checked) own started (by kernel_rfl) Try.func9
    (ChangeSpec.witness6 (enc := enc) (C := Try.checked) false ⟨#[], #[.bool false, .agg #[.int .i64 0, .int .i64 0, .int .i64 0]], []⟩ 8 (by kernel_rfl) (by kernel_rfl) (by kernel_rfl) (by kernel_rfl)) ?_
  intro W base args ds gs before hval0 hW hcnd _
  have hval : ∀ (j : Nat) t v, Try.f9.params[j]? = some t → args[j]? = some v → Value.okWide Try.prog W .any base t v := hval0
  have hW' := hW
  obtain ⟨p, q, hA0, hV, rfl, hfz, hnd⟩ := hW
  have hA : DataW.TrodAll enc Try.prog W 0 (fun _ => true) true Try.f9.params.toList args.toList ds p := hA0
  rw [Try.params9] at hA hval
  obtain ⟨v0, vs0, d0, ds0, p0, q0, hargs, rfl, rfl, h0, r0⟩ := trodAll_cons hA
  obtain ⟨v1, vs1, d1, ds1, p1, q1, rfl, rfl, rfl, h1, r1⟩ := trodAll_cons r0
  obtain ⟨rfl, rfl, rfl⟩ := trodAll_nil r1
  obtain rfl : args = #[v0, v1] := by cases args; simp_all
  obtain ⟨rfl, rfl⟩ := trodVars_none hV
  obtain ⟨k, rfl, rfl, rfl⟩ := open_bool Try.underlying4 (hval 0 4 v0 rfl rfl) h0
  have k1 := h1
  have lt1 : ∀ x ∈ p1, x.block < W.heap.size := by obtain ⟨m, hm⟩ := k1; exact DataW.trod_lt m _ _ _ hm
  obtain ⟨a, b, c, rfl, rfl, rfl, wa, wb, wc⟩ := open_int3 Try.underlying33 Try.underlying3 c33 c3 (hval 1 33 v1 rfl rfl) h1
  clear hA0 hval0
  simp only [List.append_nil] at hW'
  refine (walk k a b c wc W).mono fun e W' ⟨he, bel⟩ => ?_
  subst he
  exact ⟨_, rfl, _, _, _, [], [], [], hW', trodAll_mk1 (shut_bool Try.underlying4 _), (trodAll_cons_mk (shut_bool Try.underlying4 k) (trodAll_cons_mk (Below.trod laidOut (by kernel_rfl) (of_decide_eq_true (by kernel_rfl)) k1 bel lt1) trodAll_mk0)), rfl, bel.frame _, fun h => by cases h⟩

theorem over : Rows.routeTellsRow.holds Try.pinned (OpenSpec.ofChange Rows.routeTellsSpec) :=
  OpenClaim.holds_of_wide 9 Try.f9 rfl rfl rfl rfl rfl rfl rfl ⟨rfl, rfl, rfl, rfl, rfl⟩ rfl rfl rfl rfl rfl (by kernel_rfl) Try.func9 (by kernel_rfl)
    (of_decide_eq_true (by kernel_rfl)) (by unfold Func.isWrapper; first | (rw [if_pos (by decide +kernel)]; kernel_rfl) | (rw [if_neg (by decide +kernel)]; exact ⟨rfl, rfl⟩))
    (fun os started H enc _ => lifted os started H enc)

theorem proved : Rows.RouteTellsSaid :=
  over
#print axioms proved
end Go.Proofs.Yteejfidkomhblaa.routeTells
