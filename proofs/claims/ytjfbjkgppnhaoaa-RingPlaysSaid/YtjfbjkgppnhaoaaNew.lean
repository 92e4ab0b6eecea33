/-
  A new ring, the rest of a division from 0 on, and the layer's own example: contracts for the walks of the statements of layer 10.
-/
import Derived.Test.YtjfbjkgppnhaoaaRingt
namespace Go.Proofs.Ytjfbjkgppnhaoaa
open Go.ChangeShapes Go.WideShapes Go.ChangeAt Go.RowKit
set_option linter.unusedVariables false


theorem new_frozen (w : World) (c d : Array Value) (t u : TypeId) (b i : Nat) (hb : w.heap.size ≤ b) : ((w.alloc (.cells c t)).alloc (.cells d u)).frozen? ⟨b, i, none⟩ = false := by
  rw [frozen?_alloc_cells, frozen?_alloc_cells]
  unfold World.frozen?
  rw [Array.getElem?_eq_none (by simpa using hb)]

theorem ringy_new (w : World) (n : Nat) (c : Array Value) (t u : TypeId) (h : ∀ k, k < n → c[k * 2]? = some (.int .i64 0) ∧ c[k * 2 + 1]? = some (.bool false)) :
    Ringy ((w.alloc (.cells c t)).alloc (.cells #[.slice (some ⟨w.heap.size, 0, none⟩) n n, .int .i64 0, .int .i64 0] u)) (w.heap.size + 1) w.heap.size n 0 0 (fun _ => 0) (fun _ => false) :=
  ⟨by omega, World.cell?_alloc2_new .., World.cell?_alloc2_new .., World.cell?_alloc2_new .., fun k hk => (World.cell?_alloc2_first ..).trans (h k hk).1, fun k hk => (World.cell?_alloc2_first ..).trans (h k hk).2,
   fun i => new_frozen _ _ _ _ _ _ _ (by omega), fun i => new_frozen _ _ _ _ _ _ _ (by omega)⟩

theorem ringt_new (w : World) (n : Nat) (c : Array Value) (t u : TypeId) (h : ∀ k, k < n → c[k * 2]? = some (.string ByteArray.empty) ∧ c[k * 2 + 1]? = some (.bool false)) :
    Ringt ((w.alloc (.cells c t)).alloc (.cells #[.slice (some ⟨w.heap.size, 0, none⟩) n n, .int .i64 0, .int .i64 0] u)) (w.heap.size + 1) w.heap.size n 0 0 (fun _ => ByteArray.empty) (fun _ => false) :=
  ⟨by omega, World.cell?_alloc2_new .., World.cell?_alloc2_new .., World.cell?_alloc2_new .., fun k hk => (World.cell?_alloc2_first ..).trans (h k hk).1, fun k hk => (World.cell?_alloc2_first ..).trans (h k hk).2,
   fun i => new_frozen _ _ _ _ _ _ _ (by omega), fun i => new_frozen _ _ _ _ _ _ _ (by omega)⟩

theorem newt (w : World) : Calls Try.prog 61 #[.int .i64 2] w fun e w' => e = .returned (.pointer (some ⟨w.heap.size + 1, 0, none⟩)) ∧ Ringt w' (w.heap.size + 1) w.heap.size 2 0 0 (fun _ => ByteArray.empty) (fun _ => false) ∧ Below w.heap.size w w' ∧ w'.heap.size = w.heap.size + 2 := by
  have hmk : ∀ w, (Instr.makeSlice 155 (.int .i64 2) (.int .i64 2)).run Try.prog w = .ok (.slice (some ⟨w.heap.size, 0, none⟩) 2 2) (w.alloc (.cells #[.string ByteArray.empty, .bool false, .string ByteArray.empty, .bool false] 161)) := fun _ => by kernel_rfl
  go_enter Try.func61, Try.ntmps61
  go_wp2
  go_ret
  refine ⟨rfl, ringt_new w 2 _ _ _ ?_, by go_grown, by simp⟩
  intro k hk
  have : k = 0 ∨ k = 1 := by omega
  rcases this with rfl | rfl <;> exact ⟨rfl, rfl⟩

theorem ring_awake (w : World) : Calls Try.prog 24 #[] w fun e w' => e = .returned (.bool true) ∧ Below w.heap.size w w' := by
  have H0 := Lib.hid (newt w)
  go_enter Try.func24, Try.ntmps24
  go_wp2_with fail
  refine H0.out.mono ?_
  rintro e w1 ⟨rfl, r1, b1, s1⟩
  have a1 : At 2 0 1 1 := ⟨by decide, by decide, by decide, by decide, by decide⟩
  have a0 : At 2 0 0 0 := ⟨by decide, by decide, by decide, by decide, by decide⟩
  have a2 : At 2 1 2 0 := ⟨by decide, by decide, by decide, by decide, by decide⟩
  have E1 := Lib.hid (And.intro r1 (And.intro b1 (And.intro s1 (And.intro a1 (And.intro a0 a2)))))
  have C1 := Lib.hid (r1.put a1 rfl (by decide) ⟨#[98]⟩)
  clear r1 b1 s1 a1 a0 a2
  go_wp2_with fail
  refine C1.out.mono ?_
  rintro e w2 ⟨rfl, r2, n2⟩
  have E2 := Lib.hid (And.intro r2 n2)
  have C2 := Lib.hid (sput_no (some ⟨w.heap.size + 1, 0, none⟩) 2 ⟨#[99]⟩ w2 (sfind_high _ _ 2 0 2 w2 r2.c0 r2.c1 (by decide) (by decide) (by decide) (by decide)))
  clear r2 n2
  go_wp2_with fail
  refine C2.out.mono ?_
  rintro e w3 ⟨rfl, d3, rfl⟩
  have r3 := E2.out.1.drewN d3
  have C3 := Lib.hid (r3.drop_no E1.out.2.2.2.2.1 (k := 0) rfl)
  have E3 := Lib.hid r3
  clear r3
  go_wp2_with fail
  refine C3.out.mono ?_
  rintro e w4 ⟨rfl, d4, rfl⟩
  have r4 := E2.out.1.drewN (d3 + d4)
  have C4 := Lib.hid (r4.put E1.out.2.2.2.2.1 (k := 0) rfl (by decide) ⟨#[97]⟩)
  clear r4
  go_wp2_with fail
  refine C4.out.mono ?_
  rintro e w5 ⟨rfl, r5, n5⟩
  have C5 := r5.drop E1.out.2.2.2.2.1 (k := 0) rfl (by decide)
  rw [upd_at] at C5
  have K5 := Lib.hid C5
  have E5 := Lib.hid n5
  clear C5 r5 n5
  go_wp2_with fail
  refine K5.out.mono ?_
  rintro e w6 ⟨rfl, r6, n6⟩
  have C6 := Lib.hid (r6.put E1.out.2.2.2.2.2 (k := 0) rfl (by decide) ⟨#[99]⟩)
  have E6 := Lib.hid n6
  clear r6 n6
  go_wp2_with fail
  refine C6.out.mono ?_
  rintro e w7 ⟨rfl, r7, n7⟩
  have E7 := Lib.hid n7
  clear r7 n7
  go_wp2
  go_ret
  refine ⟨rfl, ?_⟩
  obtain ⟨_, b1, s1, _⟩ := E1.out
  have l2 := E2.out.2
  have l3 : Near (w.heap.size + 1) w.heap.size w2 (w2.drewN (d3 + d4)) := Near.drewN _
  have q := ((((l2.trans l3).trans E5.out).trans E6.out).trans E7.out)
  exact b1.trans (q.below (by omega) (by omega) (by omega))

theorem rest_any (x n : Int) (hn : 1 ≤ n) (hb : n ≤ 1000000) : ∃ R : Int, 0 ≤ R ∧ R < n ∧ ∀ w, Calls Try.prog 25 #[.int .i64 x, .int .i64 n] w fun e w' => e = .returned (.int .i64 R) ∧ w = w' := by
  have t1 : -n < x.tmod n := Int.lt_tmod_of_pos x (by omega)
  have t2 : x.tmod n < n := Int.tmod_lt_of_pos x (by omega)
  obtain ⟨y, hy⟩ : ∃ y, x.tmod n = y := ⟨_, rfl⟩
  rw [hy] at t1 t2
  have e1 : wrap64 (y + n) = y + n := by unfold wrap64; omega
  have e2 : (y + n).tmod n = (y + n) % n := Int.tmod_eq_emod_of_nonneg (by omega)
  refine ⟨y % n, Int.emod_nonneg _ (by omega), Int.emod_lt_of_pos _ (by omega), fun w => ?_⟩
  have nz : (n == 0) = false := by simp; omega
  have nn : ¬ n = 0 := by omega
  clear hb hn
  go_enter Try.func25, Try.ntmps25
  go_wp2
  go_ret
  exact ⟨rfl, rfl⟩
end Go.Proofs.Ytjfbjkgppnhaoaa
