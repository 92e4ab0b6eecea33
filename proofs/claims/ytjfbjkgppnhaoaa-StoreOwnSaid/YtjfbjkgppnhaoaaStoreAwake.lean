/-
  The example of layer 11.
-/
import Derived.Test.YtjfbjkgppnhaoaaFree
namespace Go.Proofs.Ytjfbjkgppnhaoaa
open Go.ChangeShapes Go.WideShapes Go.ChangeAt Go.RowKit
set_option linter.unusedVariables false

theorem Near.cell1 {r pb : Nat} {w w' : World} (h : Near r pb w w') {b i : Nat} {v : Value} (h1 : b ≠ r) (h2 : b ≠ pb) (hc : w.cell? ⟨b, i, none⟩ = some v) : w'.cell? ⟨b, i, none⟩ = some v :=
  (World.cell?_of_block (w := w) (h.block b (block_lt_of_cell hc) h1 h2)).trans hc

theorem store_awake (w : World) : Calls Try.prog 37 #[] w fun e w' => e = .returned (.bool true) ∧ Below w.heap.size w w' := by
  have H0 := Lib.hid (store_new1 w)
  go_enter Try.func37, Try.ntmps37
  go_wp2_with fail
  refine H0.out.mono ?_
  rintro e w1 ⟨rfl, h1, b1, s1⟩
  have T1 : Calls Try.prog 40 #[.pointer (some ⟨w.heap.size + 1, 0, none⟩), .agg #[.int .i64 3, .int .i64 0, .int .i64 0, .int .i64 0, .int .i64 0, .int .i64 0]] w1 fun e w' => e = .returned (.tuple #[.agg #[.int .i64 0, .int .i64 0], .bool true]) ∧ ∃ ev, Storey w' (w.heap.size + 1) w.heap.size 1 ev (upd (fun _ => false) 0 true) (upd (fun _ => 0) 0 1) (fun _ => 0) ∧ Near w.heap.size w.heap.size w1 w' :=
    (h1.take 0 (by decide) (by decide) (fun k hk => absurd hk (Nat.not_lt_zero k)) rfl 3 0 0 0 0 0).mono fun e w' ⟨a, ⟨ev2, _, h2⟩, n2⟩ => ⟨a, ev2, h2, n2⟩
  have C1 := Lib.hid T1
  have ls : ∀ x : Nat, x = w1.heap.size → w.heap.size + 2 = x := fun x hx => by omega
  have E1 := Lib.hid (And.intro b1 s1)
  clear h1 b1 s1 T1 ls
  go_wp2_with fail
  refine C1.out.mono ?_
  rintro e w2 ⟨rfl, ev2, h2, n2⟩
  have z2 : w.heap.size + 2 ≤ w2.heap.size := by have := E1.out.2; have := n2.size; omega
  have T2 := (h2.alloc (.cells #[.int .i64 0, .int .i64 0] 87)).take_full 1 rfl (by decide) (fun k hk => (by have hk0 : k = 0 := (by omega); rw [hk0]; exact upd_at _ _ _)) 0 0 0 0 0 0
  have C2 := Lib.hid T2
  have E2 := Lib.hid (And.intro n2 z2)
  clear h2 n2 T2 z2
  go_wp2_with fail
  refine C2.out.mono ?_
  rintro e w3 ⟨rfl, h3, n3⟩
  have p0 := past (o := .cells #[.int .i64 0, .int .i64 0] 87) (n3.cell1 (by have := E2.out.2; omega) (by have := E2.out.2; omega) (World.cell?_alloc_new w2 #[.int .i64 0, .int .i64 0] 87 0))
  have p1 := past (o := .cells #[.int .i64 0, .int .i64 0] 87) (n3.cell1 (by have := E2.out.2; omega) (by have := E2.out.2; omega) (World.cell?_alloc_new w2 #[.int .i64 0, .int .i64 0] 87 1))
  have T3 : Calls Try.prog 42 #[.pointer (some ⟨w.heap.size + 1, 0, none⟩), .agg #[.int .i64 0, .int .i64 0], .int .i64 (-1)] (w3.alloc (.cells #[.int .i64 0, .int .i64 0] 87)) fun e w' => e = .returned (.tuple #[.int .i64 0, .bool true]) ∧ Storey w' (w.heap.size + 1) w.heap.size 1 ev2 (upd (fun _ => false) 0 true) (upd (upd (fun _ => 0) 0 1) 0 0) (fun _ => 0) ∧ Near w.heap.size w.heap.size (w3.alloc (.cells #[.int .i64 0, .int .i64 0] 87)) w' :=
    (h3.alloc (.cells #[.int .i64 0, .int .i64 0] 87)).add_yes (S := 0) (G := 0) ⟨by decide, by decide, upd_at _ _ _, rfl⟩ (-1) 1 (upd_at _ _ _) (by decide) (by decide) (by decide) (by decide)
  have C3 := Lib.hid T3
  have P := Lib.hid (And.intro p0 p1)
  have E3 := Lib.hid n3
  clear h3 n3 T3
  go_wp2_with fail
  refine C3.out.mono ?_
  rintro e w4 ⟨rfl, h4, n4⟩
  have q0 := n4.cell1 (by have := E2.out.2; omega) (by have := E2.out.2; omega) P.out.1
  have q1 := n4.cell1 (by have := E2.out.2; omega) (by have := E2.out.2; omega) P.out.2
  have T4 : Calls Try.prog 41 #[.pointer (some ⟨w.heap.size + 1, 0, none⟩), .agg #[.int .i64 0, .int .i64 0]] w4 fun e w' => e = .returned (.bool true) ∧ ∃ ev, Storey w' (w.heap.size + 1) w.heap.size 1 ev (upd (upd (fun _ => false) 0 true) 0 false) (upd (upd (upd (fun _ => 0) 0 1) 0 0) 0 0) (upd (fun _ => 0) 0 1) ∧ Near w.heap.size w.heap.size w4 w' :=
    (h4.free_dead (S := 0) (G := 0) ⟨by decide, by decide, upd_at _ _ _, rfl⟩ (upd_at _ _ _) (by decide)).mono fun e w' ⟨a, ⟨ev2, _, h2⟩, n2⟩ => ⟨a, ev2, h2, n2⟩
  have C4 := Lib.hid T4
  have Q := Lib.hid (And.intro q0 q1)
  have E4 := Lib.hid n4
  clear h4 n4 T4 p0 p1
  go_wp2_with fail
  refine C4.out.mono ?_
  rintro e w5 ⟨rfl, ev5, h5, n5⟩
  have T5 : Calls Try.prog 40 #[.pointer (some ⟨w.heap.size + 1, 0, none⟩), .agg #[.int .i64 0, .int .i64 0, .int .i64 0, .int .i64 0, .int .i64 0, .int .i64 0]] w5 fun e w' => e = .returned (.tuple #[.agg #[.int .i64 0, .int .i64 1], .bool true]) ∧ Near w.heap.size w.heap.size w5 w' :=
    (h5.take 0 (by decide) (by decide) (fun k hk => absurd hk (Nat.not_lt_zero k)) (upd_at _ _ _) 0 0 0 0 0 0).mono fun e w' ⟨a, _, n2⟩ => ⟨by rw [upd_at] at a; exact a, n2⟩
  have C5 := Lib.hid T5
  have E5 := Lib.hid n5
  have r0 := n5.cell1 (by have := E2.out.2; omega) (by have := E2.out.2; omega) Q.out.1
  have r1 := n5.cell1 (by have := E2.out.2; omega) (by have := E2.out.2; omega) Q.out.2
  have R := Lib.hid (And.intro r0 r1)
  clear h5 n5 T5 q0 q1 r0 r1
  go_wp2_with fail
  refine C5.out.mono ?_
  rintro e w6 ⟨rfl, n6⟩
  have s0 := past (o := .cells #[.int .i64 0, .int .i64 1] 87) (n6.cell1 (by have := E2.out.2; omega) (by have := E2.out.2; omega) R.out.1)
  have s1 := past (o := .cells #[.int .i64 0, .int .i64 1] 87) (n6.cell1 (by have := E2.out.2; omega) (by have := E2.out.2; omega) R.out.2)
  have E6 := Lib.hid n6
  clear n6
  go_wp2
  go_ret
  refine ⟨rfl, ?_⟩
  have m2 : Near w.heap.size w.heap.size w1 (w2.alloc (.cells #[.int .i64 0, .int .i64 0] 87)) := E2.out.1.alloc _
  have m3 : Near w.heap.size w.heap.size w1 (w3.alloc (.cells #[.int .i64 0, .int .i64 0] 87)) := (m2.trans E3.out).alloc _
  have m6 : Near w.heap.size w.heap.size w1 (w6.alloc (.cells #[.int .i64 0, .int .i64 1] 87)) := ((((m3.trans E4.out).trans E5.out).trans E6.out)).alloc _
  have z1 := E1.out.2
  exact E1.out.1.trans (m6.below (Nat.le_refl _) (Nat.le_refl _) (by omega))
end Go.Proofs.Ytjfbjkgppnhaoaa
