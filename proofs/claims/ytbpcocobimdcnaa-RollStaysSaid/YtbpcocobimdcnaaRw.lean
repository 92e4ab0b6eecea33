/-
  The example of the chapter; a table that says which one it is.
-/
import Derived.Test.YtbpcocobimdcnaaRe
import Derived.Test.YtbpcocobimdcnaaRnL
namespace Go.Proofs.Ytbpcocobimdcnaa
open Go.ChangeShapes Go.WideShapes Go.ChangeAt Go.RowKit
set_option linter.unusedVariables false

theorem rollS_nil (w : World) : RollS w none [] := ⟨.inl ⟨rfl, rfl⟩, List.Pairwise.nil, fun e he => by cases he⟩
set_option maxRecDepth 100000 in
set_option maxHeartbeats 2000000 in
theorem roll_awake (w : World) : Calls Try.prog 7 #[] w fun e w' => e = .returned (.bool true) ∧ Below w.heap.size w w' := by
  have A1 := Lib.hid (add_yes (o := none) (win := 0) (cs := .slice none 0 0) (x := 3) (rollS_nil w) (by simp) (by omega) (fun e he => by cases he) rfl)
  go_enter Try.func7, Try.ntmps7
  go_wp2_with fail
  with_reducible refine A1.out.mono ?_
  rintro e w1 ⟨r1, rfl, c1, S1, T1, _⟩
  clear A1
  simp only [List.nil_append] at S1
  have A2 := Lib.hid (add_yes (o := none) (win := 0) (cs := .slice none 0 0) (x := 5) S1 (by simp) (by omega) (fun e he => by simp at he; subst he; show (3 : Int) < 5; decide) rfl)
  have T1' := Lib.hid T1
  clear S1 T1
  go_wp2_with fail
  with_reducible refine A2.out.mono ?_
  rintro e w2 ⟨r2, rfl, c2, S2, T2, _⟩
  clear A2
  simp only [List.cons_append, List.nil_append] at S2
  have A3 := Lib.hid (end_yes (i := 0) (at_ := 7) S2 (by simp) rfl rfl (show (3 : Int) < 7 by decide))
  have T2' := Lib.hid (T1'.out.trans T2)
  clear S2 T2 T1'
  go_wp2_with fail
  with_reducible refine A3.out.mono ?_
  rintro e w3 ⟨r3, rfl, S3, T3⟩
  clear A3
  simp only [List.set_cons_zero] at S3
  have LN := Lib.hid (fun (W : World) (b : Below w3.heap.size w3 W) (k : Int) => len_any (S3.turn (Turn.of_below b)) k)
  have L0 := Lib.hid (fun (W : World) (k : Int) => len_any (rollS_nil W) k)
  have T3' := Lib.hid (T2'.out.trans T3)
  clear S3 T3 T2'
  go_wp2_with fail
  with_reducible refine (LN.out w3 (Below.refl _ _) 4).mono ?_
  rintro e w4 ⟨rfl, b4⟩
  rw [show (List.filter (livesAt 4) [EV.mk 3 7 c1 0 none, EV.mk 5 (-1) c2 0 none]).length = 1 by simp [livesAt]]
  have B4 := Lib.hid b4
  clear b4
  go_wp2_with fail
  with_reducible refine (LN.out w4 B4.out 6).mono ?_
  rintro e w5 ⟨rfl, b5⟩
  rw [show (List.filter (livesAt 6) [EV.mk 3 7 c1 0 none, EV.mk 5 (-1) c2 0 none]).length = 2 by simp [livesAt]]
  have B5 := Lib.hid (B4.out.trans (b5.mono B4.out.size))
  clear b5 B4
  go_wp2_with fail
  with_reducible refine (LN.out w5 B5.out 7).mono ?_
  rintro e w6 ⟨rfl, b6⟩
  rw [show (List.filter (livesAt 7) [EV.mk 3 7 c1 0 none, EV.mk 5 (-1) c2 0 none]).length = 2 by simp [livesAt]]
  have B6 := Lib.hid (B5.out.trans (b6.mono B5.out.size))
  clear b6 B5
  go_wp2_with fail
  with_reducible refine (LN.out w6 B6.out 8).mono ?_
  rintro e w7 ⟨rfl, b7⟩
  rw [show (List.filter (livesAt 8) [EV.mk 3 7 c1 0 none, EV.mk 5 (-1) c2 0 none]).length = 1 by simp [livesAt]]
  have B7 := Lib.hid (B6.out.trans (b7.mono B6.out.size))
  clear b7 B6
  go_wp2_with fail
  with_reducible refine (L0.out w7 9).mono ?_
  rintro e w8 ⟨rfl, b8⟩
  rw [show (List.filter (livesAt 9) []).length = 0 by rfl]
  have B8 := Lib.hid (B7.out.trans (b8.mono B7.out.size))
  clear b8 B7
  go_wp2
  go_ret
  exact ⟨rfl, (T3'.out.trans (Turn.of_below B8.out)).below fun k hk => ⟨hk, id⟩⟩
set_option maxRecDepth 100000 in
theorem kind_is (w : World) (n : Int) : Calls Try.prog 12 #[.int .i64 n] w fun e w' => ∃ cs, e = .returned (.agg #[cs, .int .i64 n, .bool false]) ∧ PlainTab w.heap.size w' cs (some n) ∧ Turn (fun _ => False) w w' := by
  go_enter Try.func12, Try.ntmps12
  go_wp2
  obtain ⟨W, hW⟩ : ∃ W, W = (w.alloc (.cells #[.slice (some ⟨w.heap.size + 1, 0, none⟩) 1 1, .int .i64 n, .bool false] 38)).alloc (.cells #[.int .i64 n, .bool false, .slice none 0 0, .slice none 0 0] 65) := ⟨_, rfl⟩
  have T : Turn (fun _ => False) w W := by rw [hW]; exact ((Turn.refl _ w).alloc _).alloc _
  have hz : (w.alloc (.cells #[.slice (some ⟨w.heap.size + 1, 0, none⟩) 1 1, .int .i64 n, .bool false] 38)).heap.size = w.heap.size + 1 := by simp
  have c : ∀ j, W.cell? ⟨w.heap.size + 1, j, none⟩ = #[.int .i64 n, .bool false, .slice none 0 0, .slice none 0 0][j]? := fun j => by
    have h := World.cell?_alloc_new (w.alloc (.cells #[.slice (some ⟨w.heap.size + 1, 0, none⟩) 1 1, .int .i64 n, .bool false] 38)) #[.int .i64 n, .bool false, .slice none 0 0, .slice none 0 0] 65 j
    rw [hz] at h
    rw [hW]
    exact h
  have d : ∀ j, W.cell? ⟨w.heap.size, j, none⟩ = #[.slice (some ⟨w.heap.size + 1, 0, none⟩) 1 1, .int .i64 n, .bool false][j]? := fun j => by
    rw [hW]
    refine (World.cell?_of_block (w := w.alloc _) (Below.heap_alloc _ _ _ (by simp))).trans ?_
    exact World.cell?_alloc_new _ _ 38 j
  rw [← hW]
  have d0 := d 0
  have d1 := d 1
  have d2 := d 2
  simp only [List.getElem?_toArray, List.getElem?_cons_zero, List.getElem?_cons_succ] at d0 d1 d2
  refine bodyPost_ret (v := .agg #[.slice (some ⟨w.heap.size + 1, 0, none⟩) 1 1, .int .i64 n, .bool false]) (by simp [results, Try.results12, go_sem, d0, d1, d2]) rfl ?_
  exact ⟨_, rfl, ⟨w.heap.size + 1, 1, by omega, rfl, c 0, c 1, c 2, c 3⟩, T⟩
end Go.Proofs.Ytbpcocobimdcnaa
