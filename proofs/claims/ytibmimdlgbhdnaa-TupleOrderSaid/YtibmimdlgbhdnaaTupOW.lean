/-
  The walk of TupleOrder, given what the chapter's example answers.
-/
import Derived.Test.YtibmimdlgbhdnaaTupR
namespace Go.Proofs.Ytibmimdlgbhdnaa
open Go.ChangeShapes Go.WideShapes Go.ChangeAt Go.RowKit
set_option linter.unusedVariables false

theorem row_app2 {W WA : World} {base t n : Nat} {v r : Value} {xs : List Value} (h : W.ownsRow base 27 1 v n xs) (hB : base ≤ W.heap.size) (hl : n ≤ 1000) (hb : Below W.heap.size W WA) (hc : WA.cell? ⟨t, 0, none⟩ = some r) (h1 : r.oneCell' = true) :
    ∃ v' w', (Builtin.append_ #[22, 22] 22 #[v, .slice (some ⟨t, 0, none⟩) 1 1]).run Try.prog WA = .ok v' w' ∧ w'.ownsRow base 27 1 v' (n + 1) (xs ++ [r]) ∧ Turn (fun k => v.ownBlock = some k) W w' ∧ Turn (fun k => v.ownBlock = some k) WA w' := by
  obtain ⟨i3, j1, j2, j3, j4⟩ := info_parts info27
  have hA := own_keep h (fun k hk => hb.block k (h.lt k hk).2)
  have hz := hb.size
  obtain ⟨v', w', hr, ho, hg, _⟩ := run_append_own WA base 22 22 27 i3 _ 1 24 Try.underlying22 j1 j2 j3 j4 rfl (by decide) v n xs hA ⟨t, 0, none⟩ 1 1 [r] rfl (fun j u hu => by
    rw [Go.WideShapes.add_plain, Nat.zero_add]
    match j, hu with
    | 0, hu => simp at hu; subst hu; exact hc
    | j + 1, hu => simp at hu) (fun u hu => by simp at hu; subst hu; exact h1) (by unfold maxLen; omega) (by omega) (by omega)
  have TA := ((Turn.refl (fun k => v.ownBlock = some k) WA).grown hg (fun k hk => .inl hk))
  exact ⟨v', w', hr, ho, (Turn.of_below (S := fun k => v.ownBlock = some k) hb).trans TA, TA⟩
set_option maxRecDepth 100000 in
set_option maxHeartbeats 4000000 in
theorem order_walk (AW : ∀ w, Calls Try.prog 15 #[] w fun e w' => e = .returned (.bool true) ∧ Below w.heap.size w w') {w : World} {va vb vc : Value} {A B C : List (List Int)} (ha : RowsAt w va A) (hb : RowsAt w vb B) (hc : RowsAt w vc C)
    (lA : A.length ≤ 9223372036854775807) (lB : B.length ≤ 9223372036854775807) (lC : C.length ≤ 9223372036854775807) (rA : ∀ x ∈ A, x.length ≤ 9223372036854775807) (rB : ∀ x ∈ B, x.length ≤ 9223372036854775807) (rC : ∀ x ∈ C, x.length ≤ 9223372036854775807) :
    Calls Try.prog 4 #[va, vb, vc] w fun e w' => e = .returned (.bool true) ∧ Below w.heap.size w w' := by
  have AW := Lib.hid (AW w)
  have IN := Lib.hid (And.intro ha (And.intro hb hc))
  have LEN := Lib.hid (And.intro (And.intro lA rA) (And.intro (And.intro lB rB) (And.intro lC rC)))
  clear ha hb hc lA lB lC rA rB rC
  go_enter Try.func4, Try.ntmps4
  go_wp2_with fail
  refine AW.out.mono ?_
  rintro e w1 ⟨rfl, b1⟩
  have T1 := Lib.hid (Turn.of_below (S := fun _ => False) b1)
  clear b1 AW
  have F := Lib.hid (few_is (IN.out.1.turn T1.out) LEN.out.1.1 LEN.out.1.2)
  go_wp2_with fail
  refine F.out.mono ?_
  rintro e w2 ⟨x, xs, rfl, ox, hx, t2⟩
  have X := Lib.hid (And.intro ox hx)
  have T2 := Lib.hid (T1.out.trans t2)
  clear ox hx t2 F T1
  have F := Lib.hid (few_is (IN.out.2.1.turn T2.out) LEN.out.2.1.1 LEN.out.2.1.2)
  go_wp2_with fail
  refine F.out.mono ?_
  rintro e w3 ⟨y, ys, rfl, _, hy, t3⟩
  have Y := Lib.hid hy
  have T3 := Lib.hid (And.intro (T2.out.trans t3) t3)
  clear hy t3 F T2
  have F := Lib.hid (few_is (IN.out.2.2.turn T3.out.1) LEN.out.2.2.1 LEN.out.2.2.2)
  go_wp2_with fail
  refine F.out.mono ?_
  rintro e w4 ⟨z, zs, rfl, _, hz, t4⟩
  have X4 := Lib.hid (And.intro (own_turn X.out.1 (T3.out.2.trans t4) (fun _ _ => id)) (X.out.2.turn (T3.out.2.trans t4)))
  have Y4 := Lib.hid (Y.out.turn t4)
  have Z4 := Lib.hid hz
  have T4 := Lib.hid (T3.out.1.trans t4)
  clear hz t4 F T3 X Y IN LEN
  obtain ⟨n12, n12r⟩ := And.intro (fewL_len12 A) (fewL_rows A)
  obtain ⟨m12, m12r⟩ := And.intro (fewL_len12 B) (fewL_rows B)
  obtain ⟨k12, k12r⟩ := And.intro (fewL_len12 C) (fewL_rows C)
  have CM := Lib.hid (fun (W : World) (t : Turn (fun _ => False) w4 W) => And.intro (cmp_t (X4.out.2.turn t) (Y4.out.turn t) (by omega) (by omega) n12r m12r) (And.intro (cmp_t (Y4.out.turn t) (Z4.out.turn t) (by omega) (by omega) m12r k12r) (And.intro (cmp_t (X4.out.2.turn t) (Z4.out.turn t) (by omega) (by omega) n12r k12r) (And.intro (cmp_t (Y4.out.turn t) (X4.out.2.turn t) (by omega) (by omega) m12r n12r) (cmp_t (X4.out.2.turn t) (X4.out.2.turn t) (by omega) (by omega) n12r n12r)))))
  have N12 := Lib.hid (And.intro n12 (And.intro n12r (ord_match)))
  clear n12 n12r m12 m12r k12 k12r
  generalize fewL A = FA at *
  generalize fewL B = FB at *
  generalize fewL C = FC at *
  go_wp2_with fail
  refine (CM.out _ (Turn.refl _ _)).1.mono ?_
  rintro e w5 ⟨rfl, t5⟩
  have T5 := Lib.hid t5
  clear t5
  go_wp2_with fail
  refine (CM.out _ T5.out).2.1.mono ?_
  rintro e w6 ⟨rfl, t6⟩
  have T6 := Lib.hid (T5.out.trans t6)
  clear t6 T5
  go_wp2_with fail
  refine (CM.out _ T6.out).2.2.1.mono ?_
  rintro e w7 ⟨rfl, t7⟩
  have T7 := Lib.hid (T6.out.trans t7)
  clear t7 T6
  obtain ⟨v8, w8, h8, o8, t8⟩ := rows_app (own_turn X4.out.1 T7.out (fun _ _ => id)) (X4.out.2.turn T7.out) (by have := N12.out.1; omega)
  have c9 := World.cell?_alloc_new (w8.alloc (.cells #[.int .i64 1] 3)) #[.slice (some ⟨w8.heap.size, 0, none⟩) 1 1] 27 0
  simp only [World.size_alloc, List.getElem?_toArray, List.getElem?_cons_zero] at c9
  obtain ⟨v9, w9, h9, o9, t9, ta⟩ := row_app2 (t := w8.heap.size + 1) o8 t8.size (by have := N12.out.1; omega) (((Below.refl _ w8).alloc (Nat.le_refl _) (.cells #[.int .i64 1] 3)).alloc (by simp) (.cells #[.slice (some ⟨w8.heap.size, 0, none⟩) 1 1] 27)) c9 rfl
  have RUN8 := Lib.hid h8
  have RUN9 := Lib.hid h9
  obtain ⟨a8, k8, e8, _⟩ := own_slice o8
  obtain ⟨a9, k9, e9, _⟩ := own_slice o9
  have T9 := Lib.hid (turn_fresh t8 o8 t9)
  have c8 : ((w8.alloc (.cells #[.int .i64 1] 3)).alloc (.cells #[.slice (some ⟨w8.heap.size, 0, none⟩) 1 1] 27)).cell? ⟨w8.heap.size, 0, none⟩ = some (.int .i64 1) := past (World.cell?_alloc_new w8 #[.int .i64 1] 3 0)
  have d8 := ta.cell (fun e => by have := (o8.lt _ e).2; omega) c8
  have hxl : xs.length = FA.length := by have := o8.1; omega
  have LG := Lib.hid (show RowsAt w9 v9 (FA ++ [[1]]) from by
    have o9' : w9.ownsRow w7.heap.size 27 1 v9 (FA ++ [[1]]).length (xs ++ [.slice (some ⟨w8.heap.size, 0, none⟩) 1 1]) := by
      rw [List.length_append]
      exact o9
    refine rows_own o9' (fun k l hl => ?_)
    by_cases hk : k < FA.length
    · rw [List.getElem?_append_left hk] at hl
      obtain ⟨r, q1, q2⟩ := own_rows X4.out.1 X4.out.2 k l hl
      exact ⟨r, by rw [List.getElem?_append_left (by omega)]; exact q1, q2.turn (T7.out.trans T9.out)⟩
    · have hk2 := (List.getElem?_eq_some_iff.1 hl).1
      rw [List.length_append] at hk2
      simp at hk2
      obtain rfl : k = FA.length := by omega
      rw [List.getElem?_append_right (Nat.le_refl _), Nat.sub_self] at hl
      simp at hl
      subst hl
      refine ⟨.slice (some ⟨w8.heap.size, 0, none⟩) 1 1, by rw [← hxl]; simp, _, w8.heap.size, 0, 1, rfl, Nat.le_refl _, .inr rfl, fun j x hj => ?_⟩
      match j, hj with
      | 0, hj => simp at hj; subst hj; exact d8
      | j + 1, hj => simp at hj)
  have T79 := Lib.hid (T7.out.trans T9.out)
  have T49 := Lib.hid (T4.out.trans T79.out)
  clear h8 h9 o8 o9 t8 t9 ta c8 d8 c9 hxl T9 T7 T4
  subst e8
  subst e9
  go_upto_region 9 with (first | (refine rl_append_run (by rfl) _ _ _ (by rfl) (by rfl) (by rfl) RUN8.out ?_) | (refine rl_append_run (by rfl) _ _ _ (by rfl) (by rfl) (by rfl) RUN9.out ?_))
  clear RUN8 RUN9
  have OM := N12.out.2.2
  have R1 := OM.list.list
  have P3 := OM.r FA FB
  have Q3 := OM.r FB FC
  have R3 := OM.r FA FC
  have TR := OM.t FA FB FC
  have S1 := OM.s FA FB
  have S2 := OM.s FB FC
  have S3 := OM.s FA FC
  have TR2 : 0 ≤ cmpL (cmpL cmpI) FA FB → 0 ≤ cmpL (cmpL cmpI) FB FC → 0 ≤ cmpL (cmpL cmpI) FA FC := fun h1 h2 => by
    have := OM.t FC FB FA (by rw [S2]; omega) (by rw [S1]; omega)
    rw [S3] at this
    omega
  have SX := OM.self FA
  have LX : cmpL (cmpL cmpI) FA (FA ++ [[1]]) = -1 := cmpL_longer (ord_int.list) FA [1]
  have CM9 := Lib.hid (CM.out w9 T79.out)
  have CM9b := Lib.hid (fun (W : World) (t : Turn (fun _ => False) w9 W) => And.intro (CM.out W (T79.out.trans t)).2.2.2.2 (cmp_t (X4.out.2.turn (T79.out.trans t)) (LG.out.turn t) (by have := N12.out.1; omega) (by have := N12.out.1; rw [List.length_append]; simp; omega) N12.out.2.1 (fun l hl => by
    rcases List.mem_append.1 hl with h | h
    · exact N12.out.2.1 l h
    · simp at h; subst h; decide)))
  rw [SX, LX] at CM9b
  have CY := Lib.hid CM9.out.2.2.2.1
  rw [S1] at CY
  have TW := Lib.hid T49.out
  rw [show -(cmpL (cmpL cmpI) FA FB) = 0 - cmpL (cmpL cmpI) FA FB by omega] at CY
  have TW := Lib.hid T49.out
  clear R1 OM SX LX CM9 CM T79 T49 X4 Y4 Z4 LG N12 S1 S2 S3
  generalize cmpL (cmpL cmpI) FA FB = p at *
  generalize cmpL (cmpL cmpI) FB FC = q at *
  generalize cmpL (cmpL cmpI) FA FC = r at *
  have PQ := Lib.hid (And.intro (And.intro P3 (And.intro Q3 R3)) (And.intro TR TR2))
  have s1 : IntKind.i64.wrap (0 - p) = 0 - p := IntWalk.i64_in _ (by omega)
  have p0 : -1 ≤ p := by omega
  have p1 : p ≤ 1 := by omega
  have u0 : decide (-1 ≤ p) = true := by simpa using p0
  have u1 : decide (p ≤ 1) = true := by simpa using p1
  clear P3 Q3 R3 TR TR2
  go_cut [58] (fun v58 wx => v58 = .bool false ∧ wx = w9)
  case first =>
    obtain ⟨⟨P3, Q3, R3⟩, TR, TR2⟩ := PQ.out
    clear CY CM9b TW PQ s1 p0 p1 u0 u1
    rcases P3 with rfl | rfl | rfl <;> rcases Q3 with rfl | rfl | rfl <;> rcases R3 with rfl | rfl | rfl
    all_goals first
      | (exfalso; have h1 := TR (by decide) (by decide); revert h1; decide; done)
      | (exfalso; have h1 := TR2 (by decide) (by decide); revert h1; decide; done)
      | (clear TR TR2
         go_wp2_with fail
         go_meet
         case rel => exact ⟨rfl, rfl⟩)
  case rest =>
    obtain ⟨rfl, rfl⟩ := hcut
    go_wp2_with fail
    refine CY.out.mono ?_
    rintro e wa ⟨rfl, ta⟩
    have TA := Lib.hid ta
    clear ta CY
    go_wp2_with fail
    refine (CM9b.out _ TA.out).1.mono ?_
    rintro e wb ⟨rfl, tb⟩
    have TB := Lib.hid (TA.out.trans tb)
    clear tb
    go_wp2_with fail
    refine (CM9b.out _ TB.out).2.mono ?_
    rintro e wd ⟨rfl, td⟩
    have TD := Lib.hid (TW.out.trans (TB.out.trans td))
    clear td
    go_wp2
    go_ret
    exact ⟨rfl, TD.out.below (fun k hk => ⟨hk, id⟩)⟩
end Go.Proofs.Ytibmimdlgbhdnaa
