/-
  The document's names; texts that are not too long.
  Names: the walk.
-/
import Derived.Test.YtadogobdlcionaaGreatDoorKau
import Derived.Test.YtadogobdlcionaaGreatDoorKas
set_option linter.unusedSimpArgs false
namespace Go.Proofs.YtadogobdlcionaaGreatDoor
open Go.ChangeShapes Go.WideShapes Go.ChangeAt Go.RowKit Go.Shelf
set_option linter.unusedVariables false
set_option maxRecDepth 100000 in
set_option maxHeartbeats 2000000 in
theorem rkeyword_is (w : World) (t : ByteArray) : Calls Tryz.prog 38 #[.string t] w fun y w' => y = .returned (.bool (keyB t)) ∧ w' = w := by
  unfold keyB
  cases h1 : (t.toList == [115, 101, 113]) with
  | true =>
    go_enter Tryz.func38, Tryz.ntmps38
    go_wp2_with fail
    go_ret
    exact ⟨rfl, rfl⟩
  | false =>
    cases h2 : (t.toList == [119, 104, 101, 114, 101]) with
    | true =>
      go_enter Tryz.func38, Tryz.ntmps38
      go_wp2_with fail
      go_ret
      exact ⟨rfl, rfl⟩
    | false =>
      cases h3 : (t.toList == [97, 110, 100]) with
      | true =>
        go_enter Tryz.func38, Tryz.ntmps38
        go_wp2_with fail
        go_ret
        exact ⟨rfl, rfl⟩
      | false =>
        cases h4 : (t.toList == [119, 105, 116, 104, 105, 110]) with
        | true =>
          go_enter Tryz.func38, Tryz.ntmps38
          go_wp2_with fail
          go_ret
          exact ⟨rfl, rfl⟩
        | false =>
          cases h5 : (t.toList == [98, 121]) with
          | true =>
            go_enter Tryz.func38, Tryz.ntmps38
            go_wp2_with fail
            go_ret
            exact ⟨rfl, rfl⟩
          | false =>
            cases h6 : (t.toList == [107, 101, 121])
            all_goals
              go_enter Tryz.func38, Tryz.ntmps38
              go_wp2_with fail
              go_ret
              exact ⟨rfl, rfl⟩
theorem str_to {s : ByteArray} {j : Nat} (h1 : j ≤ s.size) (W : World) : (Instr.slice 9 (.string s) none (some (.int .i64 (j : Int))) none).run Tryz.prog W = .ok (.string (s.extract 0 j)) W := by
  have := run_slice_string_to_if (P := Tryz.prog) W 9 s .i64 (j : Int) Tryz.underlying9
  rw [this, if_pos ⟨by omega, by omega⟩]
  simp
set_option maxRecDepth 100000 in
theorem short_is (w : World) (s : ByteArray) : Calls Tryz.prog 10 #[.string s] w fun e w' => (∃ s', e = .returned (.string s') ∧ s'.size ≤ 200) ∧ w = w' := by
  by_cases h : 200 < s.size
  · have u1 : decide ((200 : Int) < (s.size : Int)) = true := decide_eq_true (by omega)
    have u2 : decide (200 < s.size) = true := decide_eq_true h
    have hsl := str_to (s := s) (j := 200) (by omega)
    have hsz : (s.extract 0 200).size ≤ 200 := by rw [ByteArray.size_extract]; omega
    go_enter Tryz.func10, Tryz.ntmps10
    go_wp2_with fail
    go_ret
    exact ⟨⟨_, rfl, hsz⟩, rfl⟩
  · have u1 : decide ((200 : Int) < (s.size : Int)) = false := decide_eq_false (by omega)
    have u2 : decide (200 < s.size) = false := decide_eq_false h
    have hsz : s.size ≤ 200 := by omega
    go_enter Tryz.func10, Tryz.ntmps10
    go_wp2_with fail
    go_ret
    exact ⟨⟨_, rfl, hsz⟩, rfl⟩

set_option maxRecDepth 100000 in
set_option maxHeartbeats 4000000 in
theorem rname_is (w : World) (t : ByteArray) (hs : t.size ≤ 1000000) : Calls Tryz.prog 18 #[.string t] w fun y w' => y = .returned (.bool (nameT t)) ∧ Turn (fun _ => False) w w' := by
  have LX := Lib.hid (Doc.rlex_is w t hs)
  have KW := Lib.hid (fun w => rkeyword_is w t)
  obtain ⟨R, hR⟩ : ∃ R, R = nameT t := ⟨_, rfl⟩
  rw [← hR]
  have HR := Lib.hid hR
  clear hs hR
  go_enter Tryz.func18, Tryz.ntmps18
  go_wp2_with fail
  with_reducible refine LX.out.mono ?_
  rintro y w1 ⟨T1, (⟨x, r, pre, e1, e2, rfl⟩ | ⟨e1, e2, rfl⟩ | ⟨e1, e2, v, rfl, e3⟩)⟩
  · have hr : R = false := by
      rw [HR.out]
      unfold nameT
      have hl : 200 < (toksB t.data.toList).length := by rw [e1, List.length_append, e2]; simp
      split
      · rename_i z hz
        rw [hz] at hl
        simp at hl
      · rfl
    have F := Lib.hid (And.intro T1 hr)
    clear e1 e2 T1 hr
    go_wp2_with fail
    with_reducible refine (KW.out _).mono ?_
    rintro y w2 ⟨rfl, rfl⟩
    generalize keyB t = kb
    go_wp2_with fail
    go_ret
    exact ⟨by rw [F.out.2]; rfl, F.out.1.alloc _⟩
  · have hr : R = false := by
      rw [HR.out]
      unfold nameT
      split
      · rename_i z hz
        rw [hz] at e2
        rw [decide_eq_false (by omega)]
        rfl
      · rfl
    have F := Lib.hid (And.intro T1 hr)
    clear e1 e2 T1 hr
    go_wp2_with fail
    with_reducible refine (KW.out _).mono ?_
    rintro y w2 ⟨rfl, rfl⟩
    generalize keyB t = kb
    go_wp2_with fail
    go_ret
    exact ⟨by rw [F.out.2]; rfl, F.out.1.alloc _⟩
  · obtain ⟨a, c, rfl, hg⟩ := own_slice e3
    obtain ⟨L, hL⟩ : ∃ L, L = toksB t.data.toList := ⟨_, rfl⟩
    rw [← hL] at e3 hg ⊢
    obtain ⟨n, hn⟩ : ∃ n, n = L.length := ⟨_, rfl⟩
    rw [← hn] at e3 hg ⊢
    obtain ⟨W, hW⟩ : ∃ W, W = w1.alloc (.cells #[.slice a n c, .int .i64 (t.size : Int), .int .i64 0] 96) := ⟨_, rfl⟩
    have T2 : Turn (fun _ => False) w1 W := by rw [hW]; exact (Turn.refl _ _).alloc _
    have z0 : W.cell? ⟨w1.heap.size, 0, none⟩ = some (.slice a n c) := by rw [hW]; exact cell_new rfl rfl
    have o2 := own_turn e3 T2 (fun _ _ f => f)
    have TT := Lib.hid (T1.trans T2)
    have HW := Lib.hid hW
    by_cases h1 : n = 1
    · obtain ⟨x, hx⟩ := List.length_eq_one_iff.1 (hn.symm.trans h1)
      obtain ⟨g, rfl⟩ := hg (by omega)
      obtain ⟨q0, q1, q2, q3⟩ := tok_cells o2 hn.symm (j := 0) (x := x) (by rw [hx]; rfl)
      replace q0 : W.cell? ⟨g, 0, none⟩ = some (.int .i64 (x.2.kind : Int)) := q0
      replace q2 : W.cell? ⟨g, 2, none⟩ = some (.string (textOf t x)) := q2
      have hr : R = (decide (textOf t x = t) && nameB t x) := by
        rw [HR.out]
        unfold nameT
        rw [← hL, hx]
        rw [← hL, hx] at e2
        dsimp only
        rw [decide_eq_true e2]
        rfl
      have hkk : R = (decide (x.2.kind = 1) && (decide (textOf t x = t) && !keyB t)) := by
        rw [hr]
        unfold nameB
        by_cases ht : textOf t x = t
        · rw [ht]
          cases decide (x.2.kind = 1) <;> cases keyB t <;> simp
        · rw [decide_eq_false ht]
          simp
      have HRR := Lib.hid hkk
      have u1 : ((n : Int) == 1) = true := by rw [h1]; rfl
      have u2 : (((x.2.kind : Nat) : Int) == 1) = decide (x.2.kind = 1) := by rw [Bool.eq_iff_iff]; simp; omega
      have u3 : ((textOf t x).toList == t.toList) = decide (textOf t x = t) := text_beq _ _
      have i0 : (0 : Int) < (n : Int) := by omega
      generalize decide (x.2.kind = 1) = b1 at *
      generalize decide (textOf t x = t) = b2 at *
      generalize textOf t x = tx at *
      generalize ((x.2.kind : Nat) : Int) = kx at *
      clear e1 e2 e3 T1 T2 hr hkk hx h1 q1 q3 o2 hW hL hn hg
      go_upto_region 1 with fail
      rw [← HW.out]
      go_wp2_with fail
      with_reducible refine (KW.out _).mono ?_
      rintro y w2 ⟨rfl, rfl⟩
      generalize keyB t = kb at *
      cases b1 <;> cases b2 <;> cases kb <;>
      · go_wp2_with fail
        go_ret
        exact ⟨by rw [HRR.out]; rfl, TT.out⟩
    · have u1 : ((n : Int) == 1) = false := by
        rw [beq_eq_false_iff_ne]
        omega
      have hr : R = false := by
        rw [HR.out]
        unfold nameT
        rw [← hL]
        match L, hn with
        | [], _ => rfl
        | [z], hn => exact absurd hn h1
        | _ :: _ :: _, _ => rfl
      have F := Lib.hid hr
      clear e1 e2 e3 T1 T2 hr h1 hg hW hL hn o2
      go_upto_region 1 with fail
      rw [← HW.out]
      go_wp2_with fail
      with_reducible refine (KW.out _).mono ?_
      rintro y w2 ⟨rfl, rfl⟩
      generalize keyB t = kb at *
      go_wp2_with fail
      go_ret
      exact ⟨by rw [F.out]; rfl, TT.out⟩
end Go.Proofs.YtadogobdlcionaaGreatDoor
namespace Go.Proofs.YtadogobdlcionaaGreatDoor
open Go.ChangeShapes Go.WideShapes Go.ChangeAt Go.RowKit Go.Shelf
set_option linter.unusedVariables false
theorem names_seq : nameT ⟨#[115, 101, 113]⟩ = false := by kernel_rfl
theorem names_none : nameT ⟨#[]⟩ = false := by kernel_rfl
set_option maxRecDepth 100000 in
set_option maxHeartbeats 4000000 in
theorem names_walk (w : World) (hE : ErrAt w) (hT : TabAt w) (s0 : ByteArray) : Calls Tryz.prog 5 #[.string s0] w fun y w' => y = .returned (.bool true) ∧ Turn (fun _ => False) w w' := by
  have AW := Lib.hid (awake_is w hE hT)
  have HE := Lib.hid hE
  have SH := Lib.hid (fun w => short_is w s0)
  have NI := Lib.hid (fun w t h hE => name_is w t h hE)
  have RI := Lib.hid (fun w t h => rname_is w t h)
  clear hE hT
  go_enter Tryz.func5, Tryz.ntmps5
  go_wp2_with fail
  with_reducible refine AW.out.mono ?_
  rintro y w1 ⟨rfl, T1⟩
  have F1 := Lib.hid T1
  have E1 := Lib.hid (HE.out.turn T1 id)
  clear T1 AW
  go_wp2_with fail
  with_reducible refine (SH.out _).mono ?_
  rintro y w2 ⟨⟨s, rfl, hs⟩, rfl⟩
  have HS := Lib.hid hs
  clear hs SH
  go_wp2_with fail
  with_reducible refine (NI.out _ s (Nat.le_trans HS.out (by decide)) E1.out).mono ?_
  rintro y w3 ⟨rfl, T3⟩
  have F3 := Lib.hid (F1.out.trans T3)
  have E3 := Lib.hid (E1.out.turn T3 id)
  clear T3
  go_wp2_with fail
  with_reducible refine (RI.out _ s (Nat.le_trans HS.out (by decide))).mono ?_
  rintro y w4 ⟨rfl, T4⟩
  have F4 := Lib.hid (F3.out.trans T4)
  have E4 := Lib.hid (E3.out.turn T4 id)
  clear T4
  have u0 : (nameT s == nameT s) = true := by cases nameT s <;> rfl
  generalize nameT s = b at *
  go_wp2_with fail
  with_reducible refine (NI.out _ ⟨#[97]⟩ (by decide) E4.out).mono ?_
  rw [names_a]
  rintro y w5 ⟨rfl, T5⟩
  have F5 := Lib.hid (F4.out.trans T5)
  have E5 := Lib.hid (E4.out.turn T5 id)
  clear T5
  go_wp2_with fail
  with_reducible refine (NI.out _ ⟨#[115, 101, 113]⟩ (by decide) E5.out).mono ?_
  rw [names_seq]
  rintro y w6 ⟨rfl, T6⟩
  have F6 := Lib.hid (F5.out.trans T6)
  have E6 := Lib.hid (E5.out.turn T6 id)
  clear T6
  go_wp2_with fail
  with_reducible refine (NI.out _ ⟨#[]⟩ (by decide) E6.out).mono ?_
  rw [names_none]
  rintro y w7 ⟨rfl, T7⟩
  have F7 := Lib.hid (F6.out.trans T7)
  clear T7
  go_wp2_with fail
  go_ret
  exact ⟨rfl, F7.out⟩
end Go.Proofs.YtadogobdlcionaaGreatDoor
