/-
  Names.
  The shelf's contracts for numbers in digits, in this seat's numbers.
  What a code needs.
  A code that stands alone, as a text.
-/
import Derived.Test.YtadogobdlcionaaGreatDoorKan
import Derived.Shelf.Strconv.Itoa0
import Derived.Shelf.Strconv.Itoa1
import Derived.Shelf.Strconv.Itoa2
import Derived.Shelf.Strconv.Itoa3
import Derived.Shelf.Strconv.Itoa4
import Derived.Test.YtadogobdlcionaaGreatDoorKac
set_option linter.unusedSimpArgs false
namespace Go.Proofs.YtadogobdlcionaaGreatDoor
open Go.ChangeShapes Go.WideShapes Go.ChangeAt Go.RowKit Go.Shelf
set_option linter.unusedVariables false
/-- Is a text a name, and nothing else? -/
def nameT (t : ByteArray) : Bool := match toksB t.data.toList with
  | [x] => decide (skipB (endB [x]) t.data.toList = t.size) && (decide (textOf t x = t) && nameB t x)
  | _ => false
theorem skip_at_most (t : ByteArray) : skipB (endB (toksB t.data.toList)) t.data.toList ≤ t.size := by
  by_cases h : skipB (endB (toksB t.data.toList)) t.data.toList ≤ t.size
  · exact h
  · exfalso
    have h1 : endB (toksB t.data.toList) ≤ t.data.toList.length := endB_le _ (fun x hx => (eachB_mem _ _ _ x hx).1)
    have h2 := skipB_le h1
    have h3 : t.data.toList.length = t.size := by rw [Array.length_toList]; rfl
    omega
set_option maxRecDepth 100000 in
set_option maxHeartbeats 4000000 in
theorem name_is (w : World) (t : ByteArray) (hs : t.size ≤ 140737488355328) (hE : ErrAt w) : Calls Tryz.prog 17 #[.string t] w fun y w' => y = .returned (.bool (nameT t)) ∧ Turn (fun _ => False) w w' := by
  have LX := Lib.hid (lex_is w t hs hE)
  have NT := Lib.hid (fun w x => (name_tells t).2 w x)
  obtain ⟨R, hR⟩ : ∃ R, R = nameT t := ⟨_, rfl⟩
  rw [← hR]
  have HR := Lib.hid hR
  clear hs hE hR
  go_enter Tryz.func17, Tryz.ntmps17
  go_wp2_with fail
  with_reducible refine LX.out.mono ?_
  rintro y w1 ⟨T1, (⟨x, r, pre, e1, e2, rfl⟩ | ⟨e1, e2, rfl⟩ | ⟨e1, e2, v, rfl, e3⟩)⟩
  · have hr : R = false := by
      rw [HR.out]
      unfold nameT
      have hl : 200 < (toksB t.data.toList).length := by rw [e1, List.length_append, e2]; simp
      split
      · rename_i z hz
        rw [hz] at hl
        simp at hl
      · rfl
    have F := Lib.hid (And.intro T1 hr)
    clear e1 e2 T1 hr
    go_wp2_with fail
    go_ret
    exact ⟨by rw [F.out.2]; rfl, F.out.1⟩
  · have hr : R = false := by
      rw [HR.out]
      unfold nameT
      split
      · rename_i z hz
        rw [hz] at e2
        rw [decide_eq_false (by omega)]
        rfl
      · rfl
    have F := Lib.hid (And.intro T1 hr)
    clear e1 e2 T1 hr
    go_wp2_with fail
    go_ret
    exact ⟨by rw [F.out.2]; rfl, F.out.1⟩
  · obtain ⟨a, c, rfl, hg⟩ := own_slice e3
    by_cases h1 : (toksB t.data.toList).length = 1
    · obtain ⟨x, hx⟩ := List.length_eq_one_iff.1 h1
      obtain ⟨g, rfl⟩ := hg (by omega)
      obtain ⟨q0, q1, q2, q3⟩ := tok_cells e3 rfl (j := 0) (x := x) (by rw [hx]; rfl)
      replace q0 : w1.cell? ⟨g, 0, none⟩ = some (.int .i64 (x.2.kind : Int)) := q0
      replace q1 : w1.cell? ⟨g, 1, none⟩ = some (.int .i64 (x.1 : Int)) := q1
      replace q2 : w1.cell? ⟨g, 2, none⟩ = some (.string (textOf t x)) := q2
      replace q3 : w1.cell? ⟨g, 3, none⟩ = some (.int .i64 (x.2.n : Int)) := q3
      have hr : R = (decide (textOf t x = t) && nameB t x) := by
        rw [HR.out]
        unfold nameT
        rw [hx] at e2 ⊢
        dsimp only
        rw [decide_eq_true e2]
        rfl
      have HT := Lib.hid T1
      have HRR := Lib.hid hr
      rw [h1]
      clear e1 e2 e3 T1 hr hx h1 hg
      by_cases ht : textOf t x = t
      · have u1 : ((textOf t x).toList == t.toList) = true := by rw [text_beq]; exact decide_eq_true ht
        have HX := Lib.hid ht
        have N1 := Lib.hid (NT.out w1 x)
        rw [show tokC t x = tokL x.2.kind x.1 x.2.n (textOf t x) from rfl] at N1
        unfold tokL at N1
        clear ht
        generalize textOf t x = tx at *
        go_wp2_with fail
        with_reducible refine N1.out.mono ?_
        rintro y w2 ⟨rfl, T2⟩
        have F := Lib.hid (HT.out.trans T2)
        clear T2
        go_wp2_with fail
        go_ret
        refine ⟨?_, F.out⟩
        rw [HRR.out, decide_eq_true HX.out]
        rfl
      · have u1 : ((textOf t x).toList == t.toList) = false := by rw [text_beq]; exact decide_eq_false ht
        have HX := Lib.hid ht
        clear ht
        generalize textOf t x = tx at *
        go_wp2_with fail
        go_ret
        refine ⟨?_, HT.out⟩
        rw [HRR.out, decide_eq_false HX.out]
        rfl
    · have u1 : (((toksB t.data.toList).length : Int) == 1) = false := by
        rw [beq_eq_false_iff_ne]
        omega
      have hr : R = false := by
        rw [HR.out]
        unfold nameT
        split
        · rename_i z hz
          rw [hz] at h1
          exact absurd rfl h1
        · rfl
      have F := Lib.hid (And.intro T1 hr)
      clear e1 e2 e3 T1 hr h1 hg
      generalize (toksB t.data.toList).length = n at *
      go_wp2_with fail
      go_ret
      exact ⟨by rw [F.out.2]; rfl, F.out.1⟩
end Go.Proofs.YtadogobdlcionaaGreatDoor
namespace Go.Proofs
open Go.Shelf Go.RowKit Go.Sort Go.Lib
def Tryz.laysM171_ren : Go.Shelf.Ren := ⟨fun | 171 => 29 | 243 => 48 | 246 => 74 | 283 => 85 | 284 => 86 | 285 => 87 | 286 => 88 | 129 => 102 | 317 => 101 | 318 => 103 | 319 => 104 | 320 => 105 | 337 => 110 | 338 => 111 | n => n, fun | 3 => 3 | 9 => 9 | 2 => 2 | 4 => 4 | 171 => 144 | 0 => 0 | 53 => 145 | 37 => 68 | 5 => 5 | 173 => 148 | 212 => 158 | 51 => 159 | 20 => 20 | 213 => 160 | 46 => 162 | 232 => 174 | 233 => 175 | n => n, fun | 17 => 0 | 18 => 1 | 19 => 2 | n => n⟩
theorem Tryz.laysM171 : Go.Proofs.LaysM.n171 Tryz.prog Tryz.laysM171_ren := {
  mixed := by kernel_rfl
  f129 := Tryz.func102.trans (congrArg some (by kernel_rfl))
  f171 := Tryz.func29.trans (congrArg some (by kernel_rfl))
  f243 := Tryz.func48.trans (congrArg some (by kernel_rfl))
  f246 := Tryz.func74.trans (congrArg some (by kernel_rfl))
  f283 := Tryz.func85.trans (congrArg some (by kernel_rfl))
  f284 := Tryz.func86.trans (congrArg some (by kernel_rfl))
  f285 := Tryz.func87.trans (congrArg some (by kernel_rfl))
  f286 := Tryz.func88.trans (congrArg some (by kernel_rfl))
  f317 := Tryz.func101.trans (congrArg some (by kernel_rfl))
  f318 := Tryz.func103.trans (congrArg some (by kernel_rfl))
  f319 := Tryz.func104.trans (congrArg some (by kernel_rfl))
  f320 := Tryz.func105.trans (congrArg some (by kernel_rfl))
  f337 := Tryz.func110.trans (congrArg some (by kernel_rfl))
  f338 := Tryz.func111.trans (congrArg some (by kernel_rfl))
  t0 := Tryz.underlying0
  a0 := Tryz.isAgg0
  z0 := Tryz.sizeOf0
  v0 := Tryz.zeroValue0
  t2 := Tryz.underlying2
  a2 := Tryz.isAgg2
  z2 := Tryz.sizeOf2
  v2 := Tryz.zeroValue2
  t3 := Tryz.underlying3
  a3 := Tryz.isAgg3
  z3 := Tryz.sizeOf3
  v3 := Tryz.zeroValue3
  t4 := Tryz.underlying4
  a4 := Tryz.isAgg4
  z4 := Tryz.sizeOf4
  v4 := Tryz.zeroValue4
  t5 := Tryz.underlying5
  a5 := Tryz.isAgg5
  z5 := Tryz.sizeOf5
  v5 := Tryz.zeroValue5
  t9 := Tryz.underlying9
  a9 := Tryz.isAgg9
  z9 := Tryz.sizeOf9
  v9 := Tryz.zeroValue9
  t20 := Tryz.underlying20
  a20 := Tryz.isAgg20
  z20 := Tryz.sizeOf20
  v20 := Tryz.zeroValue20
  t37 := Tryz.underlying68
  a37 := Tryz.isAgg68
  z37 := Tryz.sizeOf68
  v37 := Tryz.zeroValue68
  t46 := Tryz.underlying162
  a46 := Tryz.isAgg162
  z46 := Tryz.sizeOf162
  v46 := Tryz.zeroValue162
  t51 := Tryz.underlying159
  a51 := Tryz.isAgg159
  z51 := Tryz.sizeOf159
  v51 := Tryz.zeroValue159
  t53 := Tryz.underlying145
  a53 := Tryz.isAgg145
  z53 := Tryz.sizeOf145
  v53 := Tryz.zeroValue145
  t171 := Tryz.underlying144
  a171 := Tryz.isAgg144
  z171 := Tryz.sizeOf144
  v171 := Tryz.zeroValue144
  t173 := Tryz.underlying148
  a173 := Tryz.isAgg148
  z173 := Tryz.sizeOf148
  v173 := Tryz.zeroValue148
  t212 := Tryz.underlying158
  a212 := Tryz.isAgg158
  z212 := Tryz.sizeOf158
  v212 := Tryz.zeroValue158
  t213 := Tryz.underlying160
  a213 := Tryz.isAgg160
  z213 := Tryz.sizeOf160
  t232 := Tryz.underlying174
  a232 := Tryz.isAgg174
  z232 := Tryz.sizeOf174
  v232 := Tryz.zeroValue174
  t233 := Tryz.underlying175
  a233 := Tryz.isAgg175
  z233 := Tryz.sizeOf175
  v233 := Tryz.zeroValue175
  g17 := by kernel_rfl
  g18 := by kernel_rfl
  g19 := by kernel_rfl
  i0 := by kernel_rfl
  i2 := by kernel_rfl
  i3 := by kernel_rfl
  i4 := by kernel_rfl
  i5 := by kernel_rfl
  i9 := by kernel_rfl
  i20 := by kernel_rfl
  i37 := by kernel_rfl
  i46 := by kernel_rfl
  i51 := by kernel_rfl
  i53 := by kernel_rfl
  i171 := by kernel_rfl
  i173 := by kernel_rfl
  i212 := by kernel_rfl
  i232 := by kernel_rfl
  i233 := by kernel_rfl
  m17 := by kernel_rfl
  m18 := by kernel_rfl
  m19 := by kernel_rfl }
theorem Tryz.strconv_Itoa (n : Int) (h0 : -9223372036854775808 ≤ n) (h1 : n ≤ 9223372036854775807) (w : World) (htab : Lib.TabIs Tryz.prog w "internal/strconv.uint64pow10" .u64 Lib.pow10Tab) :
    Calls Tryz.prog 29 #[.int .i64 n] w fun e w' => e = .returned (.string ⟨(Lib.itoa n).toArray⟩) ∧ ∃ k os, w' = grow (w.drewN k) os := Any.strconv_Itoa Tryz.laysM171 n h0 h1 w htab
def Tryz.lays171_ren : Go.Shelf.Ren := ⟨fun | 171 => 29 | 243 => 48 | 246 => 74 | 283 => 85 | 284 => 86 | 285 => 87 | 286 => 88 | 129 => 102 | 317 => 101 | 318 => 103 | 319 => 104 | 320 => 105 | 337 => 110 | 338 => 111 | n => n, fun | 3 => 3 | 9 => 9 | 2 => 2 | 4 => 4 | 171 => 144 | 0 => 0 | 53 => 145 | 37 => 68 | 5 => 5 | 173 => 148 | 212 => 158 | 51 => 159 | 20 => 20 | 213 => 160 | 46 => 162 | 232 => 174 | 233 => 175 | n => n, fun | 17 => 0 | 18 => 1 | 19 => 2 | n => n⟩
theorem Tryz.lays171 : Go.Proofs.Lays.n171 Tryz.prog Tryz.lays171_ren := {
  mixed := by kernel_rfl
  f129 := Tryz.func102.trans (congrArg some (by kernel_rfl))
  f171 := Tryz.func29.trans (congrArg some (by kernel_rfl))
  f243 := Tryz.func48.trans (congrArg some (by kernel_rfl))
  f246 := Tryz.func74.trans (congrArg some (by kernel_rfl))
  f283 := Tryz.func85.trans (congrArg some (by kernel_rfl))
  f284 := Tryz.func86.trans (congrArg some (by kernel_rfl))
  f285 := Tryz.func87.trans (congrArg some (by kernel_rfl))
  f286 := Tryz.func88.trans (congrArg some (by kernel_rfl))
  f317 := Tryz.func101.trans (congrArg some (by kernel_rfl))
  f318 := Tryz.func103.trans (congrArg some (by kernel_rfl))
  f319 := Tryz.func104.trans (congrArg some (by kernel_rfl))
  f320 := Tryz.func105.trans (congrArg some (by kernel_rfl))
  f337 := Tryz.func110.trans (congrArg some (by kernel_rfl))
  f338 := Tryz.func111.trans (congrArg some (by kernel_rfl))
  t0 := Tryz.underlying0
  a0 := Tryz.isAgg0
  z0 := Tryz.sizeOf0
  v0 := Tryz.zeroValue0
  t2 := Tryz.underlying2
  a2 := Tryz.isAgg2
  z2 := Tryz.sizeOf2
  v2 := Tryz.zeroValue2
  t3 := Tryz.underlying3
  a3 := Tryz.isAgg3
  z3 := Tryz.sizeOf3
  v3 := Tryz.zeroValue3
  t4 := Tryz.underlying4
  a4 := Tryz.isAgg4
  z4 := Tryz.sizeOf4
  v4 := Tryz.zeroValue4
  t5 := Tryz.underlying5
  a5 := Tryz.isAgg5
  z5 := Tryz.sizeOf5
  v5 := Tryz.zeroValue5
  t9 := Tryz.underlying9
  a9 := Tryz.isAgg9
  z9 := Tryz.sizeOf9
  v9 := Tryz.zeroValue9
  t20 := Tryz.underlying20
  a20 := Tryz.isAgg20
  z20 := Tryz.sizeOf20
  v20 := Tryz.zeroValue20
  t37 := Tryz.underlying68
  a37 := Tryz.isAgg68
  z37 := Tryz.sizeOf68
  v37 := Tryz.zeroValue68
  t46 := Tryz.underlying162
  a46 := Tryz.isAgg162
  z46 := Tryz.sizeOf162
  v46 := Tryz.zeroValue162
  t51 := Tryz.underlying159
  a51 := Tryz.isAgg159
  z51 := Tryz.sizeOf159
  v51 := Tryz.zeroValue159
  t53 := Tryz.underlying145
  a53 := Tryz.isAgg145
  z53 := Tryz.sizeOf145
  v53 := Tryz.zeroValue145
  t171 := Tryz.underlying144
  a171 := Tryz.isAgg144
  z171 := Tryz.sizeOf144
  v171 := Tryz.zeroValue144
  t173 := Tryz.underlying148
  a173 := Tryz.isAgg148
  z173 := Tryz.sizeOf148
  v173 := Tryz.zeroValue148
  t212 := Tryz.underlying158
  a212 := Tryz.isAgg158
  z212 := Tryz.sizeOf158
  v212 := Tryz.zeroValue158
  t213 := Tryz.underlying160
  a213 := Tryz.isAgg160
  z213 := Tryz.sizeOf160
  t232 := Tryz.underlying174
  a232 := Tryz.isAgg174
  z232 := Tryz.sizeOf174
  v232 := Tryz.zeroValue174
  t233 := Tryz.underlying175
  a233 := Tryz.isAgg175
  z233 := Tryz.sizeOf175
  v233 := Tryz.zeroValue175
  g17 := by kernel_rfl
  g18 := by kernel_rfl
  g19 := by kernel_rfl }
theorem Tryz.strconv_Itoa_small (i : Nat) (hi : i < 100) (w : World) :
    Calls Tryz.prog 29 #[.int .i64 i] w fun e w' => e = .returned (.string ⟨(Lib.decDigits i).toArray⟩) ∧ w' = w := Any.strconv_Itoa_small Tryz.lays171 i hi w
def Tryz.laysM173_ren : Go.Shelf.Ren := ⟨fun | 173 => 82 | 246 => 74 | 283 => 85 | 284 => 86 | 285 => 87 | 286 => 88 | 129 => 102 | 317 => 101 | 318 => 103 | 319 => 104 | 320 => 105 | 337 => 110 | 338 => 111 | n => n, fun | 2 => 2 | 3 => 3 | 9 => 9 | 4 => 4 | 171 => 144 | 0 => 0 | 53 => 145 | 37 => 68 | 5 => 5 | 173 => 148 | 212 => 158 | 51 => 159 | 20 => 20 | 213 => 160 | 46 => 162 | 232 => 174 | 233 => 175 | n => n, fun | 17 => 0 | 18 => 1 | 19 => 2 | n => n⟩
theorem Tryz.laysM173 : Go.Proofs.LaysM.n173 Tryz.prog Tryz.laysM173_ren := {
  mixed := by kernel_rfl
  f129 := Tryz.func102.trans (congrArg some (by kernel_rfl))
  f173 := Tryz.func82.trans (congrArg some (by kernel_rfl))
  f246 := Tryz.func74.trans (congrArg some (by kernel_rfl))
  f283 := Tryz.func85.trans (congrArg some (by kernel_rfl))
  f284 := Tryz.func86.trans (congrArg some (by kernel_rfl))
  f285 := Tryz.func87.trans (congrArg some (by kernel_rfl))
  f286 := Tryz.func88.trans (congrArg some (by kernel_rfl))
  f317 := Tryz.func101.trans (congrArg some (by kernel_rfl))
  f318 := Tryz.func103.trans (congrArg some (by kernel_rfl))
  f319 := Tryz.func104.trans (congrArg some (by kernel_rfl))
  f320 := Tryz.func105.trans (congrArg some (by kernel_rfl))
  f337 := Tryz.func110.trans (congrArg some (by kernel_rfl))
  f338 := Tryz.func111.trans (congrArg some (by kernel_rfl))
  t0 := Tryz.underlying0
  a0 := Tryz.isAgg0
  z0 := Tryz.sizeOf0
  v0 := Tryz.zeroValue0
  t2 := Tryz.underlying2
  a2 := Tryz.isAgg2
  z2 := Tryz.sizeOf2
  v2 := Tryz.zeroValue2
  t3 := Tryz.underlying3
  a3 := Tryz.isAgg3
  z3 := Tryz.sizeOf3
  v3 := Tryz.zeroValue3
  t4 := Tryz.underlying4
  a4 := Tryz.isAgg4
  z4 := Tryz.sizeOf4
  v4 := Tryz.zeroValue4
  t5 := Tryz.underlying5
  a5 := Tryz.isAgg5
  z5 := Tryz.sizeOf5
  v5 := Tryz.zeroValue5
  t9 := Tryz.underlying9
  a9 := Tryz.isAgg9
  z9 := Tryz.sizeOf9
  v9 := Tryz.zeroValue9
  t20 := Tryz.underlying20
  a20 := Tryz.isAgg20
  z20 := Tryz.sizeOf20
  v20 := Tryz.zeroValue20
  t37 := Tryz.underlying68
  a37 := Tryz.isAgg68
  z37 := Tryz.sizeOf68
  v37 := Tryz.zeroValue68
  t46 := Tryz.underlying162
  a46 := Tryz.isAgg162
  z46 := Tryz.sizeOf162
  v46 := Tryz.zeroValue162
  t51 := Tryz.underlying159
  a51 := Tryz.isAgg159
  z51 := Tryz.sizeOf159
  v51 := Tryz.zeroValue159
  t53 := Tryz.underlying145
  a53 := Tryz.isAgg145
  z53 := Tryz.sizeOf145
  v53 := Tryz.zeroValue145
  t171 := Tryz.underlying144
  a171 := Tryz.isAgg144
  z171 := Tryz.sizeOf144
  v171 := Tryz.zeroValue144
  t173 := Tryz.underlying148
  a173 := Tryz.isAgg148
  z173 := Tryz.sizeOf148
  v173 := Tryz.zeroValue148
  t212 := Tryz.underlying158
  a212 := Tryz.isAgg158
  z212 := Tryz.sizeOf158
  v212 := Tryz.zeroValue158
  t213 := Tryz.underlying160
  a213 := Tryz.isAgg160
  z213 := Tryz.sizeOf160
  t232 := Tryz.underlying174
  a232 := Tryz.isAgg174
  z232 := Tryz.sizeOf174
  v232 := Tryz.zeroValue174
  t233 := Tryz.underlying175
  a233 := Tryz.isAgg175
  z233 := Tryz.sizeOf175
  v233 := Tryz.zeroValue175
  g17 := by kernel_rfl
  g18 := by kernel_rfl
  g19 := by kernel_rfl
  i0 := by kernel_rfl
  i2 := by kernel_rfl
  i3 := by kernel_rfl
  i4 := by kernel_rfl
  i5 := by kernel_rfl
  i9 := by kernel_rfl
  i20 := by kernel_rfl
  i37 := by kernel_rfl
  i46 := by kernel_rfl
  i51 := by kernel_rfl
  i53 := by kernel_rfl
  i171 := by kernel_rfl
  i173 := by kernel_rfl
  i212 := by kernel_rfl
  i232 := by kernel_rfl
  i233 := by kernel_rfl
  m17 := by kernel_rfl
  m18 := by kernel_rfl
  m19 := by kernel_rfl }
theorem Tryz.strconv_FormatInt_10 (n : Int) (h0 : -9223372036854775808 ≤ n) (h1 : n ≤ 9223372036854775807) (w : World) (htab : Lib.TabIs Tryz.prog w "internal/strconv.uint64pow10" .u64 Lib.pow10Tab) :
    Calls Tryz.prog 82 #[.int .i64 n, .int .i64 10] w fun e w' => e = .returned (.string ⟨(Lib.itoa n).toArray⟩) ∧ ∃ k os, w' = grow (w.drewN k) os := Any.strconv_FormatInt_10 Tryz.laysM173 n h0 h1 w htab
def Tryz.lays173_ren : Go.Shelf.Ren := ⟨fun | 173 => 82 | 246 => 74 | 283 => 85 | 284 => 86 | 285 => 87 | 286 => 88 | 129 => 102 | 317 => 101 | 318 => 103 | 319 => 104 | 320 => 105 | 337 => 110 | 338 => 111 | n => n, fun | 2 => 2 | 3 => 3 | 9 => 9 | 4 => 4 | 171 => 144 | 0 => 0 | 53 => 145 | 37 => 68 | 5 => 5 | 173 => 148 | 212 => 158 | 51 => 159 | 20 => 20 | 213 => 160 | 46 => 162 | 232 => 174 | 233 => 175 | n => n, fun | 17 => 0 | 18 => 1 | 19 => 2 | n => n⟩
theorem Tryz.lays173 : Go.Proofs.Lays.n173 Tryz.prog Tryz.lays173_ren := {
  mixed := by kernel_rfl
  f129 := Tryz.func102.trans (congrArg some (by kernel_rfl))
  f173 := Tryz.func82.trans (congrArg some (by kernel_rfl))
  f246 := Tryz.func74.trans (congrArg some (by kernel_rfl))
  f283 := Tryz.func85.trans (congrArg some (by kernel_rfl))
  f284 := Tryz.func86.trans (congrArg some (by kernel_rfl))
  f285 := Tryz.func87.trans (congrArg some (by kernel_rfl))
  f286 := Tryz.func88.trans (congrArg some (by kernel_rfl))
  f317 := Tryz.func101.trans (congrArg some (by kernel_rfl))
  f318 := Tryz.func103.trans (congrArg some (by kernel_rfl))
  f319 := Tryz.func104.trans (congrArg some (by kernel_rfl))
  f320 := Tryz.func105.trans (congrArg some (by kernel_rfl))
  f337 := Tryz.func110.trans (congrArg some (by kernel_rfl))
  f338 := Tryz.func111.trans (congrArg some (by kernel_rfl))
  t0 := Tryz.underlying0
  a0 := Tryz.isAgg0
  z0 := Tryz.sizeOf0
  v0 := Tryz.zeroValue0
  t2 := Tryz.underlying2
  a2 := Tryz.isAgg2
  z2 := Tryz.sizeOf2
  v2 := Tryz.zeroValue2
  t3 := Tryz.underlying3
  a3 := Tryz.isAgg3
  z3 := Tryz.sizeOf3
  v3 := Tryz.zeroValue3
  t4 := Tryz.underlying4
  a4 := Tryz.isAgg4
  z4 := Tryz.sizeOf4
  v4 := Tryz.zeroValue4
  t5 := Tryz.underlying5
  a5 := Tryz.isAgg5
  z5 := Tryz.sizeOf5
  v5 := Tryz.zeroValue5
  t9 := Tryz.underlying9
  a9 := Tryz.isAgg9
  z9 := Tryz.sizeOf9
  v9 := Tryz.zeroValue9
  t20 := Tryz.underlying20
  a20 := Tryz.isAgg20
  z20 := Tryz.sizeOf20
  v20 := Tryz.zeroValue20
  t37 := Tryz.underlying68
  a37 := Tryz.isAgg68
  z37 := Tryz.sizeOf68
  v37 := Tryz.zeroValue68
  t46 := Tryz.underlying162
  a46 := Tryz.isAgg162
  z46 := Tryz.sizeOf162
  v46 := Tryz.zeroValue162
  t51 := Tryz.underlying159
  a51 := Tryz.isAgg159
  z51 := Tryz.sizeOf159
  v51 := Tryz.zeroValue159
  t53 := Tryz.underlying145
  a53 := Tryz.isAgg145
  z53 := Tryz.sizeOf145
  v53 := Tryz.zeroValue145
  t171 := Tryz.underlying144
  a171 := Tryz.isAgg144
  z171 := Tryz.sizeOf144
  v171 := Tryz.zeroValue144
  t173 := Tryz.underlying148
  a173 := Tryz.isAgg148
  z173 := Tryz.sizeOf148
  v173 := Tryz.zeroValue148
  t212 := Tryz.underlying158
  a212 := Tryz.isAgg158
  z212 := Tryz.sizeOf158
  v212 := Tryz.zeroValue158
  t213 := Tryz.underlying160
  a213 := Tryz.isAgg160
  z213 := Tryz.sizeOf160
  t232 := Tryz.underlying174
  a232 := Tryz.isAgg174
  z232 := Tryz.sizeOf174
  v232 := Tryz.zeroValue174
  t233 := Tryz.underlying175
  a233 := Tryz.isAgg175
  z233 := Tryz.sizeOf175
  v233 := Tryz.zeroValue175
  g17 := by kernel_rfl
  g18 := by kernel_rfl
  g19 := by kernel_rfl }
theorem Tryz.strconv_FormatInt_10_small (i : Nat) (hi : i < 100) (w : World) :
    Calls Tryz.prog 82 #[.int .i64 i, .int .i64 10] w fun e w' => e = .returned (.string ⟨(Lib.decDigits i).toArray⟩) ∧ w' = w := Any.strconv_FormatInt_10_small Tryz.lays173 i hi w
end Go.Proofs
namespace Go.Proofs.YtadogobdlcionaaGreatDoor
open Go.ChangeShapes Go.WideShapes Go.ChangeAt Go.RowKit Go.Shelf
set_option linter.unusedVariables false
/-- How many values a code takes, and may it be. -/
def needsT (c : CD) : Int × Bool :=
  if c.op = 6 then (0, decide (0 ≤ c.n)) else if c.op = 7 then (0, decide (0 ≤ c.field) && (decide (c.field < 4) && nameT c.var)) else if c.op = 8 then (0, nameT c.var)
  else if c.op = 9 then (1, true) else if 1 ≤ c.op ∧ c.op ≤ 5 then (2, true) else (0, false)
theorem beq_no {a b : Int} (h : a ≠ b) : (a == b) = false := beq_eq_false_iff_ne.2 h
theorem beq_yes {a b : Int} (h : a = b) : (a == b) = true := beq_iff_eq.2 h
set_option maxRecDepth 100000 in
set_option maxHeartbeats 4000000 in
theorem needs_is (w : World) (c : CD) (hs : c.var.size ≤ 140737488355328) (hE : ErrAt w) :
    Calls Tryz.prog 34 #[.agg c.cells.toArray] w fun y w' => y = .returned (.tuple #[.int .i64 (needsT c).1, .bool (needsT c).2]) ∧ Turn (fun _ => False) w w' := by
  obtain ⟨op, n, v, f⟩ := c
  unfold CD.cells
  dsimp only at hs ⊢
  obtain ⟨W, hW⟩ : ∃ W, W = w.alloc (.cells #[.int .i64 op, .int .i64 n, .string v, .int .i64 f, .int .i64 0] 45) := ⟨_, rfl⟩
  have T0 : Turn (fun _ => False) w W := by rw [hW]; exact (Turn.refl _ _).alloc _
  have R : W.rangeAt w.heap.size 0 [.int .i64 op, .int .i64 n, .string v, .int .i64 f, .int .i64 0] := by rw [hW]; exact range_new w [.int .i64 op, .int .i64 n, .string v, .int .i64 f, .int .i64 0] 45
  have d0 : W.cell? ⟨w.heap.size, 0, none⟩ = some (.int .i64 op) := R 0 _ rfl
  have d1 : W.cell? ⟨w.heap.size, 1, none⟩ = some (.int .i64 n) := R 1 _ rfl
  have d2 : W.cell? ⟨w.heap.size, 2, none⟩ = some (.string v) := R 2 _ rfl
  have d3 : W.cell? ⟨w.heap.size, 3, none⟩ = some (.int .i64 f) := R 3 _ rfl
  have NM := Lib.hid (name_is W v hs (hE.turn T0 id))
  have HT := Lib.hid T0
  have HW := Lib.hid hW
  obtain ⟨r, hr⟩ : ∃ r, r = needsT ⟨op, n, v, f⟩ := ⟨_, rfl⟩
  rw [← hr]
  have HR := Lib.hid hr
  clear R hs hE T0 hW hr
  by_cases h6 : op = 6
  · have hr : r = (0, decide (0 ≤ n)) := by rw [HR.out]; unfold needsT; exact if_pos h6
    subst hr
    subst h6
    go_enter Tryz.func34, Tryz.ntmps34
    go_upto_region 1 with fail
    rw [← HW.out]
    clear HW
    go_upto_region 3 with fail
    have hge : decide (n ≥ 0) = decide (0 ≤ n) := rfl
    go_region
    all_goals go_wp2_with fail
    all_goals go_ret2
    all_goals exact ⟨rfl, HT.out.trans ((Turn.refl _ _).drewN 1)⟩
  have b6 := beq_no h6
  by_cases h7 : op = 7
  · have hr : r = (0, decide (0 ≤ f) && (decide (f < 4) && nameT v)) := by rw [HR.out]; unfold needsT; rw [if_neg h6]; exact if_pos h7
    subst hr
    subst h7
    clear h6 b6
    by_cases f0 : 0 ≤ f
    · by_cases f4 : f < 4
      · have u1 : decide (0 ≤ f) = true := decide_eq_true f0
        have u2 : decide (f < 4) = true := decide_eq_true f4
        go_enter Tryz.func34, Tryz.ntmps34
        go_upto_region 1 with fail
        rw [← HW.out]
        clear HW
        go_wp2_with fail
        with_reducible refine NM.out.mono ?_
        rintro y w1 ⟨rfl, T1⟩
        have F := Lib.hid (HT.out.trans T1)
        clear T1
        go_wp2_with fail
        go_ret2
        refine ⟨?_, F.out⟩
        rw [u1, u2]
        rfl
      · have u1 : decide (0 ≤ f) = true := decide_eq_true f0
        have u2 : decide (f < 4) = false := decide_eq_false f4
        go_enter Tryz.func34, Tryz.ntmps34
        go_upto_region 1 with fail
        rw [← HW.out]
        clear HW
        go_wp2_with fail
        go_ret2
        refine ⟨?_, HT.out⟩
        rfl
    · have u1 : decide (0 ≤ f) = false := decide_eq_false f0
      go_enter Tryz.func34, Tryz.ntmps34
      go_upto_region 1 with fail
      rw [← HW.out]
      clear HW
      go_wp2_with fail
      go_ret2
      refine ⟨?_, HT.out⟩
      rfl
  have b7 := beq_no h7
  by_cases h8 : op = 8
  · have hr : r = (0, nameT v) := by rw [HR.out]; unfold needsT; rw [if_neg h6, if_neg h7]; exact if_pos h8
    subst hr
    subst h8
    go_enter Tryz.func34, Tryz.ntmps34
    go_upto_region 1 with fail
    rw [← HW.out]
    clear HW
    go_wp2_with fail
    with_reducible refine NM.out.mono ?_
    rintro y w1 ⟨rfl, T1⟩
    have F := Lib.hid (HT.out.trans T1)
    clear T1
    go_wp2_with fail
    go_ret2
    exact ⟨rfl, F.out⟩
  have b8 := beq_no h8
  by_cases h9 : op = 9
  · have hr : r = (1, true) := by rw [HR.out]; unfold needsT; rw [if_neg h6, if_neg h7, if_neg h8]; exact if_pos h9
    subst hr
    subst h9
    go_enter Tryz.func34, Tryz.ntmps34
    go_upto_region 1 with fail
    rw [← HW.out]
    clear HW
    go_wp2_with fail
    go_ret2
    exact ⟨rfl, HT.out⟩
  have b9 := beq_no h9
  by_cases hin : 1 ≤ op ∧ op ≤ 5
  · have hr : r = (2, true) := by rw [HR.out]; unfold needsT; rw [if_neg h6, if_neg h7, if_neg h8, if_neg h9]; exact if_pos hin
    subst hr
    have h5 : op = 1 ∨ op = 2 ∨ op = 3 ∨ op = 4 ∨ op = 5 := by omega
    clear hin h6 h7 h8 h9 b6 b7 b8 b9
    rcases h5 with rfl | rfl | rfl | rfl | rfl
    all_goals
      go_enter Tryz.func34, Tryz.ntmps34
      go_upto_region 1 with fail
      rw [← HW.out]
      go_wp2_with fail
      go_ret2
      exact ⟨rfl, HT.out⟩
  · have hr : r = (0, false) := by rw [HR.out]; unfold needsT; rw [if_neg h6, if_neg h7, if_neg h8, if_neg h9]; exact if_neg hin
    subst hr
    have b1 : (op == 1) = false := beq_no (by omega)
    have b2 : (op == 2) = false := beq_no (by omega)
    have b3 : (op == 3) = false := beq_no (by omega)
    have b4 : (op == 4) = false := beq_no (by omega)
    have b5 : (op == 5) = false := beq_no (by omega)
    clear hin h6 h7 h8 h9
    go_enter Tryz.func34, Tryz.ntmps34
    go_upto_region 1 with fail
    rw [← HW.out]
    clear HW
    go_wp2_with fail
    go_ret2
    exact ⟨rfl, HT.out⟩
end Go.Proofs.YtadogobdlcionaaGreatDoor
namespace Go.Proofs.YtadogobdlcionaaGreatDoor
open Go.ChangeShapes Go.WideShapes Go.ChangeAt Go.RowKit Go.Shelf
set_option linter.unusedVariables false
/-- The library's table of powers lies there. -/
def TabAt (w : World) : Prop := 5 ≤ w.heap.size ∧ Lib.TabIs Tryz.prog w "internal/strconv.uint64pow10" .u64 Lib.pow10Tab
theorem glob_tab : Tryz.prog.globalNamed "internal/strconv.uint64pow10" = some 0 := by kernel_rfl
theorem TabAt.turn {S : Nat → Prop} {w w' : World} (h : TabAt w) (T : Turn S w w') (hs : ∀ k, k < 5 → ¬ S k) : TabAt w' :=
  ⟨Nat.le_trans h.1 T.size, var?_below (B := 5) (T.below (fun k hk => ⟨Nat.lt_of_lt_of_le hk h.1, hs k hk⟩)) glob_tab (by decide) h.2⟩
theorem grow_turn (w : World) (k : Nat) (os : Array Obj) : Turn (fun _ => False) w (Sort.grow (w.drewN k) os) :=
  ⟨rfl, rfl, rfl, by show w.heap.size ≤ (w.heap ++ os).size; simp, fun i hi _ => by show (w.heap ++ os)[i]? = _; rw [Array.getElem?_append_left hi]⟩
abbrev hash : ByteArray := ⟨#[35]⟩
/-- A code that stands alone, as a text. -/
def leafT (c : CD) : ByteArray := if c.op = 6 then ⟨(Lib.itoa c.n).toArray⟩ else if c.op = 8 then hash ++ c.var else c.var ++ dot ++ lettersT.getD c.field.toNat ⟨#[]⟩
def CdFit (c : CD) : Prop := -9223372036854775808 ≤ c.n ∧ c.n ≤ 9223372036854775807 ∧ c.var.size ≤ 1000000
set_option maxRecDepth 100000 in
set_option maxHeartbeats 4000000 in
theorem leaf_is (w : World) (c : CD) (hc : CdFit c) (h0 : (needsT c).1 = 0) (h1 : (needsT c).2 = true) (hT : TabAt w) :
    Calls Tryz.prog 70 #[.agg c.cells.toArray] w fun y w' => y = .returned (.string (leafT c)) ∧ Turn (fun _ => False) w w' := by
  obtain ⟨op, n, v, f⟩ := c
  unfold CD.cells
  dsimp only at hc ⊢
  obtain ⟨W, hW⟩ : ∃ W, W = w.alloc (.cells #[.int .i64 op, .int .i64 n, .string v, .int .i64 f, .int .i64 0] 45) := ⟨_, rfl⟩
  have T0 : Turn (fun _ => False) w W := by rw [hW]; exact (Turn.refl _ _).alloc _
  have R : W.rangeAt w.heap.size 0 [.int .i64 op, .int .i64 n, .string v, .int .i64 f, .int .i64 0] := by rw [hW]; exact range_new w [.int .i64 op, .int .i64 n, .string v, .int .i64 f, .int .i64 0] 45
  have d0 : W.cell? ⟨w.heap.size, 0, none⟩ = some (.int .i64 op) := R 0 _ rfl
  have d1 : W.cell? ⟨w.heap.size, 1, none⟩ = some (.int .i64 n) := R 1 _ rfl
  have d2 : W.cell? ⟨w.heap.size, 2, none⟩ = some (.string v) := R 2 _ rfl
  have d3 : W.cell? ⟨w.heap.size, 3, none⟩ = some (.int .i64 f) := R 3 _ rfl
  have FI := Lib.hid (Tryz.strconv_FormatInt_10 n hc.1 hc.2.1 W (hT.turn T0 (fun _ _ => id)).2)
  have HT := Lib.hid T0
  have HW := Lib.hid hW
  have hv : v.size ≤ 1000000 := hc.2.2
  obtain ⟨r, hr⟩ : ∃ r, r = leafT ⟨op, n, v, f⟩ := ⟨_, rfl⟩
  rw [← hr]
  have HR := Lib.hid hr
  clear R T0 hW hr hc hT
  by_cases h6 : op = 6
  · have hr : r = ⟨(Lib.itoa n).toArray⟩ := by rw [HR.out]; unfold leafT; exact if_pos h6
    subst hr
    subst h6
    clear h0 h1
    go_enter Tryz.func70, Tryz.ntmps70
    go_upto_region 1 with fail
    rw [← HW.out]
    clear HW
    go_wp2_with fail
    with_reducible refine FI.out.mono ?_
    rintro y w1 ⟨rfl, k, os, rfl⟩
    have F := Lib.hid (HT.out.trans (grow_turn W k os))
    go_wp2_with fail
    go_ret
    exact ⟨rfl, F.out⟩
  have b6 := beq_no h6
  by_cases h8 : op = 8
  · have hr : r = hash ++ v := by rw [HR.out]; unfold leafT; rw [if_neg h6]; exact if_pos h8
    subst hr
    subst h8
    clear h0 h1
    go_enter Tryz.func70, Tryz.ntmps70
    go_upto_region 1 with fail
    rw [← HW.out]
    clear HW
    go_wp2_with fail
    go_ret
    exact ⟨rfl, HT.out⟩
  have b8 := beq_no h8
  have hr : r = v ++ dot ++ lettersT.getD f.toNat ⟨#[]⟩ := by rw [HR.out]; unfold leafT; rw [if_neg h6, if_neg h8]
  have h7 : op = 7 ∧ 0 ≤ f ∧ f < 4 := by
    unfold needsT at h0 h1
    dsimp only at h0 h1
    rw [if_neg h6] at h0 h1
    by_cases h7 : op = 7
    · rw [if_pos h7] at h1
      simp only [Bool.and_eq_true, decide_eq_true_eq] at h1
      exact ⟨h7, h1.1, h1.2.1⟩
    · rw [if_neg h7, if_neg h8] at h0 h1
      by_cases h9 : op = 9
      · rw [if_pos h9] at h0
        exact absurd h0 (by decide)
      · rw [if_neg h9] at h0 h1
        by_cases hin : 1 ≤ op ∧ op ≤ 5
        · rw [if_pos hin] at h0
          exact absurd h0 (by decide)
        · rw [if_neg hin] at h1
          exact absurd h1 (by decide)
  obtain ⟨h7, f0, f4⟩ := h7
  obtain ⟨k, rfl⟩ : ∃ k : Nat, f = (k : Int) := ⟨f.toNat, (Int.toNat_of_nonneg f0).symm⟩
  obtain ⟨lt, hlt⟩ : ∃ t, lettersT[k]? = some t := ⟨_, List.getElem?_eq_getElem (by show k < 4; omega)⟩
  have hl1 : lt.size = 1 := by
    have : k = 0 ∨ k = 1 ∨ k = 2 ∨ k = 3 := by omega
    rcases this with rfl | rfl | rfl | rfl <;> (injection hlt with hlt; subst hlt; rfl)
  have hs2 : (v ++ dot).size ≤ 1000001 := by rw [ByteArray.size_append]; show v.size + 1 ≤ _; omega
  have hs3 : (v ++ (⟨#[46]⟩ : ByteArray)).size ≤ 1000001 := hs2
  have u3 : (9223372036854775807 < v.size + 1) = False := eq_false (by omega)
  have u4 : (9223372036854775807 < v.size + 1 + 1) = False := eq_false (by omega)
  have HK := Lib.hid (And.intro hr hlt)
  have o1 : (k : Int) < 4 := f4
  clear h0 h1 h6 h8 hr hlt f4 FI
  subst h7
  have LT := fun W => letters_is W
  have HLT := Lib.hid LT
  clear LT
  go_enter Tryz.func70, Tryz.ntmps70
  go_upto_region 1 with fail
  rw [← HW.out]
  clear HW
  go_upto_region 6 with fail
  have SD := Lib.hid (show ((W.drew.cell? ⟨w.heap.size, 2, none⟩ = some (.string v) ∧ W.drew.cell? ⟨w.heap.size, 3, none⟩ = some (.int .i64 (k : Int))) ∧ True) ∧ Turn (fun _ => False) w W.drew from ⟨⟨⟨d2, d3⟩, trivial⟩, HT.out.trans ((Turn.refl _ _).drewN 1)⟩)

  refine wp_region_held_drew (S := fun w' => w'.cell? ⟨w.heap.size, 2, none⟩ = some (.string v) ∧ w'.cell? ⟨w.heap.size, 3, none⟩ = some (.int .i64 (k : Int))) (by kernel_rfl) ?hs0 (fun hS0 => ?_)
  case hs0 => exact SD.out.1.1
  refine wpAnyH_take (i := 0) (oi := { dst := some 15, op := Op.fieldAddr 45 (Operand.tmp 1) 2, type := 0, pos := "print.go:158", after := #[], guard := none }) (v := ?_) rfl (by kernel_rfl) (by kernel_rfl) (by kernel_rfl) (fun _ _ _ h => h) (Or.inl ⟨by rfl, ?hy1⟩) hS0 ?_
  case hy1 => (intro w hSw; (try dsimp only at hSw); go_simp; try with_reducible rfl)
  try simp only [Act.put, List.setIfInBounds_toArray, List.set_cons_zero, List.set_cons_succ]
  refine wpAnyH_take (i := 1) (oi := { dst := some 16, op := Op.load 9 (Operand.tmp 15), type := 9, pos := "print.go:158", after := #[{ on := 0, ground := Ground.data }], guard := none }) (v := ?_) rfl (by kernel_rfl) (by kernel_rfl) (by kernel_rfl) (fun _ _ _ h => h) (Or.inl ⟨by rfl, ?hy2⟩) hS0 ?_
  case hy2 => (intro w hSw; (try dsimp only at hSw); go_simp; try with_reducible rfl)
  try simp only [Act.put, List.setIfInBounds_toArray, List.set_cons_zero, List.set_cons_succ]
  refine wpAnyH_take (i := 2) (oi := { dst := some 17, op := Op.binOp BinOp.add 9 (Operand.tmp 16) (Operand.const (Value.string { data := #[46] })) 9, type := 9, pos := "print.go:158", after := #[{ on := 1, ground := Ground.data }], guard := none }) (v := ?_) rfl (by kernel_rfl) (by kernel_rfl) (by kernel_rfl) (fun _ _ _ h => h) (Or.inl ⟨by rfl, ?hy3⟩) hS0 ?_
  case hy3 => (intro w hSw; (try dsimp only at hSw); go_simp; try with_reducible rfl)
  try simp only [Act.put, List.setIfInBounds_toArray, List.set_cons_zero, List.set_cons_succ]
  refine wpAnyH_take (i := 4) (oi := { dst := some 19, op := Op.fieldAddr 45 (Operand.tmp 1) 3, type := 0, pos := "print.go:158", after := #[], guard := none }) (v := ?_) rfl (by kernel_rfl) (by kernel_rfl) (by kernel_rfl) (fun _ _ _ h => h) (Or.inl ⟨by rfl, ?hy4⟩) hS0 ?_
  case hy4 => (intro w hSw; (try dsimp only at hSw); go_simp; try with_reducible rfl)
  try simp only [Act.put, List.setIfInBounds_toArray, List.set_cons_zero, List.set_cons_succ]
  refine wpAnyH_take (i := 5) (oi := { dst := some 20, op := Op.load 3 (Operand.tmp 19), type := 3, pos := "print.go:158", after := #[{ on := 4, ground := Ground.data }], guard := none }) (v := ?_) rfl (by kernel_rfl) (by kernel_rfl) (by kernel_rfl) (fun _ _ _ h => h) (Or.inl ⟨by rfl, ?hy5⟩) hS0 ?_
  case hy5 => (intro w hSw; (try dsimp only at hSw); go_simp; try with_reducible rfl)
  try simp only [Act.put, List.setIfInBounds_toArray, List.set_cons_zero, List.set_cons_succ]
  refine wpAnyH_ready (rs := [3]) (by kernel_rfl) (by simp) ?_
  refine AllReadyH.cons (o := { dst := some 18, op := Op.call { callee := Callee.value (Operand.func 83), args := #[], argTypes := #[] }, type := 41, pos := "print.go:158", after := #[], guard := none }) rfl (fun K hK => ?_) AllReadyH.nil
  go_simp
  with_reducible refine (HLT.out _).mono ?_
  rintro y W1 ⟨g, cap, rfl, R4, T4⟩
  have hcell : W1.cell? ⟨g, k, none⟩ = some (.string lt) := by
    have := R4 k (.string lt) (by rw [List.getElem?_map, HK.out.2]; rfl)
    rw [Nat.zero_add] at this
    exact this
  have s1 : W1.cell? ⟨w.heap.size, 2, none⟩ = some (.string v) ∧ W1.cell? ⟨w.heap.size, 3, none⟩ = some (.int .i64 (k : Int)) := ⟨T4.cell id SD.out.1.1.1, T4.cell id SD.out.1.1.2⟩
  have G1 := Lib.hid (SD.out.2.trans T4)
  rw [show lettersT.length = 4 from rfl]
  clear R4 T4
  go_simp
  refine hK.out _ _ ?hs6 (fun hS6 => ?_)
  case hs6 => exact s1
  clear hK K hS0
  refine wpAnyH_ready (rs := [6]) (by kernel_rfl) (by simp) ?_
  refine AllReadyH.cons (o := { dst := some 21, op := Op.indexAddr 41 (Operand.tmp 18) (Operand.tmp 20), type := 0, pos := "print.go:158", after := #[{ on := 3, ground := Ground.data }, { on := 5, ground := Ground.data }], guard := none }) rfl (fun K hK => ?_) AllReadyH.nil
  go_simp
  refine hK.out _ _ ?hs7 (fun hS7 => ?_)
  case hs7 => exact s1
  clear hK K hS6
  refine wpAnyH_ready (rs := [7]) (by kernel_rfl) (by simp) ?_
  refine AllReadyH.cons (o := { dst := some 22, op := Op.load 9 (Operand.tmp 21), type := 9, pos := "print.go:158", after := #[{ on := 6, ground := Ground.data }], guard := none }) rfl (fun K hK => ?_) AllReadyH.nil
  go_simp
  refine hK.out _ _ ?hs8 (fun hS8 => ?_)
  case hs8 => exact s1
  clear hK K hS7
  refine wpAnyH_ready (rs := [8]) (by kernel_rfl) (by simp) ?_
  refine AllReadyH.cons (o := { dst := some 23, op := Op.binOp BinOp.add 9 (Operand.tmp 17) (Operand.tmp 22) 9, type := 9, pos := "print.go:158", after := #[{ on := 2, ground := Ground.data }, { on := 7, ground := Ground.data }], guard := none }) rfl (fun K hK => ?_) AllReadyH.nil
  go_simp
  refine hK.out _ _ ?hs9 (fun hS9 => ?_)
  case hs9 => exact s1
  clear hK K hS8
  refine wpAnyH_ready (rs := [9]) (by kernel_rfl) (by simp) ?_
  refine AllReadyH.cons (o := { dst := some 2, op := Op.assign (Operand.tmp 23), type := 9, pos := "print.go:158", after := #[{ on := 8, ground := Ground.data }, { on := 3, ground := Ground.chain }, { on := 0, ground := Ground.phase }, { on := 1, ground := Ground.phase }, { on := 2, ground := Ground.phase }, { on := 3, ground := Ground.phase }, { on := 4, ground := Ground.phase }, { on := 5, ground := Ground.phase }, { on := 6, ground := Ground.phase }, { on := 7, ground := Ground.phase }, { on := 8, ground := Ground.phase }], guard := none }) rfl (fun K hK => ?_) AllReadyH.nil
  go_simp
  refine hK.out _ _ ?hs10 (fun hS10 => ?_)
  case hs10 => exact s1
  clear hK K hS9
  refine wpAnyH_done (by kernel_rfl) ?_ _
  skip
  go_wp2_with fail
  go_ret
  refine ⟨?_, G1.out⟩
  rw [HK.out.1]
  show _ = Ending.returned (.string (v ++ dot ++ lettersT.getD ((k : Int)).toNat ⟨#[]⟩))
  rw [show lettersT.getD ((k : Int)).toNat ⟨#[]⟩ = lt from by rw [Int.toNat_natCast, List.getD_eq_getElem?_getD, HK.out.2]; rfl]
  rfl
end Go.Proofs.YtadogobdlcionaaGreatDoor
