/-
  Matches that are held against each other, where they lie; and the walk of TupleSorts.
-/
import Derived.Test.YtibmimdlgbhdnaaTupY
import Derived.Test.YtibmimdlgbhdnaaTupW
import Derived.Test.YtibmimdlgbhdnaaTupA
namespace Go.Proofs.Ytibmimdlgbhdnaa
open Go.ChangeShapes Go.WideShapes Go.ChangeAt Go.RowKit
set_option linter.unusedVariables false

/-- Matches that can be read, in some block. -/
structure MatsIn (w : World) (a : Option Addr) (b off cap : Nat) (MS : List Mat) : Prop where
  ad : MS = [] ∨ a = some ⟨b, off, none⟩
  at_ : ∀ (k : Nat) (M : Mat), MS[k]? = some M → ∃ (p : Option Addr) (c : Nat), w.cell? ⟨b, off + k, none⟩ = some (.slice p M.length c) ∧ RowsAt w (.slice p M.length c) M
theorem mats_in {w : World} {v : Value} {MS : List Mat} (h : MatsAt w v MS) : ∃ a b off cap, v = .slice a MS.length cap ∧ MatsIn w a b off cap MS := by
  obtain ⟨a, b, off, cap, e, ha, hx⟩ := h
  refine ⟨a, b, off, cap, e, ha, fun k M hk => ?_⟩
  obtain ⟨r, q1, q2⟩ := hx k M hk
  obtain ⟨p, _, _, c, rfl, _⟩ := id q2
  exact ⟨p, c, q1, q2⟩
theorem sort_mats {B g cap : Nat} {w : World} {E : List (Value × Mat)} (h : SortSt B g cap w E) : MatsAt w (.slice (some ⟨g, 0, none⟩) E.length cap) (E.map Prod.snd) := by
  refine ⟨_, g, 0, cap, by rw [List.length_map], .inr rfl, fun k M hk => ?_⟩
  rw [List.getElem?_map] at hk
  obtain ⟨e, he, rfl⟩ := Option.map_eq_some_iff.1 hk
  refine ⟨e.1, ?_, (h.el e (List.mem_of_getElem? he)).rows.at⟩
  rw [Nat.zero_add]
  refine (h.own.cellAt k (by have := (List.getElem?_eq_some_iff.1 he).1; omega)).trans ?_
  rw [List.getElem?_map, he]
  rfl
theorem MatsIn.turn {w w' : World} {a : Option Addr} {b off cap : Nat} {MS : List Mat} (h : MatsIn w a b off cap MS) (t : Turn (fun _ => False) w w') : MatsIn w' a b off cap MS :=
  ⟨h.ad, fun k M hk => by
    obtain ⟨p, c, q1, q2⟩ := h.at_ k M hk
    exact ⟨p, c, t.cell id q1, q2.turn t⟩⟩
theorem cmpM_zero {X Y : Mat} : cmpM X Y = 0 ↔ X = Y := ⟨fun h => ord_match.e X Y h, fun h => by rw [h]; exact ord_match.self Y⟩
theorem cmp_q {w : World} {p1 p2 : Option Addr} {c1 c2 : Nat} {X Y : Mat} (h1 : RowsAt w (.slice p1 X.length c1) X) (h2 : RowsAt w (.slice p2 Y.length c2) Y) (hX : X.length ≤ 12 ∧ ∀ x ∈ X, x.length ≤ 4) (hY : Y.length ≤ 12 ∧ ∀ x ∈ Y, x.length ≤ 4) (d dd : Nat) :
    Calls Try.prog 20 #[.slice p1 X.length c1, .slice p2 Y.length c2] ((w.drewN d).drewN dd) fun e w' => e = Ending.returned (.int .i64 (cmpM X Y)) ∧ ∃ q, w' = (w.drewN d).drewN q :=
  (cmp_is (w := (w.drewN d).drewN dd) h1 h2 (by omega) (by omega) (fun x hx => by have := hX.2 x hx; omega) (fun x hx => by have := hY.2 x hx; omega)).mono fun e w' ⟨h1, q, h2⟩ => ⟨h1, dd + q, by rw [h2, World.drewN_drewN]⟩
theorem count_take {l : List Mat} {k : Nat} {X Y : Mat} (h : l[k]? = some Y) : (l.take (k + 1)).count X = (l.take k).count X + if cmpM X Y = 0 then 1 else 0 := by
  rw [List.take_add_one, h, List.count_append]
  congr 1
  by_cases e : X = Y
  · subst e
    rw [if_pos (cmpM_zero.2 rfl)]
    simp
  · rw [if_neg (fun h => e (cmpM_zero.1 h))]
    simp [Ne.symm e]
/-- What is put in order, and what was there, behind all calls. -/
structure SoAll (w : World) (MS SS : List Mat) (m : Option Addr) (mb mo mc : Nat) (k : Option Addr) (kb ko kc : Nat) (s : Option Addr) (sb so sc : Nat) : Prop where
  m : MatsIn w m mb mo mc MS
  k : MatsIn w k kb ko kc MS
  s : MatsIn w s sb so sc SS
  len : MS.length ≤ 12
  sm : small MS
  perm : SS.Perm MS
  srt : SS.Pairwise (fun a b => cmpM a b ≤ 0)
set_option maxRecDepth 100000 in
/-- A row of matches put behind an empty one. -/
theorem mats_app {P : Nat → Prop} {W : World} {base : Nat} {x : Value} {MS : List Mat} {xs : List Value} (ho : W.ownsRow base 22 1 x MS.length xs) (h : MCells P W MS xs) (hn : MS.length ≤ 1000) :
    ∃ v' w', (Builtin.append_ #[24, 24] 24 #[.slice (some ⟨W.heap.size, 0, none⟩) 0 0, x]).run Try.prog (W.alloc (.cells #[] 22)) = .ok v' w' ∧ w'.ownsRow W.heap.size 22 1 v' MS.length xs ∧ Turn (fun _ => False) W w' := by
  obtain ⟨i3, j1, j2, j3, j4⟩ := info_parts info22
  have h0 := World.ownsRow_lit (base := W.heap.size) (e := 22) (size := 1) W #[] 0 (Nat.le_refl _) (by decide) rfl
  have T1 : Turn (fun _ => False) W (W.alloc (.cells #[] 22)) := (Turn.refl _ W).alloc _
  have one : ∀ u ∈ xs, u.oneCell' = true := fun u hu => by
    obtain ⟨k, hk, rfl⟩ := List.mem_iff_getElem.1 hu
    have hl := ho.1
    have hkl : k < MS.length := by omega
    obtain ⟨r, q1, q2⟩ := h k _ (List.getElem?_eq_getElem hkl)
    rw [List.getElem?_eq_getElem hk] at q1
    injection q1 with q1
    obtain ⟨a, b, off, cap, e, _⟩ := q2
    rw [q1, e]
    rfl
  have hA := own_turn ho T1 (fun _ _ => id)
  rcases ho.2 with ⟨e, e2⟩ | ⟨g, cap, cur, e, _⟩
  · subst e
    have hx0 : xs = [] := List.eq_nil_of_length_eq_zero (by have := ho.1; omega)
    subst hx0
    rw [e2]
    exact ⟨_, _, run_append_owned_none _ _ 24 24 22 i3 1 Try.underlying24 j1 _ 0 _ h0, h0, T1⟩
  · subst e
    obtain ⟨v', w', hr, hown, hg, _⟩ := run_append_own (W.alloc (.cells #[] 22)) W.heap.size 24 24 22 i3 _ 1 24 Try.underlying24 j1 j2 j3 j4 rfl (by decide) _ 0 [] h0 ⟨g, 0, none⟩ MS.length cap xs (by have := ho.1; omega) (fun j u hu => by
      rw [Go.WideShapes.add_plain, Nat.zero_add]
      have hj := (List.getElem?_eq_some_iff.1 hu).1
      exact (hA.cellAt j (by have := ho.1; omega)).trans hu) one (by unfold maxLen; omega) (by omega) (by simp)
    exact ⟨v', w', hr, by simpa using hown, turn_fresh T1 h0 ((Turn.refl _ _).grown hg (fun k hk => .inl hk))⟩
theorem mcells_turn {P : Nat → Prop} {w w' : World} {MS : List Mat} {xs : List Value} (h : MCells P w MS xs) (t : Turn (fun _ => False) w w') : MCells P w' MS xs := fun k M hk => by
  obtain ⟨r, q1, q2⟩ := h k M hk
  exact ⟨r, q1, q2.still fun b _ hb => t.block b hb id⟩
def SoI (w W : World) (n : Nat) (gh : Nat) (v : Value) (wr : World) : Prop := ∃ (i d : Nat), v = .int .i64 (i : Int) ∧ i ≤ n ∧ gh = n - i ∧ wr = W.drewN d
def SoK (W : World) (MS SS : List Mat) (X : Mat) (gh : Nat) (v8 v9 v10 : Value) (wr : World) : Prop :=
  ∃ (k d : Nat), v10 = .int .i64 (k : Int) ∧ k ≤ MS.length ∧ gh = MS.length - k ∧ v8 = .int .i64 (((MS.take k).count X : Nat) : Int) ∧ v9 = .int .i64 (((SS.take k).count X : Nat) : Int) ∧ wr = W.drewN d
set_option maxRecDepth 100000 in
set_option maxHeartbeats 4000000 in
theorem sorts_walk {w : World} {v : Value} {L : Mat} (h : RowsAt w v L) (hL : L.length ≤ 9223372036854775807) (hR : ∀ x ∈ L, x.length ≤ 9223372036854775807) :
    Calls Try.prog 5 #[v] w fun e w' => e = .returned (.bool true) ∧ Below w.heap.size w w' := by
  have AW := Lib.hid (tuple_awake w)
  have IN := Lib.hid h
  have LEN := Lib.hid (And.intro hL hR)
  clear h hL hR
  go_enter Try.func5, Try.ntmps5
  go_wp2_with fail
  with_reducible refine AW.out.mono ?_
  rintro e w1 ⟨rfl, b1⟩
  have T1 := Lib.hid (Turn.of_below (S := fun _ => False) b1)
  clear b1 AW
  have F := Lib.hid (matches_is (IN.out.turn T1.out) LEN.out.1 LEN.out.2)
  go_wp2_with fail
  with_reducible refine F.out.mono ?_
  rintro e w2 ⟨v2, rfl, MS, xs, B, hm, h12, hsm, ho, hr, t2⟩
  have T2 := T1.out.trans t2
  clear t2 F T1 IN LEN
  obtain ⟨v3, w3, hrun, ho3, t3⟩ := mats_app ho hr (by omega)
  have hk3 := mats_own ho3 (mcells_turn hr t3)
  have hm3 := hm.turn t3
  have SR := Lib.hid (sort_any hm3 h12 (fun M hM => by have := (hsm M hM).1; omega) (fun M hM x hx => by have := (hsm M hM).2 x hx; omega))
  have RUN := Lib.hid hrun
  have T3 := T2.trans t3
  obtain ⟨ma, mb, mo, mc, rfl, hm4⟩ := mats_in hm3
  obtain ⟨ka, kb, ko, kc, rfl, hk4⟩ := mats_in hk3
  have X := Lib.hid (And.intro hm4 (And.intro hk4 (And.intro h12 (And.intro hsm T3))))
  clear hm h12 hsm ho hr hrun ho3 t3 hk3 hm3 T2 T3 hm4 hk4
  go_wp2_with (refine rl_append_run (by rfl) _ _ _ (by rfl) (by rfl) (by rfl) RUN.out ?_)
  with_reducible refine SR.out.mono ?_
  rintro e w4 ⟨E, g, cap, rfl, hp, hs, hpw, t4⟩
  have el : E.length = MS.length := by have := hp.length_eq; simpa using this
  have T4 := Lib.hid (X.out.2.2.2.2.trans t4)
  have A := Lib.hid (show SoAll w4 MS (E.map Prod.snd) ma mb mo mc ka kb ko kc (some ⟨g, 0, none⟩) g 0 cap from
    ⟨X.out.1.turn t4, X.out.2.1.turn t4, ⟨.inr rfl, fun k M hk => by
      obtain ⟨a, b, off, cap', e, q⟩ := mats_in (sort_mats hs)
      injection e with e1 e2 e3
      subst e1
      subst e3
      have := q.ad.resolve_left (fun e => by rw [e] at hk; simp at hk)
      injection this with this
      injection this with e4 e5
      subst e4
      subst e5
      exact q.at_ k M hk⟩, X.out.2.2.1, X.out.2.2.2.1, hp, List.pairwise_map.2 hpw⟩)
  rw [el]
  have R0 : SoI w w4 MS.length MS.length (.int .i64 0) w4 := ⟨0, 0, rfl, Nat.zero_le _, rfl, rfl⟩
  clear hp hs hpw t4 el X SR RUN
  generalize E.map Prod.snd = SS at *
  go_wp2_with fail
  go_loopg [7] MS.length (fun gh v7 wr => SoI w w4 MS.length gh v7 wr)
  case atStart => exact R0
  case round =>
    clear R0
    obtain ⟨i, d, rfl, hi, hg, hw⟩ := hrel
    by_cases hil : i < MS.length
    · have hsl : SS.length = MS.length := A.out.perm.length_eq
      obtain ⟨X, hX⟩ : ∃ X, SS[i]? = some X := ⟨_, List.getElem?_eq_getElem (by omega)⟩
      have hXs := A.out.sm X (A.out.perm.mem_iff.1 (List.mem_of_getElem? hX))
      obtain ⟨px, cx, zx, qx⟩ := A.out.s.at_ i X hX
      rw [Nat.zero_add] at zx
      have t1 : decide ((i : Int) < (MS.length : Int)) = true := by simp; omega
      have hi1 : (i : Int) < (MS.length : Int) := by omega
      have hi0 : (0 : Int) ≤ (i : Int) := by omega
      have QX := Lib.hid (And.intro qx hXs)
      have XI := Lib.hid (And.intro hX hsl)
      have G := Lib.hid hg
      have HW := Lib.hid hw
      have zw : wr.cell? ⟨g, i, none⟩ = some (.slice px X.length cx) := by rw [hw]; exact zx
      clear qx hXs hX hsl hg hw
      go_upto_region 10 with fail
      go_cut [44] (fun v44 wx => v44 = .bool false ∧ ∃ q, wx = w4.drewN q)
      case first =>
        rcases Nat.eq_zero_or_pos i with rfl | hpos
        · go_wp2_with fail
          go_quiet (fail)
          go_wp2_with fail
          go_meet
          case rel => exact ⟨rfl, _, by rw [HW.out, World.drewN_drewN]⟩
        · obtain ⟨p, hp⟩ : ∃ p, p + 1 = i := ⟨i - 1, by omega⟩
          have hsl := XI.out.2
          obtain ⟨Y, hY⟩ : ∃ Y, SS[p]? = some Y := ⟨_, List.getElem?_eq_getElem (by omega)⟩
          have hYs := A.out.sm Y (A.out.perm.mem_iff.1 (List.mem_of_getElem? hY))
          obtain ⟨py, cy, zy, qy⟩ := A.out.s.at_ p Y hY
          rw [Nat.zero_add] at zy
          have zw2 : wr.cell? ⟨g, p, none⟩ = some (.slice py Y.length cy) := by rw [HW.out]; exact zy
          have hle : cmpM Y X ≤ 0 := by
            obtain ⟨h1, h2⟩ := List.getElem?_eq_some_iff.1 hY
            obtain ⟨h3, h4⟩ := List.getElem?_eq_some_iff.1 XI.out.1
            have := List.pairwise_iff_getElem.1 A.out.srt p i h1 h3 (by omega)
            rw [h2, h4] at this
            exact this
          have CQ := Lib.hid (fun dd => (show Calls Try.prog 20 #[.slice py Y.length cy, .slice px X.length cx] (wr.drewN dd) (fun e w' => e = Ending.returned (.int .i64 (cmpM Y X)) ∧ ∃ q, w' = wr.drewN q) from by
            rw [HW.out]
            exact cmp_q qy QX.out.1 hYs QX.out.2 d dd))
          have tc : decide (0 < cmpM Y X) = false := by simp; omega
          have tg : decide ((0 : Int) < (i : Int)) = true := by simp; omega
          have es : (i : Int) - 1 = (p : Int) := by omega
          have hp0 : (0 : Int) ≤ (p : Int) := by omega
          have hp1 : (p : Int) < (MS.length : Int) := by omega
          have h12 := A.out.len
          have hwp : IntKind.i64.wrap (p : Int) = (p : Int) := IntWalk.i64_in _ (by omega)
          clear hle hY hYs qy zy hp hsl h12
          generalize cmpM Y X = z at *
          go_wp2_with fail
          go_quiet ((go_at_call 20; exact CQ.out _))
          go_wp2_with fail
          go_meet
          case rel => exact ⟨rfl, _, by rw [HW.out, World.drewN_drewN]⟩
      case rest =>
        obtain ⟨rfl, d2, hw2⟩ := hcut
        have K0 : SoK w4 MS SS X MS.length (.int .i64 0) (.int .i64 0) (.int .i64 0) wc := ⟨0, d2, rfl, Nat.zero_le _, rfl, by simp, by simp, hw2⟩
        clear hw2 HW zw
        go_wp2_with fail
        go_loopg [8, 9, 10] MS.length (fun gh v8 v9 v10 wr => SoK w4 MS SS X gh v8 v9 v10 wr)
        case atStart => exact K0
        case round =>
          clear K0
          obtain ⟨k, d3, rfl, hk, hgk, rfl, rfl, hw3⟩ := hrel
          by_cases hkl : k < MS.length
          · obtain ⟨Y, hY⟩ : ∃ Y, MS[k]? = some Y := ⟨_, List.getElem?_eq_getElem hkl⟩
            obtain ⟨Z, hZ⟩ : ∃ Z, SS[k]? = some Z := ⟨_, List.getElem?_eq_getElem (by rw [XI.out.2]; exact hkl)⟩
            have hYs := A.out.sm Y (List.mem_of_getElem? hY)
            have hZs := A.out.sm Z (A.out.perm.mem_iff.1 (List.mem_of_getElem? hZ))
            obtain ⟨py, cy, zy, qy⟩ := A.out.m.at_ k Y hY
            obtain ⟨pz, cz, zz, qz⟩ := A.out.s.at_ k Z hZ
            rw [Nat.zero_add] at zz
            have had := A.out.m.ad.resolve_left (fun e => by rw [e] at hkl; simp at hkl)
            subst had
            have zx' : wr.cell? ⟨g, i, none⟩ = some (.slice px X.length cx) := by rw [hw3]; exact zx
            have zy' : wr.cell? ⟨mb, mo + k, none⟩ = some (.slice py Y.length cy) := by rw [hw3]; exact zy
            have zz' : wr.cell? ⟨g, k, none⟩ = some (.slice pz Z.length cz) := by rw [hw3]; exact zz
            have CY := Lib.hid (fun dd => (show Calls Try.prog 20 #[.slice px X.length cx, .slice py Y.length cy] (wr.drewN dd) (fun e w' => e = Ending.returned (.int .i64 (cmpM X Y)) ∧ ∃ q, w' = wr.drewN q) from by
              rw [hw3]
              exact cmp_q QX.out.1 qy QX.out.2 hYs d3 dd))
            have CZ := Lib.hid (fun nn dd => (show Calls Try.prog 20 #[.slice px X.length cx, .slice pz Z.length cz] ((wr.drewN nn).drewN dd) (fun e w' => e = Ending.returned (.int .i64 (cmpM X Z)) ∧ ∃ q, w' = (wr.drewN nn).drewN q) from by
              rw [hw3, World.drewN_drewN w4 d3 nn]
              exact cmp_q QX.out.1 qz QX.out.2 hZs (d3 + nn) dd))
            have ct1 := count_take (X := X) hY
            have ct2 := count_take (X := X) hZ
            have t2 : decide ((k : Int) < (MS.length : Int)) = true := by simp; omega
            have hk1 : (k : Int) < (MS.length : Int) := by omega
            have hk0 : (0 : Int) ≤ (k : Int) := by omega
            have h12 := A.out.len
            have cb1 : (MS.take k).count X ≤ 12 := Nat.le_trans List.count_le_length (by rw [List.length_take]; omega)
            have cb2 : (SS.take k).count X ≤ 12 := Nat.le_trans List.count_le_length (by rw [List.length_take]; omega)
            have NX := Lib.hid (fun (c1 c2 d : Nat) (h1 : c1 = (MS.take (k + 1)).count X) (h2 : c2 = (SS.take (k + 1)).count X) => show SoK w4 MS SS X (MS.length - (k + 1)) (.int .i64 (c1 : Int)) (.int .i64 (c2 : Int)) (.int .i64 ((k + 1 : Nat) : Int)) (wr.drewN d) from ⟨k + 1, d3 + d, rfl, by omega, rfl, by rw [h1], by rw [h2], by rw [hw3, World.drewN_drewN]⟩)
            have GK := Lib.hid hgk
            have C12 := Lib.hid (And.intro ct1 ct2)
            clear hY hZ hYs hZs zy zz qy qz hw3 hgk ct1 ct2
            generalize (MS.take k).count X = c1 at *
            generalize (SS.take k).count X = c2 at *
            go_upto_region 17 with fail
            by_cases e1 : cmpM X Y = 0
            · by_cases e2 : cmpM X Z = 0
              · rw [e1] at CY
                rw [e2] at CZ
                have FN := Lib.hid (fun d => NX.out (c1 + 1) (c2 + 1) d (by rw [C12.out.1, if_pos e1]) (by rw [C12.out.2, if_pos e2]))
                clear C12 NX e1 e2
                go_wp2_with fail
                go_quiet ((go_at_call 20; exact CY.out _))
                have zx' : (wr.drewN nq).cell? ⟨g, i, none⟩ = some (.slice px X.length cx) := zx'
                have zz' : (wr.drewN nq).cell? ⟨g, k, none⟩ = some (.slice pz Z.length cz) := zz'
                have CZ := Lib.hid (CZ.out nq)
                have FN := Lib.hid (fun q => (World.drewN_drewN wr nq q) ▸ FN.out (nq + q))
                clear CY zy'
                generalize wr.drewN nq = W at *
                go_wp2_with fail
                go_quiet ((go_at_call 20; exact CZ.out _))
                go_wp2_with fail
                go_roundg (MS.length - (k + 1))
                case measure => have := GK.out; omega
                case rel => exact FN.out _
              · rw [e1] at CY
                have b2 : (cmpM X Z == 0) = false := by simpa using e2
                have FN := Lib.hid (fun d => NX.out (c1 + 1) (c2) d (by rw [C12.out.1, if_pos e1]) (by rw [C12.out.2, if_neg e2, Nat.add_zero]))
                clear C12 NX e1 e2
                generalize cmpM X Z = z2 at *
                go_wp2_with fail
                go_quiet ((go_at_call 20; exact CY.out _))
                have zx' : (wr.drewN nq).cell? ⟨g, i, none⟩ = some (.slice px X.length cx) := zx'
                have zz' : (wr.drewN nq).cell? ⟨g, k, none⟩ = some (.slice pz Z.length cz) := zz'
                have CZ := Lib.hid (CZ.out nq)
                have FN := Lib.hid (fun q => (World.drewN_drewN wr nq q) ▸ FN.out (nq + q))
                clear CY zy'
                generalize wr.drewN nq = W at *
                go_wp2_with fail
                go_quiet ((go_at_call 20; exact CZ.out _))
                go_wp2_with fail
                go_roundg (MS.length - (k + 1))
                case measure => have := GK.out; omega
                case rel => exact FN.out _
            · by_cases e2 : cmpM X Z = 0
              · have b1 : (cmpM X Y == 0) = false := by simpa using e1
                rw [e2] at CZ
                have FN := Lib.hid (fun d => NX.out (c1) (c2 + 1) d (by rw [C12.out.1, if_neg e1, Nat.add_zero]) (by rw [C12.out.2, if_pos e2]))
                clear C12 NX e1 e2
                generalize cmpM X Y = z1 at *
                go_wp2_with fail
                go_quiet ((go_at_call 20; exact CY.out _))
                have zx' : (wr.drewN nq).cell? ⟨g, i, none⟩ = some (.slice px X.length cx) := zx'
                have zz' : (wr.drewN nq).cell? ⟨g, k, none⟩ = some (.slice pz Z.length cz) := zz'
                have CZ := Lib.hid (CZ.out nq)
                have FN := Lib.hid (fun q => (World.drewN_drewN wr nq q) ▸ FN.out (nq + q))
                clear CY zy'
                generalize wr.drewN nq = W at *
                go_wp2_with fail
                go_quiet ((go_at_call 20; exact CZ.out _))
                go_wp2_with fail
                go_roundg (MS.length - (k + 1))
                case measure => have := GK.out; omega
                case rel => exact FN.out _
              · have b1 : (cmpM X Y == 0) = false := by simpa using e1
                have b2 : (cmpM X Z == 0) = false := by simpa using e2
                have FN := Lib.hid (fun d => NX.out (c1) (c2) d (by rw [C12.out.1, if_neg e1, Nat.add_zero]) (by rw [C12.out.2, if_neg e2, Nat.add_zero]))
                clear C12 NX e1 e2
                generalize cmpM X Y = z1 at *
                generalize cmpM X Z = z2 at *
                go_wp2_with fail
                go_quiet ((go_at_call 20; exact CY.out _))
                have zx' : (wr.drewN nq).cell? ⟨g, i, none⟩ = some (.slice px X.length cx) := zx'
                have zz' : (wr.drewN nq).cell? ⟨g, k, none⟩ = some (.slice pz Z.length cz) := zz'
                have CZ := Lib.hid (CZ.out nq)
                have FN := Lib.hid (fun q => (World.drewN_drewN wr nq q) ▸ FN.out (nq + q))
                clear CY zy'
                generalize wr.drewN nq = W at *
                go_wp2_with fail
                go_quiet ((go_at_call 20; exact CZ.out _))
                go_wp2_with fail
                go_roundg (MS.length - (k + 1))
                case measure => have := GK.out; omega
                case rel => exact FN.out _
          · have hkk : k = MS.length := by omega
            have hcc : (MS.take k).count X = (SS.take k).count X := by
              rw [List.take_of_length_le (by omega), List.take_of_length_le (by rw [XI.out.2]; omega)]
              exact (A.out.perm.count_eq X).symm
            rw [hcc]
            obtain ⟨Y, hY⟩ : ∃ Y, MS[i]? = some Y := ⟨_, List.getElem?_eq_getElem hil⟩
            have hYs := A.out.sm Y (List.mem_of_getElem? hY)
            obtain ⟨py, cy, zy, qy⟩ := A.out.m.at_ i Y hY
            obtain ⟨pz, cz, zz, qz⟩ := A.out.k.at_ i Y hY
            have had := A.out.m.ad.resolve_left (fun e => by rw [e] at hil; simp at hil)
            have had2 := A.out.k.ad.resolve_left (fun e => by rw [e] at hil; simp at hil)
            subst had
            subst had2
            have zy' : wr.cell? ⟨mb, mo + i, none⟩ = some (.slice py Y.length cy) := by rw [hw3]; exact zy
            have zz' : wr.cell? ⟨kb, ko + i, none⟩ = some (.slice pz Y.length cz) := by rw [hw3]; exact zz
            have CY := Lib.hid (fun dd => (show Calls Try.prog 20 #[.slice py Y.length cy, .slice pz Y.length cz] (wr.drewN dd) (fun e w' => e = Ending.returned (.int .i64 0) ∧ ∃ q, w' = wr.drewN q) from by
              rw [hw3, ← (cmpM_zero (X := Y) (Y := Y)).2 rfl]
              exact cmp_q qy qz hYs hYs d3 dd))
            have h12 := A.out.len
            have cb2 : (SS.take k).count X ≤ 12 := Nat.le_trans List.count_le_length (by rw [List.length_take]; omega)
            have NX := Lib.hid (fun d => show SoI w w4 MS.length (MS.length - (i + 1)) (.int .i64 ((i + 1 : Nat) : Int)) (wr.drewN d) from ⟨i + 1, d3 + d, rfl, by omega, rfl, by rw [hw3, World.drewN_drewN]⟩)
            have t2 : decide ((k : Int) < (MS.length : Int)) = false := by simp; omega
            clear hkk hcc hY hYs zy zz qy qz hw3 hgk
            generalize (SS.take k).count X = c2 at *
            go_wp2_with fail
            go_quiet ((go_at_call 20; exact CY.out _))
            go_wp2_with fail
            go_roundg (MS.length - (i + 1))
            case measure => have := G.out; omega
            case rel => exact NX.out _
    · have F := Lib.hid (show Below w.heap.size w wr from by rw [hw]; exact (T4.out.drewN d).below (fun k hk => ⟨hk, id⟩))
      have t1 : decide ((i : Int) < (MS.length : Int)) = false := by simp; omega
      clear hw hg
      go_wp2
      go_ret
      exact ⟨rfl, F.out⟩
end Go.Proofs.Ytibmimdlgbhdnaa
