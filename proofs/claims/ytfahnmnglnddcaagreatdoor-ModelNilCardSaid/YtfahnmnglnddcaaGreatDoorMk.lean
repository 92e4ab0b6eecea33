/-
  Whether what was refused might be.
-/
import Derived.Test.YtfahnmnglnddcaaGreatDoorMj
import Derived.Shelf.Abstract
import Derived.Test.YtfahnmnglnddcaaGreatDoorMe
import Derived.Test.YtfahnmnglnddcaaGreatDoorMi
namespace Go.Proofs.YtfahnmnglnddcaaGreatDoor
open Go.ChangeShapes Go.WideShapes Go.ChangeAt Go.RowKit Go.Shelf
set_option linter.unusedVariables false
theorem st_func {P : Program} {w : World} {a : Addr} {m : Mode} (fn : Fn) (first captured : Array Value) : (store a (.func fn first captured) m).run P w = stored P w a (.func fn first captured) m := run_store P w a _ m rfl
attribute [local go_sem] st_func
theorem ent22 : ∀ args w, (callFunc 22 args).run Tryz.prog w = .ok (.enter 22 args) w := enters_of Tryz.func22 (by kernel_rfl) rfl
theorem ent50 : ∀ args w, (callFunc 50 args).run Tryz.prog w = .ok (.enter 50 args) w := enters_of Tryz.func50 (by kernel_rfl) rfl
theorem ent51 : ∀ args w, (callFunc 51 args).run Tryz.prog w = .ok (.enter 51 args) w := enters_of Tryz.func51 (by kernel_rfl) rfl
set_option maxRecDepth 100000 in
theorem ahead_one (w : World) {b g : Nat} {e : Int} (f : Nat) (yes : Bool) (ent : ∀ args w, (callFunc f args).run Tryz.prog w = .ok (.enter f args) w) (hf : ∀ w, Calls Tryz.prog f #[dnV e] w fun x w' => x = .returned (.bool yes) ∧ Turn (fun _ => False) w w')
    (hb : w.cell? ⟨b, 0, none⟩ = some (.slice (some ⟨g, 0, none⟩) 1 1)) (hR : w.rangeAt g 0 (dn e)) :
    Calls Tryz.prog 48 #[.func (.func f) #[] #[], .pointer (some ⟨b, 0, none⟩)] w fun x w' => (∃ p, x = .returned (.func (.func 84) #[] #[.pointer (some p)])) ∧ Turn (fun _ => False) w w' := by
  have TH := Lib.hid (those_one f yes e ent hf w hR)
  have B1 := Lib.hid (fun (w : World) g c (h : w.rangeAt g 0 (dn e)) => begun_one w (c := c) h)
  have B0 := Lib.hid begun_none
  clear hR hf ent
  go_enter Tryz.func48, Tryz.ntmps48
  go_wp2_with fail
  with_reducible refine TH.out.mono ?_
  rintro x w1 ⟨T1, v, rfl, ⟨rfl, ho⟩ | ⟨rfl, rfl⟩⟩
  · obtain ⟨a, c, rfl, hg⟩ := own_slice ho
    obtain ⟨g2, rfl⟩ := hg (by omega)
    have R1 : w1.rangeAt g2 0 (dn e) := fun k u hu => by
      have hk := (List.getElem?_eq_some_iff.1 hu).1
      rw [Nat.zero_add]
      exact (ho.cellAt k (by simpa [dn] using hk)).trans hu
    have B := Lib.hid (B1.out w1 g2 c R1)
    have TT := Lib.hid T1
    clear ho hg R1 T1 B1 B0
    go_wp2_with fail
    with_reducible refine B.out.mono ?_
    rintro x w2 ⟨⟨p, rfl⟩, T2⟩
    have F := Lib.hid (TT.out.trans T2)
    clear T2
    go_wp2_with fail
    go_ret
    exact ⟨⟨p, rfl⟩, F.out⟩
  · have B := Lib.hid (B0.out w1 0)
    have TT := Lib.hid T1
    clear T1 B1 B0
    go_wp2_with fail
    with_reducible refine B.out.mono ?_
    rintro x w2 ⟨⟨p, rfl⟩, T2⟩
    have F := Lib.hid (TT.out.trans T2)
    clear T2
    go_wp2_with fail
    go_ret
    exact ⟨⟨p, rfl⟩, F.out⟩
set_option maxRecDepth 100000 in
theorem ahead_none (w : World) {b : Nat} (f : Value) (hb : w.cell? ⟨b, 0, none⟩ = some (.slice none 0 0)) :
    Calls Tryz.prog 48 #[f, .pointer (some ⟨b, 0, none⟩)] w fun x w' => (∃ p, x = .returned (.func (.func 84) #[] #[.pointer (some p)])) ∧ Turn (fun _ => False) w w' := by
  have TN := Lib.hid (those_nil f w)
  have B0 := Lib.hid begun_none
  go_enter Tryz.func48, Tryz.ntmps48
  go_wp2_with fail
  with_reducible refine TN.out.mono ?_
  rintro x w1 ⟨rfl, rfl⟩
  go_wp2_with fail
  with_reducible refine (B0.out _ _).mono ?_
  rintro x w2 ⟨⟨p, rfl⟩, T2⟩
  have F := Lib.hid T2
  clear T2
  go_wp2_with fail
  go_ret
  exact ⟨⟨p, rfl⟩, F.out⟩
set_option maxRecDepth 100000 in
set_option maxHeartbeats 4000000 in
theorem refused_none (w : World) (sh ib sl qu ru ou st : Int) : Calls Tryz.prog 29 #[.agg (cfg sh ib sl qu ru ou st).toArray, .slice none 0 0] w fun x w' => x = .returned (.bool true) ∧ Turn (fun _ => False) w w' := by
  have AN := Lib.hid (fun (w : World) b f (hb : w.cell? ⟨b, 0, none⟩ = some (.slice none 0 0)) => ahead_none w f hb)
  obtain ⟨W1, hW1⟩ : ∃ W, W = w.alloc (.cells (cfg sh ib sl qu ru ou st).toArray 23) := ⟨_, rfl⟩
  obtain ⟨W, hW⟩ : ∃ W, W = W1.alloc (.cells [.slice none 0 0].toArray 71) := ⟨_, rfl⟩
  have z1 : W1.heap.size = w.heap.size + 1 := by rw [hW1]; simp
  have T1 : Turn (fun _ => False) w W1 := by rw [hW1]; exact (Turn.refl _ w).alloc _
  have T2 : Turn (fun _ => False) W1 W := by rw [hW]; exact (Turn.refl _ _).alloc _
  have R := range_new W1 [.slice none 0 0] 71
  rw [← hW, z1] at R
  have y0 : W.cell? ⟨w.heap.size + 1, 0, none⟩ = some (.slice none 0 0) := R 0 _ rfl
  have HH := Lib.hid (And.intro (T1.trans T2) y0)
  have HW := Lib.hid (show W = (w.alloc (.cells #[.int .i64 sh, .int .i64 ib, .int .i64 sl, .int .i64 qu, .int .i64 ru, .int .i64 ou, .int .i64 st] 23)).alloc (.cells #[.slice none 0 0] 71) by rw [hW, hW1]; rfl)
  clear T1 T2 R z1 hW hW1
  unfold cfg
  go_enter Tryz.func29, Tryz.ntmps29
  go_upto_region 2 with fail
  rw [← HW.out]
  go_wp2_with fail
  with_reducible refine (AN.out _ _ _ y0).mono ?_
  rintro x v1 ⟨⟨p1, rfl⟩, T1⟩
  have H1 := Lib.hid ((HH.out.1).trans (T1.trans (show Turn (fun _ => False) v1 (v1.alloc (.cells #[.func (.func 84) #[] #[.pointer (some p1)]] 37)) from (Turn.refl _ _).alloc _)))
  have q1 := (T1.trans (show Turn (fun _ => False) v1 (v1.alloc (.cells #[.func (.func 84) #[] #[.pointer (some p1)]] 37)) from (Turn.refl _ _).alloc _)).cell id y0
  clear T1
  go_wp2_with fail
  with_reducible refine (AN.out _ _ _ q1).mono ?_
  rintro x v2 ⟨⟨p2, rfl⟩, T2⟩
  have H2 := Lib.hid ((H1.out).trans (T2.trans (show Turn (fun _ => False) v2 (v2.alloc (.cells #[.func (.func 84) #[] #[.pointer (some p2)]] 37)) from (Turn.refl _ _).alloc _)))
  have q2 := (T2.trans (show Turn (fun _ => False) v2 (v2.alloc (.cells #[.func (.func 84) #[] #[.pointer (some p2)]] 37)) from (Turn.refl _ _).alloc _)).cell id q1
  clear T2
  go_wp2_with fail
  with_reducible refine (AN.out _ _ _ q2).mono ?_
  rintro x v3 ⟨⟨p3, rfl⟩, T3⟩
  have H3 := Lib.hid ((H2.out).trans (T3.trans (show Turn (fun _ => False) v3 (v3.alloc (.cells #[.func (.func 84) #[] #[.pointer (some p3)]] 37)) from (Turn.refl _ _).alloc _)))
  have q3 := (T3.trans (show Turn (fun _ => False) v3 (v3.alloc (.cells #[.func (.func 84) #[] #[.pointer (some p3)]] 37)) from (Turn.refl _ _).alloc _)).cell id q2
  clear T3
  go_wp2_with fail
  go_loopw [24] (fun v24 wr => v24 = .int .i64 0 ∧ Turn (fun _ => False) w wr) (fun _ _ => 0)
  case atStart => exact ⟨rfl, H3.out⟩
  case round =>
    obtain ⟨rfl, T⟩ := hrel
    have F := Lib.hid T
    clear T
    go_wp2_with fail
    go_ret
    exact ⟨rfl, F.out⟩
set_option maxRecDepth 100000 in
set_option maxHeartbeats 4000000 in
theorem refused_one (w : World) (sh ib sl qu ru ou st : Int) {g : Nat} {e : Int} (hR : w.rangeAt g 0 (dn e)) : Calls Tryz.prog 29 #[.agg (cfg sh ib sl qu ru ou st).toArray, .slice (some ⟨g, 0, none⟩) 1 1] w fun x w' => x = .returned (.bool true) ∧ Turn (fun _ => False) w w' := by
  have A1 := Lib.hid (fun (w : World) b (hb : w.cell? ⟨b, 0, none⟩ = some (.slice (some ⟨g, 0, none⟩) 1 1)) (hR : w.rangeAt g 0 (dn e)) => ahead_one w 22 true ent22 (fun w => stamp_is w e) hb hR)
  have A2 := Lib.hid (fun (w : World) b (hb : w.cell? ⟨b, 0, none⟩ = some (.slice (some ⟨g, 0, none⟩) 1 1)) (hR : w.rangeAt g 0 (dn e)) => ahead_one w 50 false ent50 (fun w => clo_is w e) hb hR)
  have A3 := Lib.hid (fun (w : World) b (hb : w.cell? ⟨b, 0, none⟩ = some (.slice (some ⟨g, 0, none⟩) 1 1)) (hR : w.rangeAt g 0 (dn e)) => ahead_one w 51 false ent51 (fun w => pub_is w e) hb hR)
  have HR := Lib.hid hR
  have HS := Lib.hid (fun w => stamp_is w e)
  clear hR
  obtain ⟨W1, hW1⟩ : ∃ W, W = w.alloc (.cells (cfg sh ib sl qu ru ou st).toArray 23) := ⟨_, rfl⟩
  obtain ⟨W, hW⟩ : ∃ W, W = W1.alloc (.cells [.slice (some ⟨g, 0, none⟩) 1 1].toArray 71) := ⟨_, rfl⟩
  have z1 : W1.heap.size = w.heap.size + 1 := by rw [hW1]; simp
  have T1 : Turn (fun _ => False) w W1 := by rw [hW1]; exact (Turn.refl _ w).alloc _
  have T2 : Turn (fun _ => False) W1 W := by rw [hW]; exact (Turn.refl _ _).alloc _
  have R := range_new W1 [.slice (some ⟨g, 0, none⟩) 1 1] 71
  rw [← hW, z1] at R
  have y0 : W.cell? ⟨w.heap.size + 1, 0, none⟩ = some (.slice (some ⟨g, 0, none⟩) 1 1) := R 0 _ rfl
  have HH := Lib.hid (And.intro (T1.trans T2) y0)
  have HW := Lib.hid (show W = (w.alloc (.cells #[.int .i64 sh, .int .i64 ib, .int .i64 sl, .int .i64 qu, .int .i64 ru, .int .i64 ou, .int .i64 st] 23)).alloc (.cells #[.slice (some ⟨g, 0, none⟩) 1 1] 71) by rw [hW, hW1]; rfl)
  clear T1 T2 R z1 hW hW1
  unfold cfg
  go_enter Tryz.func29, Tryz.ntmps29
  go_upto_region 2 with fail
  rw [← HW.out]
  go_wp2_with fail
  with_reducible refine (A1.out _ _ y0 (range_turn HR.out (HH.out.1) id)).mono ?_
  rintro x v1 ⟨⟨p1, rfl⟩, T1⟩
  have H1 := Lib.hid ((HH.out.1).trans (T1.trans (show Turn (fun _ => False) v1 (v1.alloc (.cells #[.func (.func 84) #[] #[.pointer (some p1)]] 37)) from (Turn.refl _ _).alloc _)))
  have q1 := (T1.trans (show Turn (fun _ => False) v1 (v1.alloc (.cells #[.func (.func 84) #[] #[.pointer (some p1)]] 37)) from (Turn.refl _ _).alloc _)).cell id y0
  clear T1
  go_wp2_with fail
  with_reducible refine (A2.out _ _ q1 (range_turn HR.out (H1.out) id)).mono ?_
  rintro x v2 ⟨⟨p2, rfl⟩, T2⟩
  have H2 := Lib.hid ((H1.out).trans (T2.trans (show Turn (fun _ => False) v2 (v2.alloc (.cells #[.func (.func 84) #[] #[.pointer (some p2)]] 37)) from (Turn.refl _ _).alloc _)))
  have q2 := (T2.trans (show Turn (fun _ => False) v2 (v2.alloc (.cells #[.func (.func 84) #[] #[.pointer (some p2)]] 37)) from (Turn.refl _ _).alloc _)).cell id q1
  clear T2
  go_wp2_with fail
  with_reducible refine (A3.out _ _ q2 (range_turn HR.out (H2.out) id)).mono ?_
  rintro x v3 ⟨⟨p3, rfl⟩, T3⟩
  have H3 := Lib.hid ((H2.out).trans (T3.trans (show Turn (fun _ => False) v3 (v3.alloc (.cells #[.func (.func 84) #[] #[.pointer (some p3)]] 37)) from (Turn.refl _ _).alloc _)))
  have q3 := (T3.trans (show Turn (fun _ => False) v3 (v3.alloc (.cells #[.func (.func 84) #[] #[.pointer (some p3)]] 37)) from (Turn.refl _ _).alloc _)).cell id q2
  clear T3
  go_wp2_with fail
  go_loopw [24] (fun v24 wr => (v24 = .int .i64 0 ∨ v24 = .int .i64 1) ∧ Turn (fun _ => False) w wr) (fun v24 _ => 2 - (intOf v24).toNat)
  case atStart => exact ⟨.inl rfl, H3.out⟩
  case round =>
    obtain ⟨rfl | rfl, T⟩ := hrel
    · have R0 := Lib.hid (range_turn HR.out T id)
      obtain ⟨W2, hW2, R2, T2, B2, TH⟩ := var_new wr e
      have HW2 := Lib.hid hW2
      have HT := Lib.hid TH
      have HR2 := Lib.hid R2
      have H2' := Lib.hid (T.trans T2)
      have S2 := Lib.hid (HS.out W2)
      clear T hW2 R2 T2 B2 TH
      go_upto_region 9 with (first
        | ((with_reducible show wpList _ _ _ ({ dst := some 27, op := Op.load 49 _, type := _, pos := _, after := _, guard := _ } :: _) _ _); refine wpList_load_mid rfl 49 _ rfl g 0 rfl _ _ R0.out Tryz.underlying49 rfl size49 ?_)
        | ((with_reducible show wpList _ _ _ ({ dst := none, op := Op.store 49 _ _, type := _, pos := _, after := _, guard := _ } :: _) _ _); refine wpList_store_mid rfl 49 _ _ rfl wr.heap.size 0 (dn e).toArray rfl rfl HT.out size49 (dn_one e) ?_))
      rw [← (show W2 = (wr.alloc (.cells #[.int .i64 0, .int .i64 0, .int .i64 0, .int .i64 0, .int .i64 0, .int .i64 0, .int .i64 0, .int .i64 0, .int .i64 0, .int .i64 0, .int .i64 0, .int .i64 0, .string ⟨#[]⟩, .int .i64 0, .int .i64 0, .int .i64 0, .int .i64 0, .slice none 0 0] 49)).setCells wr.heap.size 0 (dn e).toArray.toList from HW2.out)]
      go_wp2_with ((with_reducible show wpList _ _ _ ({ dst := some 28, op := Op.load 49 _, type := _, pos := _, after := _, guard := _ } :: _) _ _); refine wpList_load_mid rfl 49 _ rfl wr.heap.size 0 rfl _ _ HR2.out Tryz.underlying49 rfl size49 ?_)
      with_reducible refine S2.out.mono ?_
      rintro x w3 ⟨rfl, T3⟩
      have F := Lib.hid (H2'.out.trans T3)
      clear T3
      go_wp2_with fail
      exact ⟨⟨.inr rfl, F.out⟩, by simp [intOf]⟩
    · have F := Lib.hid T
      clear T
      go_wp2_with fail
      go_ret
      exact ⟨rfl, F.out⟩
end Go.Proofs.YtfahnmnglnddcaaGreatDoor
