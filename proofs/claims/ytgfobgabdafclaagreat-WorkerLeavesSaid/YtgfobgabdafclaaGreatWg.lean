/-
  A worker's other steps, for commands that ask nothing of its shard.
-/
import Derived.Test.YtgfobgabdafclaaGreatWf
namespace Go.Proofs.YtgfobgabdafclaaGreat
open Go.ChangeShapes Go.WideShapes Go.ChangeAt Go.RowKit
set_option linter.unusedVariables false
section
variable {w w' : World} {B : LB} {c : Cf} {s : LSt} {el xb sb hb i f : Nat} {now st last : Int} {P : Nat → Int} {calm left : Bool} {p q : Int × Int}
set_option maxRecDepth 100000 in
theorem WS.pick_hold (Z : WS w B c s el now P xb sb hb i f calm left st p last) :
    Calls Tryz.prog 221 #[.pointer (some ⟨xb, 0, none⟩)] w fun e w' => e = .returned (.tuple #[]) ∧ WS w' B c s el now P xb sb hb i 251 calm left st p last ∧ Turn (WOwn B c el xb sb hb) w w' := by
  have FU := Lib.hid Z.H.full_is
  have x26 := Z.X.x26
  have x3 := Z.X.x3
  have y4 := Z.X.x4
  have fz := Z.X.b.fz
  have sf := store_func (f := 251) (x := xb) y4 (fz 4)
  have FIN := Lib.hid (Z.next 251)
  clear Z
  go_enter Tryz.func221, Tryz.ntmps221
  go_wp2_with fail
  with_reducible refine FU.out.mono ?_
  rintro e w1 ⟨rfl, rfl⟩
  go_wp2_with fail
  exact bodyPost_end (by simp [results, Tryz.results221]) rfl ⟨rfl, FIN.out⟩
set_option maxRecDepth 100000 in
theorem WS.rest_is (Z : WS w B c s el now P xb sb hb i f calm left st p last) :
    Calls Tryz.prog 65 #[.pointer (some ⟨xb, 0, none⟩)] w fun e w' => e = .returned (.tuple #[]) ∧ WS w' B c s el now P xb sb hb i 117 true left st p last ∧ Turn (WOwn B c el xb sb hb) w w' := by
  have Z1 := Z.next 117
  have Z2 := Z1.1.calms true
  have y4 := Z.X.x4
  have fz := Z.X.b.fz
  have sf := store_func (f := 117) (x := xb) y4 (fz 4)
  have y5 := Z1.1.X.x5
  have fz1 := Z1.1.X.b.fz
  have FIN := Lib.hid (And.intro Z2.1 (Z1.2.trans Z2.2))
  clear Z Z1 Z2
  go_enter Tryz.func65, Tryz.ntmps65
  go_wp2_with fail
  exact bodyPost_end (by simp [results, Tryz.results65]) rfl ⟨rfl, FIN.out⟩
set_option maxRecDepth 100000 in
theorem WS.free_rest (Z : WS w B c s el now P xb sb hb i f calm left st p last) (hk : p.1 ≠ 5) :
    Calls Tryz.prog 294 #[.pointer (some ⟨xb, 0, none⟩)] w fun e w' => e = .returned (.tuple #[]) ∧ WS w' B c s el now P xb sb hb i 117 true left st p last ∧ Turn (WOwn B c el xb sb hb) w w' := by
  have FU := Lib.hid Z.H.full_is
  have x3 := Z.X.x3
  have x8 : w.cell? ⟨xb, 8, none⟩ = some (.int .i64 p.1) := Z.X.x8 0 _ rfl
  have RS := Lib.hid Z.rest_is
  have t5 : (p.1 == 5) = false := by simpa using hk
  clear Z hk
  go_enter Tryz.func294, Tryz.ntmps294
  go_wp2_with fail
  with_reducible refine FU.out.mono ?_
  rintro e w1 ⟨rfl, rfl⟩
  go_wp2_with fail
  with_reducible refine RS.out.mono ?_
  rintro e w1 ⟨rfl, Z1, T1⟩
  have FIN := Lib.hid (And.intro Z1 T1)
  clear Z1 T1
  go_wp2_with fail
  exact bodyPost_end (by simp [results, Tryz.results294]) rfl ⟨rfl, FIN.out⟩
set_option maxRecDepth 100000 in
theorem WS.free_leave (Z : WS w B c s el now P xb sb hb i f calm left st p last) (hk : p.1 = 5) :
    Calls Tryz.prog 294 #[.pointer (some ⟨xb, 0, none⟩)] w fun e w' => e = .returned (.tuple #[]) ∧ WS w' B c s el now P xb sb hb i 297 calm left st p last ∧ Turn (WOwn B c el xb sb hb) w w' := by
  have FU := Lib.hid Z.H.full_is
  have x3 := Z.X.x3
  have x8 : w.cell? ⟨xb, 8, none⟩ = some (.int .i64 5) := by have := Z.X.x8 0 _ rfl; rw [hk] at this; exact this
  have y4 := Z.X.x4
  have fz := Z.X.b.fz
  have sf := store_func (f := 297) (x := xb) y4 (fz 4)
  have FIN := Lib.hid (Z.next 297)
  clear Z hk
  go_enter Tryz.func294, Tryz.ntmps294
  go_wp2_with fail
  with_reducible refine FU.out.mono ?_
  rintro e w1 ⟨rfl, rfl⟩
  go_wp2_with fail
  exact bodyPost_end (by simp [results, Tryz.results294]) rfl ⟨rfl, FIN.out⟩
theorem WS.onEH (h : WS w B c s el now P xb sb hb i f calm left st p last) {now' : Int} {P' : Nat → Int} (E : EpA w' B.ep el (c.sh + 1) now' P') (H : HnAt w' hb B.sp B.ep i) (T : Turn (fun k => (k = B.ep ∨ k = el) ∨ k = hb) w w') : WS w' B c s el now' P' xb sb hb i f calm left st p last := by
  have N : ∀ {b : Nat} {t : TypeId}, Blk w b t → t ≠ 213 → t ≠ 372 → t ≠ 223 → ¬ ((b = B.ep ∨ b = el) ∨ b = hb) := fun hb h1 h2 h3 e => e.elim (fun e => e.elim (hb.ne h.E.b1 h1) (hb.ne h.E.b2 h2)) (hb.ne h.H.b h3)
  have M : ∀ b, B.foot c.sh b → ¬ ((b = B.ep ∨ b = el) ∨ b = hb) := fun b hf e => e.elim (fun e => e.elim
      (fun e => h.L.foot_ne h.E.b1 (by decide) (by decide) (by decide) (by decide) (by decide) (by decide) (by rw [← e]; exact hf))
      (fun e => h.L.foot_ne h.E.b2 (by decide) (by decide) (by decide) (by decide) (by decide) (by decide) (by rw [← e]; exact hf)))
      (fun e => h.L.foot_ne h.H.b (by decide) (by decide) (by decide) (by decide) (by decide) (by decide) (by rw [← e]; exact hf))
  exact ⟨h.L.turn T M (fun b hb => N hb (by decide) (by decide) (by decide)), E, h.S.turn T (N h.S.b (by decide) (by decide) (by decide)), H, h.X.turn T (N h.X.b (by decide) (by decide) (by decide))⟩
set_option maxRecDepth 100000 in
theorem WS.ripen_rest (Z : WS w B c s el now P xb sb hb i 290 calm left st p last) (hi : i < c.sh + 1) (hk : p.1 ≠ 5) :
    Calls Tryz.prog 290 #[.pointer (some ⟨xb, 0, none⟩)] w (WPost w B c s el now P xb sb hb i 117 true left st p last) := by
  have RI := Lib.hid (Z.H.ripen_is Z.E hi)
  have x3 := Z.X.x3
  have HZ := Lib.hid Z
  clear Z
  go_enter Tryz.func290, Tryz.ntmps290
  go_wp2_with fail
  with_reducible refine RI.out.mono ?_
  rintro e w1 ⟨rfl, E1, H1, T1⟩
  have Z1 : WS w1 B c s el now P xb sb hb i 290 calm left st p last := HZ.out.onEH E1 H1 T1
  have FR := Lib.hid (Z1.free_rest hk)
  have T01 := Lib.hid (T1.more (S' := WOwn B c el xb sb hb) (fun _ _ e => e.elim (fun e => own_e e) (fun e => own_h e)))
  clear Z1 E1 H1 T1 RI HZ
  go_wp2_with fail
  with_reducible refine FR.out.mono ?_
  rintro e w2 ⟨rfl, Z2, T2⟩
  have FIN := Lib.hid (show WPost w B c s el now P xb sb hb i 117 true left st p last (.returned (.bool true)) w2 from ⟨rfl, Z2, T01.out.trans T2⟩)
  clear Z2 T2 FR
  go_wp2_with fail
  go_ret
  exact FIN.out
set_option maxRecDepth 100000 in
theorem WS.ripen_leave (Z : WS w B c s el now P xb sb hb i 290 calm left st p last) (hi : i < c.sh + 1) (hk : p.1 = 5) :
    Calls Tryz.prog 290 #[.pointer (some ⟨xb, 0, none⟩)] w (WPost w B c s el now P xb sb hb i 297 calm left st p last) := by
  have RI := Lib.hid (Z.H.ripen_is Z.E hi)
  have x3 := Z.X.x3
  have HZ := Lib.hid Z
  clear Z
  go_enter Tryz.func290, Tryz.ntmps290
  go_wp2_with fail
  with_reducible refine RI.out.mono ?_
  rintro e w1 ⟨rfl, E1, H1, T1⟩
  have Z1 : WS w1 B c s el now P xb sb hb i 290 calm left st p last := HZ.out.onEH E1 H1 T1
  have FR := Lib.hid (Z1.free_leave hk)
  have T01 := Lib.hid (T1.more (S' := WOwn B c el xb sb hb) (fun _ _ e => e.elim (fun e => own_e e) (fun e => own_h e)))
  clear Z1 E1 H1 T1 RI HZ
  go_wp2_with fail
  with_reducible refine FR.out.mono ?_
  rintro e w2 ⟨rfl, Z2, T2⟩
  have FIN := Lib.hid (show WPost w B c s el now P xb sb hb i 297 calm left st p last (.returned (.bool true)) w2 from ⟨rfl, Z2, T01.out.trans T2⟩)
  clear Z2 T2 FR
  go_wp2_with fail
  go_ret
  exact FIN.out
end
end Go.Proofs.YtgfobgabdafclaaGreat
