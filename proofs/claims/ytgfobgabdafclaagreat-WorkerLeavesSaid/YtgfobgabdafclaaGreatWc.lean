/-
  A worker in memory; its steps.
-/
import Derived.Test.YtgfobgabdafclaaGreatWb
namespace Go.Proofs.YtgfobgabdafclaaGreat
open Go.ChangeShapes Go.WideShapes Go.ChangeAt Go.RowKit
set_option linter.unusedVariables false
/-- A worker at block xb, whose next step is function f. -/
structure WkAt (w : World) (xb lb sb hb i : Nat) (f : Nat) (calm left : Bool) (st : Int) (p : Int × Int) : Prop where
  b : Blk w xb 141
  x0 : w.cell? ⟨xb, 0, none⟩ = some (.pointer (some ⟨lb, 0, none⟩))
  x1 : w.cell? ⟨xb, 1, none⟩ = some (.int .i64 (i : Int))
  x2 : w.cell? ⟨xb, 2, none⟩ = some (.pointer (some ⟨sb, 0, none⟩))
  x3 : w.cell? ⟨xb, 3, none⟩ = some (.pointer (some ⟨hb, 0, none⟩))
  x4 : w.cell? ⟨xb, 4, none⟩ = some (.func (.func f) #[.pointer (some ⟨xb, 0, none⟩)] #[])
  x5 : w.cell? ⟨xb, 5, none⟩ = some (.bool calm)
  x6 : w.cell? ⟨xb, 6, none⟩ = some (.bool left)
  x7 : w.cell? ⟨xb, 7, none⟩ = some (.int .i64 st)
  x8 : w.rangeAt xb 8 (cmdL p)
  x22 : w.rangeAt xb 22 zout
  x26 : w.cell? ⟨xb, 26, none⟩ = some (.slice none 0 0)
section
variable {w w' : World} {xb lb sb hb i f : Nat} {calm left : Bool} {st : Int} {p : Int × Int}
theorem WkAt.turn {S : Nat → Prop} (h : WkAt w xb lb sb hb i f calm left st p) (T : Turn S w w') (hs : ¬ S xb) : WkAt w' xb lb sb hb i f calm left st p :=
  ⟨h.b.turn T hs, T.cell hs h.x0, T.cell hs h.x1, T.cell hs h.x2, T.cell hs h.x3, T.cell hs h.x4, T.cell hs h.x5, T.cell hs h.x6, T.cell hs h.x7, range_turn h.x8 T hs, range_turn h.x22 T hs, T.cell hs h.x26⟩
theorem range_off {w : World} {b o k : Nat} {l : List Value} {v : Value} (h : w.rangeAt b o l) (hk : k < o ∨ o + l.length ≤ k) : (w.setCell ⟨b, k, none⟩ v).rangeAt b o l := fun j u hu => by
  have hj := (List.getElem?_eq_some_iff.1 hu).1
  exact (cell_off _ _ _ _ _ (by omega)).trans (h j u hu)
theorem WkAt.setF (h : WkAt w xb lb sb hb i f calm left st p) (f' : Nat) : WkAt (w.setCell ⟨xb, 4, none⟩ (.func (.func f') #[.pointer (some ⟨xb, 0, none⟩)] #[])) xb lb sb hb i f' calm left st p :=
  ⟨h.b.set _ _, (cell_off _ _ _ _ _ (by decide)).trans h.x0, (cell_off _ _ _ _ _ (by decide)).trans h.x1, (cell_off _ _ _ _ _ (by decide)).trans h.x2, (cell_off _ _ _ _ _ (by decide)).trans h.x3, World.cell?_setCell_same _ _ _ h.x4,
   (cell_off _ _ _ _ _ (by decide)).trans h.x5, (cell_off _ _ _ _ _ (by decide)).trans h.x6, (cell_off _ _ _ _ _ (by decide)).trans h.x7, range_off h.x8 (.inl (by decide)), range_off h.x22 (.inl (by decide)), (cell_off _ _ _ _ _ (by decide)).trans h.x26⟩
theorem WkAt.setCalm (h : WkAt w xb lb sb hb i f calm left st p) (v : Bool) : WkAt (w.setCell ⟨xb, 5, none⟩ (.bool v)) xb lb sb hb i f v left st p :=
  ⟨h.b.set _ _, (cell_off _ _ _ _ _ (by decide)).trans h.x0, (cell_off _ _ _ _ _ (by decide)).trans h.x1, (cell_off _ _ _ _ _ (by decide)).trans h.x2, (cell_off _ _ _ _ _ (by decide)).trans h.x3, (cell_off _ _ _ _ _ (by decide)).trans h.x4, World.cell?_setCell_same _ _ _ h.x5,
   (cell_off _ _ _ _ _ (by decide)).trans h.x6, (cell_off _ _ _ _ _ (by decide)).trans h.x7, range_off h.x8 (.inl (by decide)), range_off h.x22 (.inl (by decide)), (cell_off _ _ _ _ _ (by decide)).trans h.x26⟩
theorem WkAt.setLeft (h : WkAt w xb lb sb hb i f calm left st p) (v : Bool) : WkAt (w.setCell ⟨xb, 6, none⟩ (.bool v)) xb lb sb hb i f calm v st p :=
  ⟨h.b.set _ _, (cell_off _ _ _ _ _ (by decide)).trans h.x0, (cell_off _ _ _ _ _ (by decide)).trans h.x1, (cell_off _ _ _ _ _ (by decide)).trans h.x2, (cell_off _ _ _ _ _ (by decide)).trans h.x3, (cell_off _ _ _ _ _ (by decide)).trans h.x4, (cell_off _ _ _ _ _ (by decide)).trans h.x5, World.cell?_setCell_same _ _ _ h.x6,
   (cell_off _ _ _ _ _ (by decide)).trans h.x7, range_off h.x8 (.inl (by decide)), range_off h.x22 (.inl (by decide)), (cell_off _ _ _ _ _ (by decide)).trans h.x26⟩
theorem WkAt.setSt (h : WkAt w xb lb sb hb i f calm left st p) (v : Int) : WkAt (w.setCell ⟨xb, 7, none⟩ (.int .i64 v)) xb lb sb hb i f calm left v p :=
  ⟨h.b.set _ _, (cell_off _ _ _ _ _ (by decide)).trans h.x0, (cell_off _ _ _ _ _ (by decide)).trans h.x1, (cell_off _ _ _ _ _ (by decide)).trans h.x2, (cell_off _ _ _ _ _ (by decide)).trans h.x3, (cell_off _ _ _ _ _ (by decide)).trans h.x4, (cell_off _ _ _ _ _ (by decide)).trans h.x5, (cell_off _ _ _ _ _ (by decide)).trans h.x6,
   World.cell?_setCell_same _ _ _ h.x7, range_off h.x8 (.inl (by decide)), range_off h.x22 (.inl (by decide)), (cell_off _ _ _ _ _ (by decide)).trans h.x26⟩
/-- A run of cells written does not touch what lies ahead of it or behind. -/
theorem cells_off {b o k : Nat} : ∀ {l : List Value} {o : Nat} {w : World} {v : Value}, (k < o ∨ o + l.length ≤ k) → w.cell? ⟨b, k, none⟩ = some v → (w.setCells b o l).cell? ⟨b, k, none⟩ = some v
  | [], _, _, _, _, h => h
  | x :: l, o, w, v, hk, h => cells_off (l := l) (o := o + 1) (by simp at hk; omega) ((cell_off _ _ _ _ _ (by simp at hk; omega)).trans h)
theorem range_offs {w : World} {b o o' : Nat} {l l' : List Value} (h : w.rangeAt b o l) (hk : o + l.length ≤ o' ∨ o' + l'.length ≤ o) : (w.setCells b o' l').rangeAt b o l := fun j u hu => by
  have hj := (List.getElem?_eq_some_iff.1 hu).1
  exact cells_off (o := 0) (by omega) (h j u hu)
theorem store_func {w : World} {b k f x : Nat} {old : Value} (hc : w.cell? ⟨b, k, none⟩ = some old) (hf : w.frozen? ⟨b, k, none⟩ = false) :
    Sem.run Tryz.prog (store ⟨b, k, none⟩ (.func (.func f) #[.pointer (some ⟨x, 0, none⟩)] #[])) w = .ok () (w.setCell ⟨b, k, none⟩ (.func (.func f) #[.pointer (some ⟨x, 0, none⟩)] #[])) := by
  rw [run_store Tryz.prog _ _ _ _ (by rfl), hc]
  simp [hf]
theorem cmdL_len (p : Int × Int) : (cmdL p).length = 14 := rfl
theorem WkAt.setCmd (h : WkAt w xb lb sb hb i f calm left st p) (q : Int × Int) : WkAt (w.setCells xb 8 (cmdL q)) xb lb sb hb i f calm left st q := by
  have nn : ∀ {k : Nat} {v : Value}, k < 8 → w.cell? ⟨xb, k, none⟩ = some v → (w.setCells xb 8 (cmdL q)).cell? ⟨xb, k, none⟩ = some v := fun hk hv => cells_off (o := 0) (.inl hk) hv
  exact ⟨h.b.setCells _ _, nn (by decide) h.x0, nn (by decide) h.x1, nn (by decide) h.x2, nn (by decide) h.x3, nn (by decide) h.x4, nn (by decide) h.x5, nn (by decide) h.x6, nn (by decide) h.x7,
    World.rangeAt_setCells_same _ _ _ _ (range_there h.x8 (by rw [cmdL_len, cmdL_len]) h.b), range_offs h.x22 (.inr (by rw [cmdL_len]; decide)), cells_off (o := 0) (.inr (by rw [cmdL_len]; decide)) h.x26⟩
set_option maxRecDepth 100000 in
theorem WkAt.made_is (h : WkAt w xb lb sb hb i f calm left st p) : Calls Tryz.prog 69 #[.pointer (some ⟨xb, 0, none⟩)] w fun e w' => e = .returned (.bool true) ∧ w = w' := by
  have x0 := h.x0
  clear h
  go_enter Tryz.func69, Tryz.ntmps69
  go_wp2
  go_ret
  exact ⟨rfl, rfl⟩
set_option maxRecDepth 100000 in
theorem WkAt.left_is (h : WkAt w xb lb sb hb i f calm left st p) : Calls Tryz.prog 31 #[.pointer (some ⟨xb, 0, none⟩)] w fun e w' => e = .returned (.bool left) ∧ w = w' := by
  have M := Lib.hid h.made_is
  have x6 := h.x6
  clear h
  go_enter Tryz.func31, Tryz.ntmps31
  go_wp2_with fail
  with_reducible refine M.out.mono ?_
  rintro e w1 ⟨rfl, rfl⟩
  go_wp2_with fail
  go_ret
  exact ⟨rfl, rfl⟩
set_option maxRecDepth 100000 in
set_option maxHeartbeats 4000000 in
/-- A step is the function that comes next. -/
theorem WkAt.step_is (hf : f = 117 ∨ f = 155 ∨ f = 186 ∨ f = 251 ∨ f = 272 ∨ f = 284 ∨ f = 290 ∨ f = 297) (h : WkAt w xb lb sb hb i f calm false st p) {b : Bool} {Q : World → Prop} (H : Calls Tryz.prog f #[.pointer (some ⟨xb, 0, none⟩)] w fun e w' => e = .returned (.bool b) ∧ Q w') :
    Calls Tryz.prog 30 #[.pointer (some ⟨xb, 0, none⟩)] w fun e w' => e = .returned (.bool b) ∧ Q w' := by
  rcases hf with rfl | rfl | rfl | rfl | rfl | rfl | rfl | rfl
  · have M := Lib.hid h.left_is
    have x4 := h.x4
    have H := Lib.hid H
    clear h
    go_enter Tryz.func30, Tryz.ntmps30
    go_wp2_with fail
    with_reducible refine M.out.mono ?_
    rintro e w1 ⟨rfl, rfl⟩
    go_wp2_with fail
    with_reducible refine H.out.mono ?_
    rintro e w1 ⟨rfl, hq⟩
    have hq := Lib.hid hq
    go_wp2_with fail
    go_ret
    exact ⟨rfl, hq.out⟩
  · have M := Lib.hid h.left_is
    have x4 := h.x4
    have H := Lib.hid H
    clear h
    go_enter Tryz.func30, Tryz.ntmps30
    go_wp2_with fail
    with_reducible refine M.out.mono ?_
    rintro e w1 ⟨rfl, rfl⟩
    go_wp2_with fail
    with_reducible refine H.out.mono ?_
    rintro e w1 ⟨rfl, hq⟩
    have hq := Lib.hid hq
    go_wp2_with fail
    go_ret
    exact ⟨rfl, hq.out⟩
  · have M := Lib.hid h.left_is
    have x4 := h.x4
    have H := Lib.hid H
    clear h
    go_enter Tryz.func30, Tryz.ntmps30
    go_wp2_with fail
    with_reducible refine M.out.mono ?_
    rintro e w1 ⟨rfl, rfl⟩
    go_wp2_with fail
    with_reducible refine H.out.mono ?_
    rintro e w1 ⟨rfl, hq⟩
    have hq := Lib.hid hq
    go_wp2_with fail
    go_ret
    exact ⟨rfl, hq.out⟩
  · have M := Lib.hid h.left_is
    have x4 := h.x4
    have H := Lib.hid H
    clear h
    go_enter Tryz.func30, Tryz.ntmps30
    go_wp2_with fail
    with_reducible refine M.out.mono ?_
    rintro e w1 ⟨rfl, rfl⟩
    go_wp2_with fail
    with_reducible refine H.out.mono ?_
    rintro e w1 ⟨rfl, hq⟩
    have hq := Lib.hid hq
    go_wp2_with fail
    go_ret
    exact ⟨rfl, hq.out⟩
  · have M := Lib.hid h.left_is
    have x4 := h.x4
    have H := Lib.hid H
    clear h
    go_enter Tryz.func30, Tryz.ntmps30
    go_wp2_with fail
    with_reducible refine M.out.mono ?_
    rintro e w1 ⟨rfl, rfl⟩
    go_wp2_with fail
    with_reducible refine H.out.mono ?_
    rintro e w1 ⟨rfl, hq⟩
    have hq := Lib.hid hq
    go_wp2_with fail
    go_ret
    exact ⟨rfl, hq.out⟩
  · have M := Lib.hid h.left_is
    have x4 := h.x4
    have H := Lib.hid H
    clear h
    go_enter Tryz.func30, Tryz.ntmps30
    go_wp2_with fail
    with_reducible refine M.out.mono ?_
    rintro e w1 ⟨rfl, rfl⟩
    go_wp2_with fail
    with_reducible refine H.out.mono ?_
    rintro e w1 ⟨rfl, hq⟩
    have hq := Lib.hid hq
    go_wp2_with fail
    go_ret
    exact ⟨rfl, hq.out⟩
  · have M := Lib.hid h.left_is
    have x4 := h.x4
    have H := Lib.hid H
    clear h
    go_enter Tryz.func30, Tryz.ntmps30
    go_wp2_with fail
    with_reducible refine M.out.mono ?_
    rintro e w1 ⟨rfl, rfl⟩
    go_wp2_with fail
    with_reducible refine H.out.mono ?_
    rintro e w1 ⟨rfl, hq⟩
    have hq := Lib.hid hq
    go_wp2_with fail
    go_ret
    exact ⟨rfl, hq.out⟩
  · have M := Lib.hid h.left_is
    have x4 := h.x4
    have H := Lib.hid H
    clear h
    go_enter Tryz.func30, Tryz.ntmps30
    go_wp2_with fail
    with_reducible refine M.out.mono ?_
    rintro e w1 ⟨rfl, rfl⟩
    go_wp2_with fail
    with_reducible refine H.out.mono ?_
    rintro e w1 ⟨rfl, hq⟩
    have hq := Lib.hid hq
    go_wp2_with fail
    go_ret
    exact ⟨rfl, hq.out⟩
set_option maxRecDepth 100000 in
theorem WkAt.step_left (h : WkAt w xb lb sb hb i f calm true st p) : Calls Tryz.prog 30 #[.pointer (some ⟨xb, 0, none⟩)] w fun e w' => e = .returned (.bool false) ∧ w = w' := by
  have M := Lib.hid h.left_is
  clear h
  go_enter Tryz.func30, Tryz.ntmps30
  go_wp2_with fail
  with_reducible refine M.out.mono ?_
  rintro e w1 ⟨rfl, rfl⟩
  go_wp2_with fail
  go_ret
  exact ⟨rfl, rfl⟩
end
end Go.Proofs.YtgfobgabdafclaaGreat
