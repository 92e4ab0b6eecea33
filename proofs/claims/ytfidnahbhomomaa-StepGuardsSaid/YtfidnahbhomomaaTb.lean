/-
  StepGuards' walk.
-/
import Derived.Test.YtfidnahbhomomaaTa
namespace Go.Proofs.Ytfidnahbhomomaa
open Go.ChangeShapes Go.WideShapes Go.ChangeAt Go.RowKit
set_option linter.unusedVariables false
set_option linter.unusedSimpArgs false
def gHist (x : Int) : List Ev := [Ev.zero, gEv x, ⟨1, 0, 0, 0, 0, 0⟩]
/-- What StepGuards has made: its table in a box, its rule in another one, its events. -/
structure GAt (w : World) (tb rb hb cb lb qb : Nat) (p : Bool) (x least : Int) : Prop where
  tab : w.rangeAt tb 0 [.slice (some ⟨cb, 0, none⟩) 2 2, .int .i64 8, .bool false]
  rul : w.rangeAt rb 0 [.int .i64 6, .slice (some ⟨lb, 0, none⟩) 1 1, .slice (some ⟨qb, 0, none⟩) 1 1]
  cel : CellsAt w (.slice (some ⟨cb, 0, none⟩) 2 2) (gTab p least).cells
  lef : CodesAt w (.slice (some ⟨lb, 0, none⟩) 1 1) (gRule least).left
  rig : CodesAt w (.slice (some ⟨qb, 0, none⟩) 1 1) (gRule least).right
  evs : EvsAt w (.slice (some ⟨hb, 0, none⟩) 3 3) (gHist x)
theorem GAt.turn {w w' : World} {tb rb hb cb lb qb : Nat} {p : Bool} {x least : Int} (h : GAt w tb rb hb cb lb qb p x least) (T : Turn (fun _ => False) w w') : GAt w' tb rb hb cb lb qb p x least :=
  ⟨range_turn h.tab T id, range_turn h.rul T id, h.cel.turn T, h.lef.turn T, h.rig.turn T, h.evs.turn T (fun _ _ f => f)⟩
theorem g_step1 {w : World} {tb rb hb cb lb qb : Nat} {p : Bool} {x least : Int} (h : GAt w tb rb hb cb lb qb p x least) :
    Calls Try.prog 18 #[.agg #[.slice (some ⟨cb, 0, none⟩) 2 2, .int .i64 8, .bool false], .slice (some ⟨hb, 0, none⟩) 2 3, .agg #[.int .i64 0, .slice (some ⟨w.heap.size + 1, 0, none⟩) 1 1, .bool false]]
      ((w.alloc (.cells #[.int .i64 0] 3)).alloc (.cells #[.slice (some ⟨w.heap.size, 0, none⟩) 1 1] 22)) fun en w' => ∃ v B, en = .returned v ∧ RunsO B w' v (if p || !decide (least ≤ x) then [⟨0, [[0]], decide (least ≤ x)⟩] else []) ∧ Turn (fun _ => False) w w' := by
  have TB : Turn (fun _ => False) w ((w.alloc (.cells #[.int .i64 0] 3)).alloc (.cells #[.slice (some ⟨w.heap.size, 0, none⟩) 1 1] 22)) := ((Turn.refl _ w).alloc _).alloc _
  have K := (h.evs.part (i := 0) (k := 2) (off' := 0) (by decide) (by decide) rfl (m := [Ev.zero, gEv x]) rfl).turn TB (fun _ _ f => f)
  have S := step_is (T := gTab p least) (H := [Ev.zero, gEv x]) (a := 0) (bl := false) (c := gCel p least) (e := gEv x) (h.cel.turn TB) (g_ok p least) K (rows_new w 0) (by show 1 ≤ 2; decide) (g_run (by show 1 ≤ 1; decide) (by show 1 ≤ 100000; decide) (fun h => by cases h)) (fun x hx => by simp at hx; subst hx; decide) rfl rfl
  have e : stepR (gTab p least) ([[0]].map (pickE [Ev.zero, gEv x])) 0 ([Ev.zero, gEv x].length - 1) [[0]] false (gCel p least) (gEv x) = _ := g_first p x least
  rw [e] at S
  refine Calls.mono S ?_
  rintro en w' ⟨u, B, e1, e2, e3⟩
  exact ⟨u, B, e1, e2, TB.trans e3⟩
theorem g_step2 {w : World} {tb rb hb cb lb qb : Nat} {p m : Bool} {x least : Int} {sv : Value} (h : GAt w tb rb hb cb lb qb p x least) (hs : RowsAt w sv [[0]]) (hm : m = true → p = true) :
    Calls Try.prog 18 #[.agg #[.slice (some ⟨cb, 0, none⟩) 2 2, .int .i64 8, .bool false], .slice (some ⟨hb, 0, none⟩) 3 3, .agg #[.int .i64 0, sv, .bool m]]
      w fun en w' => ∃ v B, en = .returned v ∧ RunsO B w' v (⟨0, [[0]], m⟩ :: if m then [] else [⟨1, putN [[0]] 1 2, false⟩]) ∧ Turn (fun _ => False) w w' := by
  have S := step_is (T := gTab p least) (H := gHist x) (a := 0) (bl := m) (c := gCel p least) (e := ⟨1, 0, 0, 0, 0, 0⟩) h.cel (g_ok p least) h.evs hs (by show 1 ≤ 3; decide) (g_run (by show 1 ≤ 2; decide) (by show 2 ≤ 100000; decide) hm) (fun x hx => by simp at hx; subst hx; decide) rfl rfl
  have e : stepR (gTab p least) ([[0]].map (pickE (gHist x))) 0 ((gHist x).length - 1) [[0]] m (gCel p least) ⟨1, 0, 0, 0, 0, 0⟩ = _ := g_on p m least
  rw [e] at S
  exact S
theorem g_step3 {w : World} {tb rb hb cb lb qb : Nat} {x least : Int} {sv : Value} (h : GAt w tb rb hb cb lb qb true x least) (hs : RowsAt w sv [[0]]) :
    Calls Try.prog 18 #[.agg #[.slice (some ⟨cb, 0, none⟩) 2 2, .int .i64 8, .bool false], .slice (some ⟨w.heap.size, 0, none⟩) 3 3, .agg #[.int .i64 0, sv, .bool true]]
      (w.alloc (.cells #[.int .i64 0, .int .i64 0, .int .i64 0, .int .i64 0, .int .i64 0, .int .i64 0, .int .i64 2, .int .i64 0, .int .i64 x, .int .i64 0, .int .i64 0, .int .i64 0, .int .i64 0, .int .i64 0, .int .i64 0, .int .i64 0, .int .i64 0, .int .i64 0] 62)) fun en w' => ∃ v B, en = .returned v ∧ RunsO B w' v [⟨0, [[0]], true⟩, ⟨0, putN [[0]] 0 2, false⟩] ∧ Turn (fun _ => False) w w' := by
  have K := evs_new w [Ev.zero, gEv x, Ev.zero]
  have TB : Turn (fun _ => False) w (w.alloc (.cells (ecells [Ev.zero, gEv x, Ev.zero]).toArray 62)) := (Turn.refl _ w).alloc _
  have S := step_is (T := gTab true least) (H := [Ev.zero, gEv x, Ev.zero]) (a := 0) (bl := true) (c := gCel true least) (e := Ev.zero) (h.cel.turn TB) (g_ok true least) K (hs.turn TB) (by show 1 ≤ 3; decide) (g_run (by show 1 ≤ 2; decide) (by show 2 ≤ 100000; decide) (fun _ => rfl)) (fun x hx => by simp at hx; subst hx; decide) rfl rfl
  have e : stepR (gTab true least) ([[0]].map (pickE [Ev.zero, gEv x, Ev.zero])) 0 ([Ev.zero, gEv x, Ev.zero].length - 1) [[0]] true (gCel true least) Ev.zero = _ := g_more least
  rw [e] at S
  refine Calls.mono S ?_
  rintro en w' ⟨u, B, e1, e2, e3⟩
  exact ⟨u, B, e1, e2, TB.trans e3⟩
theorem g_rules (w : World) {lb qb : Nat} {least : Int} (L : CodesAt w (.slice (some ⟨lb, 0, none⟩) 1 1) (gRule least).left) (R : CodesAt w (.slice (some ⟨qb, 0, none⟩) 1 1) (gRule least).right) : RulesAt (w.alloc (.cells #[.int .i64 6, .slice (some ⟨lb, 0, none⟩) 1 1, .slice (some ⟨qb, 0, none⟩) 1 1] 68)) (.slice (some ⟨w.heap.size, 0, none⟩) 1 1) [gRule least] := rules_new w (gRule least) _ _ L R
theorem size68 : (Try.prog.info? 68).map (·.size) = some 3 := by kernel_rfl
theorem g_sets {w : World} {hb : Nat} {x : Int} (h : EvsAt w (.slice (some ⟨hb, 0, none⟩) 3 3) (gHist x)) : ESetsAt (w.alloc (.cells #[.slice none 0 0, .slice none 0 0, .slice (some ⟨hb, 6, none⟩) 1 2] 36)) (.slice (some ⟨w.heap.size, 0, none⟩) 3 3) [[], [], [gEv x]] := by
  have T2 : Turn (fun _ => False) w (w.alloc (.cells #[.slice none 0 0, .slice none 0 0, .slice (some ⟨hb, 6, none⟩) 1 2] 36)) := (Turn.refl _ w).alloc _
  have K := (h.part (i := 1) (k := 1) (off' := 6) (by decide) (by decide) rfl (m := [gEv x]) rfl).turn T2 (fun _ _ f => f)
  have E0 : ∀ U, EvsAt U (.slice none 0 0) [] := fun U => ⟨none, 0, 0, 0, rfl, Nat.le_refl _, .inl rfl, fun k e h => by simp at h⟩
  have G := range_new w [.slice none 0 0, .slice none 0 0, .slice (some ⟨hb, 6, none⟩) 1 2] 36
  refine ⟨_, w.heap.size, 0, 3, rfl, .inr ⟨rfl, Blk.new w _ 36⟩, fun k l hl => ?_⟩
  have hk := (List.getElem?_eq_some_iff.1 hl).1
  have hk3 : k = 0 ∨ k = 1 ∨ k = 2 := by simp at hk; omega
  rcases hk3 with rfl | rfl | rfl
  · simp at hl; subst hl; exact ⟨_, G 0 _ rfl, E0 _⟩
  · simp at hl; subst hl; exact ⟨_, G 1 _ rfl, E0 _⟩
  · simp at hl; subst hl; exact ⟨_, G 2 _ rfl, K⟩
theorem g_meets {w : World} {x least : Int} {v s : Value} (R : RulesAt w v [gRule least]) (E : ESetsAt w s [[], [], [gEv x]]) :
    Calls Try.prog 24 #[v, s] w fun e w' => e = .returned (.bool (decide (least ≤ x))) ∧ Turn (fun _ => False) w w' := by
  have S := rall_is (P := orP 0 2) E ⟨by show 3 ≤ 1000; decide, fun l hl => by
    simp at hl
    rcases hl with rfl | rfl <;> simp⟩ R (g_rule least)
  rw [g_met (x := x) rfl] at S
  exact S
set_option maxRecDepth 100000 in
set_option maxHeartbeats 4000000 in
theorem guards_walk (p : Bool) (x least : Int) (w : World) : Calls Try.prog 7 #[.bool p, .int .i64 x, .int .i64 least] w fun e w' => e = .returned (.bool true) ∧ Turn (fun _ => False) w w' := by
  have AW := Lib.hid (step_awake w)
  go_enter Try.func7, Try.ntmps7
  go_wp2_with fail
  with_reducible refine AW.out.mono ?_
  rintro en Wa ⟨rfl, Ta⟩
  have HTa := Lib.hid Ta
  clear Ta AW
  obtain ⟨W6, hW6, C6, G6, L6, R6, T6, S6⟩ := g_cells Wa p least
  obtain ⟨W8, hW8⟩ : ∃ W8, W8 = (W6.alloc (.cells #[.slice (some ⟨Wa.heap.size + 1 + 1 + 1 + 1 + 1, 0, none⟩) 2 2, .int .i64 8, .bool false] 26)).alloc (.cells (ecells (gHist x)).toArray 62) := ⟨_, rfl⟩
  have TW8 : Turn (fun _ => False) W6 W8 := by rw [hW8]; exact ((Turn.refl _ W6).alloc _).alloc _
  have GA : GAt W8 (Wa.heap.size + 1 + 1 + 1 + 1 + 1 + 1) (Wa.heap.size + 1 + 1) (Wa.heap.size + 1 + 1 + 1 + 1 + 1 + 1 + 1) (Wa.heap.size + 1 + 1 + 1 + 1 + 1) Wa.heap.size (Wa.heap.size + 1) p x least := by
    refine ⟨?_, range_turn G6 TW8 id, C6.turn TW8, L6.turn TW8, R6.turn TW8, ?_⟩
    · rw [hW8, ← S6]
      exact range_turn (range_new W6 [.slice (some ⟨Wa.heap.size + 1 + 1 + 1 + 1 + 1, 0, none⟩) 2 2, .int .i64 8, .bool false] 26) ((Turn.refl (fun _ => False) _).alloc _) id
    · have := evs_new (W6.alloc (.cells #[.slice (some ⟨Wa.heap.size + 1 + 1 + 1 + 1 + 1, 0, none⟩) 2 2, .int .i64 8, .bool false] 26)) (gHist x)
      rw [World.size_alloc, S6] at this
      rw [hW8]
      exact this
  have HW8 := Lib.hid (show W8 = (((((((((Wa.alloc (.cells #[.int .i64 7, .int .i64 0, .string ⟨#[]⟩, .int .i64 0, .int .i64 2] 65)).alloc (.cells #[.int .i64 6, .int .i64 least, .string ⟨#[]⟩, .int .i64 0, .int .i64 0] 65)).alloc (.cells #[.int .i64 6, .slice (some ⟨Wa.heap.size, 0, none⟩) 1 1, .slice (some ⟨Wa.heap.size + 1, 0, none⟩) 1 1] 68)).alloc (.cells #[.int .i64 6, .slice (some ⟨Wa.heap.size, 0, none⟩) 1 1, .slice (some ⟨Wa.heap.size + 1, 0, none⟩) 1 1] 68)).alloc (.cells #[.int .i64 2, .slice (some ⟨Wa.heap.size + 1 + 1 + 1, 0, none⟩) 1 1] 70)).alloc (.cells #[.int .i64 0, .bool p, .slice none 0 0, .slice (some ⟨Wa.heap.size + 1 + 1 + 1 + 1, 0, none⟩) 1 1, .int .i64 1, .bool false, .slice none 0 0, .slice none 0 0] 59)).alloc (.cells #[.slice (some ⟨Wa.heap.size + 1 + 1 + 1 + 1 + 1, 0, none⟩) 2 2, .int .i64 8, .bool false] 26)).alloc (.cells #[.int .i64 0, .int .i64 0, .int .i64 0, .int .i64 0, .int .i64 0, .int .i64 0, .int .i64 2, .int .i64 0, .int .i64 x, .int .i64 0, .int .i64 0, .int .i64 0, .int .i64 1, .int .i64 0, .int .i64 0, .int .i64 0, .int .i64 0, .int .i64 0] 62))) from by rw [hW8, hW6]; rfl)
  have TT := Lib.hid (HTa.out.trans (T6.trans TW8))
  have HG := Lib.hid GA
  clear hW6 C6 G6 L6 R6 T6 S6 hW8 TW8 GA HTa
  go_upto_region 5 with fail
  rw [← HW8.out]
  clear HW8
  generalize Wa.heap.size + 1 + 1 + 1 + 1 + 1 + 1 + 1 = hb at *
  generalize Wa.heap.size + 1 + 1 + 1 + 1 + 1 + 1 = tb at *
  generalize Wa.heap.size + 1 + 1 + 1 + 1 + 1 = cb at *
  generalize Wa.heap.size + 1 + 1 + 1 + 1 = c4 at *
  generalize Wa.heap.size + 1 + 1 + 1 = c3 at *
  generalize Wa.heap.size + 1 + 1 = rb at *
  generalize Wa.heap.size + 1 = qb at *
  generalize Wa.heap.size = lb at *
  obtain ⟨mt, hmt⟩ : ∃ mt, mt = decide (least ≤ x) := ⟨_, rfl⟩
  have HMT := Lib.hid hmt
  have S1 := Lib.hid (fun (U : World) (TU : Turn (fun _ => False) W8 U) => g_step1 (HG.out.turn TU))
  have M1 := Lib.hid (fun (U : World) (v s : Value) (R : RulesAt U v [gRule least]) (E : ESetsAt U s [[], [], [gEv x]]) => g_meets R E)
  rw [← hmt] at S1 M1
  have x0 := HG.out.tab 0 _ rfl
  have x1 := HG.out.tab 1 _ rfl
  have x2 := HG.out.tab 2 _ rfl
  rw [Nat.zero_add] at x1 x2
  clear hmt
  have FF := Lib.hid (show ∀ U, Turn (fun _ => False) W8 U → U.rangeAt tb 0 [.slice (some ⟨cb, 0, none⟩) 2 2, .int .i64 8, .bool false] ∧ Turn (fun _ => False) W8 U from fun U TU => ⟨range_turn (HG.out.turn (Turn.refl _ W8)).tab TU id, TU⟩)
  have sT : Turn (fun _ => False) W8 (W8).drew := (Turn.refl _ W8).drewN 1
  have sD := FF.out _ sT
  refine wp_region_held_drew (S := fun w' => w'.rangeAt tb 0 [.slice (some ⟨cb, 0, none⟩) 2 2, .int .i64 8, .bool false] ∧ Turn (fun _ => False) W8 w') (by kernel_rfl) ?hs0 (fun hS0 => ?_)
  case hs0 => exact sD
  generalize W8.drew = D5 at *
  refine wpAnyH_take (i := 0) (oi := { dst := some 37, op := Op.load 26 (Operand.tmp 9), type := 26, pos := "law.go:168", after := #[], guard := none }) (v := .agg #[.slice (some ⟨cb, 0, none⟩) 2 2, .int .i64 8, .bool false]) rfl (by kernel_rfl) (by kernel_rfl) (by kernel_rfl) (fun _ _ _ h => h) (yieldsIf_load_mid rfl 26 _ rfl tb 0 rfl [.slice (some ⟨cb, 0, none⟩) 2 2, .int .i64 8, .bool false] _ (fun _ hSw => hSw.1) Try.underlying26 rfl size26) hS0 ?_
  try simp only [Act.put, List.setIfInBounds_toArray, List.set_cons_zero, List.set_cons_succ]
  refine wpAnyH_take (i := 1) (oi := { dst := some 38, op := Op.move (Operand.tmp 10), type := 36, pos := "law.go:168", after := #[], guard := none }) (v := ?_) rfl (by kernel_rfl) (by kernel_rfl) (by kernel_rfl) (fun _ _ _ h => h) (Or.inl ⟨by rfl, ?hy2⟩) hS0 ?_
  case hy2 => (intro w hSw; (try dsimp only at hSw); go_simp; try with_reducible rfl)
  try simp only [Act.put, List.setIfInBounds_toArray, List.set_cons_zero, List.set_cons_succ]
  refine wpAnyH_take (i := 2) (oi := { dst := some 39, op := Op.slice 36 (Operand.tmp 38) none (some (Operand.const (Value.int IntKind.i64 2))) none, type := 36, pos := "law.go:168", after := #[{ on := 1, ground := Ground.data }], guard := none }) (v := ?_) rfl (by kernel_rfl) (by kernel_rfl) (by kernel_rfl) (fun _ _ _ h => h) (Or.inl ⟨by rfl, ?hy3⟩) hS0 ?_
  case hy3 => (intro w hSw; (try dsimp only at hSw); go_simp; try with_reducible rfl)
  try simp only [Act.put, List.setIfInBounds_toArray, List.set_cons_zero, List.set_cons_succ]
  refine wpAnyH_ready (rs := [3]) (by kernel_rfl) (by simp) ?_
  refine AllReadyH.cons (o := { dst := some 40, op := Op.buildSlice 22 1 #[(0, Operand.const (Value.int IntKind.i64 0))], type := 22, pos := "law.go:168", after := #[], guard := none }) rfl (fun K hK => ?_) AllReadyH.nil
  go_simp
  refine hK.out _ _ ?hs4 (fun hS4 => ?_)
  case hs4 => exact FF.out _ (sT.alloc _)
  clear hK K hS0
  refine wpAnyH_ready (rs := [4]) (by kernel_rfl) (by simp) ?_
  refine AllReadyH.cons (o := { dst := some 41, op := Op.buildSlice 38 1 #[(0, Operand.tmp 40)], type := 38, pos := "law.go:168", after := #[{ on := 3, ground := Ground.data }], guard := none }) rfl (fun K hK => ?_) AllReadyH.nil
  go_simp
  refine hK.out _ _ ?hs5 (fun hS5 => ?_)
  case hs5 => exact FF.out _ ((sT.alloc _).alloc _)
  clear hK K hS4
  refine wpAnyH_take (i := 5) (oi := { dst := some 42, op := Op.build 40 #[(1, Operand.tmp 41)], type := 40, pos := "law.go:168", after := #[{ on := 4, ground := Ground.data }], guard := none }) (v := ?_) rfl (by kernel_rfl) (by kernel_rfl) (by kernel_rfl) (fun _ _ _ h => h) (Or.inl ⟨by rfl, ?hy6⟩) hS5 ?_
  case hy6 => (intro w hSw; (try dsimp only at hSw); go_simp; try with_reducible rfl)
  try simp only [Act.put, List.setIfInBounds_toArray, List.set_cons_zero, List.set_cons_succ]
  refine wpAnyH_ready (rs := [6]) (by kernel_rfl) (by simp) ?_
  refine AllReadyH.cons (o := { dst := some 43, op := Op.call { callee := Callee.value (Operand.func 18), args := #[Operand.tmp 37, Operand.tmp 39, Operand.tmp 42], argTypes := #[26, 36, 40] }, type := 47, pos := "law.go:168", after := #[{ on := 0, ground := Ground.data }, { on := 2, ground := Ground.data }, { on := 5, ground := Ground.data }], guard := none }) rfl (fun K hK => ?_) AllReadyH.nil
  go_simp
  with_reducible refine (S1.out _ sT).mono ?_
  rintro en Wb ⟨v1, B1, rfl, RO1, Tb⟩
  go_simp
  refine hK.out _ _ ?hs7 (fun hS7 => ?_)
  case hs7 => exact FF.out _ (sT.trans Tb)
  clear hK K hS5
  refine wpAnyH_take (i := 7) (oi := { dst := some 11, op := Op.assign (Operand.tmp 43), type := 47, pos := "law.go:168", after := #[{ on := 6, ground := Ground.data }, { on := 6, ground := Ground.chain }, { on := 0, ground := Ground.phase }, { on := 1, ground := Ground.phase }, { on := 2, ground := Ground.phase }, { on := 3, ground := Ground.phase }, { on := 4, ground := Ground.phase }, { on := 5, ground := Ground.phase }, { on := 6, ground := Ground.phase }], guard := none }) (v := ?_) rfl (by kernel_rfl) (by kernel_rfl) (by kernel_rfl) (fun _ _ _ h => h) (Or.inl ⟨by rfl, ?hy8⟩) hS7 ?_
  case hy8 => (intro w hSw; (try dsimp only at hSw); go_simp; try with_reducible rfl)
  try simp only [Act.put, List.setIfInBounds_toArray, List.set_cons_zero, List.set_cons_succ]
  refine wpAnyH_done (by kernel_rfl) ?_ _
  have Tb8 := Lib.hid (sT.trans Tb)
  obtain ⟨a1, c1, rfl⟩ := RO1.len
  obtain ⟨n1, hn1⟩ : ∃ n, n = (if (p || !mt) = true then [(⟨0, [[0]], mt⟩ : Rn)] else []).length := ⟨_, rfl⟩
  rw [← hn1] at RO1 ⊢
  have HR1 := Lib.hid (And.intro RO1 hn1)
  have HGb := Lib.hid (HG.out.turn (sT.trans Tb))
  clear sD sT FF S1 RO1 hn1 hS7 Tb x0 x1 x2
  go_upto_region 6 with fail
  go_cut [12] from 44 (fun v12 wx => v12 = .bool mt ∧ Turn (fun _ => False) Wb wx)
  case first =>
    have FF := Lib.hid (show ∀ U, Turn (fun _ => False) Wb U → U.rangeAt rb 0 [.int .i64 6, .slice (some ⟨lb, 0, none⟩) 1 1, .slice (some ⟨qb, 0, none⟩) 1 1] ∧ Turn (fun _ => False) Wb U from fun U TU => ⟨range_turn HGb.out.rul TU id, TU⟩)
    have sT : Turn (fun _ => False) Wb (Wb).drew := (Turn.refl _ Wb).drewN 1
    have sD := FF.out _ sT
    refine wp_region_held_drew (S := fun w' => w'.rangeAt rb 0 [.int .i64 6, .slice (some ⟨lb, 0, none⟩) 1 1, .slice (some ⟨qb, 0, none⟩) 1 1] ∧ Turn (fun _ => False) Wb w') (by kernel_rfl) ?hs0 (fun hS0 => ?_)
    case hs0 => exact sD
    generalize Wb.drew = D6 at *
    refine wpAnyH_take (i := 0) (oi := { dst := some 44, op := Op.load 68 (Operand.tmp 8), type := 68, pos := "law.go:169", after := #[], guard := none }) (v := .agg #[.int .i64 6, .slice (some ⟨lb, 0, none⟩) 1 1, .slice (some ⟨qb, 0, none⟩) 1 1]) rfl (by kernel_rfl) (by kernel_rfl) (by kernel_rfl) (fun _ _ _ h => h) (yieldsIf_load_mid rfl 68 _ rfl rb 0 rfl [.int .i64 6, .slice (some ⟨lb, 0, none⟩) 1 1, .slice (some ⟨qb, 0, none⟩) 1 1] _ (fun _ hSw => hSw.1) Try.underlying68 rfl size68) hS0 ?_
    try simp only [Act.put, List.setIfInBounds_toArray, List.set_cons_zero, List.set_cons_succ]
    refine wpAnyH_take (i := 2) (oi := { dst := some 46, op := Op.move (Operand.tmp 10), type := 36, pos := "law.go:169", after := #[], guard := none }) (v := ?_) rfl (by kernel_rfl) (by kernel_rfl) (by kernel_rfl) (fun _ _ _ h => h) (Or.inl ⟨by rfl, ?hy2⟩) hS0 ?_
    case hy2 => (intro w hSw; (try dsimp only at hSw); go_simp; try with_reducible rfl)
    try simp only [Act.put, List.setIfInBounds_toArray, List.set_cons_zero, List.set_cons_succ]
    refine wpAnyH_take (i := 3) (oi := { dst := some 47, op := Op.slice 36 (Operand.tmp 46) (some (Operand.const (Value.int IntKind.i64 1))) (some (Operand.const (Value.int IntKind.i64 2))) none, type := 36, pos := "law.go:169", after := #[{ on := 2, ground := Ground.data }], guard := none }) (v := ?_) rfl (by kernel_rfl) (by kernel_rfl) (by kernel_rfl) (fun _ _ _ h => h) (Or.inl ⟨by rfl, ?hy3⟩) hS0 ?_
    case hy3 => (intro w hSw; (try dsimp only at hSw); go_simp; try with_reducible rfl)
    try simp only [Act.put, List.setIfInBounds_toArray, List.set_cons_zero, List.set_cons_succ]
    refine wpAnyH_ready (rs := [1, 4]) (by kernel_rfl) (by simp) ?_
    refine AllReadyH.cons (o := { dst := some 45, op := Op.buildSlice 56 1 #[(0, Operand.tmp 44)], type := 56, pos := "law.go:169", after := #[{ on := 0, ground := Ground.data }], guard := none }) rfl (fun K hK => ?_) ?_
    · skip
      go_simp
      refine hK.out _ _ ?hs4 (fun hS4 => ?_)
      case hs4 => exact FF.out _ (sT.alloc _)
      clear hK K hS0
      refine wpAnyH_ready (rs := [4]) (by kernel_rfl) (by simp) ?_
      refine AllReadyH.cons (o := { dst := some 48, op := Op.buildSlice 72 3 #[(0, Operand.const (Value.slice none 0 0)), (1, Operand.const (Value.slice none 0 0)), (2, Operand.tmp 47)], type := 72, pos := "law.go:169", after := #[{ on := 3, ground := Ground.data }], guard := none }) rfl (fun K hK => ?_) AllReadyH.nil
      go_simp
      refine hK.out _ _ ?hs5 (fun hS5 => ?_)
      case hs5 => exact FF.out _ ((sT.alloc _).alloc _)
      clear hK K hS4
      have TU := (sT.alloc (.cells #[.int .i64 6, .slice (some ⟨lb, 0, none⟩) 1 1, .slice (some ⟨qb, 0, none⟩) 1 1] 68)).alloc (.cells #[.slice none 0 0, .slice none 0 0, .slice (some ⟨hb, 6, none⟩) 1 2] 36)
      have RU := (g_rules D6 (HGb.out.turn sT).lef (HGb.out.turn sT).rig).turn ((Turn.refl (fun _ => False) (D6.alloc (.cells #[.int .i64 6, .slice (some ⟨lb, 0, none⟩) 1 1, .slice (some ⟨qb, 0, none⟩) 1 1] 68))).alloc (.cells #[.slice none 0 0, .slice none 0 0, .slice (some ⟨hb, 6, none⟩) 1 2] 36))
      have EU := g_sets (HGb.out.turn (sT.alloc (.cells #[.int .i64 6, .slice (some ⟨lb, 0, none⟩) 1 1, .slice (some ⟨qb, 0, none⟩) 1 1] 68))).evs
      rw [World.size_alloc] at EU
      refine wpAnyH_ready (rs := [5]) (by kernel_rfl) (by simp) ?_
      refine AllReadyH.cons (o := { dst := some 49, op := Op.call { callee := Callee.value (Operand.func 24), args := #[Operand.tmp 45, Operand.tmp 48], argTypes := #[56, 72] }, type := 4, pos := "law.go:169", after := #[{ on := 1, ground := Ground.data }, { on := 4, ground := Ground.data }], guard := none }) rfl (fun K hK => ?_) AllReadyH.nil
      go_simp
      with_reducible refine (M1.out _ _ _ RU EU).mono ?_
      rintro en Wm ⟨rfl, Tm⟩
      go_simp
      refine hK.out _ _ ?hs6 (fun hS6 => ?_)
      case hs6 => exact FF.out _ (TU.trans Tm)
      clear hK K hS5
      refine wpAnyH_take (i := 6) (oi := { dst := some 12, op := Op.assign (Operand.tmp 49), type := 4, pos := "law.go:169", after := #[{ on := 5, ground := Ground.data }, { on := 5, ground := Ground.chain }, { on := 0, ground := Ground.phase }, { on := 1, ground := Ground.phase }, { on := 2, ground := Ground.phase }, { on := 3, ground := Ground.phase }, { on := 4, ground := Ground.phase }, { on := 5, ground := Ground.phase }], guard := none }) (v := ?_) rfl (by kernel_rfl) (by kernel_rfl) (by kernel_rfl) (fun _ _ _ h => h) (Or.inl ⟨by rfl, ?hy7⟩) hS6 ?_
      case hy7 => (intro w hSw; (try dsimp only at hSw); go_simp; try with_reducible rfl)
      try simp only [Act.put, List.setIfInBounds_toArray, List.set_cons_zero, List.set_cons_succ]
      refine wpAnyH_done (by kernel_rfl) ?_ _
      go_wp2_with fail
      go_meet
      case rel => exact ⟨rfl, TU.trans Tm⟩
    refine AllReadyH.cons (o := { dst := some 48, op := Op.buildSlice 72 3 #[(0, Operand.const (Value.slice none 0 0)), (1, Operand.const (Value.slice none 0 0)), (2, Operand.tmp 47)], type := 72, pos := "law.go:169", after := #[{ on := 3, ground := Ground.data }], guard := none }) rfl (fun K hK => ?_) ?_
    · skip
      go_simp
      refine hK.out _ _ ?hs8 (fun hS8 => ?_)
      case hs8 => exact FF.out _ (sT.alloc _)
      clear hK K hS0
      refine wpAnyH_ready (rs := [1]) (by kernel_rfl) (by simp) ?_
      refine AllReadyH.cons (o := { dst := some 45, op := Op.buildSlice 56 1 #[(0, Operand.tmp 44)], type := 56, pos := "law.go:169", after := #[{ on := 0, ground := Ground.data }], guard := none }) rfl (fun K hK => ?_) AllReadyH.nil
      go_simp
      refine hK.out _ _ ?hs9 (fun hS9 => ?_)
      case hs9 => exact FF.out _ ((sT.alloc _).alloc _)
      clear hK K hS8
      have TU := (sT.alloc (.cells #[.slice none 0 0, .slice none 0 0, .slice (some ⟨hb, 6, none⟩) 1 2] 36)).alloc (.cells #[.int .i64 6, .slice (some ⟨lb, 0, none⟩) 1 1, .slice (some ⟨qb, 0, none⟩) 1 1] 68)
      have RU := g_rules (D6.alloc (.cells #[.slice none 0 0, .slice none 0 0, .slice (some ⟨hb, 6, none⟩) 1 2] 36)) (HGb.out.turn (sT.alloc (.cells #[.slice none 0 0, .slice none 0 0, .slice (some ⟨hb, 6, none⟩) 1 2] 36))).lef (HGb.out.turn (sT.alloc (.cells #[.slice none 0 0, .slice none 0 0, .slice (some ⟨hb, 6, none⟩) 1 2] 36))).rig
      rw [World.size_alloc] at RU
      have EU := (g_sets (HGb.out.turn sT).evs).turn ((Turn.refl (fun _ => False) (D6.alloc (.cells #[.slice none 0 0, .slice none 0 0, .slice (some ⟨hb, 6, none⟩) 1 2] 36))).alloc (.cells #[.int .i64 6, .slice (some ⟨lb, 0, none⟩) 1 1, .slice (some ⟨qb, 0, none⟩) 1 1] 68))
      refine wpAnyH_ready (rs := [5]) (by kernel_rfl) (by simp) ?_
      refine AllReadyH.cons (o := { dst := some 49, op := Op.call { callee := Callee.value (Operand.func 24), args := #[Operand.tmp 45, Operand.tmp 48], argTypes := #[56, 72] }, type := 4, pos := "law.go:169", after := #[{ on := 1, ground := Ground.data }, { on := 4, ground := Ground.data }], guard := none }) rfl (fun K hK => ?_) AllReadyH.nil
      go_simp
      with_reducible refine (M1.out _ _ _ RU EU).mono ?_
      rintro en Wm ⟨rfl, Tm⟩
      go_simp
      refine hK.out _ _ ?hs10 (fun hS10 => ?_)
      case hs10 => exact FF.out _ (TU.trans Tm)
      clear hK K hS9
      refine wpAnyH_take (i := 6) (oi := { dst := some 12, op := Op.assign (Operand.tmp 49), type := 4, pos := "law.go:169", after := #[{ on := 5, ground := Ground.data }, { on := 5, ground := Ground.chain }, { on := 0, ground := Ground.phase }, { on := 1, ground := Ground.phase }, { on := 2, ground := Ground.phase }, { on := 3, ground := Ground.phase }, { on := 4, ground := Ground.phase }, { on := 5, ground := Ground.phase }], guard := none }) (v := ?_) rfl (by kernel_rfl) (by kernel_rfl) (by kernel_rfl) (fun _ _ _ h => h) (Or.inl ⟨by rfl, ?hy11⟩) hS10 ?_
      case hy11 => (intro w hSw; (try dsimp only at hSw); go_simp; try with_reducible rfl)
      try simp only [Act.put, List.setIfInBounds_toArray, List.set_cons_zero, List.set_cons_succ]
      refine wpAnyH_done (by kernel_rfl) ?_ _
      go_wp2_with fail
      go_meet
      case rel => exact ⟨rfl, TU.trans Tm⟩
    exact AllReadyH.nil
  case rest =>
  obtain ⟨rfl, T9⟩ := hcut
  rename World => W9
  have HG9 := Lib.hid (HGb.out.turn T9)
  have T99 := Lib.hid (TT.out.trans (Tb8.out.trans T9))
  obtain ⟨RO1, hn1⟩ := HR1.out
  have RO1 := RO1.turn T9
  clear M1 HGb HR1 T9 Tb8 TT
  cases mt with
  | true =>
    cases p with
    | false =>
      have hn : n1 = 0 := hn1
      subst hn
      clear RO1 hn1
      go_wp2_with fail
      go_ret
      exact ⟨rfl, T99.out⟩
    | true =>
      have hn : n1 = 1 := hn1
      subst hn
      clear hn1
      have RO1 : RunsO B1 W9 (.slice a1 1 c1) [⟨0, [[0]], true⟩] := RO1
      obtain ⟨g, gc, e1, hg⟩ := RO1.read (Nat.le_refl 1)
      obtain rfl : a1 = some ⟨g, 0, none⟩ := by injection e1
      obtain ⟨sv, z0, z1, z2, zs⟩ := hg 0 _ rfl
      have z0 : W9.cell? ⟨g, 0, none⟩ = some (.int .i64 0) := z0
      have z1 : W9.cell? ⟨g, 1, none⟩ = some sv := z1
      have z2 : W9.cell? ⟨g, 2, none⟩ = some (.bool true) := z2
      have RS := Lib.hid (show RowsAt W9 sv [[0]] from zs)
      have GR := Lib.hid (show W9.rangeAt g 0 [.int .i64 0, sv, .bool true] from fun j v hv => by
        have hj := (List.getElem?_eq_some_iff.1 hv).1
        have h3 : j = 0 ∨ j = 1 ∨ j = 2 := by simp at hj; omega
        rw [Nat.zero_add]
        rcases h3 with rfl | rfl | rfl
        · simp at hv; subst hv; exact z0
        · simp at hv; subst hv; exact z1
        · simp at hv; subst hv; exact z2)
      clear e1 hg zs z1
      go_upto_region 11 with fail
      have FF := Lib.hid (show ∀ U, Turn (fun _ => False) W9 U → U.rangeAt tb 0 [.slice (some ⟨cb, 0, none⟩) 2 2, .int .i64 8, .bool false] ∧ U.rangeAt g 0 [.int .i64 0, sv, .bool true] ∧ Turn (fun _ => False) W9 U from fun U TU => ⟨range_turn HG9.out.tab TU id, range_turn GR.out TU id, TU⟩)
      have sT : Turn (fun _ => False) W9 (W9).drew := (Turn.refl _ W9).drewN 1
      have sD := FF.out _ sT
      refine wp_region_held_drew (S := fun w' => w'.rangeAt tb 0 [.slice (some ⟨cb, 0, none⟩) 2 2, .int .i64 8, .bool false] ∧ w'.rangeAt g 0 [.int .i64 0, sv, .bool true] ∧ Turn (fun _ => False) W9 w') (by kernel_rfl) ?hs0 (fun hS0 => ?_)
      case hs0 => exact sD
      generalize W9.drew = D9 at *
      refine wpAnyH_take (i := 0) (oi := { dst := some 72, op := Op.load 26 (Operand.tmp 9), type := 26, pos := "law.go:176", after := #[], guard := none }) (v := .agg #[.slice (some ⟨cb, 0, none⟩) 2 2, .int .i64 8, .bool false]) rfl (by kernel_rfl) (by kernel_rfl) (by kernel_rfl) (fun _ _ _ h => h) (yieldsIf_load_mid rfl 26 _ rfl tb 0 rfl [.slice (some ⟨cb, 0, none⟩) 2 2, .int .i64 8, .bool false] _ (fun _ hSw => hSw.1) Try.underlying26 rfl size26) hS0 ?_
      try simp only [Act.put, List.setIfInBounds_toArray, List.set_cons_zero, List.set_cons_succ]
      refine wpAnyH_take (i := 1) (oi := { dst := some 73, op := Op.move (Operand.tmp 10), type := 36, pos := "law.go:176", after := #[], guard := none }) (v := ?_) rfl (by kernel_rfl) (by kernel_rfl) (by kernel_rfl) (fun _ _ _ h => h) (Or.inl ⟨by rfl, ?hy2⟩) hS0 ?_
      case hy2 => (intro w hSw; (try dsimp only at hSw); go_simp; try with_reducible rfl)
      try simp only [Act.put, List.setIfInBounds_toArray, List.set_cons_zero, List.set_cons_succ]
      refine wpAnyH_take (i := 2) (oi := { dst := some 74, op := Op.move (Operand.tmp 11), type := 47, pos := "law.go:176", after := #[], guard := none }) (v := ?_) rfl (by kernel_rfl) (by kernel_rfl) (by kernel_rfl) (fun _ _ _ h => h) (Or.inl ⟨by rfl, ?hy3⟩) hS0 ?_
      case hy3 => (intro w hSw; (try dsimp only at hSw); go_simp; try with_reducible rfl)
      try simp only [Act.put, List.setIfInBounds_toArray, List.set_cons_zero, List.set_cons_succ]
      refine wpAnyH_take (i := 3) (oi := { dst := some 75, op := Op.indexAddr 47 (Operand.tmp 74) (Operand.const (Value.int IntKind.i64 0)), type := 0, pos := "law.go:176", after := #[{ on := 2, ground := Ground.data }], guard := none }) (v := ?_) rfl (by kernel_rfl) (by kernel_rfl) (by kernel_rfl) (fun _ _ _ h => h) (Or.inl ⟨by rfl, ?hy4⟩) hS0 ?_
      case hy4 => (intro w hSw; (try dsimp only at hSw); go_simp; try with_reducible rfl)
      try simp only [Act.put, List.setIfInBounds_toArray, List.set_cons_zero, List.set_cons_succ]
      refine wpAnyH_take (i := 4) (oi := { dst := some 76, op := Op.load 40 (Operand.tmp 75), type := 40, pos := "law.go:176", after := #[{ on := 3, ground := Ground.data }], guard := none }) (v := .agg #[.int .i64 0, sv, .bool true]) rfl (by kernel_rfl) (by kernel_rfl) (by kernel_rfl) (fun _ _ _ h => h) (yieldsIf_load_mid rfl 40 _ rfl g 0 rfl [.int .i64 0, sv, .bool true] _ (fun _ hSw => hSw.2.1) Try.underlying40 rfl size40) hS0 ?_
      try simp only [Act.put, List.setIfInBounds_toArray, List.set_cons_zero, List.set_cons_succ]
      refine wpAnyH_ready (rs := [5]) (by kernel_rfl) (by simp) ?_
      refine AllReadyH.cons (o := { dst := some 77, op := Op.call { callee := Callee.value (Operand.func 18), args := #[Operand.tmp 72, Operand.tmp 73, Operand.tmp 76], argTypes := #[26, 36, 40] }, type := 47, pos := "law.go:176", after := #[{ on := 0, ground := Ground.data }, { on := 1, ground := Ground.data }, { on := 4, ground := Ground.data }], guard := none }) rfl (fun K hK => ?_) AllReadyH.nil
      go_simp
      with_reducible refine (g_step2 (m := true) (HG9.out.turn sT) (RS.out.turn sT) (fun _ => rfl)).mono ?_
      rintro en Wd ⟨v2, B2, rfl, RO2, Td⟩
      go_simp
      refine hK.out _ _ ?hs6 (fun hS6 => ?_)
      case hs6 => exact FF.out _ (sT.trans Td)
      clear hK K hS0
      refine wpAnyH_take (i := 6) (oi := { dst := some 13, op := Op.assign (Operand.tmp 77), type := 47, pos := "law.go:176", after := #[{ on := 5, ground := Ground.data }, { on := 5, ground := Ground.chain }, { on := 0, ground := Ground.phase }, { on := 1, ground := Ground.phase }, { on := 2, ground := Ground.phase }, { on := 3, ground := Ground.phase }, { on := 4, ground := Ground.phase }, { on := 5, ground := Ground.phase }], guard := none }) (v := ?_) rfl (by kernel_rfl) (by kernel_rfl) (by kernel_rfl) (fun _ _ _ h => h) (Or.inl ⟨by rfl, ?hy7⟩) hS6 ?_
      case hy7 => (intro w hSw; (try dsimp only at hSw); go_simp; try with_reducible rfl)
      try simp only [Act.put, List.setIfInBounds_toArray, List.set_cons_zero, List.set_cons_succ]
      refine wpAnyH_done (by kernel_rfl) ?_ _
      have Td9 := sT.trans Td
      have HGd := Lib.hid (HG9.out.turn Td9)
      have GRd := Lib.hid (range_turn GR.out Td9 id)
      have RSd := Lib.hid (RS.out.turn Td9)
      have RO2 : RunsO B2 Wd v2 [⟨0, [[0]], true⟩] := RO2
      obtain ⟨g2, gc2, rfl, hg2⟩ := RO2.read (Nat.le_refl 1)
      obtain ⟨-, -, -, q2, -⟩ := hg2 0 _ rfl
      have Q2 := Lib.hid (show Wd.cell? ⟨g2, 2, none⟩ = some (.bool true) from q2)
      have TTd := Lib.hid (T99.out.trans Td9)
      clear sT sD FF RO2 hg2 q2 Td Td9 HG9 GR RS z0 z2
      go_upto_region 13 with fail
      obtain ⟨_, eb9, eo9, ec9, ee, -, eh, ex⟩ := HGd.out.evs
      have eh2 := eh.resolve_left (fun h => by cases h)
      have hbe : hb = eb9 ∧ eo9 = 0 := by
        have h1 := eh2.1
        injection ee with h2
        rw [← h2] at h1
        injection h1 with h3
        injection h3 with h4 h5
        exact ⟨h4, h5.symm⟩
      obtain ⟨rfl, rfl⟩ := hbe
      have ev0 := ex 0 _ rfl
      have ev1 := ex 1 _ rfl
      clear ee eh eh2 ex
      have FF := Lib.hid (show ∀ U, Turn (fun _ => False) Wd U → U.rangeAt tb 0 [.slice (some ⟨cb, 0, none⟩) 2 2, .int .i64 8, .bool false] ∧ U.rangeAt g 0 [.int .i64 0, sv, .bool true] ∧ U.rangeAt hb 0 [.int .i64 0, .int .i64 0, .int .i64 0, .int .i64 0, .int .i64 0, .int .i64 0] ∧ U.rangeAt hb 6 [.int .i64 2, .int .i64 0, .int .i64 x, .int .i64 0, .int .i64 0, .int .i64 0] ∧ Turn (fun _ => False) Wd U from fun U TU => ⟨range_turn HGd.out.tab TU id, range_turn GRd.out TU id, range_turn ev0 TU id, range_turn ev1 TU id, TU⟩)
      have sT : Turn (fun _ => False) Wd Wd.drew := (Turn.refl _ Wd).drewN 1
      have sD := FF.out _ sT
      refine wp_region_held_drew (S := fun w' => w'.rangeAt tb 0 [.slice (some ⟨cb, 0, none⟩) 2 2, .int .i64 8, .bool false] ∧ w'.rangeAt g 0 [.int .i64 0, sv, .bool true] ∧ w'.rangeAt hb 0 [.int .i64 0, .int .i64 0, .int .i64 0, .int .i64 0, .int .i64 0, .int .i64 0] ∧ w'.rangeAt hb 6 [.int .i64 2, .int .i64 0, .int .i64 x, .int .i64 0, .int .i64 0, .int .i64 0] ∧ Turn (fun _ => False) Wd w') (by kernel_rfl) ?hs0 (fun hS0 => ?_)
      case hs0 => exact sD
      generalize Wd.drew = D13 at *
      refine wpAnyH_take (i := 0) (oi := { dst := some 79, op := Op.load 26 (Operand.tmp 9), type := 26, pos := "law.go:178", after := #[], guard := none }) (v := .agg #[.slice (some ⟨cb, 0, none⟩) 2 2, .int .i64 8, .bool false]) rfl (by kernel_rfl) (by kernel_rfl) (by kernel_rfl) (fun _ _ _ h => h) (yieldsIf_load_mid rfl 26 _ rfl tb 0 rfl [.slice (some ⟨cb, 0, none⟩) 2 2, .int .i64 8, .bool false] _ (fun _ hSw => hSw.1) Try.underlying26 rfl size26) hS0 ?_
      try simp only [Act.put, List.setIfInBounds_toArray, List.set_cons_zero, List.set_cons_succ]
      refine wpAnyH_take (i := 1) (oi := { dst := some 80, op := Op.move (Operand.tmp 10), type := 36, pos := "law.go:178", after := #[], guard := none }) (v := ?_) rfl (by kernel_rfl) (by kernel_rfl) (by kernel_rfl) (fun _ _ _ h => h) (Or.inl ⟨by rfl, ?hy2⟩) hS0 ?_
      case hy2 => (intro w hSw; (try dsimp only at hSw); go_simp; try with_reducible rfl)
      try simp only [Act.put, List.setIfInBounds_toArray, List.set_cons_zero, List.set_cons_succ]
      refine wpAnyH_take (i := 2) (oi := { dst := some 81, op := Op.indexAddr 36 (Operand.tmp 80) (Operand.const (Value.int IntKind.i64 0)), type := 0, pos := "law.go:178", after := #[{ on := 1, ground := Ground.data }], guard := none }) (v := ?_) rfl (by kernel_rfl) (by kernel_rfl) (by kernel_rfl) (fun _ _ _ h => h) (Or.inl ⟨by rfl, ?hy3⟩) hS0 ?_
      case hy3 => (intro w hSw; (try dsimp only at hSw); go_simp; try with_reducible rfl)
      try simp only [Act.put, List.setIfInBounds_toArray, List.set_cons_zero, List.set_cons_succ]
      refine wpAnyH_take (i := 3) (oi := { dst := some 82, op := Op.load 62 (Operand.tmp 81), type := 62, pos := "law.go:178", after := #[{ on := 2, ground := Ground.data }], guard := none }) (v := .agg #[.int .i64 0, .int .i64 0, .int .i64 0, .int .i64 0, .int .i64 0, .int .i64 0]) rfl (by kernel_rfl) (by kernel_rfl) (by kernel_rfl) (fun _ _ _ h => h) (yieldsIf_load_mid rfl 62 _ rfl hb 0 rfl [.int .i64 0, .int .i64 0, .int .i64 0, .int .i64 0, .int .i64 0, .int .i64 0] _ (fun _ hSw => hSw.2.2.1) Try.underlying62 rfl size62) hS0 ?_
      try simp only [Act.put, List.setIfInBounds_toArray, List.set_cons_zero, List.set_cons_succ]
      refine wpAnyH_take (i := 4) (oi := { dst := some 83, op := Op.move (Operand.tmp 10), type := 36, pos := "law.go:178", after := #[], guard := none }) (v := ?_) rfl (by kernel_rfl) (by kernel_rfl) (by kernel_rfl) (fun _ _ _ h => h) (Or.inl ⟨by rfl, ?hy5⟩) hS0 ?_
      case hy5 => (intro w hSw; (try dsimp only at hSw); go_simp; try with_reducible rfl)
      try simp only [Act.put, List.setIfInBounds_toArray, List.set_cons_zero, List.set_cons_succ]
      refine wpAnyH_take (i := 5) (oi := { dst := some 84, op := Op.indexAddr 36 (Operand.tmp 83) (Operand.const (Value.int IntKind.i64 1)), type := 0, pos := "law.go:178", after := #[{ on := 4, ground := Ground.data }], guard := none }) (v := ?_) rfl (by kernel_rfl) (by kernel_rfl) (by kernel_rfl) (fun _ _ _ h => h) (Or.inl ⟨by rfl, ?hy6⟩) hS0 ?_
      case hy6 => (intro w hSw; (try dsimp only at hSw); go_simp; try with_reducible rfl)
      try simp only [Act.put, List.setIfInBounds_toArray, List.set_cons_zero, List.set_cons_succ]
      refine wpAnyH_take (i := 6) (oi := { dst := some 85, op := Op.load 62 (Operand.tmp 84), type := 62, pos := "law.go:178", after := #[{ on := 5, ground := Ground.data }], guard := none }) (v := .agg #[.int .i64 2, .int .i64 0, .int .i64 x, .int .i64 0, .int .i64 0, .int .i64 0]) rfl (by kernel_rfl) (by kernel_rfl) (by kernel_rfl) (fun _ _ _ h => h) (yieldsIf_load_mid rfl 62 _ rfl hb 6 rfl [.int .i64 2, .int .i64 0, .int .i64 x, .int .i64 0, .int .i64 0, .int .i64 0] _ (fun _ hSw => hSw.2.2.2.1) Try.underlying62 rfl size62) hS0 ?_
      try simp only [Act.put, List.setIfInBounds_toArray, List.set_cons_zero, List.set_cons_succ]
      refine wpAnyH_take (i := 7) (oi := { dst := some 86, op := Op.build 62 #[], type := 62, pos := "law.go:178", after := #[], guard := none }) (v := ?_) rfl (by kernel_rfl) (by kernel_rfl) (by kernel_rfl) (fun _ _ _ h => h) (Or.inl ⟨by rfl, ?hy8⟩) hS0 ?_
      case hy8 => (intro w hSw; (try dsimp only at hSw); go_simp; try with_reducible rfl)
      try simp only [Act.put, List.setIfInBounds_toArray, List.set_cons_zero, List.set_cons_succ]
      refine wpAnyH_take (i := 9) (oi := { dst := some 88, op := Op.move (Operand.tmp 11), type := 47, pos := "law.go:178", after := #[], guard := none }) (v := ?_) rfl (by kernel_rfl) (by kernel_rfl) (by kernel_rfl) (fun _ _ _ h => h) (Or.inl ⟨by rfl, ?hy9⟩) hS0 ?_
      case hy9 => (intro w hSw; (try dsimp only at hSw); go_simp; try with_reducible rfl)
      try simp only [Act.put, List.setIfInBounds_toArray, List.set_cons_zero, List.set_cons_succ]
      refine wpAnyH_take (i := 10) (oi := { dst := some 89, op := Op.indexAddr 47 (Operand.tmp 88) (Operand.const (Value.int IntKind.i64 0)), type := 0, pos := "law.go:178", after := #[{ on := 9, ground := Ground.data }], guard := none }) (v := ?_) rfl (by kernel_rfl) (by kernel_rfl) (by kernel_rfl) (fun _ _ _ h => h) (Or.inl ⟨by rfl, ?hy10⟩) hS0 ?_
      case hy10 => (intro w hSw; (try dsimp only at hSw); go_simp; try with_reducible rfl)
      try simp only [Act.put, List.setIfInBounds_toArray, List.set_cons_zero, List.set_cons_succ]
      refine wpAnyH_take (i := 11) (oi := { dst := some 90, op := Op.load 40 (Operand.tmp 89), type := 40, pos := "law.go:178", after := #[{ on := 10, ground := Ground.data }], guard := none }) (v := .agg #[.int .i64 0, sv, .bool true]) rfl (by kernel_rfl) (by kernel_rfl) (by kernel_rfl) (fun _ _ _ h => h) (yieldsIf_load_mid rfl 40 _ rfl g 0 rfl [.int .i64 0, sv, .bool true] _ (fun _ hSw => hSw.2.1) Try.underlying40 rfl size40) hS0 ?_
      try simp only [Act.put, List.setIfInBounds_toArray, List.set_cons_zero, List.set_cons_succ]
      refine wpAnyH_ready (rs := [8]) (by kernel_rfl) (by simp) ?_
      refine AllReadyH.cons (o := { dst := some 87, op := Op.buildSlice 36 3 #[(0, Operand.tmp 82), (1, Operand.tmp 85), (2, Operand.tmp 86)], type := 36, pos := "law.go:178", after := #[{ on := 3, ground := Ground.data }, { on := 6, ground := Ground.data }, { on := 7, ground := Ground.data }], guard := none }) rfl (fun K hK => ?_) AllReadyH.nil
      go_simp
      refine hK.out _ _ ?hs12 (fun hS12 => ?_)
      case hs12 => exact FF.out _ (sT.alloc _)
      clear hK K hS0
      refine wpAnyH_ready (rs := [12]) (by kernel_rfl) (by simp) ?_
      refine AllReadyH.cons (o := { dst := some 91, op := Op.call { callee := Callee.value (Operand.func 18), args := #[Operand.tmp 79, Operand.tmp 87, Operand.tmp 90], argTypes := #[26, 36, 40] }, type := 47, pos := "law.go:178", after := #[{ on := 0, ground := Ground.data }, { on := 8, ground := Ground.data }, { on := 11, ground := Ground.data }], guard := none }) rfl (fun K hK => ?_) AllReadyH.nil
      go_simp
      with_reducible refine (g_step3 (x := x) (least := least) (HGd.out.turn sT) (RSd.out.turn sT)).mono ?_
      rintro en Wf ⟨v3, B3, rfl, RO3, Tf⟩
      go_simp
      refine hK.out _ _ ?hs13 (fun hS13 => ?_)
      case hs13 => exact FF.out _ (sT.trans Tf)
      clear hK K hS12
      refine wpAnyH_take (i := 13) (oi := { dst := some 14, op := Op.assign (Operand.tmp 91), type := 47, pos := "law.go:178", after := #[{ on := 12, ground := Ground.data }, { on := 12, ground := Ground.chain }, { on := 0, ground := Ground.phase }, { on := 1, ground := Ground.phase }, { on := 2, ground := Ground.phase }, { on := 3, ground := Ground.phase }, { on := 4, ground := Ground.phase }, { on := 5, ground := Ground.phase }, { on := 6, ground := Ground.phase }, { on := 7, ground := Ground.phase }, { on := 8, ground := Ground.phase }, { on := 9, ground := Ground.phase }, { on := 10, ground := Ground.phase }, { on := 11, ground := Ground.phase }, { on := 12, ground := Ground.phase }], guard := none }) (v := ?_) rfl (by kernel_rfl) (by kernel_rfl) (by kernel_rfl) (fun _ _ _ h => h) (Or.inl ⟨by rfl, ?hy14⟩) hS13 ?_
      case hy14 => (intro w hSw; (try dsimp only at hSw); go_simp; try with_reducible rfl)
      try simp only [Act.put, List.setIfInBounds_toArray, List.set_cons_zero, List.set_cons_succ]
      refine wpAnyH_done (by kernel_rfl) ?_ _
      have RO3 : RunsO B3 Wf v3 [⟨0, [[0]], true⟩, ⟨0, putN [[0]] 0 2, false⟩] := RO3
      obtain ⟨g3, gc3, rfl, hg3⟩ := RO3.read (by decide)
      obtain ⟨-, -, -, r2, -⟩ := hg3 0 _ rfl
      obtain ⟨-, -, -, r5, -⟩ := hg3 1 _ rfl
      have r2 : Wf.cell? ⟨g3, 2, none⟩ = some (.bool true) := r2
      have r5 : Wf.cell? ⟨g3, 5, none⟩ = some (.bool false) := r5
      have q2 := (sT.trans Tf).cell id Q2.out
      have FIN := Lib.hid (TTd.out.trans (sT.trans Tf))
      clear sT sD FF RO3 hg3 Tf
      go_wp2_with fail
      go_ret
      exact ⟨rfl, FIN.out⟩
  | false =>
    have hn : n1 = 1 := by rw [hn1]; cases p <;> rfl
    subst hn
    clear hn1
    have RO1 : RunsO B1 W9 (.slice a1 1 c1) [⟨0, [[0]], false⟩] := by cases p <;> exact RO1
    obtain ⟨g, gc, e1, hg⟩ := RO1.read (Nat.le_refl 1)
    obtain rfl : a1 = some ⟨g, 0, none⟩ := by injection e1
    obtain ⟨sv, z0, z1, z2, zs⟩ := hg 0 _ rfl
    have z0 : W9.cell? ⟨g, 0, none⟩ = some (.int .i64 0) := z0
    have z1 : W9.cell? ⟨g, 1, none⟩ = some sv := z1
    have z2 : W9.cell? ⟨g, 2, none⟩ = some (.bool false) := z2
    have RS := Lib.hid (show RowsAt W9 sv [[0]] from zs)
    have GR := Lib.hid (show W9.rangeAt g 0 [.int .i64 0, sv, .bool false] from fun j v hv => by
      have hj := (List.getElem?_eq_some_iff.1 hv).1
      have h3 : j = 0 ∨ j = 1 ∨ j = 2 := by simp at hj; omega
      rw [Nat.zero_add]
      rcases h3 with rfl | rfl | rfl
      · simp at hv; subst hv; exact z0
      · simp at hv; subst hv; exact z1
      · simp at hv; subst hv; exact z2)
    clear e1 hg zs z1
    go_upto_region 11 with fail
    have FF := Lib.hid (show ∀ U, Turn (fun _ => False) W9 U → U.rangeAt tb 0 [.slice (some ⟨cb, 0, none⟩) 2 2, .int .i64 8, .bool false] ∧ U.rangeAt g 0 [.int .i64 0, sv, .bool false] ∧ Turn (fun _ => False) W9 U from fun U TU => ⟨range_turn HG9.out.tab TU id, range_turn GR.out TU id, TU⟩)
    have sT : Turn (fun _ => False) W9 (W9).drew := (Turn.refl _ W9).drewN 1
    have sD := FF.out _ sT
    refine wp_region_held_drew (S := fun w' => w'.rangeAt tb 0 [.slice (some ⟨cb, 0, none⟩) 2 2, .int .i64 8, .bool false] ∧ w'.rangeAt g 0 [.int .i64 0, sv, .bool false] ∧ Turn (fun _ => False) W9 w') (by kernel_rfl) ?hs0 (fun hS0 => ?_)
    case hs0 => exact sD
    generalize W9.drew = D9 at *
    refine wpAnyH_take (i := 0) (oi := { dst := some 72, op := Op.load 26 (Operand.tmp 9), type := 26, pos := "law.go:176", after := #[], guard := none }) (v := .agg #[.slice (some ⟨cb, 0, none⟩) 2 2, .int .i64 8, .bool false]) rfl (by kernel_rfl) (by kernel_rfl) (by kernel_rfl) (fun _ _ _ h => h) (yieldsIf_load_mid rfl 26 _ rfl tb 0 rfl [.slice (some ⟨cb, 0, none⟩) 2 2, .int .i64 8, .bool false] _ (fun _ hSw => hSw.1) Try.underlying26 rfl size26) hS0 ?_
    try simp only [Act.put, List.setIfInBounds_toArray, List.set_cons_zero, List.set_cons_succ]
    refine wpAnyH_take (i := 1) (oi := { dst := some 73, op := Op.move (Operand.tmp 10), type := 36, pos := "law.go:176", after := #[], guard := none }) (v := ?_) rfl (by kernel_rfl) (by kernel_rfl) (by kernel_rfl) (fun _ _ _ h => h) (Or.inl ⟨by rfl, ?hy2⟩) hS0 ?_
    case hy2 => (intro w hSw; (try dsimp only at hSw); go_simp; try with_reducible rfl)
    try simp only [Act.put, List.setIfInBounds_toArray, List.set_cons_zero, List.set_cons_succ]
    refine wpAnyH_take (i := 2) (oi := { dst := some 74, op := Op.move (Operand.tmp 11), type := 47, pos := "law.go:176", after := #[], guard := none }) (v := ?_) rfl (by kernel_rfl) (by kernel_rfl) (by kernel_rfl) (fun _ _ _ h => h) (Or.inl ⟨by rfl, ?hy3⟩) hS0 ?_
    case hy3 => (intro w hSw; (try dsimp only at hSw); go_simp; try with_reducible rfl)
    try simp only [Act.put, List.setIfInBounds_toArray, List.set_cons_zero, List.set_cons_succ]
    refine wpAnyH_take (i := 3) (oi := { dst := some 75, op := Op.indexAddr 47 (Operand.tmp 74) (Operand.const (Value.int IntKind.i64 0)), type := 0, pos := "law.go:176", after := #[{ on := 2, ground := Ground.data }], guard := none }) (v := ?_) rfl (by kernel_rfl) (by kernel_rfl) (by kernel_rfl) (fun _ _ _ h => h) (Or.inl ⟨by rfl, ?hy4⟩) hS0 ?_
    case hy4 => (intro w hSw; (try dsimp only at hSw); go_simp; try with_reducible rfl)
    try simp only [Act.put, List.setIfInBounds_toArray, List.set_cons_zero, List.set_cons_succ]
    refine wpAnyH_take (i := 4) (oi := { dst := some 76, op := Op.load 40 (Operand.tmp 75), type := 40, pos := "law.go:176", after := #[{ on := 3, ground := Ground.data }], guard := none }) (v := .agg #[.int .i64 0, sv, .bool false]) rfl (by kernel_rfl) (by kernel_rfl) (by kernel_rfl) (fun _ _ _ h => h) (yieldsIf_load_mid rfl 40 _ rfl g 0 rfl [.int .i64 0, sv, .bool false] _ (fun _ hSw => hSw.2.1) Try.underlying40 rfl size40) hS0 ?_
    try simp only [Act.put, List.setIfInBounds_toArray, List.set_cons_zero, List.set_cons_succ]
    refine wpAnyH_ready (rs := [5]) (by kernel_rfl) (by simp) ?_
    refine AllReadyH.cons (o := { dst := some 77, op := Op.call { callee := Callee.value (Operand.func 18), args := #[Operand.tmp 72, Operand.tmp 73, Operand.tmp 76], argTypes := #[26, 36, 40] }, type := 47, pos := "law.go:176", after := #[{ on := 0, ground := Ground.data }, { on := 1, ground := Ground.data }, { on := 4, ground := Ground.data }], guard := none }) rfl (fun K hK => ?_) AllReadyH.nil
    go_simp
    with_reducible refine (g_step2 (m := false) (HG9.out.turn sT) (RS.out.turn sT) (fun h => by cases h)).mono ?_
    rintro en Wd ⟨v2, B2, rfl, RO2, Td⟩
    go_simp
    refine hK.out _ _ ?hs6 (fun hS6 => ?_)
    case hs6 => exact FF.out _ (sT.trans Td)
    clear hK K hS0
    refine wpAnyH_take (i := 6) (oi := { dst := some 13, op := Op.assign (Operand.tmp 77), type := 47, pos := "law.go:176", after := #[{ on := 5, ground := Ground.data }, { on := 5, ground := Ground.chain }, { on := 0, ground := Ground.phase }, { on := 1, ground := Ground.phase }, { on := 2, ground := Ground.phase }, { on := 3, ground := Ground.phase }, { on := 4, ground := Ground.phase }, { on := 5, ground := Ground.phase }], guard := none }) (v := ?_) rfl (by kernel_rfl) (by kernel_rfl) (by kernel_rfl) (fun _ _ _ h => h) (Or.inl ⟨by rfl, ?hy7⟩) hS6 ?_
    case hy7 => (intro w hSw; (try dsimp only at hSw); go_simp; try with_reducible rfl)
    try simp only [Act.put, List.setIfInBounds_toArray, List.set_cons_zero, List.set_cons_succ]
    refine wpAnyH_done (by kernel_rfl) ?_ _
    have RO2 : RunsO B2 Wd v2 [⟨0, [[0]], false⟩, ⟨1, putN [[0]] 1 2, false⟩] := RO2
    obtain ⟨g2, gc2, rfl, hg2⟩ := RO2.read (by decide)
    obtain ⟨-, q3, -⟩ := hg2 1 _ rfl
    have q3 : Wd.cell? ⟨g2, 3, none⟩ = some (.int .i64 1) := q3
    have FIN := Lib.hid (T99.out.trans (sT.trans Td))
    clear sT sD FF RO2 hg2 Td
    go_wp2_with fail
    go_ret
    exact ⟨rfl, FIN.out⟩
theorem guards_below (p : Bool) (x least : Int) (w : World) : Calls Try.prog 7 #[.bool p, .int .i64 x, .int .i64 least] w fun e w' => e = .returned (.bool true) ∧ Below w.heap.size w w' :=
  (guards_walk p x least w).mono fun _ _ h => ⟨h.1, h.2.below (fun k hk => ⟨hk, id⟩)⟩
end Go.Proofs.Ytfidnahbhomomaa
