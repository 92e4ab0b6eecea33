/-
  Step over what has just been made; Step is awake.
-/
import Derived.Test.YtfidnahbhomomaaSl
namespace Go.Proofs.Ytfidnahbhomomaa
open Go.ChangeShapes Go.WideShapes Go.ChangeAt Go.RowKit
set_option linter.unusedVariables false
set_option linter.unusedSimpArgs false
theorem step_made {W1 : World} {cv : Value} {T : Tab} {l : List Ev} {c : Cel} {e : Ev} (h : CellsAt W1 cv T.cells) (ok : T.ok) (h2 : 2 ≤ l.length) (hl : l.length ≤ 1000) (hc : T.cells[0]? = some c) (he : l[l.length - 1]? = some e) :
    Calls Try.prog 18 #[.agg #[cv, .int .i64 T.win, .bool T.key], .slice (some ⟨W1.heap.size, 0, none⟩) l.length l.length, .agg #[.int .i64 0, .slice (some ⟨W1.heap.size + 1 + 1, 0, none⟩) 1 1, .bool false]]
      (((W1.alloc (.cells (ecells l).toArray 62)).alloc (.cells #[.int .i64 0] 3)).alloc (.cells #[.slice (some ⟨W1.heap.size + 1, 0, none⟩) 1 1] 22)) fun en w' => ∃ v B, en = .returned v ∧ RunsO B w' v (stepR T ([[0]].map (pickE l)) 0 (l.length - 1) [[0]] false c e) ∧ Turn (fun _ => False) W1 w' := by
  have TA : Turn (fun _ => False) W1 (W1.alloc (.cells (ecells l).toArray 62)) := (Turn.refl _ W1).alloc _
  have TB : Turn (fun _ => False) (W1.alloc (.cells (ecells l).toArray 62)) (((W1.alloc (.cells (ecells l).toArray 62)).alloc (.cells #[.int .i64 0] 3)).alloc (.cells #[.slice (some ⟨W1.heap.size + 1, 0, none⟩) 1 1] 22)) := ((Turn.refl _ _).alloc _).alloc _
  have E := (evs_new W1 l).turn TB (fun _ _ f => f)
  have R := rows_new (W1.alloc (.cells (ecells l).toArray 62)) 0
  rw [World.size_alloc] at R
  refine (step_is (h.turn (TA.trans TB)) ok E R (by omega) (run_first (by omega) (by omega) ok.w1 ok.n1) (fun x hx => by simp at hx; subst hx; decide) hc he).mono ?_
  rintro en w' ⟨v, B, e1, e2, e3⟩
  exact ⟨v, B, e1, e2, (TA.trans TB).trans e3⟩
theorem tab2_ok {c0 c1 : Cel} {win : Int} {key : Bool} (h1 : c1.nots = []) (hw : 1 ≤ win ∧ win ≤ 8) (t0 : 0 ≤ c0.typ ∧ c0.typ < 8) (t1 : 0 ≤ c1.typ ∧ c1.typ < 8) (n0 : c0.nots.length ≤ 100 ∧ ∀ g ∈ c0.nots, 0 ≤ g.typ ∧ g.typ < 8) (q0 : RulesOk (upP 0) c0.rules) (q1 : RulesOk (upP 1) c1.rules) (q2 : ∀ g ∈ c0.nots, RulesOk (orP 0 2) g.rules) : Tab.ok ⟨[c0, c1], win, key⟩ := by
  refine ⟨Nat.le_of_ble_eq_true rfl, Nat.le_of_ble_eq_true rfl, hw.1, hw.2, fun c hc => ?_, fun c hc => ?_, fun c hc => ?_, fun k c hc => ?_, fun k c g hc hg => ?_⟩
  · simp at hc
    rw [← hc]; exact h1
  · simp at hc
    rcases hc with e | e <;> rw [e] <;> assumption
  · simp at hc
    rcases hc with e | e
    · rw [e]; exact n0
    · rw [e, h1]; exact ⟨Nat.zero_le _, fun g h => by simp at h⟩
  · have hk := (List.getElem?_eq_some_iff.1 hc).1
    have hk2 : k = 0 ∨ k = 1 := by simp at hk; omega
    rcases hk2 with rfl | rfl
    · simp at hc; rw [← hc]; exact q0
    · simp at hc; rw [← hc]; exact q1
  · have hk := (List.getElem?_eq_some_iff.1 hc).1
    have hk2 : k = 0 ∨ k = 1 := by simp at hk; omega
    rcases hk2 with rfl | rfl
    · simp at hc; rw [← hc] at hg; exact q2 g hg
    · simp at hc; rw [← hc, h1] at hg; simp at hg
theorem rules_ok_nil (P : Int → Prop) : RulesOk P [] := ⟨Nat.zero_le _, fun r h => by simp at h⟩
/-- What lies in a row of runs. -/
theorem RunsO.read {B : Nat} {W : World} {v : Value} {l : List Rn} (h : RunsO B W v l) (h1 : 1 ≤ l.length) : ∃ g cap, v = .slice (some ⟨g, 0, none⟩) l.length cap ∧ ∀ (k : Nat) (r : Rn), l[k]? = some r → ∃ sv, W.cell? ⟨g, k * 3, none⟩ = some (.int .i64 (r.at_ : Int)) ∧ W.cell? ⟨g, k * 3 + 1, none⟩ = some sv ∧ W.cell? ⟨g, k * 3 + 2, none⟩ = some (.bool r.bl) ∧ RowsAt W sv r.sets := by
  obtain ⟨xs, ho, hx⟩ := h
  obtain ⟨a, cap, rfl, ha⟩ := own_slice ho
  obtain ⟨g, rfl⟩ := ha h1
  refine ⟨g, cap, rfl, fun k r hr => ?_⟩
  have hk := (List.getElem?_eq_some_iff.1 hr).1
  obtain ⟨sv, x1, x2, x3, x4⟩ := hx k r hr
  exact ⟨sv, (ho.cellAt (k * 3) (by omega)).trans x1, (ho.cellAt (k * 3 + 1) (by omega)).trans x2, (ho.cellAt (k * 3 + 2) (by omega)).trans x3, x4 W (Turn.refl _ W)⟩
theorem made_one (w : World) : Calls Try.prog 18 #[.agg #[.slice (some ⟨w.heap.size, 0, none⟩) 2 2, .int .i64 4, .bool false], .slice (some ⟨w.heap.size + 1 + 1, 0, none⟩) 2 2, .agg #[.int .i64 0, .slice (some ⟨w.heap.size + 1 + 1 + 1 + 1, 0, none⟩) 1 1, .bool false]]
    (((((w.alloc (.cells #[.int .i64 0, .bool true, .slice none 0 0, .slice none 0 0, .int .i64 1, .bool false, .slice none 0 0, .slice none 0 0] 59)).alloc (.cells #[.slice (some ⟨w.heap.size, 0, none⟩) 2 2, .int .i64 4, .bool false] 26)).alloc (.cells #[.int .i64 0, .int .i64 0, .int .i64 0, .int .i64 0, .int .i64 0, .int .i64 0, .int .i64 0, .int .i64 0, .int .i64 0, .int .i64 0, .int .i64 0, .int .i64 0] 62)).alloc (.cells #[.int .i64 0] 3)).alloc (.cells #[.slice (some ⟨w.heap.size + 1 + 1 + 1, 0, none⟩) 1 1] 22))
    fun en w' => ∃ v B, en = .returned v ∧ RunsO B w' v [⟨0, [[0]], false⟩, ⟨0, [[0, 1]], false⟩] ∧ Turn (fun _ => False) w w' := by
  have C := (cells_two w ⟨0, true, [], []⟩ ⟨1, false, [], []⟩ (.slice none 0 0) (.slice none 0 0) (.slice none 0 0) (.slice none 0 0) (rules_nil _) (rules_nil _) (guards_nil _) (guards_nil _)).turn ((Turn.refl (fun _ => False) _).alloc (.cells #[.slice (some ⟨w.heap.size, 0, none⟩) 2 2, .int .i64 4, .bool false] 26))
  have TW : Turn (fun _ => False) w ((w.alloc (.cells #[.int .i64 0, .bool true, .slice none 0 0, .slice none 0 0, .int .i64 1, .bool false, .slice none 0 0, .slice none 0 0] 59)).alloc (.cells #[.slice (some ⟨w.heap.size, 0, none⟩) 2 2, .int .i64 4, .bool false] 26)) := ((Turn.refl _ w).alloc _).alloc _
  have S := step_made (T := ⟨[⟨0, true, [], []⟩, ⟨1, false, [], []⟩], 4, false⟩) (l := [Ev.zero, Ev.zero]) (c := ⟨0, true, [], []⟩) (e := Ev.zero) C (tab2_ok rfl (by decide) (by decide) (by decide) ⟨by decide, fun g h => by simp at h⟩ (rules_ok_nil _) (rules_ok_nil _) (fun g h => by simp at h)) (by decide) (by decide) rfl rfl
  rw [World.size_alloc, World.size_alloc] at S
  refine Calls.mono S ?_
  rintro en w' ⟨v, B, e1, e2, e3⟩
  exact ⟨v, B, e1, e2, TW.trans e3⟩
theorem made_two (w : World) : Calls Try.prog 18 #[.agg #[.slice (some ⟨w.heap.size + 1, 0, none⟩) 2 2, .int .i64 4, .bool false], .slice (some ⟨w.heap.size + 1 + 1 + 1, 0, none⟩) 2 2, .agg #[.int .i64 0, .slice (some ⟨w.heap.size + 1 + 1 + 1 + 1 + 1, 0, none⟩) 1 1, .bool false]]
    ((((((w.alloc (.cells #[.int .i64 2, .slice none 0 0] 70)).alloc (.cells #[.int .i64 0, .bool false, .slice none 0 0, .slice (some ⟨w.heap.size, 0, none⟩) 1 1, .int .i64 1, .bool false, .slice none 0 0, .slice none 0 0] 59)).alloc (.cells #[.slice (some ⟨w.heap.size + 1, 0, none⟩) 2 2, .int .i64 4, .bool false] 26)).alloc (.cells #[.int .i64 0, .int .i64 0, .int .i64 0, .int .i64 0, .int .i64 0, .int .i64 0, .int .i64 2, .int .i64 0, .int .i64 0, .int .i64 0, .int .i64 0, .int .i64 0] 62)).alloc (.cells #[.int .i64 0] 3)).alloc (.cells #[.slice (some ⟨w.heap.size + 1 + 1 + 1 + 1, 0, none⟩) 1 1] 22))
    fun en w' => ∃ v B, en = .returned v ∧ RunsO B w' v [] ∧ Turn (fun _ => False) w w' := by
  obtain ⟨V, hV⟩ : ∃ V, V = w.alloc (.cells #[.int .i64 2, .slice none 0 0] 70) := ⟨_, rfl⟩
  have TV : Turn (fun _ => False) w V := by rw [hV]; exact (Turn.refl _ w).alloc _
  have sz : V.heap.size = w.heap.size + 1 := by rw [hV, World.size_alloc]
  have G := guards_new w ⟨2, []⟩ (.slice none 0 0) (rules_nil _)
  rw [← hV] at G ⊢
  rw [← sz]
  have C := (cells_two V ⟨0, false, [], [⟨2, []⟩]⟩ ⟨1, false, [], []⟩ (.slice none 0 0) (.slice none 0 0) (.slice (some ⟨w.heap.size, 0, none⟩) 1 1) (.slice none 0 0) (rules_nil _) (rules_nil _) G (guards_nil _)).turn ((Turn.refl (fun _ => False) _).alloc (.cells #[.slice (some ⟨V.heap.size, 0, none⟩) 2 2, .int .i64 4, .bool false] 26))
  have TW : Turn (fun _ => False) V ((V.alloc (.cells #[.int .i64 0, .bool false, .slice none 0 0, .slice (some ⟨w.heap.size, 0, none⟩) 1 1, .int .i64 1, .bool false, .slice none 0 0, .slice none 0 0] 59)).alloc (.cells #[.slice (some ⟨V.heap.size, 0, none⟩) 2 2, .int .i64 4, .bool false] 26)) := ((Turn.refl _ V).alloc _).alloc _
  have S := step_made (T := ⟨[⟨0, false, [], [⟨2, []⟩]⟩, ⟨1, false, [], []⟩], 4, false⟩) (l := [Ev.zero, ⟨2, 0, 0, 0, 0, 0⟩]) (c := ⟨0, false, [], [⟨2, []⟩]⟩) (e := ⟨2, 0, 0, 0, 0, 0⟩) C (tab2_ok rfl (by decide) (by decide) (by decide) ⟨by decide, fun g h => by simp at h; subst h; decide⟩ (rules_ok_nil _) (rules_ok_nil _) (fun g h => by simp at h; subst h; exact rules_ok_nil _)) (by decide) (by decide) rfl rfl
  rw [World.size_alloc, World.size_alloc] at S
  refine Calls.mono S ?_
  rintro en w' ⟨v, B, e1, e2, e3⟩
  exact ⟨v, B, e1, e2, TV.trans (TW.trans e3)⟩
set_option maxRecDepth 100000 in
set_option maxHeartbeats 4000000 in
theorem step_awake (w : World) : Calls Try.prog 9 #[] w fun e w' => e = .returned (.bool true) ∧ Turn (fun _ => False) w w' := by
  go_enter Try.func9, Try.ntmps9
  have M1 := Lib.hid (made_one w)
  go_wp2_with fail
  with_reducible refine M1.out.mono ?_
  rintro en Wa ⟨v1, B1, rfl, R1, T1⟩
  obtain ⟨g, gc, rfl, hg⟩ := R1.read (by decide)
  obtain ⟨s1, -, z1, -, z2⟩ := hg 1 _ rfl
  obtain ⟨b, o, bc, rfl⟩ := z2.sl1 (by decide)
  obtain ⟨r, y2, y3⟩ := z2.at (k := 0) rfl
  obtain ⟨b2, o2, bc2, rfl⟩ := y3.sl1 (by decide)
  have M2 := Lib.hid (made_two Wa)
  have FF := Lib.hid (show ∀ U, Turn (fun _ => False) Wa U → U.cell? ⟨g, 4, none⟩ = some (.slice (some ⟨b, o, none⟩) 1 bc) ∧ U.cell? ⟨b, o, none⟩ = some (.slice (some ⟨b2, o2, none⟩) 2 bc2) ∧ Turn (fun _ => False) w U from fun U TU => ⟨TU.cell id z1, TU.cell id y2, T1.trans TU⟩)
  clear M1 R1 T1 hg z1 z2 y2 y3
  go_wp2_with fail
  with_reducible refine M2.out.mono ?_
  rintro en Wb ⟨v2, B2, rfl, R2, T2⟩
  obtain ⟨a2, c2, rfl⟩ := R2.len
  obtain ⟨y1, y2, TT⟩ := FF.out Wb T2
  have FIN := Lib.hid TT
  clear M2 R2 T2 TT FF
  go_wp2_with fail
  go_ret
  exact ⟨rfl, FIN.out⟩
end Go.Proofs.Ytfidnahbhomomaa
