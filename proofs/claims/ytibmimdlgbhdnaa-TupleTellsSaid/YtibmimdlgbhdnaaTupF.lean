/-
  Few of the rows: the contract for the walks of the statements of layer 6.
-/
import Derived.Test.YtibmimdlgbhdnaaTupO
import Derived.Test.YtibmimdlgbhdnaaRefR
namespace Go.Proofs.Ytibmimdlgbhdnaa
open Go.ChangeShapes Go.WideShapes Go.ChangeAt Go.RowKit
set_option linter.unusedVariables false

theorem info27 : (Try.prog.info? 27).map (fun i => (i.zero, i.size, i.bytes)) = some (some (.slice none 0 0), 1, 24) := by kernel_rfl
theorem row_app {W WA : World} {base t n : Nat} {v r : Value} {xs : List Value} (h : W.ownsRow base 27 1 v n xs) (hB : base ≤ W.heap.size) (hl : n ≤ 1000) (hb : Below W.heap.size W WA) (hc : WA.cell? ⟨t, 0, none⟩ = some r) (h1 : r.oneCell' = true) :
    ∃ v' w', (Builtin.append_ #[22, 22] 22 #[v, .slice (some ⟨t, 0, none⟩) 1 1]).run Try.prog WA = .ok v' w' ∧ w'.ownsRow base 27 1 v' (n + 1) (xs ++ [r]) ∧ Turn (fun k => v.ownBlock = some k) W w' := by
  obtain ⟨i3, j1, j2, j3, j4⟩ := info_parts info27
  have hA := own_keep h (fun k hk => hb.block k (h.lt k hk).2)
  have hz := hb.size
  obtain ⟨v', w', hr, ho, hg, _⟩ := run_append_own WA base 22 22 27 i3 _ 1 24 Try.underlying22 j1 j2 j3 j4 rfl (by decide) v n xs hA ⟨t, 0, none⟩ 1 1 [r] rfl (fun j u hu => by
    rw [Go.WideShapes.add_plain, Nat.zero_add]
    match j, hu with
    | 0, hu => simp at hu; subst hu; exact hc
    | j + 1, hu => simp at hu) (fun u hu => by simp at hu; subst hu; exact h1) (by unfold maxLen; omega) (by omega) (by omega)
  exact ⟨v', w', hr, ho, (Turn.of_below (S := fun k => v.ownBlock = some k) hb).trans ((Turn.refl _ WA).grown hg (fun k hk => .inl hk))⟩
theorem turn_fresh {w wr wa : World} {v : Value} {e : TypeId} {s m : Nat} {xs : List Value} (T : Turn (fun _ => False) w wr) (hr : wr.ownsRow w.heap.size e s v m xs) (T2 : Turn (fun k => v.ownBlock = some k) wr wa) : Turn (fun _ => False) w wa :=
  ⟨T2.os.trans T.os, T2.tape.trans T.tape, T2.output.trans T.output, Nat.le_trans T.size T2.size, fun k hk _ => (T2.block k (Nat.lt_of_lt_of_le hk T.size) (fun e => by have := (hr.lt k e).1; omega)).trans (T.block k hk id)⟩
theorem RowAt.turn {w w' : World} {v : Value} {l : List Int} (h : RowAt w v l) (t : Turn (fun _ => False) w w') : RowAt w' v l := by
  obtain ⟨a, b, off, cap, e, hc, ha, hx⟩ := h
  exact ⟨a, b, off, cap, e, hc, ha, fun j x hj => t.cell id (hx j x hj)⟩
theorem RowAt.cut {w : World} {a : Option Addr} {cap : Nat} {l : List Int} {n : Nat} (h : RowAt w (.slice a l.length cap) l) (hn : n ≤ l.length) : RowAt w (.slice a n cap) (l.take n) := by
  obtain ⟨a', b, off, cap', e, hc, ha, hx⟩ := h
  injection e with e1 e2 e3
  subst e1
  subst e3
  refine ⟨a, b, off, cap, by rw [List.length_take, Nat.min_eq_left hn], by rw [List.length_take]; omega, ?_, fun j x hj => hx j x ?_⟩
  · rcases ha with rfl | ha
    · exact .inl (by simp)
    · exact .inr ha
  · rw [List.getElem?_take] at hj
    split at hj
    · exact hj
    · cases hj
def fewL (L : List (List Int)) : List (List Int) := (L.take 12).map (List.take 4)
theorem fewL_len (L : List (List Int)) : (fewL L).length = min 12 L.length := by
  unfold fewL
  rw [List.length_map, List.length_take]
def FewRel (w : World) (L : List (List Int)) (n : Nat) (gh : Nat) (v3 v4 : Value) (wr : World) : Prop :=
  ∃ (i : Nat) (xs : List Value), v4 = .int .i64 (i : Int) ∧ i ≤ n ∧ gh = n - i ∧ wr.ownsRow w.heap.size 27 1 v3 i xs ∧ (∀ k l, k < i → L[k]? = some l → ∃ r, xs[k]? = some r ∧ RowAt w r (l.take 4)) ∧ Turn (fun _ => False) w wr
set_option maxRecDepth 100000 in
set_option maxHeartbeats 2000000 in
theorem few_is {w : World} {v0 : Value} {L : List (List Int)} (h : RowsAt w v0 L) (hL : L.length ≤ 9223372036854775807) (hR : ∀ x ∈ L, x.length ≤ 9223372036854775807) :
    Calls Try.prog 25 #[v0] w fun e w' => ∃ v xs, e = .returned v ∧ w'.ownsRow w.heap.size 27 1 v (fewL L).length xs ∧ RowsAt w' v (fewL L) ∧ Turn (fun _ => False) w w' := by
  obtain ⟨a0, b0, o0, c0, rfl, e0, hx⟩ := h
  have HX := Lib.hid (And.intro hx hR)
  have R0 : FewRel w L (min 12 L.length) (min 12 L.length) (.slice none 0 0) (.int .i64 0) w := ⟨0, [], rfl, Nat.zero_le _, rfl, World.ownsRow_nil _ _ _ _, fun k l hk => absurd hk (Nat.not_lt_zero k), Turn.refl _ _⟩
  clear hx hR
  go_enter Try.func25, Try.ntmps25
  go_wp2_with fail
  go_loopg [3, 4] (min 12 L.length) (fun gh v3 v4 wr => FewRel w L (min 12 L.length) gh v3 v4 wr)
  case atStart => exact R0
  case round =>
    clear R0
    obtain ⟨i, xs, rfl, hi, hg, hrow, hr, T⟩ := hrel
    obtain ⟨a3, c3, rfl, _⟩ := own_slice hrow
    by_cases hil : i < L.length ∧ i < 12
    · obtain ⟨hil, hi12⟩ := hil
      obtain rfl := e0.resolve_left (fun e => by rw [e] at hil; simp at hil)
      obtain ⟨l, hl⟩ : ∃ l, L[i]? = some l := ⟨_, List.getElem?_eq_getElem hil⟩
      obtain ⟨r, z, hra⟩ := HX.out.1 i l hl
      have hll := HX.out.2 l (List.mem_of_getElem? hl)
      have hra' := hra
      obtain ⟨p1, p2, p3, p4, rfl, hcap, _⟩ := hra'
      have y := T.cell id z
      have t1 : decide ((i : Int) < (L.length : Int)) = true := by simp; omega
      have t2 : decide ((i : Int) < 12) = true := by simp; omega
      have hi0 : (i : Int) < (L.length : Int) := by omega
      have hi1 : (0 : Int) ≤ (i : Int) := by omega
      have hi2 : (i : Int) < 12 := by omega
      have next : ∀ (r' : Value) (v' : Value) (wa : World), RowAt w r' (l.take 4) → wa.ownsRow w.heap.size 27 1 v' (i + 1) (xs ++ [r']) → Turn (fun k => (Value.slice a3 i c3).ownBlock = some k) wr wa → FewRel w L (min 12 L.length) (min 12 L.length - (i + 1)) v' (.int .i64 ((i + 1 : Nat) : Int)) wa := fun r' v' wa h1 h2 h3 => by
        refine ⟨i + 1, xs ++ [r'], rfl, by omega, rfl, h2, fun k l' hk hl' => ?_, turn_fresh T hrow h3⟩
        have hxl : xs.length = i := by have := hrow.1; omega
        by_cases e : k = i
        · subst e
          rw [hl] at hl'
          cases hl'
          exact ⟨r', by rw [← hxl]; simp, h1⟩
        · obtain ⟨r2, q1, q2⟩ := hr k l' (by omega) hl'
          exact ⟨r2, by rw [List.getElem?_append_left (by omega)]; exact q1, q2⟩
      have hzz := T.size
      by_cases h4 : 4 < l.length
      · have t3 : decide (4 < (l.length : Int)) = true := by simp; omega
        obtain ⟨v', wa, hrun, hown, T2⟩ := row_app (t := wr.heap.size) (WA := wr.alloc (.cells #[.slice p1 4 p4] 27)) hrow hzz (by omega) ((Below.refl _ wr).alloc (Nat.le_refl _) _) (World.cell?_alloc_new wr #[.slice p1 4 p4] 27 0) rfl
        have F := Lib.hid (next _ _ _ (hra.cut (by omega)) hown T2)
        have RUN := Lib.hid hrun
        have G := Lib.hid hg
        have h5 : (4 : Int) ≤ (p4 : Int) := by omega
        clear hrow hr T hrun hown T2 next hra z hg hl
        go_wp2_with (refine rl_append_run (by rfl) _ _ _ (by rfl) (by rfl) (by rfl) RUN.out ?_)
        go_roundg (min 12 L.length - (i + 1))
        case measure => have := G.out; omega
        case rel => exact F.out
      · have t3 : decide (4 < (l.length : Int)) = false := by simp; omega
        obtain ⟨v', wa, hrun, hown, T2⟩ := row_app (t := wr.heap.size) (WA := wr.alloc (.cells #[.slice p1 l.length p4] 27)) hrow hzz (by omega) ((Below.refl _ wr).alloc (Nat.le_refl _) _) (World.cell?_alloc_new wr #[.slice p1 l.length p4] 27 0) rfl
        have F := Lib.hid (next _ _ _ (by rw [List.take_of_length_le (by omega)]; exact hra) hown T2)
        have RUN := Lib.hid hrun
        have G := Lib.hid hg
        clear hrow hr T hrun hown T2 next hra z hg hl
        go_wp2_with (refine rl_append_run (by rfl) _ _ _ (by rfl) (by rfl) (by rfl) RUN.out ?_)
        go_roundg (min 12 L.length - (i + 1))
        case measure => have := G.out; omega
        case rel => exact F.out
    · have hi' : i = min 12 L.length := by omega
      have hiL : i = (fewL L).length := by rw [fewL_len]; exact hi'
      have hrow2 := hrow
      rw [hiL] at hrow2
      have F := Lib.hid (show ∃ xs, wr.ownsRow w.heap.size 27 1 (.slice a3 i c3) (fewL L).length xs ∧ RowsAt wr (.slice a3 i c3) (fewL L) ∧ Turn (fun _ => False) w wr from by
        refine ⟨xs, hiL ▸ hrow, ?_, T⟩
        rcases hrow.2 with ⟨e, e2⟩ | ⟨g, cap, cur, e, _⟩
        · rw [e]
          have hz : (fewL L) = [] := List.eq_nil_of_length_eq_zero (by omega)
          rw [hz]
          exact ⟨none, 0, 0, 0, rfl, .inl rfl, fun k l h => by simp at h⟩
        · injection e with e e3 e4
          subst e
          refine ⟨some ⟨g, 0, none⟩, g, 0, c3, by rw [hiL], .inr rfl, fun k l' hl' => ?_⟩
          unfold fewL at hl'
          rw [List.getElem?_map] at hl'
          obtain ⟨l, hl, rfl⟩ := Option.map_eq_some_iff.1 hl'
          rw [List.getElem?_take] at hl
          split at hl
          case isFalse => cases hl
          case isTrue hk12 =>
            have hkl := (List.getElem?_eq_some_iff.1 hl).1
            obtain ⟨r, q1, q2⟩ := hr k l (by omega) hl
            refine ⟨r, ?_, q2.turn T⟩
            rw [Nat.zero_add]
            exact (hrow.cellAt k (by omega)).trans q1)
      clear hrow hrow2 hr T hg
      by_cases hil' : i < L.length
      · have t1 : decide ((i : Int) < (L.length : Int)) = true := by simp; omega
        have t2 : decide ((i : Int) < 12) = false := by simp; omega
        go_wp2_with fail
        go_ret
        obtain ⟨ys, hF⟩ := F.out
        rw [hi'] at hF
        exact ⟨.slice a3 (min 12 L.length) c3, ys, rfl, hF⟩
      · have t1 : decide ((i : Int) < (L.length : Int)) = false := by simp; omega
        go_wp2_with fail
        go_ret
        obtain ⟨ys, hF⟩ := F.out
        rw [hi'] at hF
        exact ⟨.slice a3 (min 12 L.length) c3, ys, rfl, hF⟩
end Go.Proofs.Ytibmimdlgbhdnaa
