/-
  Rows made matches: the walk.
-/
import Derived.Test.YtibmimdlgbhdnaaTupX
namespace Go.Proofs.Ytibmimdlgbhdnaa
open Go.ChangeShapes Go.WideShapes Go.ChangeAt Go.RowKit
set_option linter.unusedVariables false

theorem rest3 (x : Int) : ∃ n : Nat, wrap64 (1 + (wrap64 (x.tmod 3 + 3)).tmod 3) = (n : Int) ∧ 1 ≤ n ∧ n ≤ 3 := by
  have t1 : -3 < x.tmod 3 := Int.lt_tmod_of_pos x (by omega)
  have t2 : x.tmod 3 < 3 := Int.tmod_lt_of_pos x (by omega)
  have e1 : wrap64 (x.tmod 3 + 3) = x.tmod 3 + 3 := IntWalk.wrap64_in _ (by omega)
  have e2 : (x.tmod 3 + 3).tmod 3 = (x.tmod 3 + 3) % 3 := Int.tmod_eq_emod_of_nonneg (by omega)
  rw [e1, e2, IntWalk.wrap64_in _ (by omega)]
  exact ⟨(1 + (x.tmod 3 + 3) % 3).toNat, by omega, by omega, by omega⟩
set_option maxRecDepth 100000 in
set_option maxHeartbeats 4000000 in
theorem matches_is {w : World} {v0 : Value} {L : Mat} (h : RowsAt w v0 L) (hL : L.length ≤ 9223372036854775807) (hR : ∀ x ∈ L, x.length ≤ 9223372036854775807) :
    Calls Try.prog 16 #[v0] w fun e w' => ∃ v, e = .returned v ∧ MaPost w v w' := by
  have F := Lib.hid (few_is h hL hR)
  clear h hL hR
  go_enter Try.func16, Try.ntmps16
  go_wp2_with fail
  refine F.out.mono ?_
  rintro e w1 ⟨v, xs, rfl, ho, hr, t⟩
  obtain ⟨a1, c1, rfl, _⟩ := own_slice ho
  have hcap : (fewL L).length ≤ c1 := by
    rcases ho.2 with ⟨e, e2⟩ | ⟨g, cap, cur, e, _, _, hc, _⟩
    · omega
    · injection e with _ _ e
      omega
  have R0 : MaRel w w1.heap.size (fewL L).length (.slice a1 (fewL L).length c1) (.slice none 0 0) w1 := ⟨fewL L, [], a1, c1, [], rfl, hcap, rowsP_at hr, fun x hx => by
    unfold fewL at hx
    obtain ⟨y, _, rfl⟩ := List.mem_map.1 hx
    rw [List.length_take]
    omega, World.ownsRow_nil _ _ _ _, fun k M hk => by simp at hk, by have := fewL_len12 L; simpa using this, fun M hM => by simp at hM, t, rfl, Nat.le_refl _⟩
  have HB := t.size
  clear ho hr t F hcap
  generalize hLB : w1.heap.size = B at *
  generalize fewL L = L0 at *
  go_wp2_with fail
  go_loopg [0, 3] L0.length (fun gh v0 v3 wr => MaRel w B gh v0 v3 wr)
  case atStart => exact R0
  case round =>
    clear R0 hLB
    obtain ⟨L, MS, a, cap, xs, rfl, hcap, hL, h4, ho, hr, h12, hM, T, hg, hB⟩ := hrel
    cases L with
    | nil =>
      obtain ⟨a3, c3, rfl, _⟩ := own_slice ho
      have X := Lib.hid (show MaPost w (.slice a3 MS.length c3) wr from ⟨MS, xs, B, mats_own ho hr, by omega, hM, ho, hr, T⟩)
      clear ho hr hM T hL h12
      simp only [List.length_nil]
      go_wp2_with fail
      go_ret
      exact ⟨_, rfl, X.out⟩
    | cons l0 L =>
      obtain ⟨a', b, off, cap', e, ha, hx⟩ := id hL
      injection e with e1 _ e3
      subst e1
      subst e3
      obtain ⟨rfl, hbB⟩ := ha.resolve_left (by simp)
      obtain ⟨r, z, hr0⟩ := hx 0 l0 rfl
      obtain ⟨ra, rb, ro, rc, rfl, hrc, hra, hrx⟩ := hr0
      have hl4 := h4 l0 (List.mem_cons_self ..)
      have y := z
      rw [Nat.add_zero] at y
      have NX := Lib.hid (fun (w5 : World) (v' : Value) (a' : Option Addr) (cap' n : Nat) (hn1 : 1 ≤ n) (hn : n ≤ (l0 :: L).length) => ma_next (w := w) (w5 := w5) (v' := v') (a' := a') (cap' := cap') HB hn1 hn hL h4 ho hr h12 hM T hB)
      have DR := Lib.hid (fun (n : Nat) (hn : n ≤ (l0 :: L).length) => rows_drop hL hn hcap)
      have AP := Lib.hid (fun (n : Nat) => mat_app (t := wr.heap.size) (WA := wr.alloc (.cells #[.slice (some ⟨b, off, none⟩) n cap] 22)) ho hB (by omega) ((Below.refl _ wr).alloc (Nat.le_refl _) _) (World.cell?_alloc_new wr #[.slice (some ⟨b, off, none⟩) n cap] 22 0) rfl)
      obtain ⟨a3, c3, rfl, _⟩ := own_slice ho
      have G := Lib.hid hg
      have h12' : MS.length + (L.length + 1) ≤ 12 := h12
      clear ho hr hM T hL hx z hg h4 h12 ha
      simp only [List.length_cons] at hcap ⊢
      have tg : decide ((0 : Int) < ((L.length + 1 : Nat) : Int)) = true := decide_eq_true (by omega)
      obtain ⟨m, hm⟩ : ∃ m, m = L.length + 1 := ⟨_, rfl⟩
      rw [← hm] at hcap tg h12' ⊢
      have hm0 : 0 < m := by omega
      have hm1 : (0 : Int) < (m : Int) := by omega
      have HM := Lib.hid hm
      clear hm
      go_upto_if 14 with fail
      go_cut [4] (fun v4 wx => (∃ n : Nat, v4 = .int .i64 (n : Int) ∧ 1 ≤ n ∧ n ≤ 3) ∧ wx = wr)
      case first =>
        cases l0 with
        | nil =>
          simp only [List.length_nil]
          go_wp2_with fail
          go_meet
          case rel => exact ⟨⟨1, rfl, Nat.le_refl _, by omega⟩, rfl⟩
        | cons x l0 =>
          obtain ⟨rfl, hbr⟩ := hra.resolve_left (by simp)
          have y2 := hrx 0 x rfl
          rw [Nat.add_zero] at y2
          simp only [List.length_cons] at hl4 hrc y ⊢
          have tg2 : decide ((0 : Int) < ((l0.length + 1 : Nat) : Int)) = true := decide_eq_true (by omega)
          go_wp2_with fail
          go_meet
          case rel =>
            obtain ⟨n, h1, h2, h3⟩ := rest3 x
            exact ⟨⟨n, by rw [h1], h2, h3⟩, rfl⟩
      case rest =>
        obtain ⟨⟨n, rfl, hn1, hn3⟩, rfl⟩ := hcut
        go_upto_region 7 with fail
        go_cut [4] (fun v4 wx => (∃ k : Nat, v4 = .int .i64 (k : Int) ∧ 1 ≤ k ∧ k ≤ m) ∧ wx = wc)
        case first =>
          by_cases hle : (n : Int) ≤ (m : Int)
          · go_wp2_with fail
            go_meet
            case rel => exact ⟨⟨n, rfl, hn1, by omega⟩, rfl⟩
          · go_wp2_with fail
            go_meet
            case rel => exact ⟨⟨m, rfl, hm0, Nat.le_refl _⟩, rfl⟩
        case rest =>
          obtain ⟨⟨k, rfl, hk1, hkm⟩, rfl⟩ := hcut
          obtain ⟨v', w5, hrun, ho5, T5⟩ := AP.out k
          have DD := DR.out k (by rw [List.length_cons, ← HM.out]; exact hkm)
          have RUN := Lib.hid hrun
          obtain ⟨a5, c5, rfl, _⟩ := own_slice ho5
          have FIN := Lib.hid (NX.out w5 _ _ _ k hk1 (by rw [List.length_cons, ← HM.out]; exact hkm) ho5 T5 DD (by rw [List.length_cons, ← HM.out]; omega))
          rw [List.length_cons, ← HM.out] at FIN
          have hk0 : (0 : Int) ≤ (k : Int) := by omega
          have hkm1 : (k : Int) ≤ (m : Int) := by omega
          have hkc : (k : Int) ≤ (cap : Int) := by omega
          have hmc : (m : Int) ≤ (cap : Int) := by omega
          have em : (m : Int) - (k : Int) = ((m - k : Nat) : Int) := by omega
          clear hrun ho5 T5 DD
          by_cases hck : cap = k
          · rw [if_pos hck] at FIN
            obtain rfl : m = k := by omega
            obtain rfl : cap = m := hck
            simp only [Nat.sub_self] at FIN
            clear em
            go_wp2_with (refine rl_append_run (by rfl) _ _ _ (by rfl) (by rfl) (by rfl) RUN.out ?_)
            go_roundg 0
            case measure => have := G.out; rw [List.length_cons] at this; omega
            case rel => exact FIN.out
          · rw [if_neg hck] at FIN
            go_wp2_with (refine rl_append_run (by rfl) _ _ _ (by rfl) (by rfl) (by rfl) RUN.out ?_)
            go_roundg (m - k)
            case measure => have := G.out; have := HM.out; rw [List.length_cons] at *; omega
            case rel => exact FIN.out
end Go.Proofs.Ytibmimdlgbhdnaa
