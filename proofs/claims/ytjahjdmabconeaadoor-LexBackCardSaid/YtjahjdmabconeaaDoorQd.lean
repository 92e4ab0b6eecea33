/-
  The document's signs.
-/
import Derived.Test.YtjahjdmabconeaaDoorQc
import Derived.Test.YtjahjdmabconeaaDoorPd
namespace Go.Proofs.YtjahjdmabconeaaDoor
open Go.ChangeShapes Go.WideShapes Go.ChangeAt Go.RowKit
set_option linter.unusedVariables false
theorem sign_mem (c : UInt8) : isSign c = true ↔ c ∈ signsL := by
  have h : ∀ n : Fin 256, (isSign (UInt8.ofNat n.val) = true ↔ UInt8.ofNat n.val ∈ signsL) := by decide +kernel
  have := h ⟨c.toNat, c.toNat_lt⟩
  simpa using this
theorem signs_at (j : Nat) (h : j < 14) : ∃ x : UInt8, signsL[j]? = some x ∧ ∀ W, (Instr.index 9 (.string ⟨#[44, 43, 45, 42, 47, 37, 61, 60, 62, 46, 35, 33, 40, 41]⟩) (.int .i64 (j : Int))).run Tryd.prog W = .ok (.int .u8 (x.toNat : Int)) W := by
  obtain ⟨x, hx⟩ : ∃ x, signsL[j]? = some x := ⟨_, List.getElem?_eq_getElem (by exact h)⟩
  exact ⟨x, hx, fun W => str_at (s := ⟨#[44, 43, 45, 42, 47, 37, 61, 60, 62, 46, 35, 33, 40, 41]⟩) hx W⟩
def SgRel (w : World) (c : UInt8) (v : Value) (wr : World) : Prop := ∃ j : Nat, v = .int .i64 (j : Int) ∧ j ≤ 14 ∧ (∀ k x, k < j → signsL[k]? = some x → x ≠ c) ∧ Turn (fun _ => False) w wr
theorem dec_beq8 (a b : UInt8) : ((a.toNat : Int) == (b.toNat : Int)) = decide (a = b) := by
  rw [Bool.eq_iff_iff]
  simp
  constructor
  · intro h; exact UInt8.toNat_inj.1 (by omega)
  · rintro rfl; rfl
/-- The loop over the signs. -/
theorem drop_cons {l : List UInt8} {i : Nat} {c : UInt8} (h : l[i]? = some c) : l.drop i = c :: l.drop (i + 1) := by
  obtain ⟨h1, h2⟩ := List.getElem?_eq_some_iff.1 h
  rw [← List.getElem_cons_drop h1, h2]
set_option maxRecDepth 100000 in
set_option maxHeartbeats 1000000 in
theorem rsign_is (w : World) (s : ByteArray) {i : Nat} (hi : i < s.size) (hs : s.size ≤ 140737488355328) : Calls Tryd.prog 33 #[.string s, .int .i64 (i : Int)] w fun e w' => e = .returned (.int .i64 (signB (s.data.toList.drop i) : Int)) ∧ Turn (fun _ => False) w w' := by
  obtain ⟨c, hc⟩ : ∃ c, s.data.toList[i]? = some c := ⟨_, List.getElem?_eq_getElem (by rw [← str_len]; exact hi)⟩
  have hx0 : ∀ W, (Instr.index 9 (.string s) (.int .i64 (i : Int))).run Tryd.prog W = .ok (.int .u8 (c.toNat : Int)) W := fun W => str_at hc W
  have hw := wrap_one (a := i) (by omega)
  have IN := Lib.hid (fun (w : World) => signs_at)
  have DB := Lib.hid (fun (a : UInt8) => dec_beq8 a c)
  have SM := Lib.hid (sign_mem c)
  -- the loop, whatever comes ahead of it
  have key : ∀ R, R = signB (s.data.toList.drop i) → (∃ two : Bool, (two = true → R = 2) ∧ (two = false → R = if isSign c then 1 else 0) ∧ ((two = false ∧ ¬ i + 1 < s.size) ∨ ∃ d : UInt8, i + 1 < s.size ∧ s.data.toList[i + 1]? = some d ∧ two = decide (d.toNat = 61 ∧ (c.toNat = 33 ∨ c.toNat = 60 ∨ c.toNat = 62)))) := by
    rintro R rfl
    rw [drop_cons hc]
    by_cases h1 : i + 1 < s.size
    · obtain ⟨d, hd⟩ : ∃ d, s.data.toList[i + 1]? = some d := ⟨_, List.getElem?_eq_getElem (by rw [← str_len]; exact h1)⟩
      rw [drop_cons hd]
      refine ⟨decide (d.toNat = 61 ∧ (c.toNat = 33 ∨ c.toNat = 60 ∨ c.toNat = 62)), fun h => ?_, fun h => ?_, .inr ⟨d, h1, hd, rfl⟩⟩
      · show (if _ then _ else _) = _
        rw [if_pos (of_decide_eq_true h)]
      · show (if _ then _ else _) = _
        rw [if_neg (of_decide_eq_false h)]
    · refine ⟨false, fun h => (Bool.noConfusion h), fun _ => ?_, .inl ⟨rfl, h1⟩⟩
      rw [List.drop_eq_nil_of_le (by rw [← str_len]; omega)]
      rfl
  obtain ⟨R, hR⟩ : ∃ R, R = signB (s.data.toList.drop i) := ⟨_, rfl⟩
  obtain ⟨two, k1, k2, k3⟩ := key R hR
  rw [← hR]
  clear key hR
  have HB := Lib.hid (And.intro hi hs)
  clear hi hs
  cases two with
  | true =>
    rcases k3 with ⟨h, _⟩ | ⟨d, h1, hd, h2⟩
    · cases h
    · replace h2 := of_decide_eq_true h2.symm
      obtain rfl := k1 rfl
      have hx1 : ∀ W, (Instr.index 9 (.string s) (.int .i64 ((i + 1 : Nat) : Int))).run Tryd.prog W = .ok (.int .u8 (d.toNat : Int)) W := fun W => str_at hd W
      have u1 := dec_ilt h1
      obtain ⟨p, hp⟩ : ∃ p : Int, p = ((i + 1 : Nat) : Int) := ⟨_, rfl⟩
      obtain ⟨m, hm⟩ : ∃ m : Int, m = (c.toNat : Int) := ⟨_, rfl⟩
      obtain ⟨k, hk⟩ : ∃ k : Int, k = (d.toNat : Int) := ⟨_, rfl⟩
      rw [← hp] at hx1 u1 hw
      rw [← hm] at hx0
      rw [← hk] at hx1
      have hk1 : k = 61 := by omega
      have hm1 : m = 33 ∨ m = 60 ∨ m = 62 := by omega
      clear hp hm hk hd h1 h2 k1 k2 hc
      subst hk1
      rcases hm1 with rfl | rfl | rfl
      all_goals
        go_enter Tryd.func33, Tryd.ntmps33
        go_wp2_with fail
        go_ret
        exact ⟨rfl, Turn.refl _ _⟩
  | false =>
    have K2 := Lib.hid (k2 rfl)
    clear k1 k2
    obtain ⟨m, hm⟩ : ∃ m : Int, m = (c.toNat : Int) := ⟨_, rfl⟩
    rw [← hm] at hx0
    have HM := Lib.hid hm
    have TWO : (∃ p : Int, wrap64 ((i : Int) + 1) = p ∧ decide (p < (s.size : Int)) = false) ∨ (∃ p k : Int, wrap64 ((i : Int) + 1) = p ∧ decide (p < (s.size : Int)) = true ∧ (∀ W, (Instr.index 9 (.string s) (.int .i64 p)).run Tryd.prog W = .ok (.int .u8 k) W) ∧ (k == 61) = false) ∨
        (∃ p : Int, wrap64 ((i : Int) + 1) = p ∧ decide (p < (s.size : Int)) = true ∧ (∀ W, (Instr.index 9 (.string s) (.int .i64 p)).run Tryd.prog W = .ok (.int .u8 61) W) ∧ (m == 33) = false ∧ (m == 60) = false ∧ (m == 62) = false) := by
      rcases k3 with ⟨_, h1⟩ | ⟨d, h1, hd, h2⟩
      · exact .inl ⟨_, hw, dec_inlt h1⟩
      · replace h2 := of_decide_eq_false h2.symm
        have hx1 := fun W => str_at hd W
        by_cases h61 : d.toNat = 61
        · rw [h61] at hx1
          refine .inr (.inr ⟨_, hw, dec_ilt h1, hx1, ?_, ?_, ?_⟩)
          all_goals (simp only [hm, beq_eq_false_iff_ne, ne_eq]; omega)
        · refine .inr (.inl ⟨_, (d.toNat : Int), hw, dec_ilt h1, hx1, ?_⟩)
          simp only [beq_eq_false_iff_ne, ne_eq]
          omega
    clear hw hm k3 hc
    rcases TWO with ⟨p, hw, u1⟩ | ⟨p, k, hw, u1, hx1, q1⟩ | ⟨p, hw, u1, hx1, q2, q3, q4⟩
    all_goals
      go_enter Tryd.func33, Tryd.ntmps33
      go_wp2_with fail
      go_loopw [6] (fun v wr => SgRel w c v wr) (fun v _ => 15 - (intOf v).toNat)
      case atStart => exact ⟨0, by simp, by omega, fun k x hk => by omega, Turn.refl _ _⟩
      case round =>
        obtain ⟨j, rfl, hj, hall, TT⟩ := hrel
        have HJ := Lib.hid (And.intro hj (And.intro hall TT))
        clear TT
        by_cases hjn : j < 14
        · obtain ⟨x, hx, hxr⟩ := IN.out w j hjn
          have v1 : decide ((j : Int) < 14) = true := decide_eq_true (by omega)
          have v2 := wrap_one (a := j) (by omega)
          have b1 := DB.out x
          rw [← HM.out] at b1
          obtain ⟨y, hy⟩ : ∃ y : Int, y = (x.toNat : Int) := ⟨_, rfl⟩
          rw [← hy] at b1 hxr
          have HX := Lib.hid (And.intro hx hjn)
          have ME := Lib.hid (show 15 - (intOf (.int .i64 ((j + 1 : Nat) : Int))).toNat < 15 - (intOf (.int .i64 (j : Int))).toNat by simp only [intOf]; omega)
          obtain ⟨q, hq⟩ : ∃ q : Int, q = (j : Int) := ⟨_, rfl⟩
          have HQ := Lib.hid hq
          rw [← hq] at v1 v2 hxr ⊢
          clear hj hall hx hy hjn hq
          by_cases hxc : x = c
          · rw [decide_eq_true hxc] at b1
            have YES := Lib.hid (K2.out.trans (if_pos (SM.out.2 (by rw [← hxc]; exact List.mem_of_getElem? HX.out.1))))
            clear hxc
            go_wp2_with fail
            go_region
            all_goals go_wp2_with fail
            all_goals go_ret
            all_goals exact ⟨by rw [YES.out]; rfl, HJ.out.2.2.drewN 1⟩
          · rw [decide_eq_false hxc] at b1
            have NEX := Lib.hid hxc
            clear hxc
            go_wp2_with fail
            go_region
            all_goals go_wp2_with fail
            all_goals exact ⟨⟨j + 1, congrArg _ v2, HX.out.2, fun k z hk hz => by
              rcases Nat.lt_succ_iff_lt_or_eq.1 hk with h | rfl
              · exact HJ.out.2.1 k z h hz
              · rw [HX.out.1] at hz; injection hz with hz; rw [← hz]; exact NEX.out, HJ.out.2.2.drewN 1⟩, by rw [v2, HQ.out]; exact ME.out⟩
        · obtain rfl : j = 14 := by omega
          have NO := Lib.hid (K2.out.trans (if_neg (fun h => by
            obtain ⟨k, hk, hkc⟩ := List.getElem_of_mem (SM.out.1 h)
            exact hall k c hk (List.getElem?_eq_some_iff.2 ⟨hk, hkc⟩) rfl)))
          clear hj hall hjn
          go_wp2_with fail
          go_ret
          exact ⟨by rw [NO.out]; rfl, HJ.out.2.2⟩
end Go.Proofs.YtjahjdmabconeaaDoor
