/-
  The number that digits are.
-/
import Derived.Test.YtjahjdmabconeaaDoorQb
namespace Go.Proofs.YtjahjdmabconeaaDoor
open Go.ChangeShapes Go.WideShapes Go.ChangeAt Go.RowKit
set_option linter.unusedVariables false
theorem dg_sub {k : Nat} (h : 48 ≤ k ∧ k ≤ 57) : IntKind.u8.wrap ((k : Int) - 48) = ((k - 48 : Nat) : Int) := by rw [IntKind.wrap_u8]; omega
theorem dg_conv {k : Nat} (h : 48 ≤ k ∧ k ≤ 57) : wrap64 ((k - 48 : Nat) : Int) = ((k - 48 : Nat) : Int) := by unfold wrap64; omega
theorem dg_max {d : Nat} (h : d < 10) : wrap64 (9223372036854775807 - (d : Int)) = 9223372036854775807 - (d : Int) := by unfold wrap64; omega
theorem dg_quo {d : Nat} (h : d < 10) : (9223372036854775807 - (d : Int)).tdiv 10 = (((9223372036854775807 - d) / 10 : Nat) : Int) ∧ (9223372036854775807 - (d : Int)) / 10 = (((9223372036854775807 - d) / 10 : Nat) : Int) := by
  have e : (9223372036854775807 - (d : Int)) / 10 = (((9223372036854775807 - d) / 10 : Nat) : Int) := by omega
  exact ⟨by rw [Int.tdiv_eq_ediv_of_nonneg (by omega)]; exact e, e⟩
theorem dg_big {X d : Nat} (h : d < 10) : (9223372036854775807 - d) / 10 < X ↔ ¬ X * 10 + d < 9223372036854775808 := by omega
theorem dg_ten {X d : Nat} (h : X * 10 + d < 9223372036854775808) : wrap64 ((X : Int) * 10) = (X : Int) * 10 ∧ wrap64 ((X : Int) * 10 + (d : Int)) = ((X * 10 + d : Nat) : Int) := by constructor <;> (unfold wrap64; omega)
theorem dg_q {q : Nat} (h : q ≤ 9223372036854775807) : wrap64 (q : Int) = (q : Int) := by unfold wrap64; omega
theorem dg_q2 {q d : Nat} (h : q = (9223372036854775807 - d) / 10) : wrap64 (q : Int) = (q : Int) := dg_q (by omega)
theorem dec_snoc (l : List UInt8) (c : UInt8) (a : Nat) : decV a (l ++ [c]) = decV a l * 10 + (c.toNat - 48) := by
  unfold decV
  rw [List.foldl_append]
  rfl
theorem dec_mono (l m : List UInt8) (a : Nat) : decV a l ≤ decV a (l ++ m) := by
  unfold decV
  rw [List.foldl_append]
  exact decV_le m _
def NuRel (l : List UInt8) (v3 v4 : Value) : Prop := ∃ j : Nat, v4 = .int .i64 (j : Int) ∧ j ≤ l.length ∧ v3 = .int .i64 (decV 0 (l.take j) : Int) ∧ decV 0 (l.take j) < 9223372036854775808
theorem size65 : (Tryd.prog.info? 65).map (fun i => i.size) = some 2 := by kernel_rfl
def NumPost (w : World) (l : List UInt8) (e : Ending) (w' : World) : Prop :=
  Turn (fun _ => False) w w' ∧ ((decV 0 l < 9223372036854775808 ∧ e = .returned (.agg #[.int .i64 (decV 0 l : Int), .bool true])) ∨ (¬ decV 0 l < 9223372036854775808 ∧ e = .returned (.agg #[.int .i64 0, .bool false])))
set_option maxRecDepth 100000 in
set_option maxHeartbeats 1000000 in
theorem number_is (w : World) (s : ByteArray) (hd : ∀ c ∈ s.data.toList, isDigit c = true) (hs : s.size ≤ 140737488355328) : Calls Tryd.prog 31 #[.string s] w (NumPost w s.data.toList) := by
  have HS := Lib.hid hs
  have HD := Lib.hid hd
  have SZ := Lib.hid (str_len s)
  have SA := Lib.hid (fun (j : Nat) (c : UInt8) (h : s.data.toList[j]? = some c) => str_at (s := s) h)
  clear hs hd
  generalize s.data.toList = l at *
  go_enter Tryd.func31, Tryd.ntmps31
  go_wp2_with fail
  go_loop [3, 4] (fun v3 v4 => NuRel l v3 v4) (fun _ v4 => l.length + 1 - (intOf v4).toNat)
  case atStart => exact ⟨0, rfl, Nat.zero_le _, rfl, by simp [decV]⟩
  case round =>
    obtain ⟨j, rfl, hj, rfl, hv⟩ := hrel
    by_cases hjn : j < l.length
    · obtain ⟨c, hc⟩ : ∃ c, l[j]? = some c := ⟨_, List.getElem?_eq_getElem hjn⟩
      have hx := SA.out _ c hc
      have hdc : 48 ≤ c.toNat ∧ c.toNat ≤ 57 := by simpa [isDigit] using HD.out c (List.mem_of_getElem? hc)
      have u1 : decide ((j : Int) < (s.size : Int)) = true := dec_ilt (by rw [SZ.out]; exact hjn)
      have u1n : decide (j < s.size) = true := decide_eq_true (by rw [SZ.out]; exact hjn)
      have hw2 := wrap_one (a := j) (by have := SZ.out; have := HS.out; omega)
      have htk : l.take (j + 1) = l.take j ++ [c] := by rw [List.take_add_one, hc]; rfl
      have hdv := dec_snoc (l.take j) c 0
      rw [← htk] at hdv
      have x1 := dg_sub hdc
      have x2 := dg_conv hdc
      have hd9 : c.toNat - 48 < 10 := by omega
      obtain ⟨d, hd⟩ : ∃ d, d = c.toNat - 48 := ⟨_, rfl⟩
      rw [← hd] at hdv x1 x2 hd9
      obtain ⟨X, hX⟩ : ∃ X, X = decV 0 (l.take j) := ⟨_, rfl⟩
      rw [← hX] at hdv hv ⊢
      have x3 := dg_max hd9
      obtain ⟨x4, x5⟩ := dg_quo hd9
      obtain ⟨q, hq⟩ : ∃ q, q = (9223372036854775807 - d) / 10 := ⟨_, rfl⟩
      rw [← hq] at x4 x5
      have x6 := dg_q2 hq
      have hb := dg_big (X := X) hd9
      rw [← hq] at hb
      clear hq
      obtain ⟨m, hm⟩ : ∃ m : Int, m = (c.toNat : Int) := ⟨_, rfl⟩
      rw [← hm] at hx x1
      by_cases hbig : q < X
      · have u2 : decide ((X : Int) > (q : Int)) = true := dec_ilt hbig
        have u3 : decide ((q : Int) < (X : Int)) = true := dec_ilt hbig
        have u4 : decide (q < X) = true := decide_eq_true hbig
        have FIN := Lib.hid (show ¬ decV 0 l < 9223372036854775808 from fun e => (hb.1 hbig) (by
          rw [← hdv]
          have := dec_mono (l.take (j + 1)) (l.drop (j + 1)) 0
          rw [List.take_append_drop] at this
          exact Nat.lt_of_le_of_lt this e))
        clear hb hbig hX hv hdv hd hdc hc htk hm hjn hj hd9
        go_wp2_with fail
        exact bodyPost_ret (v := .agg #[.int .i64 0, .bool false]) (res_cell (a := 2) rfl rfl (run_loadVar_mid _ w.heap.size 0 65 _ _ (range_new w [.int .i64 0, .bool false] 65) Tryd.underlying65 rfl size65)) rfl ⟨(Turn.refl _ _).alloc _, .inr ⟨FIN.out, rfl⟩⟩
      · have hlt : X * 10 + d < 9223372036854775808 := Decidable.byContradiction fun e => hbig (hb.2 e)
        have u2 : decide ((X : Int) > (q : Int)) = false := dec_inlt hbig
        have u3 : decide ((q : Int) < (X : Int)) = false := dec_inlt hbig
        have u4 : decide (q < X) = false := decide_eq_false hbig
        obtain ⟨x7, x8⟩ := dg_ten hlt
        obtain ⟨Y, hY⟩ : ∃ Y, Y = X * 10 + d := ⟨_, rfl⟩
        rw [← hY] at x8 hdv hlt
        have FIN := Lib.hid (And.intro hjn (And.intro hdv hlt))
        clear hb hbig hX hv hdv hd hdc hc htk hm hjn hj hd9 hY hlt
        go_wp2_with fail
        go_round
        case rel => exact ⟨j + 1, congrArg _ hw2, FIN.out.1, by rw [FIN.out.2.1]; exact congrArg _ x8, by rw [FIN.out.2.1]; exact FIN.out.2.2⟩
        case measure => rw [hw2]; have := FIN.out.1; simp [intOf]; omega
    · obtain rfl : j = l.length := by omega
      rw [List.take_length] at hv ⊢
      have u1 : decide ((l.length : Int) < (s.size : Int)) = false := dec_inlt (by rw [SZ.out]; omega)
      have u1n : decide (l.length < s.size) = false := decide_eq_false (by rw [SZ.out]; omega)
      obtain ⟨X, hX⟩ : ∃ X, X = decV 0 l := ⟨_, rfl⟩
      rw [← hX] at hv ⊢
      have FIN := Lib.hid (And.intro hX hv)
      clear hj hjn hv hX
      go_wp2_with fail
      exact bodyPost_ret (v := .agg #[.int .i64 (X : Int), .bool true]) (res_cell (a := 2) rfl rfl (run_loadVar_mid _ w.heap.size 0 65 _ _ (range_new w [.int .i64 (X : Int), .bool true] 65) Tryd.underlying65 rfl size65)) rfl ⟨(Turn.refl _ _).alloc _, .inl ⟨by rw [← FIN.out.1]; exact FIN.out.2, by rw [← FIN.out.1]⟩⟩
end Go.Proofs.YtjahjdmabconeaaDoor
