/-
  The document's words for bytes, and how far they go on.
  How far digits, or words, go on; the number that digits are.
  The number that digits are.
  The document's signs.
  The document's token at a place.
-/
import Derived.Test.YtadogobdlcionaaGreatDoorKab
import Derived.Lib.Hide
import Derived.Test.YtadogobdlcionaaGreatDoorKad
import Derived.Test.YtadogobdlcionaaGreatDoorKae
set_option linter.unusedSimpArgs false
namespace Go.Proofs.YtadogobdlcionaaGreatDoor.Doc
open Go.ChangeShapes Go.WideShapes Go.ChangeAt Go.RowKit
set_option linter.unusedVariables false
theorem dec_beq (a k : Nat) : decide (a = k) = ((a : Int) == (k : Int)) := by rw [Bool.eq_iff_iff]; simp; omega
set_option maxRecDepth 100000 in
theorem rsmall_is (w : World) (c : UInt8) : Calls Tryz.prog 60 #[.int .u8 (c.toNat : Int)] w fun e w' => e = .returned (.bool (isSmall c)) ∧ w = w' := by
  unfold isSmall
  obtain ⟨n, hn⟩ : ∃ n : Int, n = (c.toNat : Int) := ⟨_, rfl⟩
  have e1 : decide (97 ≤ c.toNat) = decide ((97 : Int) ≤ n) := by rw [hn]; apply decide_eq_decide.2; omega
  have e2 : decide (c.toNat ≤ 122) = decide (n ≤ (122 : Int)) := by rw [hn]; apply decide_eq_decide.2; omega
  rw [e1, e2, ← hn]
  clear hn e1 e2
  cases h1 : decide ((97 : Int) ≤ n) <;> cases h2 : decide (n ≤ (122 : Int)) <;>
  · go_enter Tryz.func60, Tryz.ntmps60
    go_wp2
    go_ret
    exact ⟨rfl, rfl⟩
set_option maxRecDepth 100000 in
theorem rdigit_is (w : World) (c : UInt8) : Calls Tryz.prog 62 #[.int .u8 (c.toNat : Int)] w fun e w' => e = .returned (.bool (isDigit c)) ∧ w = w' := by
  unfold isDigit
  obtain ⟨n, hn⟩ : ∃ n : Int, n = (c.toNat : Int) := ⟨_, rfl⟩
  have e1 : decide (48 ≤ c.toNat) = decide ((48 : Int) ≤ n) := by rw [hn]; apply decide_eq_decide.2; omega
  have e2 : decide (c.toNat ≤ 57) = decide (n ≤ (57 : Int)) := by rw [hn]; apply decide_eq_decide.2; omega
  rw [e1, e2, ← hn]
  clear hn e1 e2
  cases h1 : decide ((48 : Int) ≤ n) <;> cases h2 : decide (n ≤ (57 : Int)) <;>
  · go_enter Tryz.func62, Tryz.ntmps62
    go_wp2
    go_ret
    exact ⟨rfl, rfl⟩
set_option maxRecDepth 100000 in
theorem rcap_is (w : World) (c : UInt8) : Calls Tryz.prog 81 #[.int .u8 (c.toNat : Int)] w fun e w' => e = .returned (.bool (isCap c)) ∧ w = w' := by
  unfold isCap
  obtain ⟨n, hn⟩ : ∃ n : Int, n = (c.toNat : Int) := ⟨_, rfl⟩
  have e1 : decide (65 ≤ c.toNat) = decide ((65 : Int) ≤ n) := by rw [hn]; apply decide_eq_decide.2; omega
  have e2 : decide (c.toNat ≤ 90) = decide (n ≤ (90 : Int)) := by rw [hn]; apply decide_eq_decide.2; omega
  rw [e1, e2, ← hn]
  clear hn e1 e2
  cases h1 : decide ((65 : Int) ≤ n) <;> cases h2 : decide (n ≤ (90 : Int)) <;>
  · go_enter Tryz.func81, Tryz.ntmps81
    go_wp2
    go_ret
    exact ⟨rfl, rfl⟩
set_option maxRecDepth 100000 in
theorem rblank_is (w : World) (c : UInt8) : Calls Tryz.prog 42 #[.int .u8 (c.toNat : Int)] w fun e w' => e = .returned (.bool (isBlank c)) ∧ w = w' := by
  unfold isBlank
  obtain ⟨n, hn⟩ : ∃ n : Int, n = (c.toNat : Int) := ⟨_, rfl⟩
  have e1 : decide (c.toNat = 32) = (n == 32) := by rw [hn]; exact dec_beq _ _
  have e2 : decide (c.toNat = 9) = (n == 9) := by rw [hn]; exact dec_beq _ _
  have e3 : decide (c.toNat = 10) = (n == 10) := by rw [hn]; exact dec_beq _ _
  rw [e1, e2, e3, ← hn]
  clear hn e1 e2 e3
  cases h1 : (n == 32) <;> cases h2 : (n == 9) <;> cases h3 : (n == 10) <;>
  · go_enter Tryz.func42, Tryz.ntmps42
    go_wp2
    go_ret
    exact ⟨rfl, rfl⟩
/-- Does a letter stand at a place? -/
def letterB (l : List UInt8) : Bool := headB isLetter l
set_option maxRecDepth 100000 in
theorem rletter_is (w : World) (s : ByteArray) {i : Nat} (hi : i ≤ s.size) (hs : s.size ≤ 140737488355328) : Calls Tryz.prog 64 #[.string s, .int .i64 (i : Int)] w fun e w' => e = .returned (.bool (headB isLetter (s.data.toList.drop i))) ∧ w = w' := by
  by_cases hlt : i < s.size
  · obtain ⟨c, hc⟩ : ∃ c, s.data.toList[i]? = some c := ⟨_, List.getElem?_eq_getElem (by rw [← str_len]; exact hlt)⟩
    have hb : headB isLetter (s.data.toList.drop i) = (isSmall c || isCap c) := by
      cases hd : s.data.toList.drop i with
      | nil => have := congrArg (fun l => l[0]?) hd; simp only [List.getElem?_drop, Nat.add_zero, hc] at this; cases this
      | cons x r => have := congrArg (fun l => l[0]?) hd; simp only [List.getElem?_drop, Nat.add_zero, hc] at this; simp at this; subst this; rfl
    rw [hb]
    have hx := fun W => str_at hc W
    have S := Lib.hid (rsmall_is w c)
    have K := Lib.hid (rcap_is w c)
    have u1 : decide ((i : Int) ≥ (s.size : Int)) = false := decide_eq_false (by omega)
    have u2 : decide ((s.size : Int) ≤ (i : Int)) = false := decide_eq_false (by omega)
    have u3 : decide (s.size ≤ i) = false := decide_eq_false (by omega)
    generalize (c.toNat : Int) = n at *
    generalize isSmall c = b at *
    generalize isCap c = d at *
    clear hb hc hi hlt
    cases b <;> cases d <;>
    · go_enter Tryz.func64, Tryz.ntmps64
      go_wp2_with fail
      with_reducible refine S.out.mono ?_
      rintro e w1 ⟨rfl, rfl⟩
      go_wp2_with fail
      with_reducible refine K.out.mono ?_
      rintro e w1 ⟨rfl, rfl⟩
      go_wp2_with fail
      go_ret
      exact ⟨rfl, rfl⟩
  · have hb : headB isLetter (s.data.toList.drop i) = false := by rw [List.drop_eq_nil_of_le (by rw [← str_len]; omega)]; rfl
    rw [hb]
    have u1 : decide ((i : Int) ≥ (s.size : Int)) = true := decide_eq_true (by omega)
    have u2 : decide ((s.size : Int) ≤ (i : Int)) = true := decide_eq_true (by omega)
    have u3 : decide (s.size ≤ i) = true := decide_eq_true (by omega)
    clear hb hi hlt
    go_enter Tryz.func64, Tryz.ntmps64
    go_wp2_with fail
    go_ret
    exact ⟨rfl, rfl⟩
end Go.Proofs.YtadogobdlcionaaGreatDoor.Doc
namespace Go.Proofs.YtadogobdlcionaaGreatDoor.Doc
open Go.ChangeShapes Go.WideShapes Go.ChangeAt Go.RowKit
set_option linter.unusedVariables false
/-- Letters too, or digits alone. -/
def kindB (b : Bool) (c : UInt8) : Bool := isDigit c || (b && isSmall c)
theorem kindB_word (c : UInt8) : kindB true c = isWord c := by unfold kindB isWord; cases isDigit c <;> cases isSmall c <;> rfl
theorem kindB_digit (c : UInt8) : kindB false c = isDigit c := by unfold kindB; cases isDigit c <;> rfl
theorem span_step {p : UInt8 → Bool} {l : List UInt8} {i j : Nat} (h : j < spanB p (l.drop i)) : ∃ c, l[i + j]? = some c ∧ p c = true := by
  have hl := spanB_le p (l.drop i)
  obtain ⟨c, hc⟩ : ∃ c, (l.drop i)[j]? = some c := ⟨_, List.getElem?_eq_getElem (by omega)⟩
  exact ⟨c, by rw [← List.getElem?_drop]; exact hc, spanB_all p _ j c h hc⟩
def GoRel (n : Nat) (v : Value) : Prop := ∃ j : Nat, v = .int .i64 (j : Int) ∧ j ≤ n
theorem wrap_sum {a b : Nat} (h : a + b ≤ 140737488355329) : wrap64 ((a : Int) + (b : Int)) = ((a + b : Nat) : Int) := by unfold wrap64; omega
theorem wrap_one {a : Nat} (h : a ≤ 140737488355329) : wrap64 ((a : Int) + 1) = ((a + 1 : Nat) : Int) := by unfold wrap64; omega
theorem dec_ilt {a b : Nat} (h : a < b) : decide ((a : Int) < (b : Int)) = true := decide_eq_true (by omega)
theorem dec_inlt {a b : Nat} (h : ¬ a < b) : decide ((a : Int) < (b : Int)) = false := decide_eq_false (by omega)
set_option maxRecDepth 100000 in
set_option maxHeartbeats 1000000 in
theorem goes_is (w : World) (s : ByteArray) {i : Nat} (b : Bool) (hi : i ≤ s.size) (hs : s.size ≤ 140737488355328) : Calls Tryz.prog 61 #[.string s, .int .i64 (i : Int), .bool b] w fun e w' => e = .returned (.int .i64 (spanB (kindB b) (s.data.toList.drop i) : Int)) ∧ w = w' := by
  obtain ⟨n, hn⟩ : ∃ n, n = spanB (kindB b) (s.data.toList.drop i) := ⟨_, rfl⟩
  rw [← hn]
  have hle : i + n ≤ s.size := by
    have := spanB_le (kindB b) (s.data.toList.drop i)
    rw [List.length_drop, ← str_len] at this
    omega
  have IN : Hid (∀ j, j < n → ∃ c, s.data.toList[i + j]? = some c ∧ kindB b c = true) := Lib.hid fun j hj => span_step (by rw [← hn]; exact hj)
  have EN : Hid (i + n < s.size → ∃ c, s.data.toList[i + n]? = some c ∧ kindB b c = false) := Lib.hid fun hlt => by
    obtain ⟨c, hc⟩ : ∃ c, s.data.toList[i + n]? = some c := ⟨_, List.getElem?_eq_getElem (by rw [← str_len]; exact hlt)⟩
    exact ⟨c, hc, spanB_end (kindB b) (s.data.toList.drop i) c (by rw [← hn, List.getElem?_drop]; exact hc)⟩
  have LE := Lib.hid (And.intro hle hs)
  have SA := Lib.hid (fun (j : Nat) (c : UInt8) (h : s.data.toList[j]? = some c) => str_at (s := s) h)
  have CS := Lib.hid (fun c => And.intro (rsmall_is w c) (rdigit_is w c))
  clear hn hi hle hs
  generalize s.data.toList = l at *
  go_enter Tryz.func61, Tryz.ntmps61
  go_wp2_with fail
  go_loop [7] (fun v => GoRel n v) (fun v => n + 1 - (intOf v).toNat)
  case atStart => exact ⟨0, by simp, Nat.zero_le _⟩
  case round =>
    obtain ⟨j, rfl, hj⟩ := hrel
    have JJ := Lib.hid hj
    have hw1 := wrap_sum (a := i) (b := j) (by have := LE.out; omega)
    have hw2 := wrap_one (a := j) (by have := LE.out; omega)
    by_cases hjn : j < n
    · obtain ⟨c, hc, hb⟩ := IN.out j hjn
      have hx := SA.out _ c hc
      have u1 := dec_ilt (a := i + j) (b := s.size) (by have := LE.out; omega)
      have u2 : decide (i + j < s.size) = true := decide_eq_true (by have := LE.out; omega)
      have D := Lib.hid (CS.out c).2
      have S := Lib.hid (CS.out c).1
      unfold kindB at hb
      obtain ⟨p, hp⟩ : ∃ p : Int, p = ((i + j : Nat) : Int) := ⟨_, rfl⟩
      rw [← hp] at hx u1 hw1
      have HJ := Lib.hid hjn
      generalize (c.toNat : Int) = m at *
      generalize isDigit c = d1 at *
      generalize isSmall c = d2 at *
      clear hp hc hj hjn u2
      have hb : d1 = true ∨ (d1 = false ∧ b = true ∧ d2 = true) := by cases b <;> cases d1 <;> cases d2 <;> simp_all
      rcases hb with rfl | ⟨rfl, rfl, rfl⟩
      all_goals
        go_wp2_with fail
        with_reducible refine D.out.mono ?_
        rintro e w1 ⟨rfl, rfl⟩
        go_wp2_with fail
        with_reducible refine S.out.mono ?_
        rintro e w1 ⟨rfl, rfl⟩
        go_wp2_with fail
        go_round
        case rel => exact ⟨j + 1, congrArg _ hw2, by have := HJ.out; omega⟩
        case measure => rw [hw2]; have := HJ.out; simp [intOf]; omega
    · obtain rfl : j = n := by omega
      by_cases hlt : i + j < s.size
      · obtain ⟨c, hc, hb⟩ := EN.out hlt
        have hx := SA.out _ c hc
        have u1 := dec_ilt hlt
        have D := Lib.hid (CS.out c).2
        have S := Lib.hid (CS.out c).1
        unfold kindB at hb
        obtain ⟨p, hp⟩ : ∃ p : Int, p = ((i + j : Nat) : Int) := ⟨_, rfl⟩
        rw [← hp] at hx u1 hw1
        generalize (c.toNat : Int) = m at *
        generalize isDigit c = d1 at *
        generalize isSmall c = d2 at *
        clear hp hc hj hjn hlt
        have hb : (d1 = false ∧ b = false) ∨ (d1 = false ∧ b = true ∧ d2 = false) := by cases b <;> cases d1 <;> cases d2 <;> simp_all
        rcases hb with ⟨rfl, rfl⟩ | ⟨rfl, rfl, rfl⟩
        all_goals
          go_wp2_with fail
          with_reducible refine D.out.mono ?_
          rintro e w1 ⟨rfl, rfl⟩
          go_wp2_with fail
          with_reducible refine S.out.mono ?_
          rintro e w1 ⟨rfl, rfl⟩
          go_wp2_with fail
          go_ret
          exact ⟨rfl, rfl⟩
      · have u1 := dec_inlt hlt
        obtain ⟨p, hp⟩ : ∃ p : Int, p = ((i + j : Nat) : Int) := ⟨_, rfl⟩
        rw [← hp] at u1 hw1
        clear hp hj hjn hlt
        go_wp2_with fail
        go_ret
        exact ⟨rfl, rfl⟩
end Go.Proofs.YtadogobdlcionaaGreatDoor.Doc
namespace Go.Proofs.YtadogobdlcionaaGreatDoor.Doc
open Go.ChangeShapes Go.WideShapes Go.ChangeAt Go.RowKit
set_option linter.unusedVariables false
theorem dg_sub {k : Nat} (h : 48 ≤ k ∧ k ≤ 57) : IntKind.u8.wrap ((k : Int) - 48) = ((k - 48 : Nat) : Int) := by rw [IntKind.wrap_u8]; omega
theorem dg_conv {k : Nat} (h : 48 ≤ k ∧ k ≤ 57) : wrap64 ((k - 48 : Nat) : Int) = ((k - 48 : Nat) : Int) := by unfold wrap64; omega
theorem dg_max {d : Nat} (h : d < 10) : wrap64 (9223372036854775807 - (d : Int)) = 9223372036854775807 - (d : Int) := by unfold wrap64; omega
theorem dg_quo {d : Nat} (h : d < 10) : (9223372036854775807 - (d : Int)).tdiv 10 = (((9223372036854775807 - d) / 10 : Nat) : Int) ∧ (9223372036854775807 - (d : Int)) / 10 = (((9223372036854775807 - d) / 10 : Nat) : Int) := by
  have e : (9223372036854775807 - (d : Int)) / 10 = (((9223372036854775807 - d) / 10 : Nat) : Int) := by omega
  exact ⟨by rw [Int.tdiv_eq_ediv_of_nonneg (by omega)]; exact e, e⟩
theorem dg_big {X d : Nat} (h : d < 10) : (9223372036854775807 - d) / 10 < X ↔ ¬ X * 10 + d < 9223372036854775808 := by omega
theorem dg_ten {X d : Nat} (h : X * 10 + d < 9223372036854775808) : wrap64 ((X : Int) * 10) = (X : Int) * 10 ∧ wrap64 ((X : Int) * 10 + (d : Int)) = ((X * 10 + d : Nat) : Int) := by constructor <;> (unfold wrap64; omega)
theorem dg_q {q : Nat} (h : q ≤ 9223372036854775807) : wrap64 (q : Int) = (q : Int) := by unfold wrap64; omega
theorem dg_q2 {q d : Nat} (h : q = (9223372036854775807 - d) / 10) : wrap64 (q : Int) = (q : Int) := dg_q (by omega)
theorem dec_snoc (l : List UInt8) (c : UInt8) (a : Nat) : decV a (l ++ [c]) = decV a l * 10 + (c.toNat - 48) := by
  unfold decV
  rw [List.foldl_append]
  rfl
theorem dec_mono (l m : List UInt8) (a : Nat) : decV a l ≤ decV a (l ++ m) := by
  unfold decV
  rw [List.foldl_append]
  exact decV_le m _
def NuRel (l : List UInt8) (v3 v4 : Value) : Prop := ∃ j : Nat, v4 = .int .i64 (j : Int) ∧ j ≤ l.length ∧ v3 = .int .i64 (decV 0 (l.take j) : Int) ∧ decV 0 (l.take j) < 9223372036854775808
theorem size65 : (Tryz.prog.info? 121).map (fun i => i.size) = some 2 := by kernel_rfl
def NumPost (w : World) (l : List UInt8) (e : Ending) (w' : World) : Prop :=
  Turn (fun _ => False) w w' ∧ ((decV 0 l < 9223372036854775808 ∧ e = .returned (.agg #[.int .i64 (decV 0 l : Int), .bool true])) ∨ (¬ decV 0 l < 9223372036854775808 ∧ e = .returned (.agg #[.int .i64 0, .bool false])))
set_option maxRecDepth 100000 in
set_option maxHeartbeats 1000000 in
theorem number_is (w : World) (s : ByteArray) (hd : ∀ c ∈ s.data.toList, isDigit c = true) (hs : s.size ≤ 140737488355328) : Calls Tryz.prog 63 #[.string s] w (NumPost w s.data.toList) := by
  have HS := Lib.hid hs
  have HD := Lib.hid hd
  have SZ := Lib.hid (str_len s)
  have SA := Lib.hid (fun (j : Nat) (c : UInt8) (h : s.data.toList[j]? = some c) => str_at (s := s) h)
  clear hs hd
  generalize s.data.toList = l at *
  go_enter Tryz.func63, Tryz.ntmps63
  go_wp2_with fail
  go_loop [3, 4] (fun v3 v4 => NuRel l v3 v4) (fun _ v4 => l.length + 1 - (intOf v4).toNat)
  case atStart => exact ⟨0, rfl, Nat.zero_le _, rfl, by simp [decV]⟩
  case round =>
    obtain ⟨j, rfl, hj, rfl, hv⟩ := hrel
    by_cases hjn : j < l.length
    · obtain ⟨c, hc⟩ : ∃ c, l[j]? = some c := ⟨_, List.getElem?_eq_getElem hjn⟩
      have hx := SA.out _ c hc
      have hdc : 48 ≤ c.toNat ∧ c.toNat ≤ 57 := by simpa [isDigit] using HD.out c (List.mem_of_getElem? hc)
      have u1 : decide ((j : Int) < (s.size : Int)) = true := dec_ilt (by rw [SZ.out]; exact hjn)
      have u1n : decide (j < s.size) = true := decide_eq_true (by rw [SZ.out]; exact hjn)
      have hw2 := wrap_one (a := j) (by have := SZ.out; have := HS.out; omega)
      have htk : l.take (j + 1) = l.take j ++ [c] := by rw [List.take_add_one, hc]; rfl
      have hdv := dec_snoc (l.take j) c 0
      rw [← htk] at hdv
      have x1 := dg_sub hdc
      have x2 := dg_conv hdc
      have hd9 : c.toNat - 48 < 10 := by omega
      obtain ⟨d, hd⟩ : ∃ d, d = c.toNat - 48 := ⟨_, rfl⟩
      rw [← hd] at hdv x1 x2 hd9
      obtain ⟨X, hX⟩ : ∃ X, X = decV 0 (l.take j) := ⟨_, rfl⟩
      rw [← hX] at hdv hv ⊢
      have x3 := dg_max hd9
      obtain ⟨x4, x5⟩ := dg_quo hd9
      obtain ⟨q, hq⟩ : ∃ q, q = (9223372036854775807 - d) / 10 := ⟨_, rfl⟩
      rw [← hq] at x4 x5
      have x6 := dg_q2 hq
      have hb := dg_big (X := X) hd9
      rw [← hq] at hb
      clear hq
      obtain ⟨m, hm⟩ : ∃ m : Int, m = (c.toNat : Int) := ⟨_, rfl⟩
      rw [← hm] at hx x1
      by_cases hbig : q < X
      · have u2 : decide ((X : Int) > (q : Int)) = true := dec_ilt hbig
        have u3 : decide ((q : Int) < (X : Int)) = true := dec_ilt hbig
        have u4 : decide (q < X) = true := decide_eq_true hbig
        have FIN := Lib.hid (show ¬ decV 0 l < 9223372036854775808 from fun e => (hb.1 hbig) (by
          rw [← hdv]
          have := dec_mono (l.take (j + 1)) (l.drop (j + 1)) 0
          rw [List.take_append_drop] at this
          exact Nat.lt_of_le_of_lt this e))
        clear hb hbig hX hv hdv hd hdc hc htk hm hjn hj hd9
        go_wp2_with fail
        exact bodyPost_ret (v := .agg #[.int .i64 0, .bool false]) (res_cell (a := 2) rfl rfl (run_loadVar_mid _ w.heap.size 0 121 _ _ (range_new w [.int .i64 0, .bool false] 121) Tryz.underlying121 rfl size65)) rfl ⟨(Turn.refl _ _).alloc _, .inr ⟨FIN.out, rfl⟩⟩
      · have hlt : X * 10 + d < 9223372036854775808 := Decidable.byContradiction fun e => hbig (hb.2 e)
        have u2 : decide ((X : Int) > (q : Int)) = false := dec_inlt hbig
        have u3 : decide ((q : Int) < (X : Int)) = false := dec_inlt hbig
        have u4 : decide (q < X) = false := decide_eq_false hbig
        obtain ⟨x7, x8⟩ := dg_ten hlt
        obtain ⟨Y, hY⟩ : ∃ Y, Y = X * 10 + d := ⟨_, rfl⟩
        rw [← hY] at x8 hdv hlt
        have FIN := Lib.hid (And.intro hjn (And.intro hdv hlt))
        clear hb hbig hX hv hdv hd hdc hc htk hm hjn hj hd9 hY hlt
        go_wp2_with fail
        go_round
        case rel => exact ⟨j + 1, congrArg _ hw2, FIN.out.1, by rw [FIN.out.2.1]; exact congrArg _ x8, by rw [FIN.out.2.1]; exact FIN.out.2.2⟩
        case measure => rw [hw2]; have := FIN.out.1; simp [intOf]; omega
    · obtain rfl : j = l.length := by omega
      rw [List.take_length] at hv ⊢
      have u1 : decide ((l.length : Int) < (s.size : Int)) = false := dec_inlt (by rw [SZ.out]; omega)
      have u1n : decide (l.length < s.size) = false := decide_eq_false (by rw [SZ.out]; omega)
      obtain ⟨X, hX⟩ : ∃ X, X = decV 0 l := ⟨_, rfl⟩
      rw [← hX] at hv ⊢
      have FIN := Lib.hid (And.intro hX hv)
      clear hj hjn hv hX
      go_wp2_with fail
      exact bodyPost_ret (v := .agg #[.int .i64 (X : Int), .bool true]) (res_cell (a := 2) rfl rfl (run_loadVar_mid _ w.heap.size 0 121 _ _ (range_new w [.int .i64 (X : Int), .bool true] 121) Tryz.underlying121 rfl size65)) rfl ⟨(Turn.refl _ _).alloc _, .inl ⟨by rw [← FIN.out.1]; exact FIN.out.2, by rw [← FIN.out.1]⟩⟩
end Go.Proofs.YtadogobdlcionaaGreatDoor.Doc
namespace Go.Proofs.YtadogobdlcionaaGreatDoor.Doc
open Go.ChangeShapes Go.WideShapes Go.ChangeAt Go.RowKit
set_option linter.unusedVariables false
theorem sign_mem (c : UInt8) : isSign c = true ↔ c ∈ signsL := by
  have h : ∀ n : Fin 256, (isSign (UInt8.ofNat n.val) = true ↔ UInt8.ofNat n.val ∈ signsL) := by decide +kernel
  have := h ⟨c.toNat, c.toNat_lt⟩
  simpa using this
theorem signs_at (j : Nat) (h : j < 14) : ∃ x : UInt8, signsL[j]? = some x ∧ ∀ W, (Instr.index 9 (.string ⟨#[44, 43, 45, 42, 47, 37, 61, 60, 62, 46, 35, 33, 40, 41]⟩) (.int .i64 (j : Int))).run Tryz.prog W = .ok (.int .u8 (x.toNat : Int)) W := by
  obtain ⟨x, hx⟩ : ∃ x, signsL[j]? = some x := ⟨_, List.getElem?_eq_getElem (by exact h)⟩
  exact ⟨x, hx, fun W => str_at (s := ⟨#[44, 43, 45, 42, 47, 37, 61, 60, 62, 46, 35, 33, 40, 41]⟩) hx W⟩
def SgRel (w : World) (c : UInt8) (v : Value) (wr : World) : Prop := ∃ j : Nat, v = .int .i64 (j : Int) ∧ j ≤ 14 ∧ (∀ k x, k < j → signsL[k]? = some x → x ≠ c) ∧ Turn (fun _ => False) w wr
theorem dec_beq8 (a b : UInt8) : ((a.toNat : Int) == (b.toNat : Int)) = decide (a = b) := by
  rw [Bool.eq_iff_iff]
  simp
  constructor
  · intro h; exact UInt8.toNat_inj.1 (by omega)
  · rintro rfl; rfl
/-- The loop over the signs. -/
theorem drop_cons {l : List UInt8} {i : Nat} {c : UInt8} (h : l[i]? = some c) : l.drop i = c :: l.drop (i + 1) := by
  obtain ⟨h1, h2⟩ := List.getElem?_eq_some_iff.1 h
  rw [← List.getElem_cons_drop h1, h2]
set_option maxRecDepth 100000 in
set_option maxHeartbeats 1000000 in
theorem rsign_is (w : World) (s : ByteArray) {i : Nat} (hi : i < s.size) (hs : s.size ≤ 140737488355328) : Calls Tryz.prog 65 #[.string s, .int .i64 (i : Int)] w fun e w' => e = .returned (.int .i64 (signB (s.data.toList.drop i) : Int)) ∧ Turn (fun _ => False) w w' := by
  obtain ⟨c, hc⟩ : ∃ c, s.data.toList[i]? = some c := ⟨_, List.getElem?_eq_getElem (by rw [← str_len]; exact hi)⟩
  have hx0 : ∀ W, (Instr.index 9 (.string s) (.int .i64 (i : Int))).run Tryz.prog W = .ok (.int .u8 (c.toNat : Int)) W := fun W => str_at hc W
  have hw := wrap_one (a := i) (by omega)
  have IN := Lib.hid (fun (w : World) => signs_at)
  have DB := Lib.hid (fun (a : UInt8) => dec_beq8 a c)
  have SM := Lib.hid (sign_mem c)
  -- the loop, whatever comes ahead of it
  have key : ∀ R, R = signB (s.data.toList.drop i) → (∃ two : Bool, (two = true → R = 2) ∧ (two = false → R = if isSign c then 1 else 0) ∧ ((two = false ∧ ¬ i + 1 < s.size) ∨ ∃ d : UInt8, i + 1 < s.size ∧ s.data.toList[i + 1]? = some d ∧ two = decide (d.toNat = 61 ∧ (c.toNat = 33 ∨ c.toNat = 60 ∨ c.toNat = 62)))) := by
    rintro R rfl
    rw [drop_cons hc]
    by_cases h1 : i + 1 < s.size
    · obtain ⟨d, hd⟩ : ∃ d, s.data.toList[i + 1]? = some d := ⟨_, List.getElem?_eq_getElem (by rw [← str_len]; exact h1)⟩
      rw [drop_cons hd]
      refine ⟨decide (d.toNat = 61 ∧ (c.toNat = 33 ∨ c.toNat = 60 ∨ c.toNat = 62)), fun h => ?_, fun h => ?_, .inr ⟨d, h1, hd, rfl⟩⟩
      · show (if _ then _ else _) = _
        rw [if_pos (of_decide_eq_true h)]
      · show (if _ then _ else _) = _
        rw [if_neg (of_decide_eq_false h)]
    · refine ⟨false, fun h => (Bool.noConfusion h), fun _ => ?_, .inl ⟨rfl, h1⟩⟩
      rw [List.drop_eq_nil_of_le (by rw [← str_len]; omega)]
      rfl
  obtain ⟨R, hR⟩ : ∃ R, R = signB (s.data.toList.drop i) := ⟨_, rfl⟩
  obtain ⟨two, k1, k2, k3⟩ := key R hR
  rw [← hR]
  clear key hR
  have HB := Lib.hid (And.intro hi hs)
  clear hi hs
  cases two with
  | true =>
    rcases k3 with ⟨h, _⟩ | ⟨d, h1, hd, h2⟩
    · cases h
    · replace h2 := of_decide_eq_true h2.symm
      obtain rfl := k1 rfl
      have hx1 : ∀ W, (Instr.index 9 (.string s) (.int .i64 ((i + 1 : Nat) : Int))).run Tryz.prog W = .ok (.int .u8 (d.toNat : Int)) W := fun W => str_at hd W
      have u1 := dec_ilt h1
      obtain ⟨p, hp⟩ : ∃ p : Int, p = ((i + 1 : Nat) : Int) := ⟨_, rfl⟩
      obtain ⟨m, hm⟩ : ∃ m : Int, m = (c.toNat : Int) := ⟨_, rfl⟩
      obtain ⟨k, hk⟩ : ∃ k : Int, k = (d.toNat : Int) := ⟨_, rfl⟩
      rw [← hp] at hx1 u1 hw
      rw [← hm] at hx0
      rw [← hk] at hx1
      have hk1 : k = 61 := by omega
      have hm1 : m = 33 ∨ m = 60 ∨ m = 62 := by omega
      clear hp hm hk hd h1 h2 k1 k2 hc
      subst hk1
      rcases hm1 with rfl | rfl | rfl
      all_goals
        go_enter Tryz.func65, Tryz.ntmps65
        go_wp2_with fail
        go_ret
        exact ⟨rfl, Turn.refl _ _⟩
  | false =>
    have K2 := Lib.hid (k2 rfl)
    clear k1 k2
    obtain ⟨m, hm⟩ : ∃ m : Int, m = (c.toNat : Int) := ⟨_, rfl⟩
    rw [← hm] at hx0
    have HM := Lib.hid hm
    have TWO : (∃ p : Int, wrap64 ((i : Int) + 1) = p ∧ decide (p < (s.size : Int)) = false) ∨ (∃ p k : Int, wrap64 ((i : Int) + 1) = p ∧ decide (p < (s.size : Int)) = true ∧ (∀ W, (Instr.index 9 (.string s) (.int .i64 p)).run Tryz.prog W = .ok (.int .u8 k) W) ∧ (k == 61) = false) ∨
        (∃ p : Int, wrap64 ((i : Int) + 1) = p ∧ decide (p < (s.size : Int)) = true ∧ (∀ W, (Instr.index 9 (.string s) (.int .i64 p)).run Tryz.prog W = .ok (.int .u8 61) W) ∧ (m == 33) = false ∧ (m == 60) = false ∧ (m == 62) = false) := by
      rcases k3 with ⟨_, h1⟩ | ⟨d, h1, hd, h2⟩
      · exact .inl ⟨_, hw, dec_inlt h1⟩
      · replace h2 := of_decide_eq_false h2.symm
        have hx1 := fun W => str_at hd W
        by_cases h61 : d.toNat = 61
        · rw [h61] at hx1
          refine .inr (.inr ⟨_, hw, dec_ilt h1, hx1, ?_, ?_, ?_⟩)
          all_goals (simp only [hm, beq_eq_false_iff_ne, ne_eq]; omega)
        · refine .inr (.inl ⟨_, (d.toNat : Int), hw, dec_ilt h1, hx1, ?_⟩)
          simp only [beq_eq_false_iff_ne, ne_eq]
          omega
    clear hw hm k3 hc
    rcases TWO with ⟨p, hw, u1⟩ | ⟨p, k, hw, u1, hx1, q1⟩ | ⟨p, hw, u1, hx1, q2, q3, q4⟩
    all_goals
      go_enter Tryz.func65, Tryz.ntmps65
      go_wp2_with fail
      go_loopw [6] (fun v wr => SgRel w c v wr) (fun v _ => 15 - (intOf v).toNat)
      case atStart => exact ⟨0, by simp, by omega, fun k x hk => by omega, Turn.refl _ _⟩
      case round =>
        obtain ⟨j, rfl, hj, hall, TT⟩ := hrel
        have HJ := Lib.hid (And.intro hj (And.intro hall TT))
        clear TT
        by_cases hjn : j < 14
        · obtain ⟨x, hx, hxr⟩ := IN.out w j hjn
          have v1 : decide ((j : Int) < 14) = true := decide_eq_true (by omega)
          have v2 := wrap_one (a := j) (by omega)
          have b1 := DB.out x
          rw [← HM.out] at b1
          obtain ⟨y, hy⟩ : ∃ y : Int, y = (x.toNat : Int) := ⟨_, rfl⟩
          rw [← hy] at b1 hxr
          have HX := Lib.hid (And.intro hx hjn)
          have ME := Lib.hid (show 15 - (intOf (.int .i64 ((j + 1 : Nat) : Int))).toNat < 15 - (intOf (.int .i64 (j : Int))).toNat by simp only [intOf]; omega)
          obtain ⟨q, hq⟩ : ∃ q : Int, q = (j : Int) := ⟨_, rfl⟩
          have HQ := Lib.hid hq
          rw [← hq] at v1 v2 hxr ⊢
          clear hj hall hx hy hjn hq
          by_cases hxc : x = c
          · rw [decide_eq_true hxc] at b1
            have YES := Lib.hid (K2.out.trans (if_pos (SM.out.2 (by rw [← hxc]; exact List.mem_of_getElem? HX.out.1))))
            clear hxc
            go_wp2_with fail
            go_region
            all_goals go_wp2_with fail
            all_goals go_ret
            all_goals exact ⟨by rw [YES.out]; rfl, HJ.out.2.2.drewN 1⟩
          · rw [decide_eq_false hxc] at b1
            have NEX := Lib.hid hxc
            clear hxc
            go_wp2_with fail
            go_region
            all_goals go_wp2_with fail
            all_goals exact ⟨⟨j + 1, congrArg _ v2, HX.out.2, fun k z hk hz => by
              rcases Nat.lt_succ_iff_lt_or_eq.1 hk with h | rfl
              · exact HJ.out.2.1 k z h hz
              · rw [HX.out.1] at hz; injection hz with hz; rw [← hz]; exact NEX.out, HJ.out.2.2.drewN 1⟩, by rw [v2, HQ.out]; exact ME.out⟩
        · obtain rfl : j = 14 := by omega
          have NO := Lib.hid (K2.out.trans (if_neg (fun h => by
            obtain ⟨k, hk, hkc⟩ := List.getElem_of_mem (SM.out.1 h)
            exact hall k c hk (List.getElem?_eq_some_iff.2 ⟨hk, hkc⟩) rfl)))
          clear hj hall hjn
          go_wp2_with fail
          go_ret
          exact ⟨by rw [NO.out]; rfl, HJ.out.2.2⟩
end Go.Proofs.YtadogobdlcionaaGreatDoor.Doc
namespace Go.Proofs.YtadogobdlcionaaGreatDoor.Doc
open Go.ChangeShapes Go.WideShapes Go.ChangeAt Go.RowKit
set_option linter.unusedVariables false
theorem size30 : (Tryz.prog.info? 65).map (fun i => i.size) = some 4 := by kernel_rfl
def nextV (s : ByteArray) (i : Nat) : Value := match findB (s.data.toList.drop i) with
  | some t => tokV s (i, t)
  | none => .agg ztok.toArray
def NextPost (w : World) (s : ByteArray) (i : Nat) (e : Ending) (w' : World) : Prop :=
  Turn (fun _ => False) w w' ∧ e = .returned (nextV s i)
/-- The result's cells, written. -/
theorem put4_range {w : World} {b : Nat} {u0 u1 u2 u3 : Value} (h : w.rangeAt b 0 [u0, u1, u2, u3]) (v0 v1 v2 v3 : Value) : (put4 w b v0 v1 v2 v3).rangeAt b 0 [v0, v1, v2, v3] := by
  intro k v hv
  rw [Nat.zero_add]
  have c0 := h 0 u0 rfl
  have c1 := h 1 u1 rfl
  have c2 := h 2 u2 rfl
  have c3 := h 3 u3 rfl
  rw [Nat.zero_add] at c0 c1 c2 c3
  unfold put4
  match k, hv with
  | 0, hv =>
    obtain rfl : v0 = v := by simpa using hv
    exact (cell_off _ _ _ _ _ (by decide)).trans ((cell_off _ _ _ _ _ (by decide)).trans ((cell_off _ _ _ _ _ (by decide)).trans (World.cell?_setCell_same _ _ _ c0)))
  | 1, hv =>
    obtain rfl : v1 = v := by simpa using hv
    exact (cell_off _ _ _ _ _ (by decide)).trans ((cell_off _ _ _ _ _ (by decide)).trans (World.cell?_setCell_same _ _ _ ((cell_off _ _ _ _ _ (by decide)).trans c1)))
  | 2, hv =>
    obtain rfl : v2 = v := by simpa using hv
    exact (cell_off _ _ _ _ _ (by decide)).trans (World.cell?_setCell_same _ _ _ ((cell_off _ _ _ _ _ (by decide)).trans ((cell_off _ _ _ _ _ (by decide)).trans c2)))
  | 3, hv =>
    obtain rfl : v3 = v := by simpa using hv
    exact World.cell?_setCell_same _ _ _ ((cell_off _ _ _ _ _ (by decide)).trans ((cell_off _ _ _ _ _ (by decide)).trans ((cell_off _ _ _ _ _ (by decide)).trans c3)))
  | k + 4, hv => simp at hv
theorem res_box (w : World) {w1 : World} (T : Turn (fun _ => False) (w.alloc (.cells ztok.toArray 65)) w1) : w1.rangeAt w.heap.size 0 ztok ∧ Blk w1 w.heap.size 65 ∧ Turn (fun _ => False) w w1 :=
  ⟨range_turn (range_new w ztok 65) T id, (Blk.newA rfl).turn T id, ((Turn.refl _ _).alloc _).trans T⟩
/-- The end, where a token, or none, is written to the result. -/
theorem next_put {w w1 : World} {a : Act} (h : w1.rangeAt w.heap.size 0 ztok ∧ Blk w1 w.heap.size 65 ∧ Turn (fun _ => False) w w1) (hd : a.defers = []) (hp : a.tmps.getD 4 undef = .pointer (some ⟨w.heap.size, 0, none⟩)) (k i n : Int) (t : ByteArray) {s : ByteArray} {at_ : Nat}
    (hv : .agg (tokL k i n t).toArray = nextV s at_) :
    bodyPost Tryz.prog Tryz.f43 (NextPost w s at_) Exit.ret a (put4 w1 w.heap.size (.int .i64 k) (.int .i64 i) (.string t) (.int .i64 n)) :=
  bodyPost_ret (v := .agg (tokL k i n t).toArray) (res_cell (a := 4) rfl hp (run_loadVar_mid _ w.heap.size 0 65 _ _ (put4_range h.1 _ _ _ _) Tryz.underlying65 rfl size30)) hd ⟨put4_turn h.2.2 (Nat.le_refl _) _ _ _ _, by rw [hv]⟩
theorem head_is {p : UInt8 → Bool} {l : List UInt8} {i : Nat} {c : UInt8} (h : l[i]? = some c) : headB p (l.drop i) = p c := by rw [drop_cons h]; rfl
set_option maxRecDepth 100000 in
set_option maxHeartbeats 1000000 in
theorem next_name (w : World) (s : ByteArray) {i : Nat} {c : UInt8} (hc : s.data.toList[i]? = some c) (hs : s.size ≤ 140737488355328) (hk : isSmall c = true) : Calls Tryz.prog 43 #[.string s, .int .i64 (i : Int)] w (NextPost w s i) := by
  have hi : i < s.size := by rw [str_len]; exact (List.getElem?_eq_some_iff.1 hc).1
  have hx := fun W => str_at hc W
  have S := Lib.hid (fun w => rsmall_is w c)
  rw [hk] at S
  have G := Lib.hid (fun w => goes_is w s (i := i) true (Nat.le_of_lt hi) hs)
  have hf : findB (s.data.toList.drop i) = some ⟨1, spanB (kindB true) (s.data.toList.drop i), 0⟩ := by
    have e : kindB true = isWord := funext kindB_word
    rw [drop_cons hc, e]
    simp [findB, hk]
  have hn : i + spanB (kindB true) (s.data.toList.drop i) ≤ s.size := by
    have := spanB_le (kindB true) (s.data.toList.drop i)
    rw [List.length_drop, ← str_len] at this
    omega
  generalize spanB (kindB true) (s.data.toList.drop i) = n at *
  have hw := wrap_sum (a := i) (b := n) (by omega)
  have hss := str_sub (s := s) (i := i) (j := i + n) (Nat.le_add_right _ _) hn
  obtain ⟨p, hp⟩ : ∃ p : Int, p = ((i + n : Nat) : Int) := ⟨_, rfl⟩
  rw [← hp] at hw hss
  have HF := Lib.hid hf
  obtain ⟨m, hm⟩ : ∃ m : Int, m = (c.toNat : Int) := ⟨_, rfl⟩
  rw [← hm] at hx S
  clear hp hf hn hm hk hc hi hs
  go_enter Tryz.func43, Tryz.ntmps43
  go_wp2_with fail
  with_reducible refine (S.out _).mono ?_
  rintro e w1 ⟨rfl, rfl⟩
  go_wp2_with fail
  with_reducible refine (G.out _).mono ?_
  rintro e w1 ⟨rfl, rfl⟩
  go_wp2_with fail
  exact bodyPost_ret (v := .agg (tokL 1 i 0 (s.extract i (i + n))).toArray) (res_cell (a := 4) rfl rfl (run_loadVar_mid _ w.heap.size 0 65 _ _ (range_new w (tokL 1 i 0 (s.extract i (i + n))) 65) Tryz.underlying65 rfl size30)) rfl ⟨(Turn.refl _ _).alloc _, by unfold nextV; rw [HF.out]; rfl⟩
set_option maxRecDepth 100000 in
set_option maxHeartbeats 1000000 in
theorem next_sign (w : World) (s : ByteArray) {i : Nat} {c : UInt8} (hc : s.data.toList[i]? = some c) (hs : s.size ≤ 140737488355328) (hk : isSmall c = false) (hk2 : ¬ (65 ≤ c.toNat ∧ c.toNat < 73)) (hk3 : isDigit c = false) : Calls Tryz.prog 43 #[.string s, .int .i64 (i : Int)] w (NextPost w s i) := by
  have hi : i < s.size := by rw [str_len]; exact (List.getElem?_eq_some_iff.1 hc).1
  have hx := fun W => str_at hc W
  have S := Lib.hid (fun w => rsmall_is w c)
  have D := Lib.hid (fun w => rdigit_is w c)
  rw [hk] at S
  rw [hk3] at D
  have G := Lib.hid (fun w => rsign_is w s (i := i) hi hs)
  have hf : findB (s.data.toList.drop i) = if signB (s.data.toList.drop i) = 0 then none else some ⟨4, signB (s.data.toList.drop i), 0⟩ := by
    rw [drop_cons hc]
    simp only [findB, hk, hk2, hk3]
    rfl
  have hn : i + signB (s.data.toList.drop i) ≤ s.size := by
    have := signB_le (s.data.toList.drop i)
    rw [List.length_drop, ← str_len] at this
    omega
  generalize signB (s.data.toList.drop i) = n at *
  have hw := wrap_sum (a := i) (b := n) (by omega)
  have hss := str_sub (s := s) (i := i) (j := i + n) (Nat.le_add_right _ _) hn
  obtain ⟨p, hp⟩ : ∃ p : Int, p = ((i + n : Nat) : Int) := ⟨_, rfl⟩
  rw [← hp] at hw hss
  have HF := Lib.hid hf
  obtain ⟨m, hm⟩ : ∃ m : Int, m = (c.toNat : Int) := ⟨_, rfl⟩
  rw [← hm] at hx S D
  have hq : (decide (m ≥ 65) = false ∧ decide ((65 : Int) ≤ m) = false) ∨ (decide (m ≥ 65) = true ∧ decide ((65 : Int) ≤ m) = true ∧ decide (m ≤ 72) = false) := by
    by_cases h : 65 ≤ m
    · exact .inr ⟨decide_eq_true h, decide_eq_true h, decide_eq_false (by omega)⟩
    · exact .inl ⟨decide_eq_false h, decide_eq_false h⟩
  have hz : ((n : Int) == 0) = decide (n = 0) := by rw [Bool.eq_iff_iff]; simp
  obtain ⟨v, hv⟩ : ∃ v : Int, v = (n : Int) := ⟨_, rfl⟩
  rw [← hv] at hz hw G
  clear hp hf hn hm hk hk2 hk3 hc hi hs hv
  rcases hq with ⟨q1, q2⟩ | ⟨q1, q2, q3⟩
  all_goals
    go_enter Tryz.func43, Tryz.ntmps43
    go_wp2_with fail
    with_reducible refine (S.out _).mono ?_
    rintro e w1 ⟨rfl, rfl⟩
    go_wp2_with fail
    with_reducible refine (D.out _).mono ?_
    rintro e w1 ⟨rfl, rfl⟩
    go_wp2_with fail
    with_reducible refine (G.out _).mono ?_
    rintro e w1 ⟨rfl, T1⟩
    have FB := Lib.hid (res_box w T1)
    have RR := (res_box w T1).1
    have y0 : w1.cell? ⟨w.heap.size, 0, none⟩ = some (.int .i64 0) := RR 0 _ rfl
    have y1 : w1.cell? ⟨w.heap.size, 1, none⟩ = some (.int .i64 0) := RR 1 _ rfl
    have y2 : w1.cell? ⟨w.heap.size, 2, none⟩ = some (.string ⟨#[]⟩) := RR 2 _ rfl
    have y3 : w1.cell? ⟨w.heap.size, 3, none⟩ = some (.int .i64 0) := RR 3 _ rfl
    have ff := (res_box w T1).2.1.fz
    clear RR T1
    by_cases h0 : n = 0
    · rw [decide_eq_true h0] at hz
      have HV := Lib.hid (HF.out.trans (if_pos h0))
      clear h0
      go_wp2_with fail
      exact next_put FB.out rfl rfl 0 0 0 ⟨#[]⟩ (by unfold nextV; rw [HV.out]; rfl)
    · rw [decide_eq_false h0] at hz
      have HV := Lib.hid (HF.out.trans (if_neg h0))
      clear h0
      go_wp2_with fail
      exact next_put FB.out rfl rfl 4 i 0 (s.extract i (i + n)) (by unfold nextV; rw [HV.out]; rfl)
/-- One letter, A to H. -/
theorem cap_dig {k : Nat} (h : 65 ≤ k ∧ k < 73) : IntKind.u8.wrap ((k : Int) - 65) = ((k - 65 : Nat) : Int) ∧ wrap64 ((k - 65 : Nat) : Int) = ((k - 65 : Nat) : Int) := by
  constructor
  · rw [IntKind.wrap_u8]; omega
  · unfold wrap64; omega
set_option maxRecDepth 100000 in
set_option maxHeartbeats 1000000 in
theorem next_cap (w : World) (s : ByteArray) {i : Nat} {c : UInt8} (hc : s.data.toList[i]? = some c) (hs : s.size ≤ 140737488355328) (hk2 : 65 ≤ c.toNat ∧ c.toNat < 73) : Calls Tryz.prog 43 #[.string s, .int .i64 (i : Int)] w (NextPost w s i) := by
  have hi : i < s.size := by rw [str_len]; exact (List.getElem?_eq_some_iff.1 hc).1
  have hk : isSmall c = false := by simp [isSmall]; omega
  have hk3 : isDigit c = false := by simp [isDigit]; omega
  have hx := fun W => str_at hc W
  have S := Lib.hid (fun w => rsmall_is w c)
  have D := Lib.hid (fun w => rdigit_is w c)
  rw [hk] at S
  rw [hk3] at D
  have LT := Lib.hid (fun w => rletter_is w s (i := i + 1) hi hs)
  have G := Lib.hid (fun w => goes_is w s (i := i + 1) false hi hs)
  have hf : findB (s.data.toList.drop i) = if headB isBoth (s.data.toList.drop (i + 1)) then none else some ⟨2, 1, c.toNat - 65⟩ := by
    rw [drop_cons hc]
    simp only [findB, hk, hk2]
    rfl
  have hb : headB isBoth (s.data.toList.drop (i + 1)) = (headB isLetter (s.data.toList.drop (i + 1)) || decide (0 < spanB (kindB false) (s.data.toList.drop (i + 1)))) := by
    cases s.data.toList.drop (i + 1) with
    | nil => rfl
    | cons x r =>
      show (isLetter x || isDigit x) = (isLetter x || _)
      congr 1
      unfold spanB
      rw [kindB_digit]
      cases isDigit x <;> simp
  rw [hb] at hf
  have hw := wrap_one (a := i) (by omega)
  have hss := str_sub (s := s) (i := i) (j := i + 1) (Nat.le_add_right _ _) hi
  obtain ⟨x1, x2⟩ := cap_dig hk2
  obtain ⟨p, hp⟩ : ∃ p : Int, p = ((i + 1 : Nat) : Int) := ⟨_, rfl⟩
  rw [← hp] at hw hss LT G
  generalize headB isLetter (s.data.toList.drop (i + 1)) = lt at *
  generalize spanB (kindB false) (s.data.toList.drop (i + 1)) = n at *
  have hz : decide ((n : Int) > 0) = decide (0 < n) := by rw [decide_eq_decide]; omega
  have hz2 : decide ((0 : Int) < (n : Int)) = decide (0 < n) := hz
  obtain ⟨d, hd⟩ : ∃ d, d = c.toNat - 65 := ⟨_, rfl⟩
  rw [← hd] at hf x1 x2
  generalize decide (0 < n) = dg at *
  obtain ⟨v, hv⟩ : ∃ v : Int, v = (n : Int) := ⟨_, rfl⟩
  rw [← hv] at hz hz2 G
  obtain ⟨dd, hdd⟩ : ∃ v : Int, v = (d : Int) := ⟨_, rfl⟩
  rw [← hdd] at x1 x2
  have HF := Lib.hid (And.intro hf hdd)
  obtain ⟨m, hm⟩ : ∃ m : Int, m = (c.toNat : Int) := ⟨_, rfl⟩
  rw [← hm] at hx S D x1
  have q1 : decide (m ≥ 65) = true := decide_eq_true (by omega)
  have q2 : decide ((65 : Int) ≤ m) = true := decide_eq_true (by omega)
  have q3 : decide (m ≤ 72) = true := decide_eq_true (by omega)
  clear hp hf hm hk hk2 hk3 hc hi hs hv hb hd hdd
  cases lt with
  | true =>
    go_enter Tryz.func43, Tryz.ntmps43
    go_wp2_with fail
    with_reducible refine (S.out _).mono ?_
    rintro e w1 ⟨rfl, rfl⟩
    go_wp2_with fail
    with_reducible refine (D.out _).mono ?_
    rintro e w1 ⟨rfl, rfl⟩
    go_wp2_with fail
    with_reducible refine (LT.out _).mono ?_
    rintro e w1 ⟨rfl, rfl⟩
    go_wp2_with fail
    exact bodyPost_ret (v := .agg ztok.toArray) (res_cell (a := 4) rfl rfl (run_loadVar_mid _ w.heap.size 0 65 _ _ (range_new w ztok 65) Tryz.underlying65 rfl size30)) rfl ⟨(Turn.refl _ _).alloc _, by unfold nextV; rw [HF.out.1]; rfl⟩
  | false =>
    cases dg with
    | true =>
      go_enter Tryz.func43, Tryz.ntmps43
      go_wp2_with fail
      with_reducible refine (S.out _).mono ?_
      rintro e w1 ⟨rfl, rfl⟩
      go_wp2_with fail
      with_reducible refine (D.out _).mono ?_
      rintro e w1 ⟨rfl, rfl⟩
      go_wp2_with fail
      with_reducible refine (LT.out _).mono ?_
      rintro e w1 ⟨rfl, rfl⟩
      go_wp2_with fail
      with_reducible refine (G.out _).mono ?_
      rintro e w1 ⟨rfl, rfl⟩
      go_wp2_with fail
      exact bodyPost_ret (v := .agg ztok.toArray) (res_cell (a := 4) rfl rfl (run_loadVar_mid _ w.heap.size 0 65 _ _ (range_new w ztok 65) Tryz.underlying65 rfl size30)) rfl ⟨(Turn.refl _ _).alloc _, by unfold nextV; rw [HF.out.1]; rfl⟩
    | false =>
      go_enter Tryz.func43, Tryz.ntmps43
      go_wp2_with fail
      with_reducible refine (S.out _).mono ?_
      rintro e w1 ⟨rfl, rfl⟩
      go_wp2_with fail
      with_reducible refine (D.out _).mono ?_
      rintro e w1 ⟨rfl, rfl⟩
      go_wp2_with fail
      with_reducible refine (LT.out _).mono ?_
      rintro e w1 ⟨rfl, rfl⟩
      go_wp2_with fail
      with_reducible refine (G.out _).mono ?_
      rintro e w1 ⟨rfl, rfl⟩
      go_wp2_with fail
      exact bodyPost_ret (v := .agg (tokL 2 i dd (s.extract i (i + 1))).toArray) (res_cell (a := 4) rfl rfl (run_loadVar_mid _ w.heap.size 0 65 _ _ (range_new w (tokL 2 i dd (s.extract i (i + 1))) 65) Tryz.underlying65 rfl size30)) rfl ⟨(Turn.refl _ _).alloc _, by unfold nextV; rw [HF.out.1, HF.out.2]; rfl⟩
end Go.Proofs.YtadogobdlcionaaGreatDoor.Doc
