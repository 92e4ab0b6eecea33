/-
  What LexNumbers counts.
-/
import Derived.Test.YtjahjdmabconeaaDoorPk
namespace Go.Proofs.YtjahjdmabconeaaDoor
open Go.ChangeShapes Go.WideShapes Go.ChangeAt Go.RowKit
set_option linter.unusedVariables false
theorem and_63 (x : Int) : 0 ≤ bits BinOp.and IntKind.i64 x 9223372036854775807 ∧ bits BinOp.and IntKind.i64 x 9223372036854775807 ≤ 9223372036854775807 := by
  have h3 : (BitVec.ofInt 64 9223372036854775807).toNat = 2 ^ 63 - 1 := by decide
  have key : (BitVec.ofInt 64 x &&& BitVec.ofInt 64 9223372036854775807).toNat = (BitVec.ofInt 64 x).toNat % 2 ^ 63 := by
    rw [BitVec.toNat_and, h3, Nat.and_two_pow_sub_one_eq_mod]
  show 0 ≤ IntKind.i64.wrap ((BitVec.ofInt 64 x &&& BitVec.ofInt 64 9223372036854775807).toNat : Nat) ∧ IntKind.i64.wrap ((BitVec.ofInt 64 x &&& BitVec.ofInt 64 9223372036854775807).toNat : Nat) ≤ 9223372036854775807
  rw [key, IntKind.wrap_i64]
  omega
theorem decV_shift : ∀ (l : List UInt8) (a : Nat), decV a l = a * 10 ^ l.length + decV 0 l
  | [], a => by simp [decV]
  | c :: r, a => by
    show decV (a * 10 + (c.toNat - 48)) r = a * 10 ^ (r.length + 1) + decV (0 * 10 + (c.toNat - 48)) r
    rw [decV_shift r (a * 10 + (c.toNat - 48)), decV_shift r (0 * 10 + (c.toNat - 48)), Nat.pow_succ, Nat.add_mul, Nat.zero_mul, Nat.zero_add, Nat.mul_assoc, Nat.mul_comm 10 (10 ^ r.length)]
    omega
theorem pow_len {n : Nat} (h : 10 ^ n ≤ 9223372036854775807) : n ≤ 18 := by
  by_cases hn : n ≤ 18
  · exact hn
  · have := Nat.pow_le_pow_right (show 0 < 10 by decide) (show 19 ≤ n by omega)
    have h2 : (10 : Nat) ^ 19 = 10000000000000000000 := by decide
    omega
/-- While the digits are written, the last one first. -/
def NumRel (w : World) (X : Nat) (v9 v10 : Value) (wr : World) : Prop :=
  ∃ K b, v9 = .string b ∧ v10 = .int .i64 ((K : Nat) : Int) ∧ X = K * 10 ^ b.data.toList.length + decV 0 b.data.toList ∧ (∀ c ∈ b.data.toList, isDigit c = true) ∧ b.data.toList.length ≤ 19 ∧ Turn (fun _ => False) w wr
def numM (v9 v10 : Value) : Nat := (match v9 with | .string b => if b.size = 0 then 1 else 0 | _ => 0) + (intOf v10).toNat
theorem num_step {K X : Nat} {b : ByteArray} (hX : X ≤ 9223372036854775807) (hK : X = K * 10 ^ b.data.toList.length + decV 0 b.data.toList) (hd : ∀ c ∈ b.data.toList, isDigit c = true) (hl : b.data.toList.length ≤ 19) (hgo : 0 < K ∨ b.data.toList = []) {c : UInt8} (hc : c.toNat = 48 + K % 10) :
    X = (K / 10) * 10 ^ ((⟨#[c]⟩ : ByteArray) ++ b).data.toList.length + decV 0 ((⟨#[c]⟩ : ByteArray) ++ b).data.toList ∧ (∀ x ∈ ((⟨#[c]⟩ : ByteArray) ++ b).data.toList, isDigit x = true) ∧ ((⟨#[c]⟩ : ByteArray) ++ b).data.toList.length ≤ 19 := by
  have e : ((⟨#[c]⟩ : ByteArray) ++ b).data.toList = c :: b.data.toList := by rw [Go.Joins.data_append]; rfl
  rw [e]
  generalize b.data.toList = l at *
  have hd0 : decV 0 (c :: l) = (K % 10) * 10 ^ l.length + decV 0 l := by
    show decV (0 * 10 + (c.toNat - 48)) l = _
    rw [decV_shift, hc]
    simp
  refine ⟨?_, ?_, ?_⟩
  · rw [hd0, hK, List.length_cons, Nat.pow_succ, ← Nat.add_assoc]
    have h1 : K / 10 * (10 ^ l.length * 10) + K % 10 * 10 ^ l.length = K * 10 ^ l.length := by
      rw [Nat.mul_comm (10 ^ l.length) 10, ← Nat.mul_assoc, ← Nat.add_mul, Nat.mul_comm (K / 10) 10, Nat.div_add_mod]
    rw [h1]
  · intro x hx
    simp only [List.mem_cons] at hx
    rcases hx with rfl | hx
    · simp [isDigit]
      omega
    · exact hd x hx
  · rcases hgo with h | rfl
    · have h2 : 10 ^ l.length ≤ K * 10 ^ l.length := Nat.le_mul_of_pos_left _ h
      have := pow_len (n := l.length) (by omega)
      simp
      omega
    · simp
theorem c_is {K : Nat} : ∃ c : UInt8, c.toNat = 48 + K % 10 := ⟨UInt8.ofNat (48 + K % 10), by rw [UInt8.toNat_ofNat']; omega⟩
theorem c_int {K : Nat} {c : UInt8} (hc : c.toNat = 48 + K % 10) : (c.toNat : Int) = 48 + (K : Int) % 10 := by omega
theorem byte_str {c : UInt8} {m : Int} (hm : (c.toNat : Int) = m) (W : World) : (convert 35 9 (.slice (some ⟨W.heap.size, 0, none⟩) 1 1)).run Tryd.prog (W.alloc (.cells #[.int .u8 m] 5)) = .ok (.string ⟨#[c]⟩) (W.alloc (.cells #[.int .u8 m] 5)) :=
  run_convert_bytes_back (P := Tryd.prog) _ 35 9 5 ⟨W.heap.size, 0, none⟩ 1 [c] Tryd.underlying35 Tryd.underlying5 Tryd.underlying9 (fun j hj => by
    obtain rfl : j = 0 := by simpa using hj
    rw [← hm]
    exact cell_new rfl rfl)
theorem small_add {a b : Nat} (h : a + b ≤ 1000) : ¬ 9223372036854775807 < a + b := by omega
theorem num_meas {K : Nat} {b : ByteArray} {c : UInt8} {v : Value} (hv : v = .int .i64 ((K / 10 : Nat) : Int)) (hgo : 0 < K ∨ b.data.toList = []) : numM (.string ((⟨#[c]⟩ : ByteArray) ++ b)) v < numM (.string b) (.int .i64 (K : Int)) := by
  subst hv
  have h1 : ((⟨#[c]⟩ : ByteArray) ++ b).size = 1 + b.size := by rw [str_len, Go.Joins.data_append, List.length_append, ← str_len b]; rfl
  have h2 : b.data.toList = [] → b.size = 0 := fun h => by rw [str_len, h]; rfl
  unfold numM
  simp only [intOf, h1]
  rw [if_neg (by omega)]
  split
  · omega
  · rcases hgo with h | h
    · omega
    · exact absurd (h2 h) (by assumption)
theorem noughts (g : Nat) (h : g ≤ 9) : ((⟨#[48, 48, 48, 48, 48, 48, 48, 48, 48]⟩ : ByteArray).extract 0 g).data.toList = List.replicate g 48 := by
  have : g = 0 ∨ g = 1 ∨ g = 2 ∨ g = 3 ∨ g = 4 ∨ g = 5 ∨ g = 6 ∨ g = 7 ∨ g = 8 ∨ g = 9 := by omega
  rcases this with rfl | rfl | rfl | rfl | rfl | rfl | rfl | rfl | rfl | rfl <;> decide +kernel
theorem ext_all (s : ByteArray) : s.extract 0 (0 + s.size) = s := by simp
theorem skip_end {D : List UInt8} {n : Nat} (h : n = D.length) : skipB n D = n := by
  subst h
  unfold skipB
  rw [List.drop_eq_nil_of_le (Nat.le_refl _)]
  rfl
/-- A number's text is one token. -/
theorem lex_num (w : World) (s : ByteArray) (hs : s.size ≤ 1000) (hE : ErrAt w) {V : Nat} (hd : ∀ c ∈ s.data.toList, isDigit c = true) (hne : s.data.toList ≠ []) (hV : decV 0 s.data.toList = V) (hlt : V < 9223372036854775808) :
    Calls Tryd.prog 14 #[.string s] w fun e w' => Turn (fun _ => False) w w' ∧ ∃ g cap, e = .returned (.tuple #[.slice (some ⟨g, 0, none⟩) 1 cap, .int .i64 (s.size : Int), .int .i64 0]) ∧ w'.cell? ⟨g, 0, none⟩ = some (.int .i64 3) ∧ w'.cell? ⟨g, 2, none⟩ = some (.string s) ∧ w'.cell? ⟨g, 3, none⟩ = some (.int .i64 (V : Int)) := by
  have hL : toksB s.data.toList = [(0, ⟨3, s.size, V⟩)] := by rw [toks_digits hd hne, hV, if_pos hlt, ← str_len]
  refine (lex_all w s (by omega) hE hL (by simp) (skip_end (by rw [← str_len]; show 0 + s.size = _; omega) |>.trans (by show 0 + s.size = _; omega))).mono ?_
  rintro e w' ⟨T, v, rfl, ho⟩
  obtain ⟨a, cap, rfl, hg⟩ := own_slice ho
  obtain ⟨g, rfl⟩ := hg (by simp)
  refine ⟨T, g, cap, rfl, (ho.cellAt 0 (by simp)).trans rfl, (ho.cellAt 2 (by simp)).trans ?_, (ho.cellAt 3 (by simp)).trans rfl⟩
  show some (Value.string (s.extract 0 (0 + s.size))) = _
  rw [ext_all]
/-- A number too great is refused where it stands. -/
theorem lex_big (w : World) (s : ByteArray) (hs : s.size ≤ 1000) (hE : ErrAt w) (hd : ∀ c ∈ s.data.toList, isDigit c = true) (hne : s.data.toList ≠ []) (hlt : ¬ decV 0 s.data.toList < 9223372036854775808) :
    Calls Tryd.prog 14 #[.string s] w fun e w' => Turn (fun _ => False) w w' ∧ e = .returned (.tuple #[.slice none 0 0, .int .i64 0, .int .i64 10]) := by
  have hL : toksB s.data.toList = [] := by rw [toks_digits hd hne, if_neg hlt]
  have hsz : 0 < s.size := by rw [str_len]; exact List.length_pos_iff.2 hne
  exact lex_not w s (by omega) hE hL (by simp) (k := 0) (skipB_zero (fun c hc => digit_blank (hd c (List.mem_of_getElem? hc)))) hsz
theorem K_le {X K n d : Nat} (h : X = K * 10 ^ n + d) : K ≤ X := by
  have h2 : K ≤ K * 10 ^ n := Nat.le_mul_of_pos_right _ (Nat.pow_pos (by decide))
  omega
theorem wrap_div {K : Nat} (h : K ≤ 9223372036854775807) : Value.int .i64 (wrap64 ((K : Int) / 10)) = .int .i64 ((K / 10 : Nat) : Int) := by
  have : wrap64 ((K : Int) / 10) = ((K / 10 : Nat) : Int) := by unfold wrap64; omega
  rw [this]
theorem wrap_dig {d : Nat} (h : d < 10) : wrap64 (48 + (d : Int)) = 48 + (d : Int) := by unfold wrap64; omega
theorem u8_dig {d : Nat} (h : d < 10) : IntKind.u8.wrap (48 + (d : Int)) = 48 + (d : Int) := by rw [IntKind.wrap_u8]; omega
theorem wrap_max {d : Nat} (h : d < 10) : wrap64 (9223372036854775807 - (d : Int)) = 9223372036854775807 - (d : Int) := by unfold wrap64; omega
theorem quo_max {d : Nat} (h : d < 10) : (9223372036854775807 - (d : Int)).tdiv 10 = (((9223372036854775807 - d) / 10 : Nat) : Int) ∧ (9223372036854775807 - (d : Int)) / 10 = (((9223372036854775807 - d) / 10 : Nat) : Int) := by
  have e : (9223372036854775807 - (d : Int)) / 10 = (((9223372036854775807 - d) / 10 : Nat) : Int) := by omega
  exact ⟨by rw [Int.tdiv_eq_ediv_of_nonneg (by omega)]; exact e, e⟩
theorem wrap_q {q : Nat} (h : q ≤ 9223372036854775807) : wrap64 (q : Int) = (q : Int) := by unfold wrap64; omega
theorem big_iff {X d : Nat} (h : d < 10) : (9223372036854775807 - d) / 10 < X ↔ ¬ X * 10 + d < 9223372036854775808 := by omega
theorem wrap_ten {X d : Nat} (h : X * 10 + d < 9223372036854775808) : wrap64 ((X : Int) * 10) = (X : Int) * 10 ∧ wrap64 ((X : Int) * 10 + (d : Int)) = (X : Int) * 10 + (d : Int) := by constructor <;> (unfold wrap64; omega)
theorem dig_c {d : Nat} (h : d < 10) : ∃ c : UInt8, c.toNat = 48 + d := ⟨UInt8.ofNat (48 + d), by rw [UInt8.toNat_ofNat']; omega⟩
theorem dig_int {d : Nat} {c : UInt8} (hc : c.toNat = 48 + d) : (c.toNat : Int) = 48 + (d : Int) := by omega
/-- Noughts ahead, a digit behind. -/
theorem text_is {g : Nat} {zs b : ByteArray} {X : Nat} (hz : zs.data.toList = List.replicate g 48) (hg : g ≤ 9) (hd : ∀ c ∈ b.data.toList, isDigit c = true) (hl : b.data.toList.length ≤ 19) (hne : b.data.toList ≠ []) (hX : decV 0 b.data.toList = X) :
    (∀ c ∈ (zs ++ b).data.toList, isDigit c = true) ∧ (zs ++ b).data.toList ≠ [] ∧ decV 0 (zs ++ b).data.toList = X ∧ (zs ++ b).size ≤ 28 ∧ (zs ++ b).size = zs.size + b.size ∧ zs.size ≤ 9 ∧ b.size ≤ 19 := by
  have e : (zs ++ b).data.toList = List.replicate g 48 ++ b.data.toList := by rw [Go.Joins.data_append, hz]
  have hs : (zs ++ b).size = zs.size + b.size := by rw [str_len, e, List.length_append, str_len zs, hz, ← str_len b]
  have hzs : zs.size ≤ 9 := by rw [str_len, hz, List.length_replicate]; exact hg
  have hbs : b.size ≤ 19 := by rw [str_len]; exact hl
  refine ⟨?_, ?_, ?_, by omega, hs, hzs, hbs⟩
  · rw [e]
    intro c hc
    rcases List.mem_append.1 hc with h | h
    · rw [List.eq_of_mem_replicate h]; rfl
    · exact hd c h
  · rw [e]
    intro h
    exact hne (List.append_eq_nil_iff.1 h).2
  · rw [e, decV_app, decV_zeros, hX]
theorem more_is {s : ByteArray} {X d : Nat} {c : UInt8} (hd : ∀ c ∈ s.data.toList, isDigit c = true) (hX : decV 0 s.data.toList = X) (hs : s.size ≤ 28) (hc : c.toNat = 48 + d) (hd9 : d < 10) :
    (∀ x ∈ (s ++ ⟨#[c]⟩).data.toList, isDigit x = true) ∧ (s ++ (⟨#[c]⟩ : ByteArray)).data.toList ≠ [] ∧ decV 0 (s ++ (⟨#[c]⟩ : ByteArray)).data.toList = X * 10 + d ∧ (s ++ (⟨#[c]⟩ : ByteArray)).size ≤ 29 := by
  have e : (s ++ (⟨#[c]⟩ : ByteArray)).data.toList = s.data.toList ++ [c] := by rw [Go.Joins.data_append]
  refine ⟨?_, ?_, ?_, ?_⟩
  · rw [e]
    intro x hx
    rcases List.mem_append.1 hx with h | h
    · exact hd x h
    · simp only [List.mem_singleton] at h
      subst h
      simp [isDigit]
      omega
  · rw [e]; simp
  · rw [e, decV_app, hX]
    show X * 10 + (c.toNat - 48) = _
    rw [hc]
    omega
  · rw [str_len, e, List.length_append, ← str_len]
    simp
    omega
theorem not_empty {b : ByteArray} (h : b.data.toList ≠ []) : b.toList.isEmpty = false := by
  rw [ByteArray.toList_eq]
  cases hl : b.data.toList with
  | nil => exact absurd hl h
  | cons a r => rfl
theorem wrap_q2 {q d : Nat} (h : q = (9223372036854775807 - d) / 10) : wrap64 (q : Int) = (q : Int) := wrap_q (by omega)
theorem le19 {b : Nat} (h : b ≤ 19) : 1 + b ≤ 1000 := by omega
theorem le28 {a b : Nat} (h : a ≤ 9) (k : b ≤ 19) : a + b ≤ 1000 := by omega
theorem le29 {a : Nat} (h : a ≤ 28) : a + 1 ≤ 1000 := by omega
theorem dec_z {K : Nat} (h : K = 0) : decide ((0 : Int) < (K : Int)) = false := decide_eq_false (by omega)
theorem dec_p {K : Nat} (h : 0 < K) : decide ((0 : Int) < (K : Int)) = true := decide_eq_true (by omega)
theorem dec_lt {q X : Nat} (h : q < X) : decide ((q : Int) < (X : Int)) = true := decide_eq_true (by omega)
theorem dec_nlt {q X : Nat} (h : ¬ q < X) : decide ((q : Int) < (X : Int)) = false := decide_eq_false (by omega)
theorem not_big {q X n : Nat} (h : q < X ↔ ¬ n < 9223372036854775808) (k : ¬ q < X) : n < 9223372036854775808 := Decidable.byContradiction (fun e => k (h.2 e))
end Go.Proofs.YtjahjdmabconeaaDoor
