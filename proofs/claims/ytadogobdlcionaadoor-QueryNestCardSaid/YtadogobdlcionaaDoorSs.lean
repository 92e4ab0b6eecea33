/-
  Signs and brackets in one another: the law's walk, over what the parser makes of such texts.
-/
import Derived.Test.YtadogobdlcionaaDoorSr
namespace Go.Proofs.YtadogobdlcionaaDoor
open Go.ChangeShapes Go.WideShapes Go.ChangeAt Go.RowKit Go.Shelf
set_option linter.unusedVariables false
def hdN : List UInt8 := [115, 101, 113, 32, 65, 32, 97, 32, 119, 104, 101, 114, 101, 32]
def tlN : List UInt8 := [32, 61, 32, 48, 32, 119, 105, 116, 104, 105, 110, 32, 51]
def preN (bs : List Bool) : List UInt8 := bs.map fun b => if b then 40 else 45
def postN (bs : List Bool) : List UInt8 := (bs.filter id).map fun _ => 41
/-- A text of signs and brackets in one another. -/
def nestT (bs : List Bool) : ByteArray := ⟨(hdN ++ preN bs ++ [49] ++ postN bs ++ tlN).toArray⟩
theorem cat_one (l : List UInt8) (c : UInt8) : (⟨l.toArray⟩ : ByteArray) ++ ⟨#[c]⟩ = ⟨(l ++ [c]).toArray⟩ := by
  apply ByteArray.ext
  rw [ByteArray.data_append]
  simp
theorem cat_two (l m : List UInt8) : (⟨l.toArray⟩ : ByteArray) ++ ⟨m.toArray⟩ = ⟨(l ++ m).toArray⟩ := by
  apply ByteArray.ext
  rw [ByteArray.data_append]
  simp
theorem size_of (l : List UInt8) : (⟨l.toArray⟩ : ByteArray).size = l.length := by
  show l.toArray.size = _
  simp
theorem preN_len (bs : List Bool) : (preN bs).length = bs.length := by simp [preN]
theorem postN_len (bs : List Bool) : (postN bs).length ≤ bs.length := by
  unfold postN
  rw [List.length_map]
  exact List.length_filter_le _ _
/-- What holds between two rounds. -/
def NsRel (w : World) (n : Nat) (gh : Nat) (v7 v8 v9 : Value) (wr : World) : Prop :=
  ∃ bs : List Bool, bs.length ≤ n ∧ gh = n - bs.length ∧ v7 = .string ⟨(hdN ++ preN bs).toArray⟩ ∧ v8 = .string ⟨(postN bs).toArray⟩ ∧ v9 = .int .i64 (bs.length : Int) ∧ wr = w
set_option maxRecDepth 100000 in
set_option maxHeartbeats 4000000 in
theorem nest_walk (hok : ∀ bs : List Bool, bs.length ≤ 16 → ∃ q, parseB (nestT bs) = (q, (nestT bs).size, 0) ∧ q.conds.length = 1) (hno : ∀ bs : List Bool, 16 < bs.length → bs.length ≤ 30 → parseB (nestT bs) = (zq, 30, 12))
    (w : World) (hE : ErrAt w) (hT : TabAt w) (m b : Int) : Calls Tryd.prog 3 #[.int .i64 m, .int .i64 b] w fun y w' => y = .returned (.bool true) ∧ Turn (fun _ => False) w w' := by
  have AW := Lib.hid (awake_is w hE hT)
  have HE := Lib.hid hE
  have HP := Lib.hid (And.intro hok hno)
  clear hE hT hok hno
  go_enter Tryd.func3, Tryd.ntmps3
  go_wp2_with fail
  with_reducible refine AW.out.mono ?_
  rintro y w1 ⟨rfl, T1⟩
  have F1 := Lib.hid T1
  clear T1
  go_wp2_with fail
  obtain ⟨n, hn, hn31⟩ : ∃ n : Nat, (wrap64 (m.tmod 31 + 31)).tmod 31 = (n : Int) ∧ n ≤ 30 := by
    have t1 : -(31 : Int) < m.tmod 31 := Int.lt_tmod_of_pos m (by decide)
    have t2 : m.tmod 31 < 31 := Int.tmod_lt_of_pos m (by decide)
    have hw : wrap64 (m.tmod 31 + 31) = m.tmod 31 + 31 := by unfold wrap64; omega
    refine ⟨((m.tmod 31 + 31) % 31).toNat, ?_, by omega⟩
    rw [hw, Int.tmod_eq_emod_of_nonneg (by omega)]
    omega
  rw [hn]
  have HN := Lib.hid hn31
  clear hn hn31
  go_loopg [7, 8, 9] n (fun gh v7 v8 v9 wr => NsRel w1 n gh v7 v8 v9 wr)
  case atStart => exact ⟨[], Nat.zero_le _, rfl, rfl, rfl, rfl, rfl⟩
  case round =>
    obtain ⟨bs, hl, hg, rfl, rfl, rfl, rfl⟩ := hrel
    by_cases hin : bs.length < n
    · have u1 : decide ((bs.length : Int) < (n : Int)) = true := decide_eq_true (by omega)
      have i0 : (0 : Int) ≤ (bs.length : Int) := Int.natCast_nonneg _
      have i1 : (bs.length : Int) < 31 := by have := HN.out; omega
      have s1 : (⟨(hdN ++ preN bs).toArray⟩ : ByteArray).size = 14 + bs.length := by rw [size_of, List.length_append, preN_len]; rfl
      have s2 : (⟨(postN bs).toArray⟩ : ByteArray).size = (postN bs).length := size_of _
      have s3 := postN_len bs
      have hlen : bs.length ≤ 30 := by have := HN.out; omega
      obtain ⟨p7, hp7⟩ : ∃ p, p = (⟨(hdN ++ preN bs).toArray⟩ : ByteArray) := ⟨_, rfl⟩
      obtain ⟨p8, hp8⟩ : ∃ p, p = (⟨(postN bs).toArray⟩ : ByteArray) := ⟨_, rfl⟩
      rw [← hp7, ← hp8]
      rw [← hp7] at s1
      rw [← hp8] at s2
      have x7 : (9223372036854775807 < p7.size + 1) = False := eq_false (by omega)
      have x8 : (9223372036854775807 < p8.size + 1) = False := eq_false (by omega)
      have HX := Lib.hid (And.intro hp7 (And.intro hp8 (And.intro hg hin)))
      obtain ⟨bl, hbl⟩ : ∃ k : Int, k = (bs.length : Int) := ⟨_, rfl⟩
      have HBL := Lib.hid hbl
      rw [← hbl] at i0 i1 u1 ⊢
      clear s1 s2 s3 hp7 hp8 hg hin hl hlen hbl
      go_wp2_with fail
      · have e7 : p7 ++ (⟨#[40]⟩ : ByteArray) = ⟨(hdN ++ preN (bs ++ [true])).toArray⟩ := by rw [HX.out.1, cat_one]; simp [preN]
        have e8 : p8 ++ (⟨#[41]⟩ : ByteArray) = ⟨(postN (bs ++ [true])).toArray⟩ := by rw [HX.out.2.1, cat_one]; simp [postN, List.filter_append]
        go_roundg (n - (bs.length + 1))
        case measure => have := HX.out.2.2.1; have := HX.out.2.2.2; omega
        case rel => exact ⟨bs ++ [true], by simp; exact HX.out.2.2.2, by simp, by rw [e7], by rw [e8], by rw [HBL.out]; simp, rfl⟩
      · have e7 : p7 ++ (⟨#[45]⟩ : ByteArray) = ⟨(hdN ++ preN (bs ++ [false])).toArray⟩ := by rw [HX.out.1, cat_one]; simp [preN]
        have e8 : p8 = ⟨(postN (bs ++ [false])).toArray⟩ := by rw [HX.out.2.1]; simp [postN, List.filter_append]
        go_roundg (n - (bs.length + 1))
        case measure => have := HX.out.2.2.1; have := HX.out.2.2.2; omega
        case rel => exact ⟨bs ++ [false], by simp; exact HX.out.2.2.2, by simp, by rw [e7], by rw [e8], by rw [HBL.out]; simp, rfl⟩
    · have hil : bs.length = n := by omega
      subst hil
      have u1 : decide ((bs.length : Int) < (bs.length : Int)) = false := decide_eq_false (by omega)
      have s1 : (⟨(hdN ++ preN bs).toArray⟩ : ByteArray).size = 14 + bs.length := by rw [size_of, List.length_append, preN_len]; rfl
      have s2 : (⟨(postN bs).toArray⟩ : ByteArray).size = (postN bs).length := size_of _
      have s3 := postN_len bs
      have hlen : bs.length ≤ 30 := HN.out
      obtain ⟨p7, hp7⟩ : ∃ p, p = (⟨(hdN ++ preN bs).toArray⟩ : ByteArray) := ⟨_, rfl⟩
      obtain ⟨p8, hp8⟩ : ∃ p, p = (⟨(postN bs).toArray⟩ : ByteArray) := ⟨_, rfl⟩
      have htx : p7 ++ (⟨#[49]⟩ : ByteArray) ++ p8 ++ ⟨#[32, 61, 32, 48, 32, 119, 105, 116, 104, 105, 110, 32, 51]⟩ = nestT bs := by
        rw [hp7, hp8, cat_one, cat_two (hdN ++ preN bs ++ [49]) (postN bs)]
        exact cat_two (hdN ++ preN bs ++ [49] ++ postN bs) tlN
      rw [← hp7, ← hp8]
      rw [← hp7] at s1
      rw [← hp8] at s2
      have x7 : (9223372036854775807 < p7.size + 1) = False := eq_false (by omega)
      have x8 : (9223372036854775807 < p7.size + 1 + p8.size) = False := eq_false (by omega)
      have x9 : (9223372036854775807 < p7.size + 1 + p8.size + 13) = False := eq_false (by omega)
      have hsz : (p7 ++ (⟨#[49]⟩ : ByteArray) ++ p8 ++ ⟨#[32, 61, 32, 48, 32, 119, 105, 116, 104, 105, 110, 32, 51]⟩).size ≤ 140737488355328 := by
        rw [ByteArray.size_append, ByteArray.size_append, ByteArray.size_append]
        show p7.size + 1 + p8.size + 13 ≤ _
        omega
      have PR := Lib.hid (parse_is wr (p7 ++ (⟨#[49]⟩ : ByteArray) ++ p8 ++ ⟨#[32, 61, 32, 48, 32, 119, 105, 116, 104, 105, 110, 32, 51]⟩) hsz (HE.out.turn F1.out id))
      rw [htx] at PR
      rw [← htx] at PR
      have HTX := Lib.hid htx
      clear hsz s1 s2 s3 hp7 hp8 hg hl hin htx
      go_wp2_with fail
      with_reducible refine PR.out.mono ?_
      rintro y w2 ⟨x, rfl, hx, T2⟩
      rw [HTX.out] at hx
      simp only [HTX.out]
      obtain ⟨ev, cv, rfl, hev, hcv⟩ := hx
      obtain ⟨ea, ec, rfl, -⟩ := own_slice hev
      obtain ⟨ca, cc, rfl⟩ : ∃ a c, cv = .slice a (parseB (nestT bs)).1.conds.length c := by
        obtain ⟨xs, ho, -⟩ := hcv
        obtain ⟨a, c, h, -⟩ := own_slice ho
        exact ⟨a, c, h⟩
      have F2 := Lib.hid (F1.out.trans T2)
      clear T2 hev hcv
      by_cases h16 : bs.length ≤ 16
      · obtain ⟨q, hq, hq1⟩ := HP.out.1 bs h16
        rw [hq]
        dsimp only
        rw [hq1]
        have u2 : decide ((bs.length : Int) > 16) = false := decide_eq_false (by omega)
        have u3 : decide (16 < (bs.length : Int)) = false := decide_eq_false (by omega)
        clear h16 hq hq1
        unfold quL
        go_wp2_with fail
        go_ret
        exact ⟨rfl, F2.out.trans ((Turn.refl _ _).alloc _)⟩
      · have hq := HP.out.2 bs (by omega) hlen
        rw [hq]
        dsimp only
        rw [show zq.elems.length = 0 from rfl]
        have u2 : decide ((bs.length : Int) > 16) = true := decide_eq_true (by omega)
        have u3 : decide (16 < (bs.length : Int)) = true := decide_eq_true (by omega)
        clear h16 hq
        unfold quL
        go_wp2_with fail
        go_ret
        exact ⟨rfl, F2.out.trans ((Turn.refl _ _).alloc _)⟩
end Go.Proofs.YtadogobdlcionaaDoor
