/-
  The chain of the document's own answer, in memory: its Count, Keep, Push.
-/
import Derived.Test.YtakjpoapjokmbaaDoc
namespace Go.Proofs.Ytakjpoapjokmbaa
open Go.ChangeShapes Go.WideShapes Go.ChangeAt Go.RowKit
set_option linter.unusedVariables false

def kidB (i : Int) (q : No) : Bool := !q.gone && (q.prev == i)
def kidsL (i : Int) : List No → Nat
  | [] => 0
  | q :: l => (if kidB i q then 1 else 0) + kidsL i l
theorem kidsL_snoc (i : Int) : ∀ (l : List No) (q : No), kidsL i (l ++ [q]) = kidsL i l + if kidB i q then 1 else 0
  | [], q => by simp [kidsL]
  | r :: l, q => by
    show _ + kidsL i (l ++ [q]) = _ + kidsL i l + _
    rw [kidsL_snoc i l q]
    omega
theorem kidsL_take {i : Int} {l : List No} {k : Nat} {q : No} (h : l[k]? = some q) : kidsL i (l.take (k + 1)) = kidsL i (l.take k) + if kidB i q then 1 else 0 := by
  rw [List.take_add_one, h]
  exact kidsL_snoc i _ _
theorem kidsL_le (i : Int) : ∀ (l : List No), kidsL i l ≤ l.length
  | [] => Nat.le_refl _
  | q :: l => by
    have := kidsL_le i l
    show (if kidB i q then 1 else 0) + kidsL i l ≤ l.length + 1
    split <;> omega
theorem isL_at {l : List No} {k : Nat} {q : No} (h : l[k]? = some q) : isL l (k : Int) = !q.gone := by
  unfold isL
  rw [if_pos (by omega), Int.toNat_natCast, h]
set_option maxRecDepth 100000 in
theorem dcount_no {w : World} {base rc : Nat} {v : Value} {l : List No} (h : RefC w base rc v l) {i : Int} (hi : isL l i = false) :
    Calls Try.prog 27 #[.pointer (some ⟨rc, 0, none⟩), .int .i64 i] w fun e w' => e = .returned (.int .i64 0) ∧ w = w' := by
  have I := is_at h i
  rw [hi] at I
  have I := Lib.hid I
  clear h hi
  go_enter Try.func27, Try.ntmps27
  go_wp2_with fail
  refine I.out.mono ?_
  rintro e w1 ⟨rfl, rfl⟩
  go_wp2_with fail
  go_ret
  exact ⟨rfl, rfl⟩
def KRel (w : World) (l : List No) (i a : Int) (gh : Nat) (v6 v7 : Value) (wr : World) : Prop := ∃ j : Nat, v7 = .int .i64 (j : Int) ∧ v6 = .int .i64 (a + ((kidsL i (l.take j) : Nat) : Int)) ∧ j ≤ l.length ∧ gh = l.length - j ∧ wr = w
set_option maxRecDepth 100000 in
set_option maxHeartbeats 1000000 in
theorem dcount_yes {w : World} {base rc : Nat} {v : Value} {l : List No} (h : RefC w base rc v l) {k : Nat} {q : No} (hq : l[k]? = some q) (hg : q.gone = false) (hb : -100000 ≤ q.kept ∧ q.kept ≤ 100000) :
    Calls Try.prog 27 #[.pointer (some ⟨rc, 0, none⟩), .int .i64 (k : Int)] w fun e w' => e = .returned (.int .i64 (q.kept + ((kidsL (k : Int) l : Nat) : Int))) ∧ w = w' := by
  have I := is_at h (k : Int)
  rw [isL_at hq, hg] at I
  have I := Lib.hid I
  obtain ⟨ad, cap, rfl⟩ := h.shape
  have c0 := h.c0
  have few := h.few
  obtain ⟨g, rfl, _, hc⟩ := h.at hq
  have c5 : w.cell? ⟨g, k * 7 + 5, none⟩ = some (.int .i64 q.kept) := hc 5 (by decide)
  have hkl : k < l.length := (List.getElem?_eq_some_iff.1 hq).1
  have hkn : (k : Int) < (l.length : Int) := by omega
  have H := Lib.hid h
  have R0 : KRel w l (k : Int) q.kept l.length (.int .i64 q.kept) (.int .i64 0) w := ⟨0, rfl, by simp [kidsL], Nat.zero_le _, rfl, rfl⟩
  clear h hq hg hc
  generalize q.kept = a at *
  go_enter Try.func27, Try.ntmps27
  go_wp2_with fail
  refine I.out.mono ?_
  rintro e w1 ⟨rfl, rfl⟩
  go_wp2_with fail
  clear c5
  go_loopg [6, 7] l.length (fun gh v6 v7 wr => KRel w l (k : Int) a gh v6 v7 wr)
  case atStart => exact R0
  case round =>
    clear R0
    obtain ⟨j, rfl, rfl, hj, hg, rfl⟩ := hrel
    by_cases hjl : j < l.length
    · obtain ⟨r, hr⟩ : ∃ r, l[j]? = some r := ⟨_, List.getElem?_eq_getElem hjl⟩
      obtain ⟨g', e, _, hc⟩ := H.out.at hr
      injection e with e
      injection e with e
      subst e
      have c6 : wr.cell? ⟨g, j * 7 + 6, none⟩ = some (.bool r.gone) := hc 6 (by decide)
      have c7 : wr.cell? ⟨g, j * 7, none⟩ = some (.int .i64 r.prev) := hc 0 (by decide)
      have t2 : decide ((j : Int) < (l.length : Int)) = true := by simp; omega
      have e := kidsL_take (i := (k : Int)) hr
      unfold kidB at e
      have le := kidsL_le (k : Int) (l.take j)
      have le2 : kidsL (k : Int) (l.take j) ≤ 1000 := by rw [List.length_take] at le; omega
      clear hc hr le
      generalize kidsL (k : Int) (l.take j) = s at *
      generalize r.gone = b at *
      generalize r.prev = pv at *
      have E := Lib.hid e
      clear e
      cases b with
      | true =>
        go_wp2_with fail
        go_roundg (l.length - (j + 1))
        case measure => omega
        case rel => exact ⟨j + 1, by go_num, by rw [E.out]; rfl, by omega, rfl, rfl⟩
      | false =>
        by_cases hp : pv = (k : Int)
        · subst hp
          have ew : wrap64 (a + (s : Int) + 1) = a + (s : Int) + 1 := by unfold wrap64; omega
          have t3 : ((k : Int) == (k : Int)) = true := by simp
          go_wp2_with fail
          go_roundg (l.length - (j + 1))
          case measure => omega
          case rel =>
            refine ⟨j + 1, by go_num, ?_, by omega, rfl, rfl⟩
            rw [E.out]
            simp
            omega
        · have t3 : (pv == (k : Int)) = false := by simpa using hp
          go_wp2_with fail
          go_roundg (l.length - (j + 1))
          case measure => omega
          case rel => exact ⟨j + 1, by go_num, by rw [E.out, t3]; rfl, by omega, rfl, rfl⟩
    · have t2 : decide ((j : Int) < (l.length : Int)) = false := by simp; omega
      obtain rfl : j = l.length := by omega
      rw [List.take_length] at *
      go_wp2_with fail
      go_ret
      exact ⟨rfl, rfl⟩
end Go.Proofs.Ytakjpoapjokmbaa
