/-
  The chain of the document's own answer, in memory: what its Is, Live, Count tell.
-/
import Derived.Test.YtakjpoapjokmbaaRRow
namespace Go.Proofs.Ytakjpoapjokmbaa
open Go.ChangeShapes Go.WideShapes Go.ChangeAt Go.RowKit
set_option linter.unusedVariables false

/-- A node of the document's own chain. -/
structure No where
  prev : Int
  cell : Int
  num : Int
  slot : Int
  gen : Int
  kept : Int
  gone : Bool
def ncell (q : No) : List Value := [.int .i64 q.prev, .int .i64 q.cell, .int .i64 q.num, .int .i64 q.slot, .int .i64 q.gen, .int .i64 q.kept, .bool q.gone]
def ncells : List No → List Value
  | [] => []
  | q :: l => ncell q ++ ncells l
theorem ncells_app : ∀ (l m : List No), ncells (l ++ m) = ncells l ++ ncells m
  | [], m => rfl
  | q :: l, m => by
    show ncell q ++ ncells (l ++ m) = (ncell q ++ ncells l) ++ ncells m
    rw [ncells_app l m, List.append_assoc]
theorem ncells_len : ∀ (l : List No), (ncells l).length = l.length * 7
  | [] => rfl
  | q :: l => by
    show (ncell q ++ ncells l).length = _
    rw [List.length_append, ncells_len l]
    simp [ncell]
    omega
theorem ncells_at : ∀ (l : List No) (k o : Nat) (q : No), l[k]? = some q → o < 7 → (ncells l)[k * 7 + o]? = (ncell q)[o]?
  | [], k, o, q, h, _ => by simp at h
  | r :: l, 0, o, q, h, ho => by
    simp at h
    subst h
    show (ncell r ++ ncells l)[0 * 7 + o]? = _
    rw [List.getElem?_append_left (by simp [ncell]; omega)]
    congr 1
    omega
  | r :: l, k + 1, o, q, h, ho => by
    have h' : l[k]? = some q := by simpa using h
    show (ncell r ++ ncells l)[(k + 1) * 7 + o]? = _
    have e : (ncell r).length = 7 := rfl
    rw [List.getElem?_append_right (by rw [e]; omega), e, show (k + 1) * 7 + o - 7 = k * 7 + o from by omega]
    exact ncells_at l k o q h' ho
structure RefC (w : World) (base rc : Nat) (v : Value) (l : List No) : Prop where
  c0 : w.cell? ⟨rc, 0, none⟩ = some v
  f0 : w.frozen? ⟨rc, 0, none⟩ = false
  row : w.ownsRow base 41 7 v l.length (ncells l)
  lt : rc < base
  few : l.length ≤ 1000
def isL (l : List No) (i : Int) : Bool := if 0 ≤ i then (match l[i.toNat]? with | some q => !q.gone | none => false) else false
theorem RefC.at {w : World} {base rc : Nat} {ad : Option Addr} {n cap : Nat} {l : List No} (h : RefC w base rc (.slice ad n cap) l) {k : Nat} {q : No} (hq : l[k]? = some q) :
    ∃ g, ad = some ⟨g, 0, none⟩ ∧ n = l.length ∧ ∀ o, o < 7 → w.cell? ⟨g, k * 7 + o, none⟩ = (ncell q)[o]? := by
  have hk := (List.getElem?_eq_some_iff.1 hq).1
  rcases h.row.2 with ⟨_, e⟩ | ⟨g, cap', cur, e, hg, hgg, _⟩
  · omega
  · injection e with e1 e2 _
    subst e1
    refine ⟨g, rfl, e2, fun o ho => ?_⟩
    have e := h.row.cells (g := g) rfl (k * 7 + o) ((ncells l)[k * 7 + o]'(by rw [ncells_len]; omega)) (List.getElem?_eq_getElem _)
    rw [Go.WideShapes.add_plain, Nat.zero_add] at e
    rw [e, ← List.getElem?_eq_getElem, ncells_at l k o q hq ho]
theorem RefC.shape {w : World} {base rc : Nat} {v : Value} {l : List No} (h : RefC w base rc v l) : ∃ ad cap, v = .slice ad l.length cap := by
  obtain ⟨a, cap, e, _⟩ := rrow_slice h.row
  exact ⟨a, cap, e⟩
set_option maxRecDepth 100000 in
theorem is_at {w : World} {base rc : Nat} {v : Value} {l : List No} (h : RefC w base rc v l) (i : Int) :
    Calls Try.prog 15 #[.pointer (some ⟨rc, 0, none⟩), .int .i64 i] w fun e w' => e = .returned (.bool (isL l i)) ∧ w = w' := by
  obtain ⟨ad, cap, rfl⟩ := h.shape
  have c0 := h.c0
  by_cases h0 : 0 ≤ i
  · obtain ⟨k, rfl⟩ : ∃ k : Nat, i = (k : Int) := ⟨i.toNat, by omega⟩
    have t0 : decide (0 ≤ (k : Int)) = true := by simp
    cases hq : l[k]? with
    | none =>
      have hl : ¬ k < l.length := by have := List.getElem?_eq_none_iff.1 hq; omega
      have t1 : decide ((k : Int) < (l.length : Int)) = false := by simp; omega
      have e : isL l (k : Int) = false := by unfold isL; rw [if_pos (by omega), Int.toNat_natCast, hq]
      rw [e]
      clear h hq e
      generalize l.length = n at *
      go_enter Try.func15, Try.ntmps15
      go_wp2_with fail
      go_ret
      exact ⟨rfl, rfl⟩
    | some q =>
      obtain ⟨g, rfl, _, hc⟩ := h.at hq
      have hl : k < l.length := (List.getElem?_eq_some_iff.1 hq).1
      have t1 : decide ((k : Int) < (l.length : Int)) = true := by simp; omega
      have e : isL l (k : Int) = !q.gone := by unfold isL; rw [if_pos (by omega), Int.toNat_natCast, hq]
      rw [e]
      have c6 : w.cell? ⟨g, k * 7 + 6, none⟩ = some (.bool q.gone) := hc 6 (by decide)
      clear h hq e hc
      generalize l.length = n at *
      generalize q.gone = b at *
      go_enter Try.func15, Try.ntmps15
      go_wp2_with fail
      go_ret
      exact ⟨rfl, rfl⟩
  · have t0 : decide (0 ≤ i) = false := by simpa using h0
    have e : isL l i = false := by unfold isL; rw [if_neg h0]
    rw [e]
    clear h e
    go_enter Try.func15, Try.ntmps15
    go_wp2_with fail
    go_ret
    exact ⟨rfl, rfl⟩
/-! ### How many are there; how often one is held -/
def liveL : List No → Nat
  | [] => 0
  | q :: l => (if q.gone then 0 else 1) + liveL l
theorem liveL_snoc : ∀ (l : List No) (q : No), liveL (l ++ [q]) = liveL l + if q.gone then 0 else 1
  | [], q => by simp [liveL]
  | r :: l, q => by
    show _ + liveL (l ++ [q]) = _ + liveL l + _
    rw [liveL_snoc l q]
    omega
theorem liveL_take {l : List No} {k : Nat} {q : No} (h : l[k]? = some q) : liveL (l.take (k + 1)) = liveL (l.take k) + if q.gone then 0 else 1 := by
  rw [List.take_add_one, h]
  exact liveL_snoc _ _
theorem liveL_le : ∀ (l : List No), liveL l ≤ l.length
  | [] => Nat.le_refl _
  | q :: l => by
    have := liveL_le l
    show (if q.gone then 0 else 1) + liveL l ≤ l.length + 1
    split <;> omega
def LRel (w : World) (l : List No) (gh : Nat) (v3 v4 : Value) (wr : World) : Prop := ∃ j : Nat, v4 = .int .i64 (j : Int) ∧ v3 = .int .i64 ((liveL (l.take j) : Nat) : Int) ∧ j ≤ l.length ∧ gh = l.length - j ∧ wr = w
set_option maxRecDepth 100000 in
theorem dlive_at {w : World} {base rc : Nat} {v : Value} {l : List No} (h : RefC w base rc v l) :
    Calls Try.prog 14 #[.pointer (some ⟨rc, 0, none⟩)] w fun e w' => e = .returned (.int .i64 ((liveL l : Nat) : Int)) ∧ w = w' := by
  obtain ⟨ad, cap, rfl⟩ := h.shape
  have c0 := h.c0
  have few := h.few
  have H := Lib.hid h
  have R0 : LRel w l l.length (.int .i64 0) (.int .i64 0) w := ⟨0, rfl, by simp [liveL], Nat.zero_le _, rfl, rfl⟩
  clear h
  go_enter Try.func14, Try.ntmps14
  go_wp2_with fail
  go_loopg [3, 4] l.length (fun gh v3 v4 wr => LRel w l gh v3 v4 wr)
  case atStart => exact R0
  case round =>
    clear R0
    obtain ⟨j, rfl, rfl, hj, hg, rfl⟩ := hrel
    by_cases hjl : j < l.length
    · obtain ⟨q, hq⟩ : ∃ q, l[j]? = some q := ⟨_, List.getElem?_eq_getElem hjl⟩
      obtain ⟨g, rfl, _, hc⟩ := H.out.at hq
      have c6 : wr.cell? ⟨g, j * 7 + 6, none⟩ = some (.bool q.gone) := hc 6 (by decide)
      have t2 : decide ((j : Int) < (l.length : Int)) = true := by simp; omega
      have e := Lib.hid (liveL_take hq)
      have le := liveL_le (l.take j)
      have le2 : liveL (l.take j) ≤ 1000 := by rw [List.length_take] at le; omega
      clear hc hq le
      generalize liveL (l.take j) = s at *
      generalize q.gone = b at *
      cases b with
      | true =>
        go_wp2_with fail
        go_roundg (l.length - (j + 1))
        case measure => omega
        case rel => exact ⟨j + 1, by go_num, by rw [e.out]; rfl, by omega, rfl, rfl⟩
      | false =>
        go_wp2_with fail
        go_roundg (l.length - (j + 1))
        case measure => omega
        case rel => exact ⟨j + 1, by go_num, by rw [e.out]; go_num, by omega, rfl, rfl⟩
    · have t2 : decide ((j : Int) < (l.length : Int)) = false := by simp; omega
      obtain rfl : j = l.length := by omega
      rw [List.take_length] at *
      go_wp2_with fail
      go_ret
      exact ⟨rfl, rfl⟩
end Go.Proofs.Ytakjpoapjokmbaa
