/-
  The ring of the document's own answer, in memory: what its find, Get, Put, Drop do.
-/
import Derived.Test.YtjfbjkgppnhaoaaIRow
namespace Go.Proofs.Ytjfbjkgppnhaoaa
open Go.ChangeShapes Go.WideShapes Go.ChangeAt Go.RowKit
set_option linter.unusedVariables false

structure RefAt (w : World) (base rr N L : Nat) (v : Value) (n : Nat) (l : List (Int × Int)) : Prop where
  c0 : w.cell? ⟨rr, 0, none⟩ = some (.int .i64 (N : Int))
  c1 : w.cell? ⟨rr, 1, none⟩ = some (.int .i64 (L : Int))
  c2 : w.cell? ⟨rr, 2, none⟩ = some v
  f1 : w.frozen? ⟨rr, 1, none⟩ = false
  f2 : w.frozen? ⟨rr, 2, none⟩ = false
  row : w.ownsRow base 77 2 v n (icells l)
  len : l.length = n
  lt : rr < base
def FRel (w : World) (p n : Nat) (gh : Nat) (v5 : Value) (wr : World) : Prop := ∃ j : Nat, v5 = .int .i64 (j : Int) ∧ j ≤ p ∧ gh = n - j ∧ wr = w
/-- Where a look for a place ends. -/
def Ends (l : List (Int × Int)) (a : Int) (p n : Nat) (K : Int) : Prop := (p = n ∧ K = -1) ∨ (∃ q, l[p]? = some q ∧ q.1 = a ∧ K = (p : Int))
theorem RefAt.at {w : World} {base rr N L n j : Nat} {ad : Option Addr} {cap : Nat} {l : List (Int × Int)} (h : RefAt w base rr N L (.slice ad n cap) n l) (hj : j < n) :
    ∃ g q, ad = some ⟨g, 0, none⟩ ∧ l[j]? = some q ∧ w.cell? ⟨g, j * 2, none⟩ = some (.int .i64 q.1) ∧ w.cell? ⟨g, j * 2 + 1, none⟩ = some (.int .i64 q.2) := by
  obtain ⟨q, hq⟩ : ∃ q, l[j]? = some q := ⟨_, List.getElem?_eq_getElem (by rw [h.len]; exact hj)⟩
  obtain ⟨g, k, e, x0, x1⟩ := row77_at h.row h.len hq
  injection e with e _ _
  exact ⟨g, q, e, hq, x0, x1⟩
set_option maxRecDepth 100000 in
theorem ref_find {w : World} {base rr N L n p : Nat} {v : Value} {l : List (Int × Int)} {a K : Int} (h : RefAt w base rr N L v n l) (hlt : ∀ j q, j < p → l[j]? = some q → q.1 ≠ a) (hp : p ≤ n) (hK : Ends l a p n K) (hn : n ≤ 1000) :
    Calls Try.prog 65 #[.pointer (some ⟨rr, 0, none⟩), .int .i64 a] w fun e w' => e = .returned (.int .i64 K) ∧ w = w' := by
  obtain ⟨ad, cap, rfl, _⟩ := row_slice h.row
  have c2 := h.c2
  have H := Lib.hid h
  have HL := Lib.hid hlt
  have HK := Lib.hid hK
  have R0 : FRel w p n n (.int .i64 0) w := ⟨0, rfl, Nat.zero_le _, rfl, rfl⟩
  clear h hlt hK
  go_enter Try.func65, Try.ntmps65
  go_wp2_with fail
  go_loopg [5] n (fun gh v5 wr => FRel w p n gh v5 wr)
  case atStart => exact R0
  case round =>
    clear R0
    obtain ⟨j, rfl, hj, hg, rfl⟩ := hrel
    by_cases hjp : j < p
    · obtain ⟨g, q, rfl, hq, x0, x1⟩ := H.out.at (j := j) (by omega)
      have t1 : (q.1 == a) = false := by simpa using HL.out j q hjp hq
      have t2 : decide ((j : Int) < (n : Int)) = true := by simp; omega
      clear hq x1
      generalize q.1 = y at *
      go_wp2_with fail
      go_roundg (n - (j + 1))
      case measure => omega
      case rel => exact ⟨j + 1, by go_num, by omega, rfl, rfl⟩
    · obtain rfl : j = p := by omega
      have E := HK.out
      clear HK HL
      rcases E with ⟨e1, rfl⟩ | ⟨q, hq, rfl, rfl⟩
      · have t2 : decide ((j : Int) < (n : Int)) = false := by simp; omega
        have t3 : ¬ j < n := by omega
        clear e1
        go_wp2_with fail
        go_ret
        exact ⟨rfl, rfl⟩
      · have hjn : j < n := by have := (List.getElem?_eq_some_iff.1 hq).1; have := H.out.len; omega
        obtain ⟨g, q', rfl, hq', x0, x1⟩ := H.out.at (j := j) hjn
        obtain rfl : q = q' := by rw [hq] at hq'; exact Option.some.inj hq'
        have t1 : (q.1 == q.1) = true := by simp
        have t2 : decide ((j : Int) < (n : Int)) = true := by simp; omega
        clear hq hq' x1
        generalize q.1 = y at *
        go_wp2_with fail
        go_ret
        exact ⟨rfl, rfl⟩
set_option maxRecDepth 100000 in
theorem ref_get_no {w : World} {base rr N L n : Nat} {v : Value} {l : List (Int × Int)} {a : Int} (h : RefAt w base rr N L v n l) (hno : ∀ q ∈ l, q.1 ≠ a) (hn : n ≤ 1000) :
    Calls Try.prog 32 #[.pointer (some ⟨rr, 0, none⟩), .int .i64 a] w fun e w' => e = .returned (.tuple #[.int .i64 0, .bool false]) ∧ w = w' := by
  have F := Lib.hid (ref_find (p := n) (K := -1) h (fun j q _ hq => hno q (List.mem_of_getElem? hq)) (Nat.le_refl _) (.inl ⟨rfl, rfl⟩) hn)
  clear h hno
  go_enter Try.func32, Try.ntmps32
  go_wp2_with fail
  refine F.out.mono ?_
  rintro e w1 ⟨rfl, rfl⟩
  go_wp2_with fail
  go_ret2
  exact ⟨rfl, rfl⟩
set_option maxRecDepth 100000 in
theorem ref_get_yes {w : World} {base rr N L n p : Nat} {v : Value} {l : List (Int × Int)} {q : Int × Int} (h : RefAt w base rr N L v n l) (hq : l[p]? = some q) (hno : ∀ j r, j < p → l[j]? = some r → r.1 ≠ q.1) (hn : n ≤ 1000) :
    Calls Try.prog 32 #[.pointer (some ⟨rr, 0, none⟩), .int .i64 q.1] w fun e w' => e = .returned (.tuple #[.int .i64 q.2, .bool true]) ∧ w = w' := by
  have hpn : p < n := by have := (List.getElem?_eq_some_iff.1 hq).1; have := h.len; omega
  have F := Lib.hid (ref_find (p := p) (K := (p : Int)) h hno (by omega) (.inr ⟨q, hq, rfl, rfl⟩) hn)
  obtain ⟨ad, cap, rfl, _⟩ := row_slice h.row
  obtain ⟨g, q', rfl, hq', x0, x1⟩ := h.at hpn
  obtain rfl : q = q' := by rw [hq] at hq'; exact Option.some.inj hq'
  have c2 := h.c2
  have t1 : decide ((p : Int) < 0) = false := by simp
  have t2 : (p : Int) < (n : Int) := by omega
  clear h hno hq hq' x0
  generalize q.1 = y at *
  generalize q.2 = z at *
  go_enter Try.func32, Try.ntmps32
  go_wp2_with fail
  refine F.out.mono ?_
  rintro e w1 ⟨rfl, rfl⟩
  go_wp2_with fail
  go_ret2
  exact ⟨rfl, rfl⟩
set_option maxRecDepth 100000 in
theorem ref_put_low {w : World} {base rr N L n : Nat} {v : Value} {l : List (Int × Int)} {a : Int} (h : RefAt w base rr N L v n l) (ha : a < (L : Int)) (x : Int) :
    Calls Try.prog 30 #[.pointer (some ⟨rr, 0, none⟩), .int .i64 a, .int .i64 x] w fun e w' => e = .returned (.bool false) ∧ ∃ d, w' = w.drewN d := by
  have c1 := h.c1
  have t1 : decide (a < (L : Int)) = true := by simpa using ha
  clear h
  go_enter Try.func30, Try.ntmps30
  go_wp2_with fail
  go_quiet (fail)
  go_wp2_with fail
  go_ret
  exact ⟨rfl, _, rfl⟩
set_option maxRecDepth 100000 in
theorem ref_put_high {w : World} {base rr N L n : Nat} {v : Value} {l : List (Int × Int)} {a : Int} (h : RefAt w base rr N L v n l) (ha : (L : Int) ≤ a) (hb : a ≤ 9223372036854775807) (hN : (N : Int) ≤ a - (L : Int)) (x : Int) :
    Calls Try.prog 30 #[.pointer (some ⟨rr, 0, none⟩), .int .i64 a, .int .i64 x] w fun e w' => e = .returned (.bool false) ∧ ∃ d, w' = w.drewN d := by
  have c0 := h.c0
  have c1 := h.c1
  have t1 : decide (a < (L : Int)) = false := by simpa using ha
  have e1 : IntKind.i64.wrap (a - (L : Int)) = a - (L : Int) := IntWalk.i64_in _ (by omega)
  have t2 : decide ((N : Int) ≤ a - (L : Int)) = true := by simpa using hN
  clear h
  go_enter Try.func30, Try.ntmps30
  go_wp2_with fail
  go_quiet (fail)
  go_wp2_with fail
  go_ret
  exact ⟨rfl, _, rfl⟩
theorem RefAt.drewN {w : World} {base rr N L n : Nat} {v : Value} {l : List (Int × Int)} (h : RefAt w base rr N L v n l) (d : Nat) : RefAt (w.drewN d) base rr N L v n l :=
  ⟨h.c0, h.c1, h.c2, h.f1, h.f2, row_keep (e := 0) h.row (fun _ _ => rfl), h.len, h.lt⟩
theorem ref_find_q {w : World} {base rr N L n p : Nat} {v : Value} {l : List (Int × Int)} {a K : Int} (h : RefAt w base rr N L v n l) (hlt : ∀ j q, j < p → l[j]? = some q → q.1 ≠ a) (hp : p ≤ n) (hK : Ends l a p n K) (hn : n ≤ 1000) :
    ∀ d, Calls Try.prog 65 #[.pointer (some ⟨rr, 0, none⟩), .int .i64 a] (w.drewN d) fun e w' => e = .returned (.int .i64 K) ∧ ∃ m, w' = w.drewN m :=
  fun d => (ref_find (h.drewN d) hlt hp hK hn).mono fun e w' ⟨h1, h2⟩ => ⟨h1, d, h2.symm⟩
set_option maxRecDepth 100000 in
theorem ref_put_used {w : World} {base rr N L n p : Nat} {v : Value} {l : List (Int × Int)} {q : Int × Int} (h : RefAt w base rr N L v n l) (hq : l[p]? = some q) (hno : ∀ j r, j < p → l[j]? = some r → r.1 ≠ q.1) (hn : n ≤ 1000)
    (ha : (L : Int) ≤ q.1) (hb : q.1 ≤ 9223372036854775807) (hN : q.1 - (L : Int) < (N : Int)) (x : Int) :
    Calls Try.prog 30 #[.pointer (some ⟨rr, 0, none⟩), .int .i64 q.1, .int .i64 x] w fun e w' => e = .returned (.bool false) ∧ ∃ d, w' = w.drewN d := by
  have hpn : p < n := by have := (List.getElem?_eq_some_iff.1 hq).1; have := h.len; omega
  have F := Lib.hid (ref_find_q (p := p) (K := (p : Int)) h hno (by omega) (.inr ⟨q, hq, rfl, rfl⟩) hn)
  have c0 := h.c0
  have c1 := h.c1
  clear h hno hq
  generalize q.1 = a at *
  have t1 : decide (a < (L : Int)) = false := by simpa using ha
  have e1 : IntKind.i64.wrap (a - (L : Int)) = a - (L : Int) := IntWalk.i64_in _ (by omega)
  have t2 : decide ((N : Int) ≤ a - (L : Int)) = false := by simpa using hN
  have t3 : decide ((0 : Int) ≤ (p : Int)) = true := by simp
  go_enter Try.func30, Try.ntmps30
  go_wp2_with fail
  go_quiet ((go_at_call 65; exact F.out _))
  go_wp2_with fail
  go_ret
  exact ⟨rfl, _, rfl⟩
end Go.Proofs.Ytjfbjkgppnhaoaa
