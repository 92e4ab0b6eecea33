/-
  The ring of the document's own answer, in memory: a Put that puts.
-/
import Derived.Test.YtjfbjkgppnhaoaaPutRows
namespace Go.Proofs.Ytjfbjkgppnhaoaa
open Go.ChangeShapes Go.WideShapes Go.ChangeAt Go.RowKit
set_option linter.unusedVariables false
set_option pp.deepTerms true
set_option pp.maxSteps 1000000

set_option maxRecDepth 100000 in
set_option maxHeartbeats 8000000 in
theorem ref_put_some {w : World} {base rr N L n p cap g : Nat} {l : List (Int × Int)} {a : Int} (h : RefAt w base rr N L (.slice (some ⟨g, 0, none⟩) n cap) n l) (hs : Stops l a p) (hno : ∀ q ∈ l, q.1 ≠ a) (hn : n ≤ 900)
    (ha : (L : Int) ≤ a) (hb : a ≤ 9223372036854775807) (hN : a - (L : Int) < (N : Int)) (hB : base ≤ w.heap.size) (x : Int) :
    Calls Try.prog 30 #[.pointer (some ⟨rr, 0, none⟩), .int .i64 a, .int .i64 x] w fun e w' => e = .returned (.bool true) ∧ (∃ v', RefAt w' base rr N L v' (n + 1) (l.take p ++ (a, x) :: l.drop p)) ∧ Near rr rr w w' := by
  have F := Lib.hid (ref_find_q (p := n) (K := -1) h (fun j q _ hq => hno q (List.mem_of_getElem? hq)) (Nat.le_refl _) (.inl ⟨rfl, rfl⟩) (by omega))
  have hpn : p ≤ n := by have := hs.le; have := h.len; omega
  have c0 := h.c0
  have c1 := h.c1
  have t1 : decide (a < (L : Int)) = false := by simpa using ha
  have e1 : IntKind.i64.wrap (a - (L : Int)) = a - (L : Int) := IntWalk.i64_in _ (by omega)
  have t2 : decide ((N : Int) ≤ a - (L : Int)) = false := by simpa using hN
  have k1 := h.cap.1
  have k2 : cap ≤ 9223372036854775807 := by have := h.cap.2; unfold maxLen at this; omega
  have H := Lib.hid h
  have HS := Lib.hid hs
  have HB := Lib.hid hB
  clear h hs hno hB
  go_enter Try.func30, Try.ntmps30
  go_wp2_with fail
  go_quiet ((go_at_call 65; exact F.out _))
  have HW := Lib.hid (H.out.drewN nq)
  have NW := Lib.hid (Near.drewN (r := rr) (pb := rr) (w := w) nq)
  have HB := Lib.hid (show base ≤ (w.drewN nq).heap.size from HB.out)
  clear H F c0 c1 t1 e1 t2
  generalize w.drewN nq = W at *
  have c2 := HW.out.c2
  have q0 : rr < W.heap.size := block_lt_of_cell c2
  have R0 : FRel W p n n (.int .i64 0) W := ⟨0, rfl, Nat.zero_le _, rfl, rfl⟩
  go_wp2_with fail
  go_loopg [7] n (fun gh v7 wr => FRel W p n gh v7 wr)
  case atStart => exact R0
  case round =>
    clear R0
    obtain ⟨j, rfl, hj, hg, rfl⟩ := hrel
    by_cases hjp : j < p
    · obtain ⟨g', q, e, hq, x0, x1⟩ := HW.out.at (j := j) (by omega)
      injection e with e
      injection e with e
      subst e
      have t1 : decide (q.1 < a) = true := by simpa using HS.out.lt j q hjp hq
      have t2 : decide ((j : Int) < (n : Int)) = true := by simp; omega
      have t3 : j < n := by omega
      clear hq x1
      generalize q.1 = y at *
      go_wp2_with fail
      go_roundg (n - (j + 1))
      case measure => omega
      case rel => exact ⟨j + 1, by go_num, by omega, rfl, rfl⟩
    · obtain rfl : j = p := by omega
      have c2a : (wr.alloc (.cells #[] 77)).cell? ⟨rr, 2, none⟩ = some (.slice (some ⟨g, 0, none⟩) n cap) := (World.cell?_alloc_lt wr _ _ q0).trans c2
      obtain ⟨v6, W6, v7, W7, v8, W8, r6, r7, r8, b6, b8, hr8⟩ := put_rows (j := j) a x HW.out.row HW.out.len (by omega) k1 hn
      have c2b := (b6.cell (p := ⟨rr, 2, none⟩) q0).trans c2
      have q6 : rr < W6.heap.size := Nat.lt_of_lt_of_le q0 b6.size
      have c2c := (b8.cell (p := ⟨rr, 2, none⟩) q0).trans c2
      have f2c := (b8.frozen (p := ⟨rr, 2, none⟩) q0).trans HW.out.f2
      obtain ⟨a8, k8, rfl, _⟩ := row_slice hr8
      have hlen8 : (l.take j ++ (a, x) :: l.drop j).length = n + 1 := by have := HW.out.len; simp; omega
      have FIN := Lib.hid (HW.out.row_set b8 hr8 hlen8 HB.out)
      clear hr8 b6 b8 hlen8
      by_cases hjn : j < n
      · obtain ⟨g', q, e, hq, x0, x1⟩ := HW.out.at (j := j) hjn
        injection e with e
        injection e with e
        subst e
        have t1 : decide (q.1 < a) = false := by simpa using HS.out.ge q hq
        have t2 : decide ((j : Int) < (n : Int)) = true := by simp; omega
        rw [if_neg (by omega)] at r6
        have R6 := Lib.hid r6
        have R7 := Lib.hid r7
        have R8 := Lib.hid r8
        clear hq x1 r6 r7 r8
        generalize q.1 = y at *
        go_wp2_with (at_builtin; first | ((with_reducible show wpList _ _ _ [_, _] _ _); refine wpList_append_runR rfl _ _ _ rfl rfl rfl R6.out ?_) | ((with_reducible show wpList _ _ _ [_, _, _, _, _, _] _ _); refine wpList_append_runR rfl _ _ _ rfl rfl rfl R7.out ?_) | ((with_reducible show wpList _ _ _ [_, _, _, _] _ _); refine wpList_append_runR rfl _ _ _ rfl rfl rfl R8.out ?_))
        go_ret
        exact ⟨rfl, ⟨_, FIN.out.1⟩, NW.out.trans FIN.out.2⟩
      · have t2 : decide ((j : Int) < (n : Int)) = false := by simp; omega
        have t3 : ¬ j < n := hjn
        have R6 := Lib.hid r6
        have R7 := Lib.hid r7
        have R8 := Lib.hid r8
        clear r6 r7 r8
        go_wp2_with (at_builtin; first | ((with_reducible show wpList _ _ _ [_, _] _ _); refine wpList_append_runR rfl _ _ _ rfl rfl rfl R6.out ?_) | ((with_reducible show wpList _ _ _ [_, _, _, _, _, _] _ _); refine wpList_append_runR rfl _ _ _ rfl rfl rfl R7.out ?_) | ((with_reducible show wpList _ _ _ [_, _, _, _] _ _); refine wpList_append_runR rfl _ _ _ rfl rfl rfl R8.out ?_))
        all_goals
          go_ret
          exact ⟨rfl, ⟨_, FIN.out.1⟩, NW.out.trans FIN.out.2⟩
end Go.Proofs.Ytjfbjkgppnhaoaa
