/-
  The document's Sets.
-/
import Derived.Test.YtakjpoapjokmbaaPathD
import Derived.Test.YtakjpoapjokmbaaDeepSt
import Derived.Deep.RegionHeld3
namespace Go.Proofs.Ytakjpoapjokmbaa
open Go.ChangeShapes Go.WideShapes Go.ChangeAt Go.RowKit
set_option linter.unusedVariables false

/-- A row of nodes that lies in block gp, from W0 on. -/
def NRow (W : World) (gp : Nat) (L : List No) : Prop := ∀ (j : Nat) (q : No), L[j]? = some q → ∀ o, o < 7 → W.cell? ⟨gp, j * 7 + o, none⟩ = (ncell q)[o]?
theorem nrow_of {W : World} {b n cap gp : Nat} {L : List No} (h : W.ownsRow b 41 7 (.slice (some ⟨gp, 0, none⟩) n cap) L.length (ncells L)) : NRow W gp L := fun j q hq o ho => by
  have hk := (List.getElem?_eq_some_iff.1 hq).1
  have e := h.cells (g := gp) rfl (j * 7 + o) ((ncells L)[j * 7 + o]'(by rw [ncells_len]; omega)) (List.getElem?_eq_getElem _)
  rw [Go.WideShapes.add_plain, Nat.zero_add] at e
  rw [e, ← List.getElem?_eq_getElem, ncells_at L j o q hq ho]
/-- After j nodes, the cell of the next one being made room for. -/
structure DSt2 (W0 : World) (gp : Nat) (L : List No) (n₀ j : Nat) (S : List (List Int)) (v5 : Value) (wr : World) : Prop where
  sts : Sts wr n₀ v5 S
  bel : Below n₀ W0 wr
  few : S.length ≤ 6
  rows : ∀ (i : Nat) (l : List Int), S[i]? = some l → l.length ≤ j
def OutR (W0 : World) (gp : Nat) (L : List No) (n₀ : Nat) (gh : Nat) (v5 v7 : Value) (wr : World) : Prop :=
  ∃ j : Nat, v7 = .int .i64 (j : Int) ∧ j ≤ L.length ∧ gh = L.length - j ∧ DSt2 W0 gp L n₀ j (setsL ((L.take j).map toNd)) v5 wr
def InR (W0 : World) (gp : Nat) (L : List No) (n₀ j c : Nat) (S0 : List (List Int)) (gh : Nat) (v5 : Value) (wr : World) : Prop :=
  ∃ S, gh = c + 1 - S.length ∧ padL S c = padL S0 c ∧ DSt2 W0 gp L n₀ j S v5 wr
set_option maxRecDepth 100000 in
set_option maxHeartbeats 4000000 in
theorem dsets_walk {w W0 : World} {rc : Nat} {i : Int} {L : List No} {v6 : Value} (hp : Calls Try.prog 26 #[.pointer (some ⟨rc, 0, none⟩), .int .i64 i] w (PathPost w L)) (hL : L.length ≤ 100) (hc : ∀ q ∈ L, 0 ≤ q.cell ∧ q.cell ≤ 5) :
    Calls Try.prog 28 #[.pointer (some ⟨rc, 0, none⟩), .int .i64 i] w fun e W' => ∃ v, e = .returned v ∧ Sts W' w.heap.size v (setsL (L.map toNd)) ∧ Below w.heap.size w W' := by
  have P := Lib.hid hp
  clear hp
  go_enter Try.func28, Try.ntmps28
  go_wp2_with fail
  refine P.out.mono ?_
  rintro e W1 ⟨v, rfl, hr, hb⟩
  obtain ⟨ap, cp, rfl, hap⟩ := rrow_slice hr
  have R0 : OutR W1 (ap.map Addr.block |>.getD 0) L W1.heap.size L.length (.slice none 0 0) (.int .i64 0) W1 := ⟨0, rfl, Nat.zero_le _, rfl, Sts.nil _ _, Below.refl _ _, by simp [setsL], fun i l h => by simp [setsL] at h⟩
  have HR := Lib.hid (And.intro hr (And.intro hap hb))
  clear hr hap hb P
  go_wp2_with fail
  go_loopg [5, 7] L.length (fun gh v5 v7 wr => OutR W1 (ap.map Addr.block |>.getD 0) L W1.heap.size gh v5 v7 wr)
  case atStart => exact R0
  case round =>
    clear R0
    obtain ⟨j, rfl, hj, hgj, hst⟩ := hrel
    by_cases hjl : j < L.length
    · have t1 : decide ((j : Int) < (L.length : Int)) = true := by simp; omega
      obtain ⟨gp, rfl⟩ := HR.out.2.1 (by omega)
      obtain ⟨q, hq⟩ : ∃ q, L[j]? = some q := ⟨_, List.getElem?_eq_getElem hjl⟩
      have hqc := hc q (List.mem_of_getElem? hq)
      obtain ⟨c, hcc⟩ : ∃ c : Nat, q.cell = (c : Int) := ⟨q.cell.toNat, by omega⟩
      have hc5 : c ≤ 5 := by omega
      have hgp := rrow_cells HR.out.1 (show Value.ownBlock _ = some gp from rfl)
      have nr := nrow_of HR.out.1
      have n1 : W1.cell? ⟨gp, j * 7 + 1, none⟩ = some (.int .i64 q.cell) := nr j q hq 1 (by decide)
      have n2 : W1.cell? ⟨gp, j * 7 + 2, none⟩ = some (.int .i64 q.num) := nr j q hq 2 (by decide)
      rw [hcc] at n1
      have NN := Lib.hid (And.intro n1 (And.intro n2 hgp.2.1))
      have I0 : InR W1 gp L W1.heap.size j c (setsL ((L.take j).map toNd)) (c + 1 - (setsL ((L.take j).map toNd)).length) u5 wr := ⟨_, rfl, rfl, hst⟩
      have HQ := Lib.hid (And.intro hq (And.intro hcc hgj))
      have hjn : (j : Int) < (L.length : Int) := by omega
      clear hst n1 n2 nr hgp hq hqc hcc hgj
      go_wp2_with fail
      go_loopg [5] (c + 1 - (setsL ((L.take j).map toNd)).length) (fun gh v5 wx => InR W1 gp L W1.heap.size j c (setsL ((L.take j).map toNd)) gh v5 wx)
      case atStart => exact I0
      case round =>
        clear I0
        obtain ⟨S, hgS, hpad, hst⟩ := hrel
        obtain ⟨ad, cap, rfl⟩ := hst.sts.shape
        have z1 := (hst.bel.cell (p := ⟨gp, j * 7 + 1, none⟩) NN.out.2.2).trans NN.out.1
        have few := hst.few
        by_cases hlt : S.length ≤ c
        · have t2 : decide ((S.length : Int) ≤ (c : Int)) = true := by simp; omega
          obtain ⟨v', wa, hrun, hs2, hb2⟩ := sts_more hst.sts (by omega) hst.bel.size
          have RUN := Lib.hid hrun
          have F := Lib.hid (show InR W1 gp L W1.heap.size j c (setsL ((L.take j).map toNd)) (c + 1 - (S.length + 1)) v' wa from ⟨S ++ [[]], by simp, by rw [padL_more hlt, hpad], hs2, hst.bel.trans hb2, by simp; omega, fun i l hl => by
            by_cases hi : i < S.length
            · rw [List.getElem?_append_left hi] at hl
              exact hst.rows i l hl
            · rw [List.getElem?_append_right (by omega)] at hl
              have : l = [] := by
                have h2 := List.mem_of_getElem? hl
                simpa using h2
              rw [this]
              exact Nat.zero_le _⟩)
          have HG := Lib.hid hgS
          clear hst hrun hs2 hb2 hpad hgS
          go_wp2_with (refine wpList_append_runC (by rfl) _ _ _ (by rfl) (by rfl) (by rfl) RUN.out ?_)
          go_roundg (c + 1 - (S.length + 1))
          case measure => have := HG.out; omega
          case rel => exact F.out
        · have t2 : decide ((S.length : Int) ≤ (c : Int)) = false := by simp; omega
          have hpS : padL S c = S := padL_of (by omega)
          obtain ⟨r, hr⟩ : ∃ r, S[c]? = some r := ⟨_, List.getElem?_eq_getElem (by omega)⟩
          have hr9 : r.length ≤ 900 := by have := hst.rows c r hr; omega
          obtain ⟨g, vc, eg, hg1, hg2⟩ := hst.sts.lies (by omega)
          injection eg with eg1 eg2 eg3
          subst eg1
          subst eg3
          obtain ⟨ad2, cap2, g2, cap3, w2', q1, q2, _, hrun, q3, q4, q5, q6, q7⟩ := sts_put hst.sts hr hr9 hst.bel.size q.num
          have y2 := (hst.bel.cell (p := ⟨gp, j * 7 + 2, none⟩) NN.out.2.2).trans NN.out.2.1
          have hgpw : gp < wr.heap.size := block_lt_of_cell z1
          have hgpn : gp < W1.heap.size := NN.out.2.2
          have hwn := hst.bel.size
          have KD : wr.drew.cell? ⟨gp, j * 7 + 1, none⟩ = some (.int .i64 (c : Int)) ∧ wr.drew.cell? ⟨gp, j * 7 + 2, none⟩ = some (.int .i64 q.num) := ⟨z1, y2⟩
          have KA := And.intro ((World.cell?_alloc_lt wr.drew (.cells #[.int .i64 q.num] 3) ⟨gp, j * 7 + 1, none⟩ hgpw).trans z1) ((World.cell?_alloc_lt wr.drew (.cells #[.int .i64 q.num] 3) ⟨gp, j * 7 + 2, none⟩ hgpw).trans y2)
          have K1 := And.intro ((q5.cell (p := ⟨gp, j * 7 + 1, none⟩) hgpn).trans z1) ((q5.cell (p := ⟨gp, j * 7 + 2, none⟩) hgpn).trans y2)
          have K2 := And.intro ((q7.cell (p := ⟨gp, j * 7 + 1, none⟩) hgpn).trans z1) ((q7.cell (p := ⟨gp, j * 7 + 2, none⟩) hgpn).trans y2)
          have RUN := Lib.hid hrun
          have e1 : setsL ((L.take (j + 1)).map toNd) = S.set c (r ++ [q.num]) := by
            rw [List.take_add_one, HQ.out.1]
            simp only [Option.toList_some, List.map_append, List.map_cons, List.map_nil]
            rw [setsL_snoc]
            unfold addL
            rw [show (toNd q).cell = (c : Int) from HQ.out.2.1, show (toNd q).num = q.num from rfl, Int.toNat_natCast, ← hpad, hpS, hr]
            rfl
          have F := Lib.hid (show OutR W1 gp L W1.heap.size (L.length - (j + 1)) (.slice (some ⟨g, 0, none⟩) S.length cap) (.int .i64 ((j + 1 : Nat) : Int)) _ from ⟨j + 1, rfl, by omega, rfl, by rw [e1]; exact q6, hst.bel.trans q7, by rw [e1, List.length_set]; exact few, fun i l hl => by
            rw [e1] at hl
            by_cases e : i = c
            · subst e
              rw [List.getElem?_set_self (by omega)] at hl
              injection hl with hl
              rw [← hl, List.length_append, List.length_singleton]
              have := hst.rows i r hr
              omega
            · rw [List.getElem?_set_ne (Ne.symm e)] at hl
              have := hst.rows i l hl
              omega⟩)
          have hltc : (c : Int) < (S.length : Int) := by omega
          have hcn : c < S.length := by omega
          have hc0 : (0 : Int) ≤ (c : Int) := by omega
          have hj0 : (0 : Int) ≤ (j : Int) := by omega
          have HG := Lib.hid (And.intro HQ.out.2.2 hr9)
          clear hst hrun hpad hgS hpS hr hr9 q5 q6 q7 e1 y2
          generalize q.num = num at *
          generalize r.length = rl at *
          generalize S.length = sl at *
          go_wp2_with fail
          refine wp_region_held_drew (S := (fun w' => w'.cell? ⟨gp, j * 7 + 1, none⟩ = some (.int .i64 (c : Int)) ∧ w'.cell? ⟨gp, j * 7 + 2, none⟩ = some (.int .i64 num))) (by kernel_rfl) ?hs0 (fun hS0 => ?_)
          case hs0 => ((try dsimp only); first | with_reducible exact KD | with_reducible exact KA | with_reducible exact K1 | with_reducible exact K2 | exact KD | exact KA | exact K1 | exact K2)
          refine wpAnyH_take (i := 0) (oi := { dst := some 28, op := Op.move (Operand.tmp 5), type := 49, pos := "ref.go:95", after := #[], guard := none }) (v := ?_) rfl (by kernel_rfl) (by kernel_rfl) (by kernel_rfl) (fun _ _ _ h => h) (Or.inl ⟨by rfl, ?hy1⟩) hS0 ?_
          case hy1 => (intro w hSw; (try dsimp only at hSw); go_simp; try with_reducible rfl)
          try simp only [Act.put, List.setIfInBounds_toArray, List.set_cons_zero, List.set_cons_succ]
          refine wpAnyH_take (i := 1) (oi := { dst := some 29, op := Op.move (Operand.tmp 6), type := 27, pos := "ref.go:95", after := #[], guard := none }) (v := ?_) rfl (by kernel_rfl) (by kernel_rfl) (by kernel_rfl) (fun _ _ _ h => h) (Or.inl ⟨by rfl, ?hy2⟩) hS0 ?_
          case hy2 => (intro w hSw; (try dsimp only at hSw); go_simp; try with_reducible rfl)
          try simp only [Act.put, List.setIfInBounds_toArray, List.set_cons_zero, List.set_cons_succ]
          refine wpAnyH_take (i := 2) (oi := { dst := some 30, op := Op.move (Operand.tmp 7), type := 3, pos := "ref.go:95", after := #[], guard := none }) (v := ?_) rfl (by kernel_rfl) (by kernel_rfl) (by kernel_rfl) (fun _ _ _ h => h) (Or.inl ⟨by rfl, ?hy3⟩) hS0 ?_
          case hy3 => (intro w hSw; (try dsimp only at hSw); go_simp; try with_reducible rfl)
          try simp only [Act.put, List.setIfInBounds_toArray, List.set_cons_zero, List.set_cons_succ]
          refine wpAnyH_take (i := 3) (oi := { dst := some 31, op := Op.indexAddr 27 (Operand.tmp 29) (Operand.tmp 30), type := 0, pos := "ref.go:95", after := #[{ on := 1, ground := Ground.data }, { on := 2, ground := Ground.data }], guard := none }) (v := ?_) rfl (by kernel_rfl) (by kernel_rfl) (by kernel_rfl) (fun _ _ _ h => h) (Or.inl ⟨by rfl, ?hy4⟩) hS0 ?_
          case hy4 => (intro w hSw; (try dsimp only at hSw); go_simp; try with_reducible rfl)
          try simp only [Act.put, List.setIfInBounds_toArray, List.set_cons_zero, List.set_cons_succ]
          refine wpAnyH_take (i := 4) (oi := { dst := some 32, op := Op.fieldAddr 41 (Operand.tmp 31) 1, type := 0, pos := "ref.go:95", after := #[{ on := 3, ground := Ground.data }], guard := none }) (v := ?_) rfl (by kernel_rfl) (by kernel_rfl) (by kernel_rfl) (fun _ _ _ h => h) (Or.inl ⟨by rfl, ?hy5⟩) hS0 ?_
          case hy5 => (intro w hSw; (try dsimp only at hSw); go_simp; try with_reducible rfl)
          try simp only [Act.put, List.setIfInBounds_toArray, List.set_cons_zero, List.set_cons_succ]
          refine wpAnyH_take (i := 5) (oi := { dst := some 33, op := Op.load 3 (Operand.tmp 32), type := 3, pos := "ref.go:95", after := #[{ on := 4, ground := Ground.data }], guard := none }) (v := ?_) rfl (by kernel_rfl) (by kernel_rfl) (by kernel_rfl) (fun _ _ _ h => h) (Or.inl ⟨by rfl, ?hy6⟩) hS0 ?_
          case hy6 => (intro w hSw; (try dsimp only at hSw); go_simp; try with_reducible rfl)
          try simp only [Act.put, List.setIfInBounds_toArray, List.set_cons_zero, List.set_cons_succ]
          refine wpAnyH_take (i := 6) (oi := { dst := some 34, op := Op.move (Operand.tmp 5), type := 49, pos := "ref.go:95", after := #[], guard := none }) (v := ?_) rfl (by kernel_rfl) (by kernel_rfl) (by kernel_rfl) (fun _ _ _ h => h) (Or.inl ⟨by rfl, ?hy7⟩) hS0 ?_
          case hy7 => (intro w hSw; (try dsimp only at hSw); go_simp; try with_reducible rfl)
          try simp only [Act.put, List.setIfInBounds_toArray, List.set_cons_zero, List.set_cons_succ]
          refine wpAnyH_take (i := 7) (oi := { dst := some 35, op := Op.move (Operand.tmp 6), type := 27, pos := "ref.go:95", after := #[], guard := none }) (v := ?_) rfl (by kernel_rfl) (by kernel_rfl) (by kernel_rfl) (fun _ _ _ h => h) (Or.inl ⟨by rfl, ?hy8⟩) hS0 ?_
          case hy8 => (intro w hSw; (try dsimp only at hSw); go_simp; try with_reducible rfl)
          try simp only [Act.put, List.setIfInBounds_toArray, List.set_cons_zero, List.set_cons_succ]
          refine wpAnyH_take (i := 8) (oi := { dst := some 36, op := Op.move (Operand.tmp 7), type := 3, pos := "ref.go:95", after := #[], guard := none }) (v := ?_) rfl (by kernel_rfl) (by kernel_rfl) (by kernel_rfl) (fun _ _ _ h => h) (Or.inl ⟨by rfl, ?hy9⟩) hS0 ?_
          case hy9 => (intro w hSw; (try dsimp only at hSw); go_simp; try with_reducible rfl)
          try simp only [Act.put, List.setIfInBounds_toArray, List.set_cons_zero, List.set_cons_succ]
          refine wpAnyH_take (i := 9) (oi := { dst := some 37, op := Op.indexAddr 27 (Operand.tmp 35) (Operand.tmp 36), type := 0, pos := "ref.go:95", after := #[{ on := 7, ground := Ground.data }, { on := 8, ground := Ground.data }], guard := none }) (v := ?_) rfl (by kernel_rfl) (by kernel_rfl) (by kernel_rfl) (fun _ _ _ h => h) (Or.inl ⟨by rfl, ?hy10⟩) hS0 ?_
          case hy10 => (intro w hSw; (try dsimp only at hSw); go_simp; try with_reducible rfl)
          try simp only [Act.put, List.setIfInBounds_toArray, List.set_cons_zero, List.set_cons_succ]
          refine wpAnyH_take (i := 10) (oi := { dst := some 38, op := Op.fieldAddr 41 (Operand.tmp 37) 1, type := 0, pos := "ref.go:95", after := #[{ on := 9, ground := Ground.data }], guard := none }) (v := ?_) rfl (by kernel_rfl) (by kernel_rfl) (by kernel_rfl) (fun _ _ _ h => h) (Or.inl ⟨by rfl, ?hy11⟩) hS0 ?_
          case hy11 => (intro w hSw; (try dsimp only at hSw); go_simp; try with_reducible rfl)
          try simp only [Act.put, List.setIfInBounds_toArray, List.set_cons_zero, List.set_cons_succ]
          refine wpAnyH_take (i := 11) (oi := { dst := some 39, op := Op.load 3 (Operand.tmp 38), type := 3, pos := "ref.go:95", after := #[{ on := 10, ground := Ground.data }], guard := none }) (v := ?_) rfl (by kernel_rfl) (by kernel_rfl) (by kernel_rfl) (fun _ _ _ h => h) (Or.inl ⟨by rfl, ?hy12⟩) hS0 ?_
          case hy12 => (intro w hSw; (try dsimp only at hSw); go_simp; try with_reducible rfl)
          try simp only [Act.put, List.setIfInBounds_toArray, List.set_cons_zero, List.set_cons_succ]
          refine wpAnyH_take (i := 12) (oi := { dst := some 40, op := Op.indexAddr 49 (Operand.tmp 34) (Operand.tmp 39), type := 0, pos := "ref.go:95", after := #[{ on := 6, ground := Ground.data }, { on := 11, ground := Ground.data }], guard := none }) (v := ?_) rfl (by kernel_rfl) (by kernel_rfl) (by kernel_rfl) (fun _ _ _ h => h) (Or.inl ⟨by rfl, ?hy13⟩) hS0 ?_
          case hy13 => (intro w hSw; (try dsimp only at hSw); go_simp; try with_reducible rfl)
          try simp only [Act.put, List.setIfInBounds_toArray, List.set_cons_zero, List.set_cons_succ]
          refine wpAnyH_take (i := 14) (oi := { dst := some 42, op := Op.move (Operand.tmp 6), type := 27, pos := "ref.go:95", after := #[], guard := none }) (v := ?_) rfl (by kernel_rfl) (by kernel_rfl) (by kernel_rfl) (fun _ _ _ h => h) (Or.inl ⟨by rfl, ?hy14⟩) hS0 ?_
          case hy14 => (intro w hSw; (try dsimp only at hSw); go_simp; try with_reducible rfl)
          try simp only [Act.put, List.setIfInBounds_toArray, List.set_cons_zero, List.set_cons_succ]
          refine wpAnyH_take (i := 15) (oi := { dst := some 43, op := Op.move (Operand.tmp 7), type := 3, pos := "ref.go:95", after := #[], guard := none }) (v := ?_) rfl (by kernel_rfl) (by kernel_rfl) (by kernel_rfl) (fun _ _ _ h => h) (Or.inl ⟨by rfl, ?hy15⟩) hS0 ?_
          case hy15 => (intro w hSw; (try dsimp only at hSw); go_simp; try with_reducible rfl)
          try simp only [Act.put, List.setIfInBounds_toArray, List.set_cons_zero, List.set_cons_succ]
          refine wpAnyH_take (i := 16) (oi := { dst := some 44, op := Op.indexAddr 27 (Operand.tmp 42) (Operand.tmp 43), type := 0, pos := "ref.go:95", after := #[{ on := 14, ground := Ground.data }, { on := 15, ground := Ground.data }], guard := none }) (v := ?_) rfl (by kernel_rfl) (by kernel_rfl) (by kernel_rfl) (fun _ _ _ h => h) (Or.inl ⟨by rfl, ?hy16⟩) hS0 ?_
          case hy16 => (intro w hSw; (try dsimp only at hSw); go_simp; try with_reducible rfl)
          try simp only [Act.put, List.setIfInBounds_toArray, List.set_cons_zero, List.set_cons_succ]
          refine wpAnyH_take (i := 17) (oi := { dst := some 45, op := Op.fieldAddr 41 (Operand.tmp 44) 2, type := 0, pos := "ref.go:95", after := #[{ on := 16, ground := Ground.data }], guard := none }) (v := ?_) rfl (by kernel_rfl) (by kernel_rfl) (by kernel_rfl) (fun _ _ _ h => h) (Or.inl ⟨by rfl, ?hy17⟩) hS0 ?_
          case hy17 => (intro w hSw; (try dsimp only at hSw); go_simp; try with_reducible rfl)
          try simp only [Act.put, List.setIfInBounds_toArray, List.set_cons_zero, List.set_cons_succ]
          refine wpAnyH_take (i := 18) (oi := { dst := some 46, op := Op.load 3 (Operand.tmp 45), type := 3, pos := "ref.go:95", after := #[{ on := 17, ground := Ground.data }], guard := none }) (v := ?_) rfl (by kernel_rfl) (by kernel_rfl) (by kernel_rfl) (fun _ _ _ h => h) (Or.inl ⟨by rfl, ?hy18⟩) hS0 ?_
          case hy18 => (intro w hSw; (try dsimp only at hSw); go_simp; try with_reducible rfl)
          try simp only [Act.put, List.setIfInBounds_toArray, List.set_cons_zero, List.set_cons_succ]
          refine wpAnyH_ready (rs := [13, 19]) (by kernel_rfl) (by simp) ?_
          refine AllReadyH.cons (o := { dst := some 41, op := Op.load 46 (Operand.tmp 40), type := 46, pos := "ref.go:95", after := #[{ on := 12, ground := Ground.data }], guard := none }) rfl (fun K hK => ?_) ?_
          · go_simp
            refine hK.out _ _ ?hs19 (fun hS19 => ?_)
            case hs19 => ((try dsimp only); first | with_reducible exact KD | with_reducible exact KA | with_reducible exact K1 | with_reducible exact K2 | exact KD | exact KA | exact K1 | exact K2)
            clear hK K hS0
            refine wpAnyH_ready (rs := [19]) (by kernel_rfl) (by simp) ?_
            refine AllReadyH.cons (o := { dst := some 47, op := Op.buildSlice 46 1 #[(0, Operand.tmp 46)], type := 46, pos := "ref.go:95", after := #[{ on := 18, ground := Ground.data }], guard := none }) rfl (fun K hK => ?_) ?_
            · go_simp
              refine hK.out _ _ ?hs20 (fun hS20 => ?_)
              case hs20 => ((try dsimp only); first | with_reducible exact KD | with_reducible exact KA | with_reducible exact K1 | with_reducible exact K2 | exact KD | exact KA | exact K1 | exact K2)
              clear hK K hS19
              refine wpAnyH_ready (rs := [20]) (by kernel_rfl) (by simp) ?_
              refine AllReadyH.cons (o := { dst := some 48, op := Op.call { callee := Callee.builtin Builtin.append, args := #[Operand.tmp 41, Operand.tmp 47], argTypes := #[46, 46] }, type := 46, pos := "ref.go:95", after := #[{ on := 13, ground := Ground.data }, { on := 19, ground := Ground.data }], guard := none }) rfl (fun K hK => ?_) ?_
              · refine step_append_runC (by rfl) _ _ _ (by rfl) (by rfl) (by rfl) RUN.out ?_
                refine hK.out _ _ ?hs21 (fun hS21 => ?_)
                case hs21 => ((try dsimp only); first | with_reducible exact KD | with_reducible exact KA | with_reducible exact K1 | with_reducible exact K2 | exact KD | exact KA | exact K1 | exact K2)
                clear hK K hS20
                refine wpAnyH_take (i := 21) (oi := { dst := some 49, op := Op.indexAddr 49 (Operand.tmp 28) (Operand.tmp 33), type := 0, pos := "ref.go:95", after := #[{ on := 0, ground := Ground.data }, { on := 5, ground := Ground.data }, { on := 0, ground := Ground.phase }, { on := 1, ground := Ground.phase }, { on := 2, ground := Ground.phase }, { on := 3, ground := Ground.phase }, { on := 4, ground := Ground.phase }, { on := 5, ground := Ground.phase }, { on := 6, ground := Ground.phase }, { on := 7, ground := Ground.phase }, { on := 8, ground := Ground.phase }, { on := 9, ground := Ground.phase }, { on := 10, ground := Ground.phase }, { on := 11, ground := Ground.phase }, { on := 12, ground := Ground.phase }, { on := 13, ground := Ground.phase }, { on := 14, ground := Ground.phase }, { on := 15, ground := Ground.phase }, { on := 16, ground := Ground.phase }, { on := 17, ground := Ground.phase }, { on := 18, ground := Ground.phase }, { on := 19, ground := Ground.phase }, { on := 20, ground := Ground.phase }], guard := none }) (v := ?_) rfl (by kernel_rfl) (by kernel_rfl) (by kernel_rfl) (fun _ _ _ h => h) (Or.inl ⟨by rfl, ?hy22⟩) hS21 ?_
                case hy22 => (intro w hSw; (try dsimp only at hSw); go_simp; try with_reducible rfl)
                try simp only [Act.put, List.setIfInBounds_toArray, List.set_cons_zero, List.set_cons_succ]
                refine wpAnyH_ready (rs := [22]) (by kernel_rfl) (by simp) ?_
                refine AllReadyH.cons (o := { dst := none, op := Op.store 46 (Operand.tmp 49) (Operand.tmp 48), type := 0, pos := "ref.go:95", after := #[{ on := 21, ground := Ground.data }, { on := 20, ground := Ground.data }, { on := 20, ground := Ground.chain }, { on := 0, ground := Ground.phase }, { on := 1, ground := Ground.phase }, { on := 2, ground := Ground.phase }, { on := 3, ground := Ground.phase }, { on := 4, ground := Ground.phase }, { on := 5, ground := Ground.phase }, { on := 6, ground := Ground.phase }, { on := 7, ground := Ground.phase }, { on := 8, ground := Ground.phase }, { on := 9, ground := Ground.phase }, { on := 10, ground := Ground.phase }, { on := 11, ground := Ground.phase }, { on := 12, ground := Ground.phase }, { on := 13, ground := Ground.phase }, { on := 14, ground := Ground.phase }, { on := 15, ground := Ground.phase }, { on := 16, ground := Ground.phase }, { on := 17, ground := Ground.phase }, { on := 18, ground := Ground.phase }, { on := 19, ground := Ground.phase }, { on := 20, ground := Ground.phase }], guard := none }) rfl (fun K hK => ?_) ?_
                · go_simp
                  refine hK.out _ _ ?hs23 (fun hS23 => ?_)
                  case hs23 => ((try dsimp only); first | with_reducible exact KD | with_reducible exact KA | with_reducible exact K1 | with_reducible exact K2 | exact KD | exact KA | exact K1 | exact K2)
                  clear hK K hS21
                  refine wpAnyH_done (by kernel_rfl) ?_ _
                  go_wp2_with fail
                  go_roundg (L.length - (j + 1))
                  case measure => have := HG.out.1; omega
                  case rel => exact F.out
                exact AllReadyH.nil
              exact AllReadyH.nil
            exact AllReadyH.nil
          refine AllReadyH.cons (o := { dst := some 47, op := Op.buildSlice 46 1 #[(0, Operand.tmp 46)], type := 46, pos := "ref.go:95", after := #[{ on := 18, ground := Ground.data }], guard := none }) rfl (fun K hK => ?_) ?_
          · go_simp
            refine hK.out _ _ ?hs24 (fun hS24 => ?_)
            case hs24 => ((try dsimp only); first | with_reducible exact KD | with_reducible exact KA | with_reducible exact K1 | with_reducible exact K2 | exact KD | exact KA | exact K1 | exact K2)
            clear hK K hS0
            refine wpAnyH_ready (rs := [13]) (by kernel_rfl) (by simp) ?_
            refine AllReadyH.cons (o := { dst := some 41, op := Op.load 46 (Operand.tmp 40), type := 46, pos := "ref.go:95", after := #[{ on := 12, ground := Ground.data }], guard := none }) rfl (fun K hK => ?_) ?_
            · go_simp
              refine hK.out _ _ ?hs25 (fun hS25 => ?_)
              case hs25 => ((try dsimp only); first | with_reducible exact KD | with_reducible exact KA | with_reducible exact K1 | with_reducible exact K2 | exact KD | exact KA | exact K1 | exact K2)
              clear hK K hS24
              refine wpAnyH_ready (rs := [20]) (by kernel_rfl) (by simp) ?_
              refine AllReadyH.cons (o := { dst := some 48, op := Op.call { callee := Callee.builtin Builtin.append, args := #[Operand.tmp 41, Operand.tmp 47], argTypes := #[46, 46] }, type := 46, pos := "ref.go:95", after := #[{ on := 13, ground := Ground.data }, { on := 19, ground := Ground.data }], guard := none }) rfl (fun K hK => ?_) ?_
              · refine step_append_runC (by rfl) _ _ _ (by rfl) (by rfl) (by rfl) RUN.out ?_
                refine hK.out _ _ ?hs26 (fun hS26 => ?_)
                case hs26 => ((try dsimp only); first | with_reducible exact KD | with_reducible exact KA | with_reducible exact K1 | with_reducible exact K2 | exact KD | exact KA | exact K1 | exact K2)
                clear hK K hS25
                refine wpAnyH_take (i := 21) (oi := { dst := some 49, op := Op.indexAddr 49 (Operand.tmp 28) (Operand.tmp 33), type := 0, pos := "ref.go:95", after := #[{ on := 0, ground := Ground.data }, { on := 5, ground := Ground.data }, { on := 0, ground := Ground.phase }, { on := 1, ground := Ground.phase }, { on := 2, ground := Ground.phase }, { on := 3, ground := Ground.phase }, { on := 4, ground := Ground.phase }, { on := 5, ground := Ground.phase }, { on := 6, ground := Ground.phase }, { on := 7, ground := Ground.phase }, { on := 8, ground := Ground.phase }, { on := 9, ground := Ground.phase }, { on := 10, ground := Ground.phase }, { on := 11, ground := Ground.phase }, { on := 12, ground := Ground.phase }, { on := 13, ground := Ground.phase }, { on := 14, ground := Ground.phase }, { on := 15, ground := Ground.phase }, { on := 16, ground := Ground.phase }, { on := 17, ground := Ground.phase }, { on := 18, ground := Ground.phase }, { on := 19, ground := Ground.phase }, { on := 20, ground := Ground.phase }], guard := none }) (v := ?_) rfl (by kernel_rfl) (by kernel_rfl) (by kernel_rfl) (fun _ _ _ h => h) (Or.inl ⟨by rfl, ?hy27⟩) hS26 ?_
                case hy27 => (intro w hSw; (try dsimp only at hSw); go_simp; try with_reducible rfl)
                try simp only [Act.put, List.setIfInBounds_toArray, List.set_cons_zero, List.set_cons_succ]
                refine wpAnyH_ready (rs := [22]) (by kernel_rfl) (by simp) ?_
                refine AllReadyH.cons (o := { dst := none, op := Op.store 46 (Operand.tmp 49) (Operand.tmp 48), type := 0, pos := "ref.go:95", after := #[{ on := 21, ground := Ground.data }, { on := 20, ground := Ground.data }, { on := 20, ground := Ground.chain }, { on := 0, ground := Ground.phase }, { on := 1, ground := Ground.phase }, { on := 2, ground := Ground.phase }, { on := 3, ground := Ground.phase }, { on := 4, ground := Ground.phase }, { on := 5, ground := Ground.phase }, { on := 6, ground := Ground.phase }, { on := 7, ground := Ground.phase }, { on := 8, ground := Ground.phase }, { on := 9, ground := Ground.phase }, { on := 10, ground := Ground.phase }, { on := 11, ground := Ground.phase }, { on := 12, ground := Ground.phase }, { on := 13, ground := Ground.phase }, { on := 14, ground := Ground.phase }, { on := 15, ground := Ground.phase }, { on := 16, ground := Ground.phase }, { on := 17, ground := Ground.phase }, { on := 18, ground := Ground.phase }, { on := 19, ground := Ground.phase }, { on := 20, ground := Ground.phase }], guard := none }) rfl (fun K hK => ?_) ?_
                · go_simp
                  refine hK.out _ _ ?hs28 (fun hS28 => ?_)
                  case hs28 => ((try dsimp only); first | with_reducible exact KD | with_reducible exact KA | with_reducible exact K1 | with_reducible exact K2 | exact KD | exact KA | exact K1 | exact K2)
                  clear hK K hS26
                  refine wpAnyH_done (by kernel_rfl) ?_ _
                  go_wp2_with fail
                  go_roundg (L.length - (j + 1))
                  case measure => have := HG.out.1; omega
                  case rel => exact F.out
                exact AllReadyH.nil
              exact AllReadyH.nil
            exact AllReadyH.nil
          exact AllReadyH.nil
    · have t1 : decide ((j : Int) < (L.length : Int)) = false := by simp; omega
      obtain rfl : j = L.length := by omega
      have F := Lib.hid (show ∃ v, Ending.returned u5 = .returned v ∧ Sts wr w.heap.size v (setsL (L.map toNd)) ∧ Below w.heap.size w wr from ⟨_, rfl, by rw [← List.take_length (l := L)]; exact hst.sts.weaken HR.out.2.2.size, HR.out.2.2.trans (hst.bel.mono HR.out.2.2.size)⟩)
      clear hst
      go_wp2_with fail
      go_ret
      exact F.out
end Go.Proofs.Ytakjpoapjokmbaa
