/-
  A code that stands alone, as a text.
-/
import Derived.Test.YtadogobdlcionaaDoorSj
namespace Go.Proofs.YtadogobdlcionaaDoor
open Go.ChangeShapes Go.WideShapes Go.ChangeAt Go.RowKit Go.Shelf
set_option linter.unusedVariables false
/-- The library's table of powers lies there. -/
def TabAt (w : World) : Prop := 3 ≤ w.heap.size ∧ Lib.TabIs Tryd.prog w "internal/strconv.uint64pow10" .u64 Lib.pow10Tab
theorem glob_tab : Tryd.prog.globalNamed "internal/strconv.uint64pow10" = some 0 := by kernel_rfl
theorem TabAt.turn {S : Nat → Prop} {w w' : World} (h : TabAt w) (T : Turn S w w') (hs : ∀ k, k < 3 → ¬ S k) : TabAt w' :=
  ⟨Nat.le_trans h.1 T.size, var?_below (B := 3) (T.below (fun k hk => ⟨Nat.lt_of_lt_of_le hk h.1, hs k hk⟩)) glob_tab (by decide) h.2⟩
theorem grow_turn (w : World) (k : Nat) (os : Array Obj) : Turn (fun _ => False) w (Sort.grow (w.drewN k) os) :=
  ⟨rfl, rfl, rfl, by show w.heap.size ≤ (w.heap ++ os).size; simp, fun i hi _ => by show (w.heap ++ os)[i]? = _; rw [Array.getElem?_append_left hi]⟩
abbrev hash : ByteArray := ⟨#[35]⟩
/-- A code that stands alone, as a text. -/
def leafT (c : CD) : ByteArray := if c.op = 6 then ⟨(Lib.itoa c.n).toArray⟩ else if c.op = 8 then hash ++ c.var else c.var ++ dot ++ lettersT.getD c.field.toNat ⟨#[]⟩
def CdFit (c : CD) : Prop := -9223372036854775808 ≤ c.n ∧ c.n ≤ 9223372036854775807 ∧ c.var.size ≤ 1000000
set_option maxRecDepth 100000 in
set_option maxHeartbeats 4000000 in
theorem leaf_is (w : World) (c : CD) (hc : CdFit c) (h0 : (needsT c).1 = 0) (h1 : (needsT c).2 = true) (hT : TabAt w) :
    Calls Tryd.prog 44 #[.agg c.cells.toArray] w fun y w' => y = .returned (.string (leafT c)) ∧ Turn (fun _ => False) w w' := by
  obtain ⟨op, n, v, f⟩ := c
  unfold CD.cells
  dsimp only at hc ⊢
  obtain ⟨W, hW⟩ : ∃ W, W = w.alloc (.cells #[.int .i64 op, .int .i64 n, .string v, .int .i64 f, .int .i64 0] 95) := ⟨_, rfl⟩
  have T0 : Turn (fun _ => False) w W := by rw [hW]; exact (Turn.refl _ _).alloc _
  have R : W.rangeAt w.heap.size 0 [.int .i64 op, .int .i64 n, .string v, .int .i64 f, .int .i64 0] := by rw [hW]; exact range_new w [.int .i64 op, .int .i64 n, .string v, .int .i64 f, .int .i64 0] 95
  have d0 : W.cell? ⟨w.heap.size, 0, none⟩ = some (.int .i64 op) := R 0 _ rfl
  have d1 : W.cell? ⟨w.heap.size, 1, none⟩ = some (.int .i64 n) := R 1 _ rfl
  have d2 : W.cell? ⟨w.heap.size, 2, none⟩ = some (.string v) := R 2 _ rfl
  have d3 : W.cell? ⟨w.heap.size, 3, none⟩ = some (.int .i64 f) := R 3 _ rfl
  have FI := Lib.hid (Tryd.strconv_FormatInt_10 n hc.1 hc.2.1 W (hT.turn T0 (fun _ _ => id)).2)
  have HT := Lib.hid T0
  have HW := Lib.hid hW
  have hv : v.size ≤ 1000000 := hc.2.2
  obtain ⟨r, hr⟩ : ∃ r, r = leafT ⟨op, n, v, f⟩ := ⟨_, rfl⟩
  rw [← hr]
  have HR := Lib.hid hr
  clear R T0 hW hr hc hT
  by_cases h6 : op = 6
  · have hr : r = ⟨(Lib.itoa n).toArray⟩ := by rw [HR.out]; unfold leafT; exact if_pos h6
    subst hr
    subst h6
    clear h0 h1
    go_enter Tryd.func44, Tryd.ntmps44
    go_upto_region 1 with fail
    rw [← HW.out]
    clear HW
    go_wp2_with fail
    with_reducible refine FI.out.mono ?_
    rintro y w1 ⟨rfl, k, os, rfl⟩
    have F := Lib.hid (HT.out.trans (grow_turn W k os))
    go_wp2_with fail
    go_ret
    exact ⟨rfl, F.out⟩
  have b6 := beq_no h6
  by_cases h8 : op = 8
  · have hr : r = hash ++ v := by rw [HR.out]; unfold leafT; rw [if_neg h6]; exact if_pos h8
    subst hr
    subst h8
    clear h0 h1
    go_enter Tryd.func44, Tryd.ntmps44
    go_upto_region 1 with fail
    rw [← HW.out]
    clear HW
    go_wp2_with fail
    go_ret
    exact ⟨rfl, HT.out⟩
  have b8 := beq_no h8
  have hr : r = v ++ dot ++ lettersT.getD f.toNat ⟨#[]⟩ := by rw [HR.out]; unfold leafT; rw [if_neg h6, if_neg h8]
  have h7 : op = 7 ∧ 0 ≤ f ∧ f < 4 := by
    unfold needsT at h0 h1
    dsimp only at h0 h1
    rw [if_neg h6] at h0 h1
    by_cases h7 : op = 7
    · rw [if_pos h7] at h1
      simp only [Bool.and_eq_true, decide_eq_true_eq] at h1
      exact ⟨h7, h1.1, h1.2.1⟩
    · rw [if_neg h7, if_neg h8] at h0 h1
      by_cases h9 : op = 9
      · rw [if_pos h9] at h0
        exact absurd h0 (by decide)
      · rw [if_neg h9] at h0 h1
        by_cases hin : 1 ≤ op ∧ op ≤ 5
        · rw [if_pos hin] at h0
          exact absurd h0 (by decide)
        · rw [if_neg hin] at h1
          exact absurd h1 (by decide)
  obtain ⟨h7, f0, f4⟩ := h7
  obtain ⟨k, rfl⟩ : ∃ k : Nat, f = (k : Int) := ⟨f.toNat, (Int.toNat_of_nonneg f0).symm⟩
  obtain ⟨lt, hlt⟩ : ∃ t, lettersT[k]? = some t := ⟨_, List.getElem?_eq_getElem (by show k < 4; omega)⟩
  have hl1 : lt.size = 1 := by
    have : k = 0 ∨ k = 1 ∨ k = 2 ∨ k = 3 := by omega
    rcases this with rfl | rfl | rfl | rfl <;> (injection hlt with hlt; subst hlt; rfl)
  have hs2 : (v ++ dot).size ≤ 1000001 := by rw [ByteArray.size_append]; show v.size + 1 ≤ _; omega
  have hs3 : (v ++ (⟨#[46]⟩ : ByteArray)).size ≤ 1000001 := hs2
  have u3 : (9223372036854775807 < v.size + 1) = False := eq_false (by omega)
  have u4 : (9223372036854775807 < v.size + 1 + 1) = False := eq_false (by omega)
  have HK := Lib.hid (And.intro hr hlt)
  have o1 : (k : Int) < 4 := f4
  clear h0 h1 h6 h8 hr hlt f4 FI
  subst h7
  have LT := fun W => letters_is W
  have HLT := Lib.hid LT
  clear LT
  go_enter Tryd.func44, Tryd.ntmps44
  go_upto_region 1 with fail
  rw [← HW.out]
  clear HW
  go_upto_region 6 with fail
  have SD := Lib.hid (show ((W.drew.cell? ⟨w.heap.size, 2, none⟩ = some (.string v) ∧ W.drew.cell? ⟨w.heap.size, 3, none⟩ = some (.int .i64 (k : Int))) ∧ True) ∧ Turn (fun _ => False) w W.drew from ⟨⟨⟨d2, d3⟩, trivial⟩, HT.out.trans ((Turn.refl _ _).drewN 1)⟩)

  refine wp_region_held_drew (S := fun w' => w'.cell? ⟨w.heap.size, 2, none⟩ = some (.string v) ∧ w'.cell? ⟨w.heap.size, 3, none⟩ = some (.int .i64 (k : Int))) (by kernel_rfl) ?hs0 (fun hS0 => ?_)
  case hs0 => exact SD.out.1.1
  refine wpAnyH_take (i := 0) (oi := { dst := some 15, op := Op.fieldAddr 95 (Operand.tmp 1) 2, type := 0, pos := "print.go:158", after := #[], guard := none }) (v := ?_) rfl (by kernel_rfl) (by kernel_rfl) (by kernel_rfl) (fun _ _ _ h => h) (Or.inl ⟨by rfl, ?hy1⟩) hS0 ?_
  case hy1 => (intro w hSw; (try dsimp only at hSw); go_simp; try with_reducible rfl)
  try simp only [Act.put, List.setIfInBounds_toArray, List.set_cons_zero, List.set_cons_succ]
  refine wpAnyH_take (i := 1) (oi := { dst := some 16, op := Op.load 9 (Operand.tmp 15), type := 9, pos := "print.go:158", after := #[{ on := 0, ground := Ground.data }], guard := none }) (v := ?_) rfl (by kernel_rfl) (by kernel_rfl) (by kernel_rfl) (fun _ _ _ h => h) (Or.inl ⟨by rfl, ?hy2⟩) hS0 ?_
  case hy2 => (intro w hSw; (try dsimp only at hSw); go_simp; try with_reducible rfl)
  try simp only [Act.put, List.setIfInBounds_toArray, List.set_cons_zero, List.set_cons_succ]
  refine wpAnyH_take (i := 2) (oi := { dst := some 17, op := Op.binOp BinOp.add 9 (Operand.tmp 16) (Operand.const (Value.string { data := #[46] })) 9, type := 9, pos := "print.go:158", after := #[{ on := 1, ground := Ground.data }], guard := none }) (v := ?_) rfl (by kernel_rfl) (by kernel_rfl) (by kernel_rfl) (fun _ _ _ h => h) (Or.inl ⟨by rfl, ?hy3⟩) hS0 ?_
  case hy3 => (intro w hSw; (try dsimp only at hSw); go_simp; try with_reducible rfl)
  try simp only [Act.put, List.setIfInBounds_toArray, List.set_cons_zero, List.set_cons_succ]
  refine wpAnyH_take (i := 4) (oi := { dst := some 19, op := Op.fieldAddr 95 (Operand.tmp 1) 3, type := 0, pos := "print.go:158", after := #[], guard := none }) (v := ?_) rfl (by kernel_rfl) (by kernel_rfl) (by kernel_rfl) (fun _ _ _ h => h) (Or.inl ⟨by rfl, ?hy4⟩) hS0 ?_
  case hy4 => (intro w hSw; (try dsimp only at hSw); go_simp; try with_reducible rfl)
  try simp only [Act.put, List.setIfInBounds_toArray, List.set_cons_zero, List.set_cons_succ]
  refine wpAnyH_take (i := 5) (oi := { dst := some 20, op := Op.load 3 (Operand.tmp 19), type := 3, pos := "print.go:158", after := #[{ on := 4, ground := Ground.data }], guard := none }) (v := ?_) rfl (by kernel_rfl) (by kernel_rfl) (by kernel_rfl) (fun _ _ _ h => h) (Or.inl ⟨by rfl, ?hy5⟩) hS0 ?_
  case hy5 => (intro w hSw; (try dsimp only at hSw); go_simp; try with_reducible rfl)
  try simp only [Act.put, List.setIfInBounds_toArray, List.set_cons_zero, List.set_cons_succ]
  refine wpAnyH_ready (rs := [3]) (by kernel_rfl) (by simp) ?_
  refine AllReadyH.cons (o := { dst := some 18, op := Op.call { callee := Callee.value (Operand.func 63), args := #[], argTypes := #[] }, type := 79, pos := "print.go:158", after := #[], guard := none }) rfl (fun K hK => ?_) AllReadyH.nil
  go_simp
  with_reducible refine (HLT.out _).mono ?_
  rintro y W1 ⟨g, cap, rfl, R4, T4⟩
  have hcell : W1.cell? ⟨g, k, none⟩ = some (.string lt) := by
    have := R4 k (.string lt) (by rw [List.getElem?_map, HK.out.2]; rfl)
    rw [Nat.zero_add] at this
    exact this
  have s1 : W1.cell? ⟨w.heap.size, 2, none⟩ = some (.string v) ∧ W1.cell? ⟨w.heap.size, 3, none⟩ = some (.int .i64 (k : Int)) := ⟨T4.cell id SD.out.1.1.1, T4.cell id SD.out.1.1.2⟩
  have G1 := Lib.hid (SD.out.2.trans T4)
  rw [show lettersT.length = 4 from rfl]
  clear R4 T4
  go_simp
  refine hK.out _ _ ?hs6 (fun hS6 => ?_)
  case hs6 => exact s1
  clear hK K hS0
  refine wpAnyH_ready (rs := [6]) (by kernel_rfl) (by simp) ?_
  refine AllReadyH.cons (o := { dst := some 21, op := Op.indexAddr 79 (Operand.tmp 18) (Operand.tmp 20), type := 0, pos := "print.go:158", after := #[{ on := 3, ground := Ground.data }, { on := 5, ground := Ground.data }], guard := none }) rfl (fun K hK => ?_) AllReadyH.nil
  go_simp
  refine hK.out _ _ ?hs7 (fun hS7 => ?_)
  case hs7 => exact s1
  clear hK K hS6
  refine wpAnyH_ready (rs := [7]) (by kernel_rfl) (by simp) ?_
  refine AllReadyH.cons (o := { dst := some 22, op := Op.load 9 (Operand.tmp 21), type := 9, pos := "print.go:158", after := #[{ on := 6, ground := Ground.data }], guard := none }) rfl (fun K hK => ?_) AllReadyH.nil
  go_simp
  refine hK.out _ _ ?hs8 (fun hS8 => ?_)
  case hs8 => exact s1
  clear hK K hS7
  refine wpAnyH_ready (rs := [8]) (by kernel_rfl) (by simp) ?_
  refine AllReadyH.cons (o := { dst := some 23, op := Op.binOp BinOp.add 9 (Operand.tmp 17) (Operand.tmp 22) 9, type := 9, pos := "print.go:158", after := #[{ on := 2, ground := Ground.data }, { on := 7, ground := Ground.data }], guard := none }) rfl (fun K hK => ?_) AllReadyH.nil
  go_simp
  refine hK.out _ _ ?hs9 (fun hS9 => ?_)
  case hs9 => exact s1
  clear hK K hS8
  refine wpAnyH_ready (rs := [9]) (by kernel_rfl) (by simp) ?_
  refine AllReadyH.cons (o := { dst := some 2, op := Op.assign (Operand.tmp 23), type := 9, pos := "print.go:158", after := #[{ on := 8, ground := Ground.data }, { on := 3, ground := Ground.chain }, { on := 0, ground := Ground.phase }, { on := 1, ground := Ground.phase }, { on := 2, ground := Ground.phase }, { on := 3, ground := Ground.phase }, { on := 4, ground := Ground.phase }, { on := 5, ground := Ground.phase }, { on := 6, ground := Ground.phase }, { on := 7, ground := Ground.phase }, { on := 8, ground := Ground.phase }], guard := none }) rfl (fun K hK => ?_) AllReadyH.nil
  go_simp
  refine hK.out _ _ ?hs10 (fun hS10 => ?_)
  case hs10 => exact s1
  clear hK K hS9
  refine wpAnyH_done (by kernel_rfl) ?_ _
  skip
  go_wp2_with fail
  go_ret
  refine ⟨?_, G1.out⟩
  rw [HK.out.1]
  show _ = Ending.returned (.string (v ++ dot ++ lettersT.getD ((k : Int)).toNat ⟨#[]⟩))
  rw [show lettersT.getD ((k : Int)).toNat ⟨#[]⟩ = lt from by rw [Int.toNat_natCast, List.getD_eq_getElem?_getD, HK.out.2]; rfl]
  rfl
end Go.Proofs.YtadogobdlcionaaDoor
