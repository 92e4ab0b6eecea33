/-
  Join, the document's and the program's.
-/
import Derived.Test.YtjahjdmabconeaaDoorQm
import Derived.Test.YtjahjdmabconeaaDoorQn
namespace Go.Proofs.YtjahjdmabconeaaDoor
open Go.ChangeShapes Go.WideShapes Go.ChangeAt Go.RowKit
set_option linter.unusedVariables false
theorem join_snoc : ∀ (X : List (List UInt8)) (x : List UInt8), joinT (X ++ [x]) = if X = [] then x else joinT X ++ 32 :: x
  | [], x => rfl
  | [y], x => rfl
  | y :: z :: r, x => by
    have := join_snoc (z :: r) x
    rw [if_neg (by simp)] at this ⊢
    show y ++ 32 :: joinT ((z :: r) ++ [x]) = (y ++ 32 :: joinT (z :: r)) ++ 32 :: x
    rw [this]
    simp
theorem join_le (K : Nat) : ∀ X : List (List UInt8), (∀ x ∈ X, x.length ≤ K) → (joinT X).length ≤ X.length * (K + 1)
  | [], _ => Nat.zero_le _
  | [x], h => by
    have := h x (by simp)
    show x.length ≤ 1 * (K + 1)
    omega
  | x :: y :: r, h => by
    have h1 := h x (by simp)
    have h2 := join_le K (y :: r) (fun z hz => h z (List.mem_cons_of_mem _ hz))
    show (x ++ 32 :: joinT (y :: r)).length ≤ (r.length + 1 + 1) * (K + 1)
    rw [List.length_append, List.length_cons]
    simp only [List.length_cons] at h2
    rw [Nat.succ_mul]
    omega
def textOf (s : ByteArray) (x : Nat × Tok) : ByteArray := s.extract x.1 (x.1 + x.2.len)
def textsOf (s : ByteArray) (L : List (Nat × Tok)) : List (List UInt8) := L.map fun x => (textOf s x).data.toList
def joinS (s : ByteArray) (L : List (Nat × Tok)) : ByteArray := ⟨(joinT (textsOf s L)).toArray⟩
theorem texts_take (s : ByteArray) {L : List (Nat × Tok)} {j : Nat} {x : Nat × Tok} (h : L[j]? = some x) : textsOf s (L.take (j + 1)) = textsOf s (L.take j) ++ [(textOf s x).data.toList] := by
  unfold textsOf
  rw [List.take_add_one, h]
  simp
/-- One text more. -/
theorem join_take (s : ByteArray) {L : List (Nat × Tok)} {j : Nat} {x : Nat × Tok} (h : L[j]? = some x) : joinT (textsOf s (L.take (j + 1))) = if j = 0 then (textOf s x).data.toList else joinT (textsOf s (L.take j)) ++ 32 :: (textOf s x).data.toList := by
  rw [texts_take s h, join_snoc]
  have hj := (List.getElem?_eq_some_iff.1 h).1
  by_cases h0 : j = 0
  · subst h0
    rfl
  · rw [if_neg h0, if_neg]
    intro e
    have := congrArg List.length e
    unfold textsOf at this
    rw [List.length_map, List.length_take, List.length_nil] at this
    omega
/-- Texts that are short enough. -/
def Fits (s : ByteArray) (L : List (Nat × Tok)) : Prop := L.length ≤ 90 ∧ ∀ x ∈ L, (textOf s x).size ≤ 90
theorem Fits.take {s : ByteArray} {L : List (Nat × Tok)} (h : Fits s L) {j : Nat} (hj : j ≤ L.length) : (joinT (textsOf s (L.take j))).length ≤ 8190 := by
  have := join_le 90 (textsOf s (L.take j)) (fun x hx => by
    obtain ⟨y, hy, rfl⟩ := List.mem_map.1 hx
    rw [← str_len]
    exact h.2 y (List.mem_of_mem_take hy))
  have hl : (textsOf s (L.take j)).length ≤ 90 := by
    unfold textsOf
    rw [List.length_map, List.length_take]
    have := h.1
    omega
  have h2 := Nat.mul_le_mul_right 91 hl
  omega
def RjRel (s : ByteArray) (L : List (Nat × Tok)) (v3 v4 : Value) : Prop := ∃ j b, v4 = .int .i64 ((j : Nat) : Int) ∧ j ≤ L.length ∧ v3 = .string b ∧ b.data.toList = joinT (textsOf s (L.take j))
theorem bytes_eq {a b : ByteArray} (h : a.data.toList = b.data.toList) : a = b := by
  cases a
  cases b
  congr
  exact Array.toList_inj.1 h
set_option maxRecDepth 100000 in
set_option maxHeartbeats 2000000 in
theorem rjoin_is {w : World} {base : Nat} {v : Value} {s : ByteArray} {L : List (Nat × Tok)} (ho : w.ownsRow base 30 4 v L.length (toksC s L)) (hf : Fits s L) :
    Calls Tryd.prog 13 #[v] w fun e w' => e = .returned (.string (joinS s L)) ∧ w' = w := by
  obtain ⟨a, cap, rfl, ga⟩ := own_slice ho
  obtain ⟨n, hL⟩ : ∃ n, n = L.length := ⟨_, rfl⟩
  rw [← hL] at ho ga ⊢
  have H1 := Lib.hid (And.intro ho (And.intro hL hf))
  have HG := Lib.hid ga
  clear ho hL ga hf
  go_enter Tryd.func13, Tryd.ntmps13
  go_wp2_with fail
  go_loop [3, 4] (fun v3 v4 => RjRel s L v3 v4) (fun _ v4 => n + 1 - (intOf v4).toNat)
  case atStart => exact ⟨0, ⟨#[]⟩, by simp, Nat.zero_le _, rfl, rfl⟩
  case round =>
    obtain ⟨j, b, rfl, hj, rfl, hb⟩ := hrel
    by_cases hjn : j < n
    · obtain ⟨x, hx⟩ : ∃ x, L[j]? = some x := ⟨_, List.getElem?_eq_getElem (by have := H1.out.2.1; omega)⟩
      obtain ⟨g1, rfl⟩ := HG.out (by omega)
      obtain ⟨-, -, p2, -⟩ := tok_cells H1.out.1 H1.out.2.1.symm hx
      have u1 := dec_ilt hjn
      have u2 : decide (j < n) = true := decide_eq_true hjn
      have i0 : (0 : Int) ≤ (j : Int) := Int.natCast_nonneg j
      have i1 : (j : Int) < (n : Int) := Int.ofNat_lt.2 hjn
      have hw := wrap_one (a := j) (by have := H1.out.2.2.1; have := H1.out.2.1; omega)
      have hbs : b.size ≤ 8190 := by rw [str_len, hb]; exact H1.out.2.2.take hj
      have hxs : (textOf s x).size ≤ 90 := H1.out.2.2.2 x (List.mem_of_getElem? hx)
      have hjt := join_take s hx
      obtain ⟨tx, htx⟩ : ∃ tx, tx = textOf s x := ⟨_, rfl⟩
      rw [← htx] at hxs hjt
      rw [show s.extract x.1 (x.1 + x.2.len) = tx from htx.symm] at p2
      have ME := Lib.hid (meas_j hjn)
      by_cases h0 : j = 0
      · subst h0
        have FIN := Lib.hid (show (b ++ tx).data.toList = joinT (textsOf s (L.take (0 + 1))) from by
          rw [hjt, if_pos rfl, Go.Joins.data_append, hb]
          rfl)
        have v2 : ¬ 9223372036854775807 < b.size + tx.size := by omega
        have HJ := Lib.hid (show 0 + 1 ≤ L.length from by have := H1.out.2.1; omega)
        clear hx hj hjn htx hjt hb hbs hxs
        go_wp2_with fail
        exact ⟨⟨0 + 1, _, rfl, HJ.out, rfl, FIN.out⟩, ME.out⟩
      · have FIN := Lib.hid (show (b ++ ⟨#[32]⟩ ++ tx).data.toList = joinT (textsOf s (L.take (j + 1))) from by
          rw [hjt, if_neg h0, Go.Joins.data_append, Go.Joins.data_append, hb, List.append_assoc]
          rfl)
        have v1 : ¬ 9223372036854775807 < b.size + 1 := by omega
        have v2 : ¬ 9223372036854775807 < b.size + 1 + tx.size := by omega
        have u3 : decide ((j : Int) > 0) = true := decide_eq_true (by omega)
        have u4 : decide ((0 : Int) < (j : Int)) = true := decide_eq_true (by omega)
        have u5 : decide (0 < j) = true := decide_eq_true (by omega)
        have HJ := Lib.hid (show j + 1 ≤ L.length from by have := H1.out.2.1; omega)
        clear hx hj hjn htx hjt hb hbs hxs h0
        go_wp2_with fail
        exact ⟨⟨j + 1, _, by rw [hw], HJ.out, rfl, FIN.out⟩, by rw [hw]; exact ME.out⟩
    · obtain rfl : j = n := by have := H1.out.2.1; omega
      have u1 := dec_inlt hjn
      have u2 : decide (j < j) = false := decide_eq_false hjn
      have FIN := Lib.hid (show b = joinS s L from bytes_eq (by rw [hb, H1.out.2.1, List.take_length]; rfl))
      clear hj hjn hb
      go_wp2_with fail
      go_ret
      exact ⟨by rw [← FIN.out]; rfl, rfl⟩
theorem builder_alloc {T e : TypeId} {B b : Nat} {bs : List Value} {w : World} (h : Lib.IsBuilder T e B b bs w) (o : Obj) : Lib.IsBuilder T e B b bs (w.alloc o) := by
  have go : ∀ p, Lib.BuilderAt T e B b p bs w → Lib.BuilderAt T e B b p bs (w.alloc o) := fun p h => by
    have hlt := h.lt
    obtain ⟨hB, v, hb, hown, hne⟩ := h
    exact ⟨hB, v, by rw [Lib.alloc_old w o b hlt]; exact hb, hown.alloc _, hne⟩
  exact h.elim (fun x => .inl (go _ x)) (fun x => .inr (go _ x))
theorem builder_lt {T e : TypeId} {B b : Nat} {bs : List Value} {w : World} (h : Lib.IsBuilder T e B b bs w) : b < w.heap.size := h.elim (fun x => x.lt) (fun x => x.lt)
theorem others_cell {b k i : Nat} {w w' : World} {v : Value} {t : TypeId} (h : Lib.OthersKept 5 (some b) w w') (B : Blk w k t) (ht : t ≠ 5) (hk : k ≠ b) (hc : w.cell? ⟨k, i, none⟩ = some v) : w'.cell? ⟨k, i, none⟩ = some v := by
  obtain ⟨cs, hb⟩ := B
  have h2 := h k _ hb (fun e => hk (by injection e)) (fun c fz e => ht (by injection e))
  exact (World.cell?_of_block (w := w) (h2.trans hb.symm)).trans hc
/-- Between two texts. -/
def PjRel (w : World) (s : ByteArray) (L : List (Nat × Tok)) (v8 : Value) (wr : World) : Prop := ∃ j, v8 = .int .i64 ((j : Nat) : Int) ∧ j ≤ L.length ∧ Lib.IsBuilder 49 5 w.heap.size w.heap.size (Lib.byteCells (joinT (textsOf s (L.take j)))) wr ∧ Below w.heap.size w wr
theorem bytes_len (l : List UInt8) : (Lib.byteCells l).length = l.length := Lib.byteCells_length l
set_option maxRecDepth 100000 in
set_option maxHeartbeats 2000000 in
theorem pjoin_is {w : World} {base : Nat} {v : Value} {s : ByteArray} {L : List (Nat × Tok)} (ho : w.ownsRow base 30 4 v L.length (toksC s L)) (hf : Fits s L) :
    Calls Tryd.prog 12 #[v] w fun e w' => e = .returned (.string (joinS s L)) ∧ Turn (fun _ => False) w w' := by
  obtain ⟨a, cap, rfl, ga⟩ := own_slice ho
  obtain ⟨n, hL⟩ : ∃ n, n = L.length := ⟨_, rfl⟩
  rw [← hL] at ho ga ⊢
  have H1 := Lib.hid (And.intro ho (And.intro hL hf))
  have HG := Lib.hid ga
  have R0 : PjRel w s L (.int .i64 0) (w.alloc (.cells #[.pointer none, .slice none 0 0] 49)) := ⟨0, rfl, Nat.zero_le _, Lib.fresh_isBuilder 49 5 w, (Below.refl _ w).alloc (Nat.le_refl _) _⟩
  have WB := Lib.hid wbyte_is
  have WS := Lib.hid wstr_is
  have ST := Lib.hid Tryd.Builder_String_any
  clear ho hL ga hf
  go_enter Tryd.func12, Tryd.ntmps12
  go_wp2_with fail
  go_loopw [8] (fun v8 wr => PjRel w s L v8 wr) (fun v8 _ => n + 1 - (intOf v8).toNat)
  case atStart => exact R0
  case round =>
    clear R0
    obtain ⟨j, rfl, hj, hB, hBe⟩ := hrel
    by_cases hjn : j < n
    · obtain ⟨x, hx⟩ : ∃ x, L[j]? = some x := ⟨_, List.getElem?_eq_getElem (by have := H1.out.2.1; omega)⟩
      obtain ⟨g1, rfl⟩ := HG.out (by omega)
      have OW := own_turn (S := fun _ => False) H1.out.1 (Turn.of_below hBe) (fun _ _ f => f)
      obtain ⟨p0, p1, p2, p3⟩ := tok_cells OW H1.out.2.1.symm hx
      have u1 := dec_ilt hjn
      have u2 : decide (j < n) = true := decide_eq_true hjn
      have i0 : (0 : Int) ≤ (j : Int) := Int.natCast_nonneg j
      have i1 : (j : Int) < (n : Int) := Int.ofNat_lt.2 hjn
      have hw := wrap_one (a := j) (by have := H1.out.2.2.1; have := H1.out.2.1; omega)
      have hbs := H1.out.2.2.take hj
      have hxs : (textOf s x).size ≤ 90 := H1.out.2.2.2 x (List.mem_of_getElem? hx)
      have hjt := join_take s hx
      obtain ⟨tx, htx⟩ : ∃ tx, tx = textOf s x := ⟨_, rfl⟩
      rw [← htx] at hxs hjt
      rw [show s.extract x.1 (x.1 + x.2.len) = tx from htx.symm] at p2
      have ME := Lib.hid (meas_j hjn)
      obtain ⟨W2, hW2⟩ : ∃ W2, W2 = wr.alloc (.cells #[.int .i64 (x.2.kind : Int), .int .i64 (x.1 : Int), .string tx, .int .i64 (x.2.n : Int)] 30) := ⟨_, rfl⟩
      have B2 : Blk W2 wr.heap.size 30 := by rw [hW2]; exact Blk.newA rfl
      have d2 : W2.cell? ⟨wr.heap.size, 2, none⟩ = some (.string tx) := by rw [hW2]; exact cell_new rfl rfl
      have IB : Lib.IsBuilder 49 5 w.heap.size w.heap.size (Lib.byteCells (joinT (textsOf s (L.take j)))) W2 := by rw [hW2]; exact builder_alloc hB _
      have BE : Below w.heap.size w W2 := by rw [hW2]; exact hBe.alloc hBe.size _
      have hbl := builder_lt hB
      have hne : wr.heap.size ≠ w.heap.size := by omega
      have HW := Lib.hid hW2
      have FACT := Lib.hid (And.intro IB (And.intro BE (And.intro B2 (And.intro hne (And.intro hbs (And.intro hxs hjt))))))
      have HJ := Lib.hid (show j + 1 ≤ L.length from by have := H1.out.2.1; omega)
      by_cases h0 : j = 0
      · subst h0
        have WS1 := Lib.hid (WS.out w.heap.size w.heap.size _ tx W2 IB (by rw [bytes_len]; omega) BE.size)
        clear hx hj hjn htx hjt hbs hxs hW2 B2 IB BE hB hBe OW
        go_upto_region 5 with fail
        rw [← (show W2 = wr.alloc (.cells #[.int .i64 (x.2.kind : Int), .int .i64 (x.1 : Int), .string tx, .int .i64 (x.2.n : Int)] 30) from HW.out)]
        go_wp2_with fail
        with_reducible refine WS1.out.mono ?_
        rintro e w3 ⟨rfl, hA, hb3, -⟩
        have FIN := Lib.hid (show PjRel w s L (.int .i64 ((0 + 1 : Nat) : Int)) w3 from ⟨0 + 1, rfl, HJ.out, .inr (by
          rw [FACT.out.2.2.2.2.2.2, if_pos trivial]
          exact hA), FACT.out.2.1.trans hb3⟩)
        clear hA hb3
        go_wp2_with fail
        exact ⟨FIN.out, ME.out⟩
      · have u3 : decide ((j : Int) > 0) = true := decide_eq_true (by omega)
        have u4 : decide ((0 : Int) < (j : Int)) = true := decide_eq_true (by omega)
        have u5 : decide (0 < j) = true := decide_eq_true (by omega)
        have WB1 := Lib.hid (WB.out w.heap.size w.heap.size _ 32 W2 IB (by rw [bytes_len]; omega) BE.size)
        have H0 := Lib.hid h0
        clear hx hj hjn htx hjt hbs hxs hW2 B2 IB BE hB hBe OW h0
        go_upto_region 5 with fail
        rw [← (show W2 = wr.alloc (.cells #[.int .i64 (x.2.kind : Int), .int .i64 (x.1 : Int), .string tx, .int .i64 (x.2.n : Int)] 30) from HW.out)]
        go_wp2_with fail
        with_reducible refine WB1.out.mono ?_
        rintro e w3 ⟨rfl, hA, hb3, ok⟩
        have d3 := others_cell ok FACT.out.2.2.1 (by decide) FACT.out.2.2.2.1 d2
        have WS1 := Lib.hid (WS.out w.heap.size w.heap.size _ tx w3 (.inr hA) (by rw [List.length_append, bytes_len]; have := FACT.out.2.2.2.2.1; have := FACT.out.2.2.2.2.2.1; simp; omega) (FACT.out.2.1.trans hb3).size)
        have BE3 := Lib.hid (FACT.out.2.1.trans hb3)
        clear hA hb3 ok
        go_wp2_with fail
        with_reducible refine WS1.out.mono ?_
        rintro e w4 ⟨rfl, hA, hb3, -⟩
        have FIN := Lib.hid (show PjRel w s L (.int .i64 ((j + 1 : Nat) : Int)) w4 from ⟨j + 1, rfl, HJ.out, .inr (by
          rw [FACT.out.2.2.2.2.2.2, if_neg H0.out]
          have e : Lib.byteCells (joinT (textsOf s (L.take j)) ++ 32 :: tx.data.toList) = Lib.byteCells (joinT (textsOf s (L.take j))) ++ [.int .u8 32] ++ Lib.strCells tx := by
            unfold Lib.byteCells Lib.strCells
            simp
          rw [e]
          exact hA), BE3.out.trans hb3⟩)
        clear hA hb3
        go_wp2_with fail
        exact ⟨by rw [hw]; exact FIN.out, by rw [hw]; exact ME.out⟩
    · obtain rfl : j = n := by have := H1.out.2.1; omega
      have u1 := dec_inlt hjn
      have u2 : decide (j < j) = false := decide_eq_false hjn
      have ST1 := Lib.hid (ST.out w.heap.size w.heap.size _ wr hB hBe.size)
      have BE := Lib.hid hBe
      clear hj hjn hB hBe
      go_wp2_with fail
      with_reducible refine ST1.out.mono ?_
      rintro e w3 ⟨rfl, hb3⟩
      have FIN := Lib.hid (show (⟨(joinT (textsOf s (L.take j))).toArray⟩ : ByteArray) = joinS s L ∧ Turn (fun _ => False) w w3 from ⟨by rw [H1.out.2.1, List.take_length]; rfl, Turn.of_below (BE.out.trans hb3)⟩)
      clear hb3
      go_wp2_with fail
      go_ret
      exact ⟨by rw [← FIN.out.1]; rfl, FIN.out.2⟩
end Go.Proofs.YtjahjdmabconeaaDoor
