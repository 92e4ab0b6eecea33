/-
  A text, parsed and printed, parsed again and printed again.
  Sound codes: printed, and parsed, or too deep.
  Numbers that are taken one by one; names; codes that are made of them.
  Codes that are made of numbers: rows of them.
-/
import Derived.Test.YtadogobdlcionaaGreatDoorKat
import Derived.Test.YtadogobdlcionaaGreatDoorKaw
import Derived.IntWalk
import Derived.Test.YtadogobdlcionaaGreatDoorKad
import Derived.Maps.AppendAt
import Derived.Deep.CutBlock
set_option linter.unusedSimpArgs false
namespace Go.Proofs.YtadogobdlcionaaGreatDoor
open Go.ChangeShapes Go.WideShapes Go.ChangeAt Go.RowKit Go.Shelf
set_option linter.unusedVariables false
theorem catT_len {f g : List UInt8} {K : Nat} (hf : f.length ≤ 10) (hg : g.length ≤ 10) : ∀ (l : List (List UInt8)) (i : Nat), (∀ x ∈ l, x.length ≤ K) → (catT f g i l).length ≤ l.length * (K + 10)
  | [], _, _ => Nat.zero_le _
  | x :: l, i, h => by
    have h1 := catT_len hf hg l (i + 1) (fun y hy => h y (List.mem_cons_of_mem _ hy))
    have h2 := h x (by simp)
    rw [catT, List.length_append, List.length_append, List.length_cons, Nat.succ_mul]
    split <;> omega
theorem itoa_len {n : Nat} (h : n ≤ 9223372036854775807) : (Lib.itoa (n : Int)).length ≤ 20 := by
  rw [itoa_nat]
  have := dec_len 18 n (Nat.lt_of_le_of_lt h (by decide))
  omega
theorem print_size {q : QU} (h : QFit q) : (printT q).size ≤ 4000000000000 := by
  unfold printT
  split
  · have h1 : (elsT q.elems).length ≤ 1000 * (1000004 + 10) := by
      have := catT_len (f := seqB.data.toList) (g := comB.data.toList) (K := 1000004) (by decide) (by decide) (q.elems.map elT) 0 (fun x hx => by
        obtain ⟨y, hy, rfl⟩ := List.mem_map.1 hx
        have := elT_len y
        have := h.e y hy
        omega)
      rw [List.length_map] at this
      have h2 := Nat.mul_le_mul_right (1000004 + 10) h.ne
      exact Nat.le_trans this h2
    have h2 : (cnsT q.conds).length ≤ 1000 * (2000000010 + 10) := by
      have := catT_len (f := whB.data.toList) (g := andB.data.toList) (K := 2000000010) (by decide) (by decide) (q.conds.map cnT) 0 (fun x hx => by
        obtain ⟨y, hy, rfl⟩ := List.mem_map.1 hx
        exact cnT_len y (h.c y hy))
      rw [List.length_map] at this
      have h2 := Nat.mul_le_mul_right (2000000010 + 10) h.nc
      exact Nat.le_trans this h2
    have h3 := itoa_len h.w
    have h4 : (if q.byKey = true then byB.data.toList else []).length ≤ 7 := by split <;> decide
    have h5 : wiB.data.toList.length = 8 := rfl
    show (_ : List UInt8).toArray.size ≤ _
    rw [List.size_toArray]
    rw [List.length_append, List.length_append, List.length_append, List.length_append, h5]
    omega
  · decide
theorem parse_err {s : ByteArray} (h : (parseB s).2.2 ≠ 0) : (parseB s).1 = zq := by
  unfold parseB at h ⊢
  cases h2 : (toksB s.data.toList)[200]? with
  | some x => rfl
  | none =>
    rw [h2] at h
    dsimp only at h ⊢
    split
    · rfl
    · rename_i hn
      rw [if_neg hn] at h
      cases hq : queryB s (toksB s.data.toList) s.size with
      | out => rfl
      | stop a r => rfl
      | ok q j => rw [hq] at h; exact absurd rfl h
/-- What was parsed may be printed, and is parsed the same. -/
theorem back_pure {s : ByteArray} (hs : s.size ≤ 900000) (h : (parseB s).2.2 = 0) : QFit (parseB s).1 ∧ parseB (printT (parseB s).1) = ((parseB s).1, (printT (parseB s).1).size, 0) ∧ printOk (parseB s).1 = true := by
  have e : parseB s = ((parseB s).1, (parseB s).2.1, 0) := by rw [← h]
  obtain ⟨h1, h2, h3, x, E, P, w, b, hq, G, hl⟩ := parse_back e
  refine ⟨?_, h2, h1⟩
  rw [hq]
  exact G.fits (by omega) (by omega)
theorem QFit.lens {q : QU} (h : QFit q) : (q.elems.length ≤ 1000000 ∧ q.conds.length ≤ 1000000) ∧ ∀ c ∈ q.conds, c.left.length ≤ 1000000 ∧ c.right.length ≤ 1000000 :=
  ⟨⟨by have := h.ne; omega, by have := h.nc; omega⟩, fun c hc => (h.c c hc).n⟩
theorem quV.turn {b : Nat} {q : QU} {w w' : World} {x : Value} (h : quV b q w x) (T : Turn (fun _ => False) w w') : quV b q w' x := by
  obtain ⟨ev, cv, e, h1, xs, h2, h3⟩ := h
  refine ⟨ev, cv, e, own_turn h1 T (fun _ _ f => f), xs, own_turn h2 T (fun _ _ f => f), fun k c hk => ?_⟩
  obtain ⟨lv, rv, k1, k2, k3, k4, k5⟩ := h3 k c hk
  exact ⟨lv, rv, k1, k2, k3, k4.turn T (fun _ _ f => f), k5.turn T (fun _ _ f => f)⟩
set_option maxRecDepth 100000 in
set_option maxHeartbeats 8000000 in
theorem back_is (w : World) (s : ByteArray) (hs : s.size ≤ 900000) (hE : ErrAt w) (hT : TabAt w) : Calls Tryz.prog 9 #[.string s] w fun y w' => y = .returned (.bool true) ∧ Turn (fun _ => False) w w' := by
  have PA := Lib.hid (parse_is w s (Nat.le_trans hs (by decide)) hE)
  have HH := Lib.hid (And.intro hs (And.intro hE hT))
  clear hs hE hT
  go_enter Tryz.func9, Tryz.ntmps9
  go_wp2_with fail
  with_reducible refine PA.out.mono ?_
  rintro y w1 ⟨x, rfl, hq, T1⟩
  clear PA
  obtain ⟨ev, cv, rfl, h1, h2⟩ := id hq
  obtain ⟨a1, c1, rfl, -⟩ := own_slice h1
  obtain ⟨a2, c2, rfl, -⟩ := cns_slice h2
  obtain ⟨W, hW⟩ : ∃ W, W = w1.alloc (.cells #[.slice a1 (parseB s).1.elems.length c1, .slice a2 (parseB s).1.conds.length c2, .int .i64 ((parseB s).1.window : Int), .bool (parseB s).1.byKey] 30) := ⟨_, rfl⟩
  have TW : Turn (fun _ => False) w1 W := by rw [hW]; exact (Turn.refl _ _).alloc _
  have z0 : W.cell? ⟨w1.heap.size, 0, none⟩ = some (.slice a1 (parseB s).1.elems.length c1) := by rw [hW]; exact cell_new rfl rfl
  have z1 : W.cell? ⟨w1.heap.size, 1, none⟩ = some (.slice a2 (parseB s).1.conds.length c2) := by rw [hW]; exact cell_new rfl rfl
  have z2 : W.cell? ⟨w1.heap.size, 2, none⟩ = some (.int .i64 ((parseB s).1.window : Int)) := by rw [hW]; exact cell_new rfl rfl
  have z3 : W.cell? ⟨w1.heap.size, 3, none⟩ = some (.bool (parseB s).1.byKey) := by rw [hW]; exact cell_new rfl rfl
  have HQ := Lib.hid (hq.turn TW)
  have TT := Lib.hid (T1.trans TW)
  have HW := Lib.hid hW
  clear hq h1 h2 T1 TW hW
  by_cases he : (parseB s).2.2 = 0
  · have HB := Lib.hid (back_pure HH.out.1 he)
    have u0 : ((((parseB s).2.2 : Nat) : Int) != 0) = false := by rw [he]; rfl
    generalize (((parseB s).2.2 : Nat) : Int) = ei at *
    clear he
    generalize parseB s = R at *
    obtain ⟨q, n, e0⟩ := R
    obtain ⟨E, C, wn, bk⟩ := q
    dsimp only [quL] at *
    go_upto_region 2 with fail
    rw [← HW.out]
    clear HW
    generalize w1.heap.size = N at *
    go_wp2_with fail
    have PR := Lib.hid (print_is W HQ.out HB.out.1 (HH.out.2.1.turn TT.out id) (HH.out.2.2.turn TT.out (fun _ _ f => f)))
    with_reducible refine PR.out.mono ?_
    rintro y w2 ⟨rfl, T2⟩
    clear PR
    obtain ⟨t, ht⟩ : ∃ t, t = printT ⟨E, C, wn, bk⟩ := ⟨_, rfl⟩
    rw [← ht]
    have hsz : t.size ≤ 4000000000000 := by rw [ht]; exact print_size HB.out.1
    have HP := Lib.hid (show parseB t = (⟨E, C, wn, bk⟩, t.size, 0) by rw [ht]; exact HB.out.2.1)
    have HT := Lib.hid ht
    have T02 := Lib.hid (TT.out.trans T2)
    replace z0 := T2.cell id z0
    replace z1 := T2.cell id z1
    replace z2 := T2.cell id z2
    replace z3 := T2.cell id z3
    have HQ2 := Lib.hid (HQ.out.turn T2)
    have PA := Lib.hid (parse_is w2 t (Nat.le_trans hsz (by decide)) (HH.out.2.1.turn T02.out id))
    clear T2 ht hsz HQ
    go_wp2_with fail
    with_reducible refine PA.out.mono ?_
    rintro y w3 ⟨x, rfl, hq, T3⟩
    rw [HP.out] at hq ⊢
    clear PA
    obtain ⟨ev, cv, rfl, h1, h2⟩ := id hq
    dsimp only at h1 h2
    obtain ⟨a3, c3, rfl, -⟩ := own_slice h1
    obtain ⟨a4, c4, rfl, -⟩ := cns_slice h2
    obtain ⟨W3, hW3⟩ : ∃ W, W = w3.alloc (.cells #[.slice a3 E.length c3, .slice a4 C.length c4, .int .i64 (wn : Int), .bool bk] 30) := ⟨_, rfl⟩
    have TW : Turn (fun _ => False) w3 W3 := by rw [hW3]; exact (Turn.refl _ _).alloc _
    have y0 : W3.cell? ⟨w3.heap.size, 0, none⟩ = some (.slice a3 E.length c3) := by rw [hW3]; exact cell_new rfl rfl
    have y1 : W3.cell? ⟨w3.heap.size, 1, none⟩ = some (.slice a4 C.length c4) := by rw [hW3]; exact cell_new rfl rfl
    have y2 : W3.cell? ⟨w3.heap.size, 2, none⟩ = some (.int .i64 (wn : Int)) := by rw [hW3]; exact cell_new rfl rfl
    have y3 : W3.cell? ⟨w3.heap.size, 3, none⟩ = some (.bool bk) := by rw [hW3]; exact cell_new rfl rfl
    have TX := T3.trans TW
    have T03 := Lib.hid (T02.out.trans TX)
    replace z0 := TX.cell id z0
    replace z1 := TX.cell id z1
    replace z2 := TX.cell id z2
    replace z3 := TX.cell id z3
    have HQA := Lib.hid (HQ2.out.turn TX)
    have HQB := Lib.hid (hq.turn TW)
    have SM := Lib.hid (show Calls Tryz.prog 16 #[.agg #[.slice a1 E.length c1, .slice a2 C.length c2, .int .i64 (wn : Int), .bool bk], .agg #[.slice a3 E.length c3, .slice a4 C.length c4, .int .i64 (wn : Int), .bool bk]] W3 _ from rsame_is HQA.out HQB.out HB.out.1.lens.1 HB.out.1.lens.2)
    have HW3 := Lib.hid hW3
    clear hq h1 h2 T3 TW hW3 TX HQ2
    dsimp only [quL]
    go_upto_region 6 with fail
    rw [← HW3.out]
    clear HW3
    generalize w3.heap.size = M at *
    go_wp2_with fail
    with_reducible refine SM.out.mono ?_
    rintro y w4 ⟨rfl, T4⟩
    have T04 := Lib.hid (T03.out.trans T4)
    replace y0 := T4.cell id y0
    replace y1 := T4.cell id y1
    replace y2 := T4.cell id y2
    replace y3 := T4.cell id y3
    have PR := Lib.hid (show Calls Tryz.prog 13 #[.agg #[.slice a3 E.length c3, .slice a4 C.length c4, .int .i64 (wn : Int), .bool bk]] w4 _ from print_is w4 (HQB.out.turn T4) HB.out.1 (HH.out.2.1.turn T04.out id) (HH.out.2.2.turn T04.out (fun _ _ f => f)))
    rw [← HT.out] at PR
    clear T4 SM z0 z1 z2 z3
    have u5 : (t.toList == t.toList) = true := by simp
    have u6 : ((t.size : Int) == (t.size : Int)) = true := by simp
    go_wp2_with fail
    with_reducible refine PR.out.mono ?_
    rintro y w5 ⟨rfl, T5⟩
    have FIN := Lib.hid (T04.out.trans T5)
    clear T5 PR
    go_wp2_with fail
    go_ret
    exact ⟨rfl, FIN.out⟩
  · have hz := parse_err he
    have u0 : ((((parseB s).2.2 : Nat) : Int) != 0) = true := by simp; omega
    rw [hz] at z0 z1 z2 z3 HW
    rw [hz]
    generalize (((parseB s).2.2 : Nat) : Int) = ei at *
    dsimp only [quL]
    clear hz he
    go_upto_region 2 with fail
    rw [← HW.out]
    clear HW
    generalize w1.heap.size = N at *
    go_wp2_with fail
    go_ret
    exact ⟨rfl, TT.out⟩
end Go.Proofs.YtadogobdlcionaaGreatDoor
namespace Go.Proofs.YtadogobdlcionaaGreatDoor
open Go.ChangeShapes Go.WideShapes Go.ChangeAt Go.RowKit Go.Shelf
set_option linter.unusedVariables false
/-- Are codes sound, of so many values that are there? -/
def sndT : List CD → Int → Bool
  | [], n => decide (n = 1)
  | c :: l, n => if (needsT c).2 = false ∨ n < (needsT c).1 then false else sndT l (n + (1 - (needsT c).1))
/-- How many values a code takes; what a row of codes leaves of so many. -/
def tkN (c : CD) : Nat := if c.op = 9 then 1 else if c.op = 6 ∨ c.op = 7 ∨ c.op = 8 then 0 else 2
def dpN : List CD → Nat → Option Nat
  | [], n => some n
  | c :: l, n => if n < tkN c then none else dpN l (n - tkN c + 1)
theorem dpN_app : ∀ (l m : List CD) (n : Nat), dpN (l ++ m) n = (dpN l n).bind (dpN m)
  | [], m, n => rfl
  | c :: l, m, n => by
    simp only [List.cons_append, dpN]
    split
    · rfl
    · exact dpN_app l m _
/-- A code as it may stand. -/
def CdG (c : CD) : Prop := (c.op = 6 ∧ (0 ≤ c.n ∧ c.n < 7 ∧ c.field = 0) ∧ c.var = ⟨#[]⟩) ∨ (c.op = 7 ∧ (GoodA ⟨1, c.var, 0⟩ ∧ nmA ⟨1, c.var, 0⟩ = true ∧ c.var.size ≤ 20 ∧ c.n = 0) ∧ 0 ≤ c.field ∧ c.field < 4) ∨ (((1 ≤ c.op ∧ c.op ≤ 5) ∨ c.op = 9) ∧ c.var = ⟨#[]⟩ ∧ c.n = 0 ∧ c.field = 0)
theorem needs_of {c : CD} (h : CdG c) : needsT c = ((tkN c : Int), true) := by
  rcases h with ⟨h1, ⟨h2, -⟩, h3⟩ | ⟨h1, ⟨g1, g2, g3, g4⟩, h3, h4⟩ | ⟨h1, h2⟩
  · unfold needsT tkN
    simp [h1, h2]
  · have : nameT c.var = true := name_of g1 g2
    unfold needsT tkN
    simp [h1, h3, h4, this]
  · unfold needsT tkN
    rcases h1 with h1 | h1
    · rw [if_neg (by omega), if_neg (by omega), if_neg (by omega), if_neg (by omega), if_pos h1, if_neg (by omega), if_neg (by omega)]
      rfl
    · simp [h1]
theorem snd_dp : ∀ (l : List CD) (n : Nat), (∀ c ∈ l, CdG c) → sndT l (n : Int) = decide (dpN l n = some 1)
  | [], n, _ => by
    unfold sndT dpN
    rw [decide_eq_decide]
    constructor
    · intro h; congr 1; omega
    · intro h; injection h with h; omega
  | c :: l, n, h => by
    have hc := needs_of (h c (by simp))
    unfold sndT dpN
    rw [hc]
    by_cases hn : n < tkN c
    · rw [if_pos (.inr (by show (n : Int) < (tkN c : Int); omega)), if_pos hn]
      simp
    · rw [if_neg (by simp; omega), if_neg hn]
      rw [show (n : Int) + (1 - ((tkN c : Int), true).1) = ((n - tkN c + 1 : Nat) : Int) by show (n : Int) + (1 - (tkN c : Int)) = _; omega]
      exact snd_dp l _ (fun d hd => h d (List.mem_cons_of_mem _ hd))
/-- Codes that are of the grammar. -/
def Tr (c : List CD) : Prop := ∃ d ts, D 2 d ts c ∧ (∀ a ∈ ts, GoodA a ∧ a.t.size ≤ 20) ∧ ts.length ≤ 4 * c.length
theorem letters_at {k : Int} (h0 : 0 ≤ k) (h4 : k < 4) : ∃ t : ByteArray, GoodA ⟨1, t, 0⟩ ∧ t.size ≤ 20 ∧ lettersT.any (fun y => decide (y = t)) = true ∧ idxI lettersT t = k := by
  have : k = 0 ∨ k = 1 ∨ k = 2 ∨ k = 3 := by omega
  rcases this with rfl | rfl | rfl | rfl
  · exact ⟨⟨#[120]⟩, word_good (c := 120) (r := []) rfl (by decide) (by simp), by decide, by decide, by decide⟩
  · exact ⟨⟨#[121]⟩, word_good (c := 121) (r := []) rfl (by decide) (by simp), by decide, by decide, by decide⟩
  · exact ⟨⟨#[122]⟩, word_good (c := 122) (r := []) rfl (by decide) (by simp), by decide, by decide, by decide⟩
  · exact ⟨⟨#[119]⟩, word_good (c := 119) (r := []) rfl (by decide) (by simp), by decide, by decide, by decide⟩
theorem sg_sz (c : UInt8) : (sg c).t.size ≤ 20 := by show (1 : Nat) ≤ 20; decide
theorem tr_leaf {c : CD} (h : CdG c) (ht : tkN c = 0) : Tr [c] := by
  rcases h with ⟨h1, ⟨h2, h2', h5⟩, h3⟩ | ⟨h1, ⟨g1, g2, g3, g4⟩, h3, h4⟩ | ⟨h1, h2⟩
  · obtain ⟨op, n, v, f⟩ := c
    dsimp only at h1 h2 h2' h3 h5
    subst h1
    subst h3
    subst h5
    obtain ⟨m, rfl⟩ : ∃ m : Nat, n = (m : Int) := ⟨n.toNat, by omega⟩
    have hm : m < 9223372036854775808 := by omega
    refine ⟨0, [numA m], D.num (a := numA m) (plain_num m) rfl, fun a ha => ?_, by simp⟩
    obtain rfl := List.mem_singleton.1 ha
    refine ⟨num_good hm, ?_⟩
    have := num_len hm
    rw [size_len] at this
    exact this
  · obtain ⟨op, n, v, f⟩ := c
    dsimp only at h1 h3 h4 g1 g2 g3 g4
    subst h1
    subst g4
    obtain ⟨t, t1, t2, t3, t4⟩ := letters_at h3 h4
    have hD := D.fld (d := 0) (a := ⟨1, v, 0⟩) (p := sg 46) (f := ⟨1, t, 0⟩) (name_plain g1 rfl) (by show ¬ (1 : Nat) = 3; decide) g2 rfl t3
    dsimp only at hD
    rw [t4] at hD
    refine ⟨0, _, hD, fun a ha => ?_, by simp⟩
    simp only [List.mem_cons, List.not_mem_nil, or_false] at ha
    rcases ha with rfl | rfl | rfl
    · exact ⟨g1, g3⟩
    · exact ⟨sg_good (by decide), sg_sz _⟩
    · exact ⟨t1, t2⟩
  · exfalso
    unfold tkN at ht
    rcases h1 with h1 | h1
    · rw [if_neg (by omega), if_neg (by omega)] at ht; cases ht
    · rw [if_pos h1] at ht; cases ht
theorem op_of {c : CD} (h : CdG c) (ht : tkN c ≠ 0) : c = { zcd with op := c.op } ∧ ((tkN c = 1 ∧ c.op = 9) ∨ (tkN c = 2 ∧ 1 ≤ c.op ∧ c.op ≤ 5)) := by
  rcases h with ⟨h1, -⟩ | ⟨h1, -⟩ | ⟨h1, h2, h3, h4⟩
  · exact absurd (by unfold tkN; simp [h1]) ht
  · exact absurd (by unfold tkN; simp [h1]) ht
  · obtain ⟨op, n, v, f⟩ := c
    dsimp only at h1 h2 h3 h4
    subst h2
    subst h3
    subst h4
    refine ⟨rfl, ?_⟩
    unfold tkN
    dsimp only
    rcases h1 with h1 | h1
    · rw [if_neg (by omega), if_neg (by omega)]
      exact .inr ⟨rfl, h1⟩
    · rw [if_pos h1]
      exact .inl ⟨rfl, h1⟩
theorem tr_neg {c : List CD} (h : Tr c) : Tr (c ++ [{ zcd with op := 9 }]) := by
  obtain ⟨d, ts, hD, hg, hl⟩ := h
  refine ⟨d + 1, sg 45 :: ts, D.neg rfl hD, fun a ha => ?_, by simp; omega⟩
  rcases List.mem_cons.1 ha with rfl | ha
  · exact ⟨sg_good (by decide), sg_sz _⟩
  · exact hg a ha
theorem tr_op {c c' : List CD} {v : Int} (h : Tr c) (h' : Tr c') (hv : 1 ≤ v ∧ v ≤ 5) : Tr (c ++ c' ++ [{ zcd with op := v }]) := by
  obtain ⟨d, ts, hD, hg, hl⟩ := h
  obtain ⟨e, us, hE, hg', hl'⟩ := h'
  obtain ⟨ch, hc, -, ho, -⟩ := sign_of hv
  have h1 : D 0 (d + e) (ts ++ sg ch :: us) (c ++ c' ++ [{ zcd with op := v }]) := by
    rw [← ho]
    by_cases h3 : 3 ≤ v
    · exact (D.p1 (hD.up (Nat.le_add_right d e)).p0 (by omega) (hE.up (Nat.le_add_left e d))).s0
    · exact D.s1 (hD.up (Nat.le_add_right d e)).p0.s0 (by omega) (hE.up (Nat.le_add_left e d)).p0
  refine ⟨d + e + 1, _, D.par (o := sg 40) (z := sg 41) rfl h1 rfl, fun a ha => ?_, by simp; omega⟩
  simp only [List.mem_cons, List.mem_append, List.not_mem_nil, or_false] at ha
  rcases ha with rfl | (ha | rfl | ha) | rfl
  · exact ⟨sg_good (by decide), sg_sz _⟩
  · exact hg a ha
  · exact ⟨sg_good hc, sg_sz _⟩
  · exact hg' a ha
  · exact ⟨sg_good (by decide), sg_sz _⟩
theorem two_last {α : Type} {l : List α} (h : 2 ≤ l.length) : ∃ r x y, l = r ++ [x, y] := by
  obtain ⟨r, y, rfl⟩ := snoc_of (l := l) (by omega)
  obtain ⟨r', x, rfl⟩ := snoc_of (l := r) (by simp at h; omega)
  exact ⟨r', x, y, by simp⟩
theorem tr_all : ∀ (l : List CD) (S : List (List CD)) (k : Nat), (∀ c ∈ S, Tr c) → (∀ c ∈ l, CdG c) → dpN l S.length = some k → ∃ S' : List (List CD), S'.length = k ∧ (∀ c ∈ S', Tr c) ∧ S'.flatten = S.flatten ++ l
  | [], S, k, hS, _, h => by
    simp only [dpN, Option.some.injEq] at h
    exact ⟨S, h, hS, by simp⟩
  | c :: l, S, k, hS, hc, h => by
    have hcc := hc c (by simp)
    have hr := fun d hd => hc d (List.mem_cons_of_mem c hd)
    simp only [dpN] at h
    split at h
    · cases h
    · next hn =>
      by_cases h0 : tkN c = 0
      · rw [h0] at h
        obtain ⟨S', h1, h2, h3⟩ := tr_all l (S ++ [[c]]) k (fun d hd => by
          rcases List.mem_append.1 hd with hd | hd
          · exact hS d hd
          · obtain rfl := List.mem_singleton.1 hd; exact tr_leaf hcc h0) hr (by simpa using h)
        exact ⟨S', h1, h2, by rw [h3]; simp⟩
      · obtain ⟨e, ⟨h1, h9⟩ | ⟨h2, hv⟩⟩ := op_of hcc h0
        · obtain ⟨r, x, rfl⟩ := snoc_of (l := S) (by omega)
          rw [h1] at h
          have tx := hS x (by simp)
          obtain ⟨S', k1, k2, k3⟩ := tr_all l (r ++ [x ++ [c]]) k (fun d hd => by
            rcases List.mem_append.1 hd with hd | hd
            · exact hS d (by simp [hd])
            · obtain rfl := List.mem_singleton.1 hd
              rw [e, h9]
              exact tr_neg tx) hr (by simpa using h)
          exact ⟨S', k1, k2, by rw [k3]; simp⟩
        · obtain ⟨r, x, y, rfl⟩ := two_last (l := S) (by omega)
          rw [h2] at h
          have tx := hS x (by simp)
          have ty := hS y (by simp)
          obtain ⟨S', k1, k2, k3⟩ := tr_all l (r ++ [x ++ y ++ [c]]) k (fun d hd => by
            rcases List.mem_append.1 hd with hd | hd
            · exact hS d (by simp [hd])
            · obtain rfl := List.mem_singleton.1 hd
              rw [e]
              exact tr_op tx ty hv) hr (by
              have e2 : (r ++ [x, y]).length - 2 + 1 = (r ++ [x ++ y ++ [c]]).length := by simp
              rw [← e2]; exact h)
          exact ⟨S', k1, k2, by rw [k3]; simp⟩
/-- Sound codes are of the grammar. -/
theorem tr_of {l : List CD} (h : ∀ c ∈ l, CdG c) (hd : dpN l 0 = some 1) : Tr l := by
  obtain ⟨S, h1, h2, h3⟩ := tr_all l [] 1 (fun c hc => by simp at hc) h hd
  obtain ⟨x, rfl⟩ := List.length_eq_one_iff.1 h1
  have : x = l := by simpa using h3
  subst this
  exact h2 x (by simp)
/-! ### The text of one condition -/
def hdC : List UInt8 := [115, 101, 113, 32, 65, 32, 97, 32, 119, 104, 101, 114, 101, 32]
def tlC : List UInt8 := [32, 61, 32, 48, 32, 119, 105, 116, 104, 105, 110, 32, 51]
def elC : EL := ⟨0, ⟨#[97]⟩, false, false⟩
def numC : CD := ⟨6, 0, ⟨#[]⟩, 0⟩
def quC (c : List CD) : QU := ⟨[elC], [⟨1, c, [numC]⟩], 3, false⟩
def itC (A : List IT) : List IT := some (kw seqT) :: none :: (elR elC ++ (none :: some (kw whereT) :: none :: (A ++ none :: some (sg 61) :: none :: some (numA 0) :: tlR 3 false)))
theorem elC_g : ElG elC := ⟨by decide, word_good (c := 97) (r := []) rfl (by decide) (by simp), by kernel_rfl⟩
theorem itoa0 : Lib.itoa ((0 : Nat) : Int) = [48] := digits_small (u := 0) (by decide)
theorem itoa3 : Lib.itoa ((3 : Nat) : Int) = [51] := digits_small (u := 3) (by decide)
theorem itC_bytes (A : List IT) : bytesR (itC A) = hdC ++ bytesR A ++ tlC := by
  have e0 : (numA 0).t.data.toList = [48] := by show (Lib.itoa ((0 : Nat) : Int)).toArray.toList = _; rw [itoa0]
  have e3 : (numA 3).t.data.toList = [51] := by show (Lib.itoa ((3 : Nat) : Int)).toArray.toList = _; rw [itoa3]
  unfold itC tlR byR
  simp only [bytes_n, bytes_s, bytesR_append, e0, e3, el_bytes, bytesR, if_false, Bool.false_eq_true]
  simp [hdC, tlC, elT, elC, kw, sg]
theorem num0_chain : Chain (some (numA 0) :: tlR 3 false) := ⟨num_good (by decide), (neut32 _).fol _, tl_chain (by decide) false⟩
theorem itC_chain {A : List IT} (h : Neat A) : Chain (itC A) := by
  refine ⟨kw_good (by simp), (neut32 _).fol _, (el_neat elC_g).ch _ ⟨kw_good (by simp), (neut32 _).fol _, ?_⟩ (neut32 _)⟩
  exact h.ch _ ⟨sg_good (by decide), (neut32 _).fol _, num0_chain⟩ (neut32 _)
theorem parseB_many {s : ByteArray} {x : Nat × Tok} (h : (toksB s.data.toList)[200]? = some x) : parseB s = (zq, x.1, 12) := by
  unfold parseB
  rw [h]
theorem parseB_query {s : ByteArray} (h : (toksB s.data.toList)[200]? = none) (hs : ¬ skipB (endB (toksB s.data.toList)) s.data.toList < s.size) : parseB s = match queryB s (toksB s.data.toList) s.size with
      | .ok q _ => (q, s.size, 0)
      | .stop a r => (zq, a, r)
      | .out => (zq, 0, 0) := by
  unfold parseB
  rw [h]
  dsimp only
  rw [if_neg hs]
  cases queryB s (toksB s.data.toList) s.size <;> rfl
theorem bind_ok {α β : Type} {r : PA α} {f : α → Nat → PA β} {a : α} {i : Nat} (h : r = .ok a i) : r.bind f = f a i := by rw [h]; rfl
theorem bind_stop {α β : Type} {r : PA α} {f : α → Nat → PA β} {a b : Nat} (h : r = .stop a b) : r.bind f = .stop a b := by rw [h]; rfl
section
variable {s : ByteArray} {L : List (Nat × Tok)}
theorem codes_cond {A : List AT} {e d i : Nat} {c : List CD} (hD : D 0 d A c) (hd : (abL s L).drop i = A ++ (sg 61 :: ([numA 0] ++ toksR (tlR 3 false)))) :
    (condB s L e 0 i = .ok ⟨1, c, [numC]⟩ (i + A.length + 2) ∧ (abL s L).drop (i + A.length + 2) = toksR (tlR 3 false)) ∨ ∃ a, condB s L e 0 i = .stop a 12 := by
  have d4 := drop_on hd
  have d5 : (abL s L).drop (i + A.length + 1) = [numA 0] ++ toksR (tlR 3 false) := by rw [← List.drop_drop, d4]; rfl
  have d6 := drop_on d5
  have n1 : noSign (sg 61 :: ([numA 0] ++ toksR (tlR 3 false))) := fun a r e => by injection e with e _; subst e; decide
  have n2 : noSign (toksR (tlR 3 false)) := fun a r e => by
    have e : kw withinT :: _ = a :: r := e
    injection e with e _
    subst e
    decide
  obtain ⟨x, lx, ex⟩ := ab_at (drop_at d4 0)
  rw [Nat.add_zero] at lx
  have tx : textOf s x = (sg 61).t := congrArg AT.t ex
  have tk : takeB (inB holdsT s) L (i + A.length) = some x := by
    unfold takeB
    rw [lx]
    have : inB holdsT s x = true := by unfold inB; rw [tx]; decide
    simp [this]
  have hw : 1 + idxI holdsT (textOf s x) = 1 := by rw [tx]; decide
  unfold condB
  rcases sum_reads (s := s) (L := L) (e := e) (nest := 0) hD hd (n1.op (by decide)) (n1.op (by decide)) with q | ⟨a, q, -⟩
  · have h0 := D.num (d := 0) (a := numA 0) (plain_num 0) rfl
    rcases sum_reads (s := s) (L := L) (e := e) (nest := 0) h0.p0.s0 d5 (n2.op (by decide)) (n2.op (by decide)) with q2 | ⟨a, q2, q'⟩
    · left
      refine ⟨?_, d6⟩
      rw [q]
      dsimp only
      rw [tk]
      dsimp only
      rw [q2]
      dsimp only
      rw [hw]
      rfl
    · omega
  · right
    rw [q]
    exact ⟨a, rfl⟩
theorem codes_query {A : List IT} {e d : Nat} {c : List CD} (hD : D 0 d (toksR A) c) (hab : abL s L = toksR (itC A)) : (∃ m, queryB s L e = .ok (quC c) m) ∨ ∃ a, queryB s L e = .stop a 12 := by
  have et : toksR (itC A) = kw seqT :: (toksR (elR elC) ++ (kw whereT :: (toksR A ++ (sg 61 :: ([numA 0] ++ toksR (tlR 3 false)))))) := by
    unfold itC
    simp only [toks_n, toks_s, toksR_append]
    rfl
  rw [et] at hab
  have d0 : (abL s L).drop 0 = kw seqT :: (toksR (elR elC) ++ (kw whereT :: (toksR A ++ (sg 61 :: ([numA 0] ++ toksR (tlR 3 false)))))) := hab
  have d1 : (abL s L).drop 1 = toksR (elR elC) ++ (kw whereT :: (toksR A ++ (sg 61 :: ([numA 0] ++ toksR (tlR 3 false))))) := by rw [hab]; rfl
  have d2 := drop_on d1
  have d3 : (abL s L).drop (1 + (toksR (elR elC)).length + 1) = toksR A ++ (sg 61 :: ([numA 0] ++ toksR (tlR 3 false))) := by rw [← List.drop_drop, d2]; rfl
  have he : elemsB s L e 1 = .ok [elC] (1 + (toksR (elR elC)).length) := by
    unfold elemsB
    rw [bind_ok (elem_reads elC_g d1)]
    exact elems_reads [] (L.length + 1) _ [elC] _ _ (fun x hx => by simp at hx) (by simp) d2 (by decide)
  unfold queryB
  rw [has_head d0, if_pos (by decide), bind_ok he]
  unfold condsB
  rw [has_head d2, if_pos (by decide)]
  rcases codes_cond (e := e) hD d3 with ⟨q, d6⟩ | ⟨a, q⟩
  · left
    rw [bind_ok q]
    have h6 : (abL s L).drop (1 + (toksR (elR elC)).length + 1 + (toksR A).length + 2) = toksR (andR []) ++ (kw withinT :: numA 3 :: toksR (byR false)) := d6
    rw [bind_ok (conds_reads (M := 20) [] (L.length + 1) _ [⟨1, c, [numC]⟩] _ _ (fun y hy => by simp at hy) (by simp) h6 (by decide) (by decide))]
    exact tail_reads d6
  · right
    rw [bind_stop q]
    exact ⟨a, rfl⟩
end
/-- Such a text is that query, or something of it is beyond the limits. -/
theorem codes_parse {A : List IT} {d : Nat} {c : List CD} (h : Neat A) (hD : D 0 d (toksR A) c) {t : ByteArray} (ht : t.data.toList = hdC ++ bytesR A ++ tlC) :
    parseB t = (quC c, t.size, 0) ∨ ∃ n, parseB t = (zq, n, 12) := by
  rw [← itC_bytes] at ht
  have hc := itC_chain h
  have hab : abL t (toksB t.data.toList) = toksR (itC A) := by
    have := text_abL _ hc
    rw [← ht, ba_eq] at this
    exact this
  cases h2 : (toksB t.data.toList)[200]? with
  | some x => exact .inr ⟨_, parseB_many h2⟩
  | none =>
    have hs : ¬ skipB (endB (toksB t.data.toList)) t.data.toList < t.size := by
      have := (chain_all hc).2
      rw [← ht] at this
      rw [this, size_len]
      omega
    rw [parseB_query h2 hs]
    rcases codes_query (e := t.size) hD hab with ⟨m, q⟩ | ⟨a, q⟩
    · left; rw [q]
    · right; rw [q]; exact ⟨a, rfl⟩
end Go.Proofs.YtadogobdlcionaaGreatDoor
namespace Go.Proofs.YtadogobdlcionaaGreatDoor.Mad
open Go.ChangeShapes Go.WideShapes Go.ChangeAt Go.RowKit
set_option linter.unusedVariables false
set_option linter.unusedSimpArgs false
/-- A row of numbers. -/
def RowAt (w : World) (v : Value) (l : List Int) : Prop :=
  ∃ (a : Option Addr) (b off cap : Nat), v = .slice a l.length cap ∧ l.length ≤ cap ∧ (l = [] ∨ a = some ⟨b, off, none⟩) ∧ ∀ (j : Nat) (x : Int), l[j]? = some x → w.cell? ⟨b, off + j, none⟩ = some (.int .i64 x)
theorem RowAt.turn {w w' : World} {v : Value} {l : List Int} (h : RowAt w v l) (t : Turn (fun _ => False) w w') : RowAt w' v l := by
  obtain ⟨a, b, off, cap, e, hc, ha, hx⟩ := h
  exact ⟨a, b, off, cap, e, hc, ha, fun j x hj => t.cell id (hx j x hj)⟩
/-- A row of numbers that are taken one by one: it stays, whatever is done to blocks from rb on. -/
def RwAt (w : World) (rb : Nat) : Prop :=
  ∃ (v : Value) (l : List Int) (k : Nat), w.rangeAt rb 0 [v, .int .i64 (k : Int)] ∧ Blk w rb 38 ∧ k ≤ l.length ∧ l.length ≤ 100 ∧ ∀ U, Turn (fun q => rb ≤ q) w U → RowAt U v l
theorem RwAt.turn {w w' : World} {rb : Nat} (h : RwAt w rb) (T : Turn (fun q => rb < q) w w') : RwAt w' rb := by
  obtain ⟨v, l, k, h1, h2, h3, h4, h5⟩ := h
  exact ⟨v, l, k, range_turn h1 T (Nat.lt_irrefl rb), h2.turn T (Nat.lt_irrefl rb), h3, h4, fun U TU => h5 U ((T.more (fun q _ h => Nat.le_of_lt h)).trans TU)⟩
theorem wrapNx {y : Int} {n : Nat} (h1 : 1 ≤ n) (hn : n ≤ 100) : ∃ m : Nat, (wrap64 (y.tmod (n : Int) + (n : Int))).tmod (n : Int) = (m : Int) ∧ m < n := by
  have h1 := Int.tmod_lt_of_pos y (show (0 : Int) < (n : Int) by omega)
  have h2 := Int.lt_tmod_of_pos y (show (0 : Int) < (n : Int) by omega)
  generalize y.tmod (n : Int) = a at *
  have e1 : wrap64 (a + (n : Int)) = a + (n : Int) := by unfold wrap64; omega
  rw [e1]
  have h3 := Int.tmod_lt_of_pos (a + (n : Int)) (show (0 : Int) < (n : Int) by omega)
  have h4 := Int.tmod_nonneg (a := a + (n : Int)) (n : Int) (by omega)
  exact ⟨((a + (n : Int)).tmod (n : Int)).toNat, by omega, by omega⟩
set_option maxRecDepth 100000 in
set_option maxHeartbeats 4000000 in
theorem next_is {w : World} {rb : Nat} (h : RwAt w rb) {n : Nat} (h1 : 1 ≤ n) (hn : n ≤ 100) :
    Calls Tryz.prog 22 #[.pointer (some ⟨rb, 0, none⟩), .int .i64 (n : Int)] w fun e w' => ∃ m : Nat, e = .returned (.int .i64 (m : Int)) ∧ m < n ∧ RwAt w' rb ∧ Turn (fun q => q = rb) w w' := by
  obtain ⟨v, l, k, hr, hb, hk, hl, hs⟩ := h
  have hrow := hs w (Turn.refl _ w)
  obtain ⟨a, b, off, cap, rfl, hc, ha, hx⟩ := id hrow
  have x0 := hr 0 _ rfl
  have x1 := hr 1 _ rfl
  rw [Nat.zero_add] at x1
  have f1 := hb.fz 1
  by_cases hkl : k < l.length
  · obtain ⟨y, hy⟩ : ∃ y, l[k]? = some y := ⟨_, List.getElem?_eq_getElem hkl⟩
    obtain rfl := ha.resolve_left (fun e => by rw [e] at hkl; exact absurd hkl (Nat.not_lt_zero k))
    have T1 : Turn (fun q => q = rb) w (w.setCell ⟨rb, 1, none⟩ (.int .i64 ((k : Int) + 1))) := Turn.put w rb 1 _
    have cy := ((hs _ (T1.more (fun q _ e => by rw [e]; exact Nat.le_refl _))) )
    obtain ⟨a', b', off', cap', e', hc', ha', hx'⟩ := cy
    have e2 : b = b' ∧ off = off' := by
      have := ha'.resolve_left (fun e => by rw [e] at hkl; exact absurd hkl (Nat.not_lt_zero k))
      injection e' with z1
      rw [← z1] at this
      injection this with z
      injection z with z2 z3
      exact ⟨z2, z3⟩
    obtain ⟨rfl, rfl⟩ := e2
    have yc := hx' k y hy
    obtain ⟨m, hm, hmn⟩ := wrapNx (y := y) h1 hn
    have t1 : decide ((l.length : Int) ≤ (k : Int)) = false := decide_eq_false (by omega)
    have t2 : decide (l.length ≤ k) = false := decide_eq_false (by omega)
    have e1 : wrap64 ((k : Int) + 1) = (k : Int) + 1 := by unfold wrap64; omega
    have e3 : wrap64 ((k : Int) + 1 - 1) = (k : Int) := by unfold wrap64; omega
    have e4 : wrap64 (k : Int) = (k : Int) := by unfold wrap64; omega
    have e5 : IntKind.i64.wrap (k : Int) = (k : Int) := IntWalk.i64_in _ (by omega)
    have e6 : IntKind.i64.wrap (y.tmod (n : Int) + (n : Int)) = wrap64 (y.tmod (n : Int) + (n : Int)) := by rw [IntKind.wrap_i64]; unfold wrap64; rfl
    have k0 : (0 : Int) ≤ (k : Int) := Int.natCast_nonneg k
    have k1 : (k : Int) < (l.length : Int) := Int.ofNat_lt.2 hkl
    have n0 : ((n : Int) == 0) = false := beq_eq_false_iff_ne.2 (by omega)
    have n1 : (n : Int) ≠ 0 := by omega
    have RW : RwAt (w.setCell ⟨rb, 1, none⟩ (.int .i64 ((k : Int) + 1))) rb := ⟨_, l, k + 1, fun j u hj => by
      have hj2 := (List.getElem?_eq_some_iff.1 hj).1
      have h3 : j = 0 ∨ j = 1 := by simp at hj2; omega
      rw [Nat.zero_add]
      rcases h3 with rfl | rfl
      · simp at hj; subst hj; exact (cell_off _ _ _ _ _ (by decide)).trans x0
      · simp at hj; subst hj; exact World.cell?_setCell_same _ _ _ x1, hb.set _ _, hkl, hl, fun U TU => hs U ((T1.more (fun q _ e => by rw [e]; exact Nat.le_refl _)).trans TU)⟩
    have TD : Turn (fun _ => False) (w.setCell ⟨rb, 1, none⟩ (.int .i64 ((k : Int) + 1))) ((w.setCell ⟨rb, 1, none⟩ (.int .i64 ((k : Int) + 1))).drewN 2) := (Turn.refl _ _).drewN 2
    have FIN := Lib.hid (show RwAt (w.setCell ⟨rb, 1, none⟩ (.int .i64 ((k : Int) + 1))).drew.drew rb ∧ Turn (fun q => q = rb) w (w.setCell ⟨rb, 1, none⟩ (.int .i64 ((k : Int) + 1))).drew.drew from ⟨RW.turn (TD.more (fun _ _ f => f.elim)), T1.trans (TD.more (fun _ _ f => f.elim))⟩)
    have HM := Lib.hid (And.intro hm hmn)
    clear hs hrow hx hx' T1 RW TD hb hr hy hkl hk hl ha' e' hc hc' hm hmn
    go_enter Tryz.func22, Tryz.ntmps22
    go_upto_region 1 with fail
    go_region
    go_wp2_with fail
    go_upto_region 4 with fail
    go_region
    go_wp2_with fail
    go_ret
    exact ⟨m, by rw [← HM.out.1]; rfl, HM.out.2, FIN.out⟩
  · obtain rfl : k = l.length := Nat.le_antisymm hk (Nat.not_lt.1 hkl)
    have t1 : decide ((l.length : Int) ≤ (l.length : Int)) = true := decide_eq_true (Int.le_refl _)
    have t2 : decide (l.length ≤ l.length) = true := decide_eq_true (Nat.le_refl _)
    have TD : Turn (fun _ => False) w (w.drewN 1) := (Turn.refl _ _).drewN 1
    have FIN := Lib.hid (show RwAt w.drew rb ∧ Turn (fun q => q = rb) w w.drew from ⟨(show RwAt w rb from ⟨_, l, l.length, hr, hb, hk, hl, hs⟩).turn (TD.more (fun _ _ f => f.elim)), TD.more (fun _ _ f => f.elim)⟩)
    clear hs hrow hx hb hr hk hl ha hc TD f1
    go_enter Tryz.func22, Tryz.ntmps22
    go_upto_region 1 with fail
    go_region
    go_wp2_with fail
    go_ret
    exact ⟨0, rfl, h1, FIN.out⟩
theorem next_x {w : World} {rb : Nat} (h : RwAt w rb) {x : Int} {n : Nat} (hx : x = (n : Int)) (h1 : 1 ≤ n) (hn : n ≤ 100) :
    Calls Tryz.prog 22 #[.pointer (some ⟨rb, 0, none⟩), .int .i64 x] w fun e w' => ∃ m : Nat, e = .returned (.int .i64 (m : Int)) ∧ m < n ∧ RwAt w' rb ∧ Turn (fun q => q = rb) w w' := by
  subst hx
  exact next_is h h1 hn
end Go.Proofs.YtadogobdlcionaaGreatDoor.Mad
namespace Go.Proofs.YtadogobdlcionaaGreatDoor.Mad
open Go.ChangeShapes Go.WideShapes Go.ChangeAt Go.RowKit
set_option linter.unusedVariables false
set_option linter.unusedSimpArgs false
theorem wrapR {k n : Nat} (h : k < n) (hn : n ≤ 100) : wrap64 ((k : Int) + 1) = (k : Int) + 1 := by unfold wrap64; omega
/-- A code, with a name. -/
structure Qc where
  op : Int
  n : Int
  nm : ByteArray
  fld : Int
def Qc.cells (c : Qc) : List Value := [.int .i64 c.op, .int .i64 c.n, .string c.nm, .int .i64 c.fld, .int .i64 0]
def qcells : List Qc → List Value
  | [] => []
  | c :: l => c.cells ++ qcells l
theorem qcells_len : ∀ l : List Qc, (qcells l).length = l.length * 5
  | [] => rfl
  | c :: l => by
    simp only [qcells, List.length_append, List.length_cons, qcells_len l, Nat.add_mul]
    have : c.cells.length = 5 := rfl
    omega
theorem qcells_app : ∀ l m : List Qc, qcells (l ++ m) = qcells l ++ qcells m
  | [], m => rfl
  | c :: l, m => by simp only [List.cons_append, qcells, qcells_app l m, List.append_assoc]
theorem qcells_at : ∀ (l : List Qc) (k : Nat) (c : Qc), l[k]? = some c → ∀ (j : Nat) (u : Value), c.cells[j]? = some u → (qcells l)[k * 5 + j]? = some u
  | [], k, c, h => by simp at h
  | x :: l, 0, c, h => by
    intro j u hu
    simp at h
    subst h
    have hj := (List.getElem?_eq_some_iff.1 hu).1
    simp only [qcells, Nat.zero_mul, Nat.zero_add]
    rw [List.getElem?_append_left hj]
    exact hu
  | x :: l, k + 1, c, h => by
    intro j u hu
    simp only [List.getElem?_cons_succ] at h
    have := qcells_at l k c h j u hu
    simp only [qcells]
    have h5 : x.cells.length = 5 := rfl
    rw [List.getElem?_append_right (by omega), show (k + 1) * 5 + j - x.cells.length = k * 5 + j by omega]
    exact this
theorem qcells_one : ∀ l : List Qc, ∀ u ∈ qcells l, u.oneCell' = true
  | [], u, h => by simp [qcells] at h
  | c :: l, u, h => by
    simp only [qcells, List.mem_append] at h
    rcases h with h | h
    · unfold Qc.cells at h
      simp only [List.mem_cons, List.not_mem_nil, or_false] at h
      rcases h with h | h | h | h | h <;> (rw [h]; rfl)
    · exact qcells_one l u h
theorem info65 : (Tryz.prog.info? 45).map (fun i => (i.zero, i.size, i.bytes)) = some (some (.agg #[.int .i64 0, .int .i64 0, .string ⟨#[]⟩, .int .i64 0, .int .i64 0]), 5, 48) := by kernel_rfl
theorem size65 : (Tryz.prog.info? 45).map (·.size) = some 5 := by kernel_rfl
/-- Codes put behind a row of one's own. -/
theorem app_q {W : World} {base n m c b off : Nat} {v : Value} {xs : List Value} {l : List Qc} (h : W.ownsRow base 45 5 v n xs) (hb : base ≤ W.heap.size) (hn : n ≤ 1000 ∧ m ≤ 1000) (hm : l.length = m) (hr : W.rangeAt b off (qcells l)) :
    ∃ v' W', (Builtin.append_ #[39, 39] 39 #[v, .slice (some ⟨b, off, none⟩) m c]).run Tryz.prog W = .ok v' W' ∧ W'.ownsRow base 45 5 v' (n + m) (xs ++ qcells l) ∧ Turn (fun q => v.ownBlock = some q) W W' ∧ (v'.ownBlock = v.ownBlock ∨ v'.ownBlock = some W.heap.size) := by
  obtain ⟨i3, j1, j2, j3, j4⟩ := info_parts info65
  obtain ⟨v', W', hrn, ho2, hgr, _, hob⟩ := run_append_own_at (P := Tryz.prog) (w := W) base 39 39 45 i3 _ 5 48 Tryz.underlying39 j1 j2 j3 j4 rfl (by decide) v n xs h ⟨b, off, none⟩ m c (qcells l) (by rw [qcells_len, hm])
    (fun j u hu => by
      rw [Go.WideShapes.add_plain]
      exact hr j u hu) (qcells_one l) (by unfold maxLen; omega) (by omega) hb
  exact ⟨v', W', hrn, ho2, (Turn.refl _ _).grown hgr (fun k hk => .inl hk), hob⟩
/-- A row of codes of one's own that is just made. -/
theorem q_new (W : World) (c : Qc) {base : Nat} (hb : base ≤ W.heap.size) : (W.alloc (.cells c.cells.toArray 45)).ownsRow base 45 5 (.slice (some ⟨W.heap.size, 0, none⟩) 1 1) 1 (qcells [c]) := by
  refine ⟨rfl, .inr ⟨W.heap.size, 1, _, rfl, hb, World.alloc_heap_new W _, Nat.le_refl _, by unfold maxLen; decide, rfl, ?_⟩⟩
  simp [qcells, Qc.cells]
theorem q_range {W : World} {base n c g : Nat} {l : List Qc} (h : W.ownsRow base 45 5 (.slice (some ⟨g, 0, none⟩) n c) n (qcells l)) : W.rangeAt g 0 (qcells l) := fun j u hu => by
  have hj := (List.getElem?_eq_some_iff.1 hu).1
  have := h.1
  rw [Nat.zero_add]
  exact (h.cellAt j (by omega)).trans hu
/-- How many values a code takes; what a row of codes leaves of so many. -/
def takesQ (c : Qc) : Nat := if c.op = 9 then 1 else if c.op = 6 ∨ c.op = 7 ∨ c.op = 8 then 0 else 2
def depQ : List Qc → Nat → Option Nat
  | [], n => some n
  | c :: l, n => if n < takesQ c then none else depQ l (n - takesQ c + 1)
theorem depQ_app : ∀ (l m : List Qc) (n : Nat), depQ (l ++ m) n = (depQ l n).bind (depQ m)
  | [], m, n => rfl
  | c :: l, m, n => by
    simp only [List.cons_append, depQ]
    split
    · rfl
    · exact depQ_app l m _
theorem depQ_frame : ∀ (l : List Qc) (n k j : Nat), depQ l n = some k → depQ l (n + j) = some (k + j)
  | [], n, k, j, h => by
    simp only [depQ, Option.some.injEq] at h ⊢
    omega
  | c :: l, n, k, j, h => by
    simp only [depQ] at h ⊢
    split at h
    · cases h
    · rename_i hn
      rw [if_neg (by omega), show n + j - takesQ c + 1 = (n - takesQ c + 1) + j by omega]
      exact depQ_frame l _ k j h
/-- A code of names that there are. -/
def QcOk (N : List ByteArray) (c : Qc) : Prop := (c.op = 6 ∧ (0 ≤ c.n ∧ c.n < 7 ∧ c.fld = 0) ∧ c.nm = ⟨#[]⟩) ∨ (c.op = 7 ∧ (c.nm ∈ N ∧ c.n = 0) ∧ 0 ≤ c.fld ∧ c.fld < 4) ∨ (((1 ≤ c.op ∧ c.op ≤ 5) ∨ c.op = 9) ∧ c.nm = ⟨#[]⟩ ∧ c.n = 0 ∧ c.fld = 0)
def QsOk (N : List ByteArray) (l : List Qc) : Prop := l.length ≤ 9 ∧ depQ l 0 = some 1 ∧ ∀ c ∈ l, QcOk N c
/-- Names in a row. -/
def NmsAt (w : World) (v : Value) (N : List ByteArray) : Prop := ∃ b off cap, v = .slice (some ⟨b, off, none⟩) N.length cap ∧ Blk w b 9 ∧ w.rangeAt b off (N.map .string)
theorem NmsAt.turn {Z : Nat → Prop} {w w' : World} {v : Value} {N : List ByteArray} (h : NmsAt w v N) (T : Turn Z w w') (hz : ∀ b, Blk w b 9 → ¬ Z b) : NmsAt w' v N := by
  obtain ⟨b, off, cap, e, hb, hx⟩ := h
  exact ⟨b, off, cap, e, hb.turn T (hz b hb), range_turn hx T (hz b hb)⟩
theorem own_base2 {w : World} {b b' : Nat} {t : TypeId} {s n : Nat} {v : Value} {xs : List Value} (h : w.ownsRow b t s v n xs) (hb : b' ≤ b) : w.ownsRow b' t s v n xs := by
  refine ⟨h.1, ?_⟩
  rcases h.2 with h0 | ⟨g, cap, cur, e, hg, rest⟩
  · exact .inl h0
  · exact .inr ⟨g, cap, cur, e, Nat.le_trans hb hg, rest⟩
end Go.Proofs.YtadogobdlcionaaGreatDoor.Mad
