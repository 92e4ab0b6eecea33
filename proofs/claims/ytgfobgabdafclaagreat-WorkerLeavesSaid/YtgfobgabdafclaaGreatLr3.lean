/-
  A ring of commands in memory: what Put, Get and Drop answer.
-/
import Derived.Test.YtgfobgabdafclaaGreatLr2
namespace Go.Proofs.YtgfobgabdafclaaGreat
open Go.ChangeShapes Go.WideShapes Go.ChangeAt Go.RowKit
set_option linter.unusedVariables false

theorem build_none (w : World) : (Instr.build 227 #[]).run Tryz.prog w = .ok (.agg (zc ++ [Value.bool false]).toArray) w := run_build w 227 _ _ (by kernel_rfl)
theorem alloc51 (a : Act) (w : World) {o : Oper} (ho : o.op = .alloc 60) : (execOp a.eval o).run Tryz.prog w = .ok (.value (.pointer (some ⟨w.heap.size, 0, none⟩))) (w.alloc (.cells zc.toArray 60)) := by
  unfold execOp
  simp only [ho]
  go_simp
  rfl
section
variable {w w' : World} {r pb n low : Nat} {X : Int → Option (List Value)}
set_option maxRecDepth 100000 in
set_option maxHeartbeats 2000000 in
theorem CR.get_no (h : CR w r pb n low X) {at_ : Int} (h0 : -9000000000000000000 ≤ at_ ∧ at_ ≤ 9000000000000000000) (h1 : at_ < low ∨ (low : Int) + n ≤ at_) :
    Calls Tryz.prog 184 #[.pointer (some ⟨r, 0, none⟩), .int .i64 at_] w fun e w' => e = .returned (.tuple #[.agg zc.toArray, .bool false]) ∧ Turn (fun _ => False) w w' := by
  obtain ⟨W, hW⟩ : ∃ W, W = w.alloc (.cells #[.int .i64 0, .int .i64 0, .int .i64 0, .int .i64 0, .int .i64 0, .int .i64 0, .int .i64 0, .int .i64 0, .int .i64 0, .int .i64 0, .int .i64 0, .slice none 0 0, .int .i64 0, .bool false] 60) := ⟨_, rfl⟩
  have T : Turn (fun _ => False) w W := by rw [hW]; exact (Turn.refl _ w).alloc _
  have B : Blk W w.heap.size 60 := by rw [hW]; exact Blk.new w zc 60
  have C : W.rangeAt w.heap.size 0 zc := by rw [hW]; exact range_new w zc 60
  have H := Lib.hid ((h.turn T (fun f => f) (fun f => f)).find_no h0 h1)
  have K := Lib.hid (And.intro T (And.intro B C))
  have CN := Lib.hid (fun w : World => range_new w zc 60)
  have ZC := Lib.hid zc_is
  have CN : Hid (∀ w : World, (w.alloc (.cells #[.int .i64 0, .int .i64 0, .int .i64 0, .int .i64 0, .int .i64 0, .int .i64 0, .int .i64 0, .int .i64 0, .int .i64 0, .int .i64 0, .int .i64 0, .slice none 0 0, .int .i64 0, .bool false] 60)).rangeAt w.heap.size 0 zc) := CN
  clear T B C h h0 h1
  generalize zc = z at *
  go_enter Tryz.func184, Tryz.ntmps184
  go_upto_region 1 with fail
  rw [← hW]
  clear hW
  generalize hbb : w.heap.size = b at *
  have HB := Lib.hid hbb
  clear hbb
  go_wp2_with fail
  with_reducible refine H.out.mono ?_
  rintro e W2 ⟨rfl, T2⟩
  obtain ⟨W3, hW3⟩ : ∃ W, W = W2.alloc (.cells #[.int .i64 0, .int .i64 0, .int .i64 0, .int .i64 0, .int .i64 0, .int .i64 0, .int .i64 0, .int .i64 0, .int .i64 0, .int .i64 0, .int .i64 0, .slice none 0 0, .int .i64 0, .bool false] 60) := ⟨_, rfl⟩
  have T3 : Turn (fun _ => False) W2 W3 := by rw [hW3]; exact (Turn.refl _ W2).alloc _
  have C3 : W3.rangeAt W2.heap.size 0 z := by rw [hW3]; exact CN.out W2
  have T23 := T2.trans T3
  have TH : W3.there b 0 14 := range_there (range_turn K.out.2.2 T23 (fun f => f)) ZC.out.len (K.out.2.1.turn T23 (fun f => f))
  have TS : Turn (fun k => k = b) W3 (W3.setCells b 0 z) := Turn.setCells z 0 (Turn.refl _ W3) (.inl rfl)
  have KE := Lib.hid ((K.out.1.trans T23).comp TS (S := fun _ => False) (fun j hj e => by have := HB.out; omega))
  have TH' := Lib.hid TH
  have C3' := Lib.hid C3
  clear K T2 T3 C3 T23 TH TS H
  go_upto_region 5 with fail
  rw [← hW3]
  clear hW3
  generalize W2.heap.size = b2 at *
  refine wp_region_lit ?_
  refine wpList_load_mid rfl 60 _ rfl b2 0 rfl z _ C3'.out Tryz.underlying60 rfl (by rw [ZC.out.len]; exact size51) ?_
  refine wpList_store_mid rfl 60 _ _ rfl b 0 z.toArray rfl rfl (by rw [List.size_toArray, ZC.out.len]; exact TH'.out) (by rw [List.size_toArray, ZC.out.len]; exact size51) ZC.out.one ?_
  go_wp2_with fail
  exact bodyPost_ret (v := .tuple #[.agg z.toArray, .bool false]) (res_cell_tmp (a := 4) (k := 5) rfl rfl rfl (run_loadVar_mid _ b 0 60 z _ (World.rangeAt_setCells_same _ b 0 z (by rw [ZC.out.len]; exact TH'.out)) Tryz.underlying60 rfl (by rw [ZC.out.len]; exact size51))) rfl ⟨rfl, KE.out⟩
theorem CR.get_any (h : CR w r pb n low X) {at_ : Int} (h0 : -9000000000000000000 ≤ at_ ∧ at_ ≤ 9000000000000000000) :
    Calls Tryz.prog 184 #[.pointer (some ⟨r, 0, none⟩), .int .i64 at_] w fun e w' => e = .returned (.tuple #[.agg ((X at_).getD zc).toArray, .bool (X at_).isSome]) ∧ Turn (fun _ => False) w w' := by
  by_cases h1 : at_ < low ∨ (low : Int) + n ≤ at_
  · have hx : X at_ = none := by
      cases hx : X at_ with
      | none => rfl
      | some cs =>
        have := h.win at_ (by rw [hx]; rfl)
        omega
    rw [hx]
    exact h.get_no h0 h1
  · obtain ⟨i, rfl⟩ : ∃ i : Nat, at_ = (i : Int) := ⟨at_.toNat, by omega⟩
    exact h.get (by omega) (by omega)
set_option maxRecDepth 100000 in
set_option maxHeartbeats 2000000 in
theorem CR.put_no (h : CR w r pb n low X) {at_ : Int} (h0 : -9000000000000000000 ≤ at_ ∧ at_ ≤ 9000000000000000000) (h1 : at_ < low ∨ (low : Int) + n ≤ at_ ∨ (X at_).isSome = true) {cs : List Value} (hc : IsCmd cs) :
    Calls Tryz.prog 67 #[.pointer (some ⟨r, 0, none⟩), .int .i64 at_, .agg cs.toArray] w fun e w' => e = .returned (.bool false) ∧ Turn (fun _ => False) w w' := by
  obtain ⟨W, hW⟩ : ∃ W, W = w.alloc (.cells cs.toArray 60) := ⟨_, rfl⟩
  have T : Turn (fun _ => False) w W := by rw [hW]; exact (Turn.refl _ w).alloc _
  have hh := h.turn T (fun f => f) (fun f => f)
  have K := Lib.hid T
  by_cases h2 : at_ < low ∨ (low : Int) + n ≤ at_
  · have H := Lib.hid (hh.find_no h0 h2)
    clear T hh h h0 h1 h2
    go_enter Tryz.func67, Tryz.ntmps67
    go_upto_region 1 with fail
    rw [← hW]
    clear hW
    go_wp2_with fail
    with_reducible refine H.out.mono ?_
    rintro e W2 ⟨rfl, T2⟩
    have F := Lib.hid (K.out.trans T2)
    clear H T2 K
    go_wp2_with fail
    go_ret
    exact ⟨rfl, F.out⟩
  · have hs : (X at_).isSome = true := by
      rcases h1 with h1 | h1 | h1
      · exact absurd (.inl h1) h2
      · exact absurd (.inr h1) h2
      · exact h1
    obtain ⟨i, rfl⟩ : ∃ i : Nat, at_ = (i : Int) := ⟨at_.toNat, by omega⟩
    have H := Lib.hid (hh.find (i := i) (by omega) (by omega))
    have y := (hh.cx i (by omega) (by omega)).2
    rw [hs] at y
    generalize i % n = g at *
    clear T hh h h0 h1 h2 hs
    go_enter Tryz.func67, Tryz.ntmps67
    go_upto_region 1 with fail
    rw [← hW]
    clear hW
    go_wp2_with fail
    with_reducible refine H.out.mono ?_
    rintro e W2 ⟨rfl, T2⟩
    have y := T2.cell (fun f => f) y
    have F := Lib.hid (K.out.trans T2)
    clear H T2 K
    go_wp2_with fail
    go_ret
    exact ⟨rfl, F.out⟩
set_option maxRecDepth 100000 in
set_option maxHeartbeats 2000000 in
theorem CR.put (h : CR w r pb n low X) {i : Nat} (h1 : low ≤ i) (h2 : i < low + n) (hx : X i = none) {cs : List Value} (hc : IsCmd cs) :
    Calls Tryz.prog 67 #[.pointer (some ⟨r, 0, none⟩), .int .i64 (i : Int), .agg cs.toArray] w fun e w' => e = .returned (.bool true) ∧ CR w' r pb n low (updI X i (some cs)) ∧ Turn (fun b => b = r ∨ b = pb) w w' := by
  obtain ⟨W, hW⟩ : ∃ W, W = w.alloc (.cells cs.toArray 60) := ⟨_, rfl⟩
  have T : Turn (fun _ => False) w W := by rw [hW]; exact (Turn.refl _ w).alloc _
  have C : W.rangeAt w.heap.size 0 cs := by rw [hW]; exact range_new w cs 60
  have hh := h.turn T (fun f => f) (fun f => f)
  have K := Lib.hid (And.intro T C)
  have H := Lib.hid (hh.find h1 h2)
  have hi := Lib.hid (And.intro h1 (And.intro h2 hx))
  have HC := Lib.hid hc
  clear T C h h1 h2 hx hc
  go_enter Tryz.func67, Tryz.ntmps67
  go_upto_region 1 with fail
  rw [← hW]
  clear hW
  generalize w.heap.size = b at *
  go_wp2_with fail
  with_reducible refine H.out.mono ?_
  rintro e W2 ⟨rfl, T2⟩
  have h2 := hh.turn T2 (fun f => f) (fun f => f)
  have y := (h2.cx i hi.out.1 hi.out.2.1).2
  rw [hi.out.2.2] at y
  have y : W2.cell? ⟨pb, i % n * 15 + 14, none⟩ = some (.bool false) := y
  have C2 := Lib.hid (range_turn K.out.2 T2 (fun f => f))
  have TH : W2.there pb (i % n * 15) 15 := fun j hj => by
    refine ⟨?_, h2.bp.fz _⟩
    by_cases hj14 : j = 14
    · subst hj14
      rw [y]
      rfl
    · rw [(h2.cx i hi.out.1 hi.out.2.1).1 j _ (List.getElem?_eq_getElem (by rw [(h2.cmd i).len]; omega))]
      rfl
  have h3 := h2.set hi.out.1 hi.out.2.1 (some cs) (fun _ e => by cases e; exact HC.out)
  have T3 : Turn (fun b => b = r ∨ b = pb) W2 (W2.setCells pb (i % n * 15) (cs ++ [Value.bool true])) := Turn.setCells _ _ (show Turn (fun b => b = r ∨ b = pb) W2 W2 from Turn.refl _ W2) (.inl (.inr rfl))
  have T3 := ((K.out.1.trans T2).more (S' := fun b => b = r ∨ b = pb) (fun _ _ f => f.elim)).trans T3
  have h3 : CR (W2.setCells pb (i % n * 15) (cs ++ [Value.bool true])) r pb n low (updI X i (some cs)) := h3
  have BP := Lib.hid (build_place cs HC.out.len true)
  have TH := Lib.hid TH
  clear H hh T2 K h2
  generalize i % n = g at *
  go_upto_region 4 with fail
  refine wp_region_lit ?_
  refine rl_val rfl (v := .pointer (some ⟨pb, g * 15, none⟩)) rfl ?_
  try simp only [Act.put, List.setIfInBounds_toArray, List.set_cons_zero, List.set_cons_succ]
  refine wpList_load_mid rfl 60 _ rfl b 0 rfl cs _ C2.out Tryz.underlying60 rfl (by rw [HC.out.len]; exact size51) ?_
  try simp only [Act.put, List.setIfInBounds_toArray, List.set_cons_zero, List.set_cons_succ]
  refine rl_build rfl 227 _ rfl (vs := #[(0, .agg cs.toArray), (1, .bool true)]) (by simp [Act.eval]) (BP.out _) ?_
  try simp only [Act.put, List.setIfInBounds_toArray, List.set_cons_zero, List.set_cons_succ]
  refine rl_val rfl (v := .pointer (some ⟨pb, g * 15, none⟩)) rfl ?_
  try simp only [Act.put, List.setIfInBounds_toArray, List.set_cons_zero, List.set_cons_succ]
  refine wpList_store_mid rfl 227 _ _ rfl pb (g * 15) (cs ++ [Value.bool true]).toArray rfl rfl (by rw [List.size_toArray, List.length_append, HC.out.len]; exact TH.out) (by rw [List.size_toArray, List.length_append, HC.out.len]; exact size132) (one_more HC.out.one true) ?_
  try simp only [Act.put, List.setIfInBounds_toArray, List.set_cons_zero, List.set_cons_succ]
  change wpList _ _ _ _ _ (W2.setCells pb (g * 15) (cs ++ [Value.bool true]))
  generalize W2.setCells pb (g * 15) (cs ++ [Value.bool true]) = W4 at *
  obtain ⟨m, hm⟩ := h3.c2
  have fr := h3.br.fz
  have E := Lib.hid (And.intro h3 T3)
  clear h3 T3 C2 TH BP HC hi y
  go_wp2_with fail
  go_ret
  exact ⟨rfl, E.out.1.there _, E.out.2.trans ((Turn.put _ _ _ _).more (fun _ _ e => .inl e))⟩
set_option maxRecDepth 100000 in
set_option maxHeartbeats 2000000 in
theorem CR.drop (h : CR w r pb n low X) (hl : low + 1 ≤ 1000000) (hx : (X low).isSome = true) :
    Calls Tryz.prog 261 #[.pointer (some ⟨r, 0, none⟩)] w fun e w' => (∃ v, e = .returned v) ∧ CR w' r pb n (low + 1) (updI X low none) ∧ Turn (fun b => b = r ∨ b = pb) w w' := by
  obtain ⟨W, hW⟩ : ∃ W, W = w.alloc (.cells #[.int .i64 0, .int .i64 0, .int .i64 0, .int .i64 0, .int .i64 0, .int .i64 0, .int .i64 0, .int .i64 0, .int .i64 0, .int .i64 0, .int .i64 0, .slice none 0 0, .int .i64 0, .bool false] 60) := ⟨_, rfl⟩
  have T : Turn (fun _ => False) w W := by rw [hW]; exact (Turn.refl _ w).alloc _
  have B : Blk W w.heap.size 60 := by rw [hW]; exact Blk.new w zc 60
  have C : W.rangeAt w.heap.size 0 zc := by rw [hW]; exact range_new w zc 60
  have hh := h.turn T (fun f => f) (fun f => f)
  have H := Lib.hid hh.low_is
  have G := Lib.hid (hh.get_any (at_ := (low : Int)) (by have := h.l2; omega))
  have K := Lib.hid (And.intro T (And.intro B C))
  have HH := Lib.hid hh
  have hc := Lib.hid (h.cmd low)
  have HX := Lib.hid (And.intro hx hl)
  clear T B C h hh hl
  rw [hx] at G
  generalize hcs : (X (low : Int)).getD zc = cs at *
  clear hcs
  go_enter Tryz.func261, Tryz.ntmps261
  go_upto_region 1 with fail
  rw [← hW]
  clear hW
  generalize hbb : w.heap.size = b at *
  have HB := Lib.hid hbb
  clear hbb
  go_wp2_with fail
  with_reducible refine H.out.mono ?_
  rintro e W1 ⟨rfl, rfl⟩
  go_wp2_with fail
  with_reducible refine G.out.mono ?_
  rintro e W2 ⟨rfl, T2⟩
  dsimp only
  refine (‹∀ (a : Act) (w : World), wpList _ _ _ _ a w → _›) _ _ ?_
  refine rl_val rfl (v := .tuple #[.agg cs.toArray, .bool true]) rfl ?_
  try simp only [Act.put, List.setIfInBounds_toArray, List.set_cons_zero, List.set_cons_succ]
  refine rl_val rfl (v := .agg cs.toArray) rfl ?_
  try simp only [Act.put, List.setIfInBounds_toArray, List.set_cons_zero, List.set_cons_succ]
  refine rl_val rfl (v := .bool true) rfl ?_
  try simp only [Act.put, List.setIfInBounds_toArray, List.set_cons_zero, List.set_cons_succ]
  refine rl_val rfl (alloc51 _ _ rfl) ?_
  try simp only [Act.put, List.setIfInBounds_toArray, List.set_cons_zero, List.set_cons_succ]
  obtain ⟨W3, hW3⟩ : ∃ W, W = W2.alloc (.cells zc.toArray 60) := ⟨_, rfl⟩
  rw [← hW3]
  have T3 : Turn (fun _ => False) W2 W3 := by rw [hW3]; exact (Turn.refl _ W2).alloc _
  have B3 : Blk W3 W2.heap.size 60 := by rw [hW3]; exact Blk.new W2 zc 60
  have C3 : W3.there W2.heap.size 0 14 := range_there (by rw [hW3]; exact range_new W2 zc 60) rfl B3
  have hb4 : W.heap.size ≤ W2.heap.size := T2.size
  have hb5 : W2.heap.size < W3.heap.size := B3.lt
  clear hW3
  generalize W2.heap.size = b4 at *
  refine wpList_store_mid rfl 60 _ _ rfl b4 0 cs.toArray rfl rfl (by rw [List.size_toArray, hc.out.len]; exact C3) (by rw [List.size_toArray, hc.out.len]; exact size51) hc.out.one ?_
  try simp only [Act.put, List.setIfInBounds_toArray, List.set_cons_zero, List.set_cons_succ]
  change wpList _ _ _ _ _ (W3.setCells b4 0 cs)
  have T4 : Turn (fun k => k = b4) W3 (W3.setCells b4 0 cs) := Turn.setCells cs 0 (Turn.refl _ W3) (.inl rfl)
  have R4 : (W3.setCells b4 0 cs).rangeAt b4 0 cs := World.rangeAt_setCells_same _ _ _ _ (by rw [hc.out.len]; exact C3)
  have T14 : Turn (fun _ => False) W (W3.setCells b4 0 cs) := ((T2.trans T3).comp T4 (fun j hj e => by omega))
  have B4 := B3.setCells (c := b4) cs 0
  generalize W3.setCells b4 0 cs = W4 at *
  have h4 := HH.out.turn T14 (fun f => f) (fun f => f)
  have F := Lib.hid (h4.find (i := low) (Nat.le_refl _) (by have := h4.n1; omega))
  have c1 := h4.c1
  have hl2 := h4.l2
  have HH := Lib.hid h4
  have K := Lib.hid (And.intro (K.out.1.trans T14) (And.intro (K.out.2.1.turn T14 (fun f => f)) (And.intro (range_turn K.out.2.2 T14 (fun f => f)) (And.intro B4 (And.intro R4 hb4)))))
  have hd : decide ((4611686018427387904 : Int) ≤ (low : Int)) = false := by simp; omega
  clear T3 B3 C3 hb5 T4 R4 T14 B4 h4 H G T2
  go_wp2_with fail
  with_reducible refine F.out.mono ?_
  rintro e W5 ⟨rfl, T5⟩
  dsimp only
  refine (‹∀ (a : Act) (w : World), wpList _ _ _ _ a w → _›) _ _ ?_
  have h5 := HH.out.turn T5 (fun f => f) (fun f => f)
  have h6 := h5.set (i := low) (Nat.le_refl _) (by have := h5.n1; omega) none (fun cs e => by cases e)
  have h6 : CR (W5.setCells pb (low % n * 15) (zc ++ [Value.bool false])) r pb n low (updI X low none) := h6
  have T6 : Turn (fun b => b = r ∨ b = pb) W5 (W5.setCells pb (low % n * 15) (zc ++ [Value.bool false])) := Turn.setCells _ _ (show Turn (fun b => b = r ∨ b = pb) W5 W5 from Turn.refl _ W5) (.inl (.inr rfl))
  have TH : W5.there pb (low % n * 15) 15 := fun j hj => by
    refine ⟨?_, h5.bp.fz _⟩
    have c := h5.cx low (Nat.le_refl _) (by have := h5.n1; omega)
    by_cases hj14 : j = 14
    · subst hj14
      rw [c.2]
      rfl
    · rw [c.1 j _ (List.getElem?_eq_getElem (by rw [(h5.cmd low).len]; omega))]
      rfl
  refine rl_build rfl 227 _ rfl (vs := #[]) (by simp) (build_none _) ?_
  try simp only [Act.put, List.setIfInBounds_toArray, List.set_cons_zero, List.set_cons_succ]
  refine rl_val rfl (v := .pointer (some ⟨pb, low % n * 15, none⟩)) rfl ?_
  try simp only [Act.put, List.setIfInBounds_toArray, List.set_cons_zero, List.set_cons_succ]
  refine wpList_store_mid rfl 227 _ _ rfl pb (low % n * 15) (zc ++ [Value.bool false]).toArray rfl rfl TH size132 (one_more zc_is.one false) ?_
  try simp only [Act.put, List.setIfInBounds_toArray, List.set_cons_zero, List.set_cons_succ]
  change wpList _ _ _ _ _ (W5.setCells pb (low % n * 15) (zc ++ [Value.bool false]))
  have hbr : b ≠ r ∧ b ≠ pb := ⟨K.out.2.1.ne (HH.out.br) (by decide), K.out.2.1.ne (HH.out.bp) (by decide)⟩
  have hbr4 : b4 ≠ r ∧ b4 ≠ pb := ⟨K.out.2.2.2.1.ne (HH.out.br) (by decide), K.out.2.2.2.1.ne (HH.out.bp) (by decide)⟩
  have T46 : Turn (fun b => b = r ∨ b = pb) W4 (W5.setCells pb (low % n * 15) (zc ++ [Value.bool false])) := (T5.more (S' := fun b => b = r ∨ b = pb) (fun _ _ f => f.elim)).trans T6
  clear T6 TH h5 T5 F
  generalize W5.setCells pb (low % n * 15) (zc ++ [Value.bool false]) = W6 at *
  have c1 := h6.c1
  have hw : wrap64 ((low : Int) + 1) = (low : Int) + 1 := by unfold wrap64; omega
  have fr := h6.br.fz
  have h7 := h6.lows (by have := HX.out.2; omega) (updI_at _ _ _)
  have T7 := T46.trans ((Turn.put W6 r 1 (.int .i64 ((low + 1 : Nat) : Int))).more (S' := fun b => b = r ∨ b = pb) (fun _ _ e => .inl e))
  clear h6 T46
  go_upto_region 7 with fail
  change Code.wp _ _ _ _ (W6.setCell ⟨r, 1, none⟩ (.int .i64 ((low + 1 : Nat) : Int)))
  generalize W6.setCell ⟨r, 1, none⟩ (.int .i64 ((low + 1 : Nat) : Int)) = W7 at *
  obtain ⟨m, hm⟩ := h7.c2
  have fr := h7.br.fz
  have h8 := h7.there (wrap64 (m - 1))
  have T8 := T7.trans ((Turn.put W7 r 2 (.int .i64 (wrap64 (m - 1)))).more (S' := fun b => b = r ∨ b = pb) (fun _ _ e => .inl e))
  clear h7 T7 c1 hw
  go_upto_region 8 with fail
  generalize W7.setCell ⟨r, 2, none⟩ (.int .i64 (wrap64 (m - 1))) = W8 at *
  have TH : W8.there b 0 14 := range_there (range_turn K.out.2.2.1 T8 (fun e => e.elim hbr.1 hbr.2)) rfl (K.out.2.1.turn T8 (fun e => e.elim hbr.1 hbr.2))
  have R8 := range_turn K.out.2.2.2.2.1 T8 (fun e => e.elim hbr4.1 hbr4.2)
  have T9 : Turn (fun k => k = b) W8 (W8.setCells b 0 cs) := Turn.setCells cs 0 (Turn.refl _ W8) (.inl rfl)
  have h9 := Lib.hid (h8.turn T9 (Ne.symm hbr.1) (Ne.symm hbr.2))
  have KE := Lib.hid (show Turn (fun b => b = r ∨ b = pb) w (W8.setCells b 0 cs) from ((K.out.1.more (S' := fun b => b = r ∨ b = pb) (fun _ _ f => f.elim)).trans T8).comp T9 (fun j hj e => by have := HB.out; omega))
  refine wp_region_lit ?_
  refine wpList_load_mid rfl 60 _ rfl b4 0 rfl cs _ R8 Tryz.underlying60 rfl (by rw [hc.out.len]; exact size51) ?_
  try simp only [Act.put, List.setIfInBounds_toArray, List.set_cons_zero, List.set_cons_succ]
  refine wpList_store_mid rfl 60 _ _ rfl b 0 cs.toArray rfl rfl (by rw [List.size_toArray, hc.out.len]; exact TH) (by rw [List.size_toArray, hc.out.len]; exact size51) hc.out.one ?_
  try simp only [Act.put, List.setIfInBounds_toArray, List.set_cons_zero, List.set_cons_succ]
  clear T9 h8 T8
  go_wp2_with fail
  exact bodyPost_ret (v := .tuple #[.agg cs.toArray, .bool true]) (res_cell_tmp (a := 2) (k := 3) rfl rfl rfl (run_loadVar_mid _ b 0 60 cs _ (World.rangeAt_setCells_same _ b 0 cs (by rw [hc.out.len]; exact TH)) Tryz.underlying60 rfl (by rw [hc.out.len]; exact size51))) rfl ⟨⟨_, rfl⟩, h9.out, KE.out⟩
end
end Go.Proofs.YtgfobgabdafclaaGreat
