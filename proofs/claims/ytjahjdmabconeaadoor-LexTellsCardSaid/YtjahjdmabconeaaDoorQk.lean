/-
  A text's tokens are told as the document tells them.
-/
import Derived.Test.YtjahjdmabconeaaDoorQj
namespace Go.Proofs.YtjahjdmabconeaaDoor
open Go.ChangeShapes Go.WideShapes Go.ChangeAt Go.RowKit Go.Shelf
set_option linter.unusedVariables false
/-- What Lex tells: the tokens, a place, why not. -/
def lexR (s : ByteArray) : List (Nat × Tok) × Nat × Nat :=
  if 200 < (toksB s.data.toList).length then ([], (((toksB s.data.toList)[200]?.map (fun x => x.1)).getD 0), 12)
  else if skipB (endB (toksB s.data.toList)) s.data.toList < s.size then ([], skipB (endB (toksB s.data.toList)) s.data.toList, 10)
  else (toksB s.data.toList, s.size, 0)
theorem lexR_many {s : ByteArray} {x : Nat × Tok} {r pre : List (Nat × Tok)} (h : toksB s.data.toList = pre ++ x :: r) (hl : pre.length = 200) : lexR s = ([], x.1, 12) := by
  unfold lexR
  rw [if_pos (by rw [h, List.length_append, List.length_cons]; omega), h, List.getElem?_append_right (by omega), hl]
  rfl
theorem lexR_not {s : ByteArray} (h : (toksB s.data.toList).length ≤ 200) (k : skipB (endB (toksB s.data.toList)) s.data.toList < s.size) : lexR s = ([], skipB (endB (toksB s.data.toList)) s.data.toList, 10) := by
  unfold lexR
  rw [if_neg (by omega), if_pos k]
theorem lexR_all {s : ByteArray} (h : (toksB s.data.toList).length ≤ 200) (k : skipB (endB (toksB s.data.toList)) s.data.toList = s.size) : lexR s = (toksB s.data.toList, s.size, 0) := by
  unfold lexR
  rw [if_neg (by omega), if_neg (by omega)]
theorem lex_out {w w' : World} {s : ByteArray} {e : Ending} (h : LexPost w s e w') : Turn (fun _ => False) w w' ∧ ∃ v, e = .returned (.tuple #[v, .int .i64 ((lexR s).2.1 : Int), .int .i64 ((lexR s).2.2 : Int)]) ∧ w'.ownsRow w.heap.size 30 4 v (lexR s).1.length (toksC s (lexR s).1) := by
  obtain ⟨T, ⟨x, r, pre, h, hl, rfl⟩ | ⟨hl, hk, rfl⟩ | ⟨hl, hk, v, rfl, ho⟩⟩ := h
  · exact ⟨T, _, by rw [lexR_many h hl]; rfl, by rw [lexR_many h hl]; exact World.ownsRow_nil _ _ _ _⟩
  · exact ⟨T, _, by rw [lexR_not hl hk]; rfl, by rw [lexR_not hl hk]; exact World.ownsRow_nil _ _ _ _⟩
  · exact ⟨T, v, by rw [lexR_all hl hk]; rfl, by rw [lexR_all hl hk]; exact ho⟩
theorem rlex_out {w w' : World} {s : ByteArray} {e : Ending} (h : RLexPost w s e w') : Turn (fun _ => False) w w' ∧ ∃ v, e = .returned (.agg #[v, .int .i64 ((lexR s).2.1 : Int), .int .i64 ((lexR s).2.2 : Int)]) ∧ w'.ownsRow w.heap.size 30 4 v (lexR s).1.length (toksC s (lexR s).1) := by
  obtain ⟨T, ⟨x, r, pre, h, hl, rfl⟩ | ⟨hl, hk, rfl⟩ | ⟨hl, hk, v, rfl, ho⟩⟩ := h
  · exact ⟨T, _, by rw [lexR_many h hl]; rfl, by rw [lexR_many h hl]; exact World.ownsRow_nil _ _ _ _⟩
  · exact ⟨T, _, by rw [lexR_not hl hk]; rfl, by rw [lexR_not hl hk]; exact World.ownsRow_nil _ _ _ _⟩
  · exact ⟨T, v, by rw [lexR_all hl hk]; rfl, by rw [lexR_all hl hk]; exact ho⟩
theorem lexR_len (s : ByteArray) : (lexR s).1.length ≤ s.size := by
  unfold lexR
  split
  · exact Nat.zero_le _
  · split
    · exact Nat.zero_le _
    · exact toks_len s
theorem field0 (a : Option Addr) (n c : Nat) (l : Int) (w : World) : (Instr.field 42 (.agg #[.slice a n c, .int .i64 l]) 0).run Tryd.prog w = .ok (.slice a n c) w := by kernel_rfl
set_option maxRecDepth 100000 in
set_option maxHeartbeats 2000000 in
theorem tells_is (w : World) (s : ByteArray) (hs : s.size ≤ 1000000) (hE : ErrAt w) : Calls Tryd.prog 10 #[.string s] w fun e w' => e = .returned (.bool true) ∧ Turn (fun _ => False) w w' := by
  have LX := Lib.hid (lex_is w s (Nat.le_trans hs (by decide)) hE)
  have RL := Lib.hid (fun w => rlex_is w s hs)
  have CO := Lib.hid (fun w hE => col_is w s hs hE)
  have RE := Lib.hid (fun w => reach_is w s hs)
  have HE := Lib.hid hE
  have HS := Lib.hid hs
  clear hE hs
  go_enter Tryd.func10, Tryd.ntmps10
  go_wp2_with fail
  with_reducible refine LX.out.mono ?_
  rintro e w1 hp
  obtain ⟨T1, v1, rfl, o1⟩ := lex_out hp
  clear hp LX
  obtain ⟨R, hR⟩ : ∃ R, R = lexR s := ⟨_, rfl⟩
  rw [← hR] at o1 ⊢
  go_wp2_with fail
  with_reducible refine (RL.out _).mono ?_
  rintro e w2 hp
  obtain ⟨T2, v2, rfl, o2⟩ := rlex_out hp
  rw [← hR] at o2 ⊢
  obtain ⟨a2, c2, rfl, -⟩ := own_slice o2
  clear hp RL
  obtain ⟨W3, hW3⟩ : ∃ W, W = w2.alloc (.cells #[.slice a2 R.1.length c2, .int .i64 (R.2.1 : Int), .int .i64 (R.2.2 : Int)] 38) := ⟨_, rfl⟩
  have T3 : Turn (fun _ => False) w2 W3 := by rw [hW3]; exact (Turn.refl _ _).alloc _
  have z0 : W3.cell? ⟨w2.heap.size, 0, none⟩ = some (.slice a2 R.1.length c2) := by rw [hW3]; exact cell_new rfl rfl
  have z1 : W3.cell? ⟨w2.heap.size, 1, none⟩ = some (.int .i64 (R.2.1 : Int)) := by rw [hW3]; exact cell_new rfl rfl
  have z2 : W3.cell? ⟨w2.heap.size, 2, none⟩ = some (.int .i64 (R.2.2 : Int)) := by rw [hW3]; exact cell_new rfl rfl
  have hlen : R.1.length ≤ 1000000 := by rw [hR]; exact Nat.le_trans (lexR_len s) HS.out
  have SM := Lib.hid (same_is (own_turn (own_turn o1 T2 (fun _ _ f => f)) T3 (fun _ _ f => f)) (own_turn o2 T3 (fun _ _ f => f)) hlen)
  have TT := Lib.hid ((T1.trans T2).trans T3)
  have HW := Lib.hid hW3
  have ZZ := Lib.hid (And.intro z1 z2)
  clear T1 T2 T3 z1 z2 hW3 o1 o2 hlen hR
  go_upto_region 3 with fail
  rw [← HW.out]
  go_wp2_with fail
  with_reducible refine SM.out.mono ?_
  rintro e w4 ⟨rfl, T4⟩
  have TT4 := Lib.hid (TT.out.trans T4)
  have C5 := Lib.hid (CO.out w4 (HE.out.turn TT4.out id))
  have HT4 := Lib.hid T4
  clear T4 SM z0
  go_wp2_with fail
  with_reducible refine C5.out.mono ?_
  rintro e w5 ⟨T5, v5, rfl, o5⟩
  have TT5 := Lib.hid (TT4.out.trans T5)
  have HT5 := Lib.hid T5
  have O5 := Lib.hid o5
  clear T5 C5 o5
  go_wp2_with fail
  with_reducible refine (RE.out _).mono ?_
  rintro e w6 ⟨T6, v6, rfl, o6⟩
  obtain ⟨a6, c6, rfl, -⟩ := own_slice o6
  have f0 := field0 a6 (toksB s.data.toList).length c6 (skipB (endB (toksB s.data.toList)) s.data.toList : Int) w6
  have TT6 := Lib.hid (TT5.out.trans T6)
  have HT6 := Lib.hid T6
  have SM := Lib.hid (same_is (own_turn O5.out T6 (fun _ _ f => f)) o6 (Nat.le_trans (toks_len s) HS.out))
  clear T6 o6
  go_wp2_with fail
  with_reducible refine SM.out.mono ?_
  rintro e w7 ⟨rfl, T7⟩
  have TB := (((HT4.out.trans HT5.out).trans HT6.out).trans T7)
  have z1 := TB.cell id ZZ.out.1
  have z2 := TB.cell id ZZ.out.2
  have FIN := Lib.hid (TT6.out.trans T7)
  clear T7 TB SM
  go_wp2_with fail
  go_ret
  exact ⟨rfl, FIN.out⟩
end Go.Proofs.YtjahjdmabconeaaDoor
