/-
  A strings.Builder: what writing to it does.
  A builder that is written to: what holds, and what stays.
  A part of what is printed: a chain of pieces.
  One part behind another one.
  A part that holds closely enough, in brackets if it must.
-/
import Derived.Test.YtadogobdlcionaaGreatDoorKal
set_option linter.unusedSimpArgs false
namespace Go.Proofs.YtadogobdlcionaaGreatDoor
open Go.ChangeShapes Go.WideShapes Go.ChangeAt Go.RowKit Go.Shelf
set_option linter.unusedVariables false
theorem bsize : (Tryz.prog.info? 70).map (·.size) = some 2 := by kernel_rfl
theorem blies : liesAt Tryz.prog Tryz.prog.depth 70 (2 / Tryz.prog.cellsOf 70) 0 70 1 = true := by kernel_rfl
theorem binfo : (Tryz.prog.info? 5).map (fun i => (i.zero, i.size, i.bytes)) = some (some (.int .u8 0), 1, 1) := by kernel_rfl
set_option maxRecDepth 100000 in
set_option maxHeartbeats 1000000 in
theorem copy_used (b : Nat) (w : World) (h0 : w.cell? ⟨b, 0, none⟩ = some (.pointer (some ⟨b, 0, none⟩))) :
    Calls Tryz.prog 44 #[.pointer (some ⟨b, 0, none⟩)] w fun e w' => e = .returned (.tuple #[]) ∧ w' = w := by
  obtain ⟨j, hj, _⟩ := Option.map_eq_some_iff.1 bsize
  go_enter Tryz.func44, Tryz.ntmps44
  go_wp2
  rw [Lib.run_neq_ptr_same w _ Tryz.underlying67 hj]
  go_wp2
  go_end0
  exact ⟨rfl, rfl⟩
set_option maxRecDepth 100000 in
set_option maxHeartbeats 1000000 in
theorem copy_fresh (b : Nat) (w : World) (h0 : w.cell? ⟨b, 0, none⟩ = some (.pointer none)) (hsh : w.shape? b = some (70, 2)) (hfz : w.frozen? ⟨b, 0, none⟩ = false) :
    Calls Tryz.prog 44 #[.pointer (some ⟨b, 0, none⟩)] w fun e w' => e = .returned (.tuple #[]) ∧ w' = w.setCell ⟨b, 0, none⟩ (.pointer (some ⟨b, 0, none⟩)) := by
  obtain ⟨j, hj, hjs⟩ := Option.map_eq_some_iff.1 bsize
  go_enter Tryz.func44, Tryz.ntmps44
  go_wp2
  rw [Lib.run_to_unsafe w ⟨b, 0, none⟩ Tryz.underlying67 Tryz.underlying124 hj (by rw [hjs]; decide) hsh (Nat.zero_lt_succ 1)]
  simp only [Result.andThen]
  rw [Oper.upon_value]
  go_wp2
  rw [run_callFunc_extern Tryz.func66 (by kernel_rfl) (by kernel_rfl) (by kernel_rfl) (e := Extern.AbiNoEscape.same) (by kernel_rfl)]
  rw [Lib.run_noEscape]
  simp only [Result.andThen]
  rw [Oper.upon_value]
  go_wp2
  rw [Lib.run_from_unsafe w ⟨b, 0, none⟩ Tryz.underlying124 Tryz.underlying67 hj hsh blies]
  simp only [Result.andThen]
  rw [Oper.upon_value]
  go_wp2
  go_end0
  exact ⟨rfl, rfl⟩
theorem copy_is (B b : Nat) (bs : List Value) (w : World) (h : Lib.IsBuilder 70 5 B b bs w) :
    Calls Tryz.prog 44 #[.pointer (some ⟨b, 0, none⟩)] w fun e w' => e = .returned (.tuple #[]) ∧ (Lib.BuilderAt 70 5 B b (.pointer (some ⟨b, 0, none⟩)) bs w' ∧ Below B w w' ∧ Lib.OthersKept 5 (some b) w w') := by
  rcases h with h | h
  · refine (copy_fresh b w h.cell0 h.shape h.frozen0).mono ?_
    rintro e w' ⟨rfl, rfl⟩
    exact ⟨rfl, h.used _, (Below.refl B w).setCell (p := ⟨b, 0, none⟩) h.1 _, (Lib.OthersKept.refl _ _ w).setCell ⟨b, 0, none⟩ rfl _⟩
  · refine (copy_used b w h.cell0).mono ?_
    rintro e w' ⟨rfl, rfl⟩
    exact ⟨rfl, h, Below.refl B _, Lib.OthersKept.refl _ _ _⟩
theorem own_kind {w : World} {B : Nat} {v : Value} {n : Nat} {xs : List Value} (h : w.ownsRow B 5 1 v n xs) : ∀ k, v.ownBlock = some k → ∃ c fz, w.heap[k]? = some (.cells c 5 fz) := fun k hk => by
  obtain ⟨⟨cs, hb⟩, _⟩ := own_blk h hk
  exact ⟨cs, _, hb⟩
set_option maxRecDepth 100000 in
set_option maxHeartbeats 2000000 in
theorem wbyte_is (B b : Nat) (bs : List Value) (c : Int) (w : World) (h : Lib.IsBuilder 70 5 B b bs w) (hlen : bs.length + 1 ≤ 140737488355328) (hBw : B ≤ w.heap.size) :
    Calls Tryz.prog 45 #[.pointer (some ⟨b, 0, none⟩), .int .u8 c] w fun e w' => e = .returned .nilIface ∧ (Lib.BuilderAt 70 5 B b (.pointer (some ⟨b, 0, none⟩)) (bs ++ [.int .u8 c]) w' ∧ Below B w w' ∧ Lib.OthersKept 5 (some b) w w') := by
  obtain ⟨i0, hi, hz0, hz1, hz2⟩ := info_parts binfo
  have CP := Lib.hid (copy_is B b bs w h)
  have HL := Lib.hid (And.intro hlen hBw)
  clear h hlen hBw
  go_enter Tryz.func45, Tryz.ntmps45
  go_wp2_with fail
  with_reducible refine CP.out.mono ?_
  rintro e w1 ⟨rfl, h1, hb1, hk1⟩
  obtain ⟨hB, v, hbk, hown, hne⟩ := h1
  have c0 : w1.cell? ⟨b, 0, none⟩ = some (.pointer (some ⟨b, 0, none⟩)) := by rw [Lib.cell_of_heap hbk]; rfl
  have c1 : w1.cell? ⟨b, 1, none⟩ = some v := by rw [Lib.cell_of_heap hbk]; rfl
  obtain ⟨hlen, hBw⟩ := HL.out
  go_wp2_with (at_builtin; refine wpList_append_own _ rfl _ _ 68 rfl B 5 i0 (.int .u8 0) 1 1 Tryz.underlying68 hi hz0 hz1 hz2 rfl (by decide) _ _ _ rfl (hown.alloc _) ⟨w1.heap.size, 0, none⟩ 1 1 [.int .u8 c] rfl rfl ?c1 ?c2 ?c3 ?c4 ?c5 ?_)
  case c1 =>
    intro j u hj
    match j, hj with
    | 0, hj => simp at hj; subst hj; simp [Addr.add]
  case c2 => intro u hu; simp at hu; subst hu; rfl
  case c3 => unfold maxLen; omega
  case c4 => omega
  case c5 => have := hb1.size; simp; omega
  intro v' w2 hown' hgrow _
  have hlt : b < w1.heap.size := by
    rcases Nat.lt_or_ge b w1.heap.size with h' | h'
    · exact h'
    · simp [Array.getElem?_eq_none h'] at hbk
  have hb2 : w2.heap[b]? = some (.cells #[.pointer (some ⟨b, 0, none⟩), v] 70 (0, 0)) := by
    rw [hgrow.block b (by simp; omega) (fun e => hne e.symm), Lib.alloc_old w1 _ b hlt]
    exact hbk
  have d0 : w2.cell? ⟨b, 0, none⟩ = some (.pointer (some ⟨b, 0, none⟩)) := by rw [Lib.cell_of_heap hb2]; rfl
  have d1 : w2.cell? ⟨b, 1, none⟩ = some v := by rw [Lib.cell_of_heap hb2]; rfl
  have f1 : w2.frozen? ⟨b, 1, none⟩ = false := Lib.frozen_of_heap hb2 1
  obtain ⟨g, cap, rfl⟩ : ∃ g cap, v' = .slice (some ⟨g, 0, none⟩) (bs.length + 1) cap := by
    rcases hown'.2 with ⟨_, h0⟩ | ⟨g, cap, cur, hv, _⟩
    · omega
    · exact ⟨g, cap, hv⟩
  go_wp2
  go_ret
  refine ⟨rfl, ?_, ?_, ((hk1.alloc _).grown hgrow (own_kind (hown.alloc _))).setCell ⟨b, 1, none⟩ rfl _⟩
  · exact Lib.BuilderAt.put (T := 70) (e := 5) hB hb2 (bs' := bs ++ [.int .u8 c]) (by simpa using hown') (by decide)
  · exact ((hb1.alloc (by have := hb1.size; omega) _).grown hgrow (by have := hb1.size; simp; omega) (fun k hk => (hown.lt k hk).1)).setCell (p := ⟨b, 1, none⟩) hB _
set_option maxRecDepth 100000 in
set_option maxHeartbeats 2000000 in
theorem wstr_is (B b : Nat) (bs : List Value) (s : ByteArray) (w : World) (h : Lib.IsBuilder 70 5 B b bs w) (hlen : bs.length + s.size ≤ 140737488355328) (hBw : B ≤ w.heap.size) :
    Calls Tryz.prog 25 #[.pointer (some ⟨b, 0, none⟩), .string s] w fun e w' => e = .returned (.tuple #[.int .i64 s.size, .nilIface]) ∧ (Lib.BuilderAt 70 5 B b (.pointer (some ⟨b, 0, none⟩)) (bs ++ Lib.strCells s) w' ∧ Below B w w' ∧ Lib.OthersKept 5 (some b) w w') := by
  obtain ⟨i0, hi, hz0, hz1, hz2⟩ := info_parts binfo
  have CP := Lib.hid (copy_is B b bs w h)
  have HL := Lib.hid (And.intro hlen hBw)
  clear h hlen hBw
  go_enter Tryz.func25, Tryz.ntmps25
  go_wp2_with fail
  with_reducible refine CP.out.mono ?_
  rintro e w1 ⟨rfl, h1, hb1, hk1⟩
  obtain ⟨hB, v, hbk, hown, hne⟩ := h1
  have c0 : w1.cell? ⟨b, 0, none⟩ = some (.pointer (some ⟨b, 0, none⟩)) := by rw [Lib.cell_of_heap hbk]; rfl
  have c1 : w1.cell? ⟨b, 1, none⟩ = some v := by rw [Lib.cell_of_heap hbk]; rfl
  obtain ⟨hlen, hBw⟩ := HL.out
  go_wp2_with (at_builtin; refine Lib.wpList_append_own_string _ rfl _ _ 68 9 rfl B 5 i0 Tryz.underlying68 Tryz.underlying9 hi hz0 hz1 hz2 _ _ _ rfl hown s rfl ?c3 ?c4 ?c5 ?_)
  case c3 => unfold maxLen; omega
  case c4 => omega
  case c5 => have := hb1.size; omega
  intro v' w2 hown' hgrow _
  have hlt : b < w1.heap.size := by
    rcases Nat.lt_or_ge b w1.heap.size with h' | h'
    · exact h'
    · simp [Array.getElem?_eq_none h'] at hbk
  have hb2 : w2.heap[b]? = some (.cells #[.pointer (some ⟨b, 0, none⟩), v] 70 (0, 0)) := by
    rw [hgrow.block b hlt (fun e => hne e.symm)]
    exact hbk
  have d0 : w2.cell? ⟨b, 0, none⟩ = some (.pointer (some ⟨b, 0, none⟩)) := by rw [Lib.cell_of_heap hb2]; rfl
  have d1 : w2.cell? ⟨b, 1, none⟩ = some v := by rw [Lib.cell_of_heap hb2]; rfl
  have f1 : w2.frozen? ⟨b, 1, none⟩ = false := Lib.frozen_of_heap hb2 1
  obtain ⟨ao, n', cap, rfl⟩ : ∃ ao n' cap, v' = .slice ao n' cap := by
    rcases hown'.2 with ⟨hv, _⟩ | ⟨g, cap, cur, hv, _⟩
    · exact ⟨_, _, _, hv⟩
    · exact ⟨_, _, _, hv⟩
  go_wp2
  go_ret2
  refine ⟨rfl, ?_, ?_, (hk1.grown hgrow (own_kind hown)).setCell ⟨b, 1, none⟩ rfl _⟩
  · exact Lib.BuilderAt.put (T := 70) (e := 5) hB hb2 (bs' := bs ++ Lib.strCells s) (by simpa [Lib.strCells_length] using hown') (by decide)
  · exact (hb1.grown hgrow (by have := hb1.size; omega) (fun k hk => (hown.lt k hk).1)).setCell (p := ⟨b, 1, none⟩) hB _
end Go.Proofs.YtadogobdlcionaaGreatDoor
namespace Go.Proofs.YtadogobdlcionaaGreatDoor
open Go.ChangeShapes Go.WideShapes Go.ChangeAt Go.RowKit Go.Shelf
set_option linter.unusedVariables false
def Row5 (W : World) (k : Nat) : Prop := ∃ cs fz, W.heap[k]? = some (.cells cs 5 fz)
/-- All stays but the builder, and rows of bytes, behind B. -/
def KP (B b : Nat) (W W' : World) : Prop := Turn (fun k => B ≤ k ∧ (k = b ∨ Row5 W k)) W W'
/-- A builder, with its bytes. -/
def Bu (B b : Nat) (l : List UInt8) (W : World) : Prop := Lib.IsBuilder 70 5 B b (Lib.byteCells l) W
section
variable {B b : Nat} {W W' W2 : World} {l : List UInt8}
theorem KP.trans (h : KP B b W W') (k : KP B b W' W2) : KP B b W W2 :=
  ⟨k.os.trans h.os, k.tape.trans h.tape, k.output.trans h.output, Nat.le_trans h.size k.size, fun i hi h1 => (k.block i (Nat.lt_of_lt_of_le hi h.size) (fun q => h1 ⟨q.1, by
    rcases q.2 with q2 | ⟨cs, fz, q2⟩
    · exact .inl q2
    · exact .inr ⟨cs, fz, (h.block i hi h1).symm.trans q2⟩⟩)).trans (h.block i hi h1)⟩
theorem KP.quiet (T : Turn (fun _ => False) W W') : KP B b W W' := T.more (fun _ _ f => f.elim)
theorem KP.refl : KP B b W W := KP.quiet (Turn.refl _ _)
theorem KP.of (hb : Below B W W') (hk : Lib.OthersKept 5 (some b) W W') : KP B b W W' :=
  ⟨hb.os, hb.tape, hb.output, hb.size, fun i hi hn => by
    by_cases h : i < B
    · exact hb.block i h
    · obtain ⟨o, ho⟩ : ∃ o, W.heap[i]? = some o := ⟨_, Array.getElem?_eq_getElem hi⟩
      rw [ho]
      refine hk i o ho ?_ ?_
      · intro q
        exact hn ⟨by omega, .inl (by first | exact q.symm | exact (Option.some.inj q).symm | exact Option.some.inj q | exact q)⟩
      · rintro cs fz rfl
        exact hn ⟨by omega, .inr ⟨cs, fz, ho⟩⟩⟩
theorem KP.cell (h : KP B b W W') {k i : Nat} {t : TypeId} {x : Value} (hk : Blk W k t) (ht : t ≠ 5) (hb : k ≠ b) (hc : W.cell? ⟨k, i, none⟩ = some x) : W'.cell? ⟨k, i, none⟩ = some x :=
  Turn.cell h (fun q => by
    obtain ⟨-, q | ⟨cs, fz, q⟩⟩ := q
    · exact hb q
    · obtain ⟨cs', hk⟩ := hk
      rw [q] at hk
      injection hk with hk
      injection hk with _ hk
      exact ht hk.symm) hc
theorem KP.off (h : KP B b W W') {k : Nat} {t : TypeId} (hk : Blk W k t) (ht : t ≠ 5) (hb : k ≠ b) : ¬ (B ≤ k ∧ (k = b ∨ Row5 W k)) := fun q => by
    obtain ⟨-, q | ⟨cs, fz, q⟩⟩ := q
    · exact hb q
    · obtain ⟨cs', hk⟩ := hk
      rw [q] at hk
      injection hk with hk
      injection hk with _ hk
      exact ht hk.symm
theorem Bu.blk (h : Bu B b l W) : Blk W b 70 ∧ B ≤ b := by
  rcases h with ⟨h1, v, h2, -⟩ | ⟨h1, v, h2, -⟩
  · exact ⟨⟨_, h2⟩, h1⟩
  · exact ⟨⟨_, h2⟩, h1⟩
theorem Bu.turn {S : Nat → Prop} (h : Bu B b l W) (T : Turn S W W') (hs : ∀ k, (k = b ∨ Row5 W k) → ¬ S k) : Bu B b l W' := by
  have hlt := h.blk.1.lt
  have key : ∀ p, Lib.BuilderAt 70 5 B b p (Lib.byteCells l) W → Lib.BuilderAt 70 5 B b p (Lib.byteCells l) W' := by
    rintro p ⟨h1, v, h2, h3, h4⟩
    refine ⟨h1, v, (T.block b hlt (hs b (.inl rfl))).trans h2, own_turn h3 T (fun k hk => hs k (.inr ?_)), h4⟩
    obtain ⟨⟨cs, hb⟩, -⟩ := own_blk h3 hk
    exact ⟨cs, _, hb⟩
  exact h.imp (key _) (key _)
theorem Bu.quiet (h : Bu B b l W) (T : Turn (fun _ => False) W W') : Bu B b l W' := h.turn T (fun _ _ f => f)
/-- A new builder. -/
theorem Bu.new (W : World) : Bu B W.heap.size [] (W.alloc (.cells #[.pointer none, .slice none 0 0] 70)) ∨ W.heap.size < B := by
  by_cases h : W.heap.size < B
  · exact .inr h
  · refine .inl (.inl ⟨by omega, .slice none 0 0, ?_, World.ownsRow_nil .., by simp [Value.ownBlock]⟩)
    show (Array.push _ _)[_]? = _
    simp
theorem wb_is (c : UInt8) (h : Bu B b l W) (hlen : l.length + 1 ≤ 140737488355328) (hBw : B ≤ W.heap.size) :
    Calls Tryz.prog 45 #[.pointer (some ⟨b, 0, none⟩), .int .u8 (c.toNat : Int)] W fun e w' => e = .returned .nilIface ∧ Bu B b (l ++ [c]) w' ∧ KP B b W w' := by
  refine (wbyte_is B b _ _ W h (by rw [Lib.byteCells_length]; exact hlen) hBw).mono ?_
  rintro e w' ⟨rfl, h1, h2, h3⟩
  refine ⟨rfl, .inr ?_, KP.of h2 h3⟩
  rw [Lib.byteCells_append]
  exact h1
theorem ws_is (s : ByteArray) (h : Bu B b l W) (hlen : l.length + s.size ≤ 140737488355328) (hBw : B ≤ W.heap.size) :
    Calls Tryz.prog 25 #[.pointer (some ⟨b, 0, none⟩), .string s] W fun e w' => e = .returned (.tuple #[.int .i64 s.size, .nilIface]) ∧ Bu B b (l ++ s.data.toList) w' ∧ KP B b W w' := by
  refine (wstr_is B b _ s W h (by rw [Lib.byteCells_length]; exact hlen) hBw).mono ?_
  rintro e w' ⟨rfl, h1, h2, h3⟩
  refine ⟨rfl, .inr ?_, KP.of h2 h3⟩
  rw [Lib.byteCells_append]
  exact h1
theorem str_is (h : Bu B b l W) (hBw : B ≤ W.heap.size) : Calls Tryz.prog 30 #[.pointer (some ⟨b, 0, none⟩)] W fun e w' => e = .returned (.string ⟨l.toArray⟩) ∧ Below B W w' := Tryz.Builder_String_any B b l W h hBw
end
end Go.Proofs.YtadogobdlcionaaGreatDoor
namespace Go.Proofs.YtadogobdlcionaaGreatDoor
open Go.ChangeShapes Go.WideShapes Go.ChangeAt Go.RowKit Go.Shelf
set_option linter.unusedVariables false
abbrev Pcs := List (Nat × ByteArray)
def blP (P : Pcs) : List Nat := P.map (·.1)
def txP (P : Pcs) : List ByteArray := P.map (·.2)
/-- A chain of pieces in memory. -/
def ChAt (W : World) : Pcs → Option Addr → Prop
  | [], p => p = none
  | x :: r, p => p = some ⟨x.1, 0, none⟩ ∧ Blk W x.1 138 ∧ W.cell? ⟨x.1, 0, none⟩ = some (.string x.2) ∧ ∃ q, W.cell? ⟨x.1, 1, none⟩ = some (.pointer q) ∧ ChAt W r q
theorem ChAt.turn {W W' : World} {S : Nat → Prop} (T : Turn S W W') : ∀ {P : Pcs} {p : Option Addr}, ChAt W P p → (∀ k ∈ blP P, ¬ S k) → ChAt W' P p
  | [], _, h, _ => h
  | x :: r, _, ⟨e, b, c, q, d, h⟩, hs =>
    have hx : ¬ S x.1 := hs x.1 (by simp [blP])
    ⟨e, b.turn T hx, T.cell hx c, q, T.cell hx d, ChAt.turn T h (fun k hk => hs k (by simp [blP] at hk ⊢; exact .inr hk))⟩
theorem ChAt.blk {W : World} : ∀ {P : Pcs} {p : Option Addr}, ChAt W P p → ∀ k ∈ blP P, Blk W k 138
  | x :: r, _, ⟨_, b, _, _, _, h⟩, k, hk => by
    simp only [blP, List.map_cons, List.mem_cons] at hk
    rcases hk with rfl | hk
    · exact b
    · exact ChAt.blk h k hk
/-- Two chains become one. -/
theorem ChAt.join {W : World} : ∀ {P : Pcs} {x : Nat × ByteArray} {R : Pcs} {p q : Option Addr}, ChAt W (P ++ [x]) p → ChAt W R q → (blP (P ++ [x] ++ R)).Nodup → ChAt (W.setCell ⟨x.1, 1, none⟩ (.pointer q)) (P ++ [x] ++ R) p
  | [], x, R, p, q, ⟨e, b, c, q', d, h⟩, hr, hn => by
    have T := Turn.put W x.1 1 (.pointer q)
    refine ⟨e, b.set _ _, (cell_off _ _ _ _ _ (by decide)).trans c, q, World.cell?_setCell_same _ _ _ d, ?_⟩
    refine hr.turn T (fun k hk e => ?_)
    subst e
    simp only [blP, List.nil_append, List.singleton_append, List.map_cons, List.nodup_cons] at hn
    exact hn.1 hk
  | y :: P, x, R, p, q, ⟨e, b, c, q', d, h⟩, hr, hn => by
    have hn2 : (y.1 ∉ (blP (P ++ [x] ++ R))) ∧ (blP (P ++ [x] ++ R)).Nodup := by
      simpa only [blP, List.cons_append, List.map_cons, List.nodup_cons] using hn
    have hyx : y.1 ≠ x.1 := fun e => hn2.1 (by simp [blP, e])
    have T := Turn.put W x.1 1 (.pointer q)
    exact ⟨e, b.turn T hyx, (cell_far _ _ _ _ _ _ (Ne.symm hyx)).trans c, q', (cell_far _ _ _ _ _ _ (Ne.symm hyx)).trans d, ChAt.join h hr hn2.2⟩
/-- A part: its first and its last piece, and how closely it holds. -/
def PartAt (W : World) (P : Pcs) (h : Int) (v : Value) : Prop := ∃ Q x a, P = Q ++ [x] ∧ v = .agg #[.pointer (some a), .pointer (some ⟨x.1, 0, none⟩), .int .i64 h] ∧ ChAt W P (some a) ∧ (blP P).Nodup
theorem PartAt.turn {W W' : World} {S : Nat → Prop} {P : Pcs} {h : Int} {v : Value} (hp : PartAt W P h v) (T : Turn S W W') (hs : ∀ k ∈ blP P, ¬ S k) : PartAt W' P h v := by
  obtain ⟨Q, x, a, e1, e2, e3, e4⟩ := hp
  exact ⟨Q, x, a, e1, e2, e3.turn T hs, e4⟩
theorem PartAt.blk {W : World} {P : Pcs} {h : Int} {v : Value} (hp : PartAt W P h v) : ∀ k ∈ blP P, Blk W k 138 := by
  obtain ⟨Q, x, a, e1, e2, e3, e4⟩ := hp
  exact e3.blk
/-- A part that was made out of others. -/
def Made (W W' : World) (old : List Nat) (ts : List ByteArray) (h : Int) (v : Value) : Prop := ∃ P : Pcs, txP P = ts ∧ PartAt W' P h v ∧ (∀ k ∈ blP P, k ∈ old ∨ W.heap.size ≤ k) ∧ Turn (fun k => k ∈ old) W W'
theorem size91 : (Tryz.prog.info? 129).map (fun i => i.size) = some 3 := by kernel_rfl
def ptL (a b : Option Addr) (h : Int) : List Value := [.pointer a, .pointer b, .int .i64 h]
abbrev zpt : List Value := [.pointer none, .pointer none, .int .i64 0]
/-- A part is written to the result. -/
theorem part_end {W : World} {fn : Func} {n b : Nat} {act : Act} {Q : Ending → World → Prop} (hr : fn.results = #[.cell n 129]) {l : List Value} (R : W.rangeAt b 0 l) (hl : l.length = 3) (B : Blk W b 129) (x y : Option Addr) (h : Int) (hd : act.defers = []) (hp : act.tmps.getD n undef = .pointer (some ⟨b, 0, none⟩))
    (hq : ∀ W', Turn (fun k => k = b) W W' → Q (.returned (.agg #[.pointer x, .pointer y, .int .i64 h])) W') :
    bodyPost Tryz.prog fn Q Exit.ret act (((W.setCell ⟨b, 0, none⟩ (.pointer x)).setCell ⟨b, 1, none⟩ (.pointer y)).setCell ⟨b, 2, none⟩ (.int .i64 h)) :=
  have R2 := World.rangeAt_setCells_same W b 0 (ptL x y h) (range_there R hl B)
  bodyPost_ret (v := .agg #[.pointer x, .pointer y, .int .i64 h]) (res_cell hr hp (run_loadVar_mid _ b 0 129 _ _ R2 Tryz.underlying129 rfl size91)) hd (hq _ (Turn.setCells (ptL x y h) 0 (Turn.refl _ _) (.inl rfl)))
set_option maxRecDepth 100000 in
set_option maxHeartbeats 2000000 in
theorem single_is (w : World) (t : ByteArray) : Calls Tryz.prog 69 #[.string t] w fun y w' => ∃ v, y = .returned v ∧ Made w w' [] [t] 2 v := by
  obtain ⟨W, hW⟩ : ∃ W, W = (w.alloc (.cells #[.pointer none, .pointer none, .int .i64 0] 129)).alloc (.cells #[.string t, .pointer none] 138) := ⟨_, rfl⟩
  have T0 : Turn (fun _ => False) w W := by rw [hW]; exact ((Turn.refl _ _).alloc _).alloc _
  have RR : W.rangeAt w.heap.size 0 zpt := by rw [hW]; exact range_turn (range_new w zpt 129) ((Turn.refl (fun _ => False) _).alloc _) id
  have BR : Blk W w.heap.size 129 := by rw [hW]; exact (Blk.new w zpt 129).turn ((Turn.refl (fun _ => False) _).alloc _) id
  have RE : W.rangeAt (w.heap.size + 1) 0 [.string t, .pointer none] := by rw [hW]; have := range_new (w.alloc (.cells #[.pointer none, .pointer none, .int .i64 0] 129)) [.string t, .pointer none] 138; rw [World.size_alloc] at this; exact this
  have BE : Blk W (w.heap.size + 1) 138 := by rw [hW]; have := Blk.new (w.alloc (.cells #[.pointer none, .pointer none, .int .i64 0] 129)) [.string t, .pointer none] 138; rw [World.size_alloc] at this; exact this
  have y0 := RR 0 _ rfl
  have y1 := RR 1 _ rfl
  have y2 := RR 2 _ rfl
  have ff := BR.fz
  have HW := Lib.hid hW
  have F := Lib.hid (And.intro T0 (And.intro RR (And.intro BR (And.intro RE BE))))
  clear hW T0 RR BR RE BE
  go_enter Tryz.func69, Tryz.ntmps69
  go_upto_region 2 with fail
  rw [← HW.out]
  clear HW
  go_wp2_with fail
  refine part_end rfl F.out.2.1 rfl F.out.2.2.1 _ _ _ rfl rfl (fun W' T => ?_)
  have TT : Turn (fun _ => False) w W' := F.out.1.comp T (fun k hk q => by omega)
  refine ⟨_, rfl, [(w.heap.size + 1, t)], rfl, ⟨[], (w.heap.size + 1, t), _, rfl, rfl, ⟨rfl, F.out.2.2.2.2.turn T (by omega), T.cell (by omega) (F.out.2.2.2.1 0 _ rfl), none, T.cell (by omega) (F.out.2.2.2.1 1 _ rfl), rfl⟩, by simp [blP]⟩, fun k hk => .inr (by simp [blP] at hk; omega), TT.more (fun _ _ f => f.elim)⟩
end Go.Proofs.YtadogobdlcionaaGreatDoor
namespace Go.Proofs.YtadogobdlcionaaGreatDoor
open Go.ChangeShapes Go.WideShapes Go.ChangeAt Go.RowKit Go.Shelf
set_option linter.unusedVariables false
theorem ChAt.last {W : World} : ∀ {P : Pcs} {x : Nat × ByteArray} {p : Option Addr}, ChAt W (P ++ [x]) p → Blk W x.1 138 ∧ W.cell? ⟨x.1, 1, none⟩ = some (.pointer none)
  | [], x, p, ⟨_, b, _, q, d, e⟩ => by
    rw [show q = none from e] at d
    exact ⟨b, d⟩
  | y :: P, x, p, ⟨_, _, _, _, _, h⟩ => ChAt.last h
set_option maxRecDepth 100000 in
set_option maxHeartbeats 2000000 in
theorem join_is (w : World) {Pa Pb : Pcs} {ha hb : Int} {va vb : Value} (h1 : PartAt w Pa ha va) (h2 : PartAt w Pb hb vb) (hn : (blP (Pa ++ Pb)).Nodup) (hold : Int) :
    Calls Tryz.prog 71 #[va, vb, .int .i64 hold] w fun y w' => ∃ v, y = .returned v ∧ Made w w' (blP (Pa ++ Pb)) (txP (Pa ++ Pb)) hold v := by
  obtain ⟨Q, x, a, rfl, rfl, c1, n1⟩ := h1
  obtain ⟨Q2, z, a2, e2, rfl, c2, n2⟩ := h2
  obtain ⟨W, hW⟩ : ∃ W, W = ((w.alloc (.cells #[.pointer (some a), .pointer (some ⟨x.1, 0, none⟩), .int .i64 ha] 129)).alloc (.cells #[.pointer (some a2), .pointer (some ⟨z.1, 0, none⟩), .int .i64 hb] 129)).alloc (.cells #[.pointer none, .pointer none, .int .i64 0] 129) := ⟨_, rfl⟩
  have T0 : Turn (fun _ => False) w W := by rw [hW]; exact (((Turn.refl _ _).alloc _).alloc _).alloc _
  have U1 : Turn (fun _ => False) (w.alloc (.cells #[.pointer (some a), .pointer (some ⟨x.1, 0, none⟩), .int .i64 ha] 129)) W := by rw [hW]; exact ((Turn.refl _ _).alloc _).alloc _
  have U2 : Turn (fun _ => False) ((w.alloc (.cells #[.pointer (some a), .pointer (some ⟨x.1, 0, none⟩), .int .i64 ha] 129)).alloc (.cells #[.pointer (some a2), .pointer (some ⟨z.1, 0, none⟩), .int .i64 hb] 129)) W := by rw [hW]; exact (Turn.refl _ _).alloc _
  have R1 : W.rangeAt w.heap.size 0 (ptL (some a) (some ⟨x.1, 0, none⟩) ha) := range_turn (range_new w (ptL (some a) (some ⟨x.1, 0, none⟩) ha) 129) U1 id
  have R2 : W.rangeAt (w.heap.size + 1) 0 (ptL (some a2) (some ⟨z.1, 0, none⟩) hb) := by
    have := range_turn (range_new (w.alloc (.cells #[.pointer (some a), .pointer (some ⟨x.1, 0, none⟩), .int .i64 ha] 129)) (ptL (some a2) (some ⟨z.1, 0, none⟩) hb) 129) U2 id
    rw [World.size_alloc] at this; exact this
  have R3 : W.rangeAt (w.heap.size + 2) 0 zpt := by
    have := range_new ((w.alloc (.cells #[.pointer (some a), .pointer (some ⟨x.1, 0, none⟩), .int .i64 ha] 129)).alloc (.cells #[.pointer (some a2), .pointer (some ⟨z.1, 0, none⟩), .int .i64 hb] 129)) zpt 129
    rw [World.size_alloc, World.size_alloc] at this; rw [hW]; exact this
  have B3 : Blk W (w.heap.size + 2) 129 := by
    have := Blk.new ((w.alloc (.cells #[.pointer (some a), .pointer (some ⟨x.1, 0, none⟩), .int .i64 ha] 129)).alloc (.cells #[.pointer (some a2), .pointer (some ⟨z.1, 0, none⟩), .int .i64 hb] 129)) zpt 129
    rw [World.size_alloc, World.size_alloc] at this; rw [hW]; exact this
  obtain ⟨bx, lx⟩ := c1.last
  have hx := bx.lt
  have fx := (bx.turn T0 id).fz
  have dx := T0.cell id lx
  have C := (c1.turn T0 (fun _ _ => id)).join (c2.turn T0 (fun _ _ => id)) hn
  have TP := Turn.put W x.1 1 (.pointer (some a2))
  have d1 := R1 0 _ rfl
  have d2 := R1 1 _ rfl
  have d3 := R2 0 _ rfl
  obtain ⟨W2, hW2⟩ : ∃ X, X = W.setCell ⟨x.1, 1, none⟩ (.pointer (some a2)) := ⟨_, rfl⟩
  rw [← hW2] at C TP
  have e1 : W2.cell? ⟨w.heap.size, 0, none⟩ = some (.pointer (some a)) := TP.cell (by omega) (R1 0 _ rfl)
  have e4 : W2.cell? ⟨w.heap.size + 1, 1, none⟩ = some (.pointer (some ⟨z.1, 0, none⟩)) := TP.cell (by omega) (R2 1 _ rfl)
  have R3' := range_turn R3 TP (by omega)
  have B3' := B3.turn TP (by omega)
  have y0 : W2.cell? ⟨w.heap.size + 2, 0, none⟩ = some (.pointer none) := R3' 0 _ rfl
  have y1 : W2.cell? ⟨w.heap.size + 2, 1, none⟩ = some (.pointer none) := R3' 1 _ rfl
  have y2 : W2.cell? ⟨w.heap.size + 2, 2, none⟩ = some (.int .i64 0) := R3' 2 _ rfl
  have ff := B3'.fz
  have HW := Lib.hid hW
  have HW2 := Lib.hid hW2
  have HE := Lib.hid (And.intro e2 (And.intro hn hx))
  have BL := Lib.hid (fun k (hk : k ∈ blP (Q ++ [x] ++ Pb)) => C.blk k hk)
  have LT : ∀ k ∈ blP (Q ++ [x] ++ Pb), k < w.heap.size := fun k hk => by
    simp only [blP, List.map_append, List.mem_append] at hk
    rcases hk with hk | hk
    · exact (c1.blk k (by simpa [blP] using hk)).lt
    · exact (c2.blk k hk).lt
  have F := Lib.hid (And.intro T0 (And.intro TP (And.intro C (And.intro R3' (And.intro B3' LT)))))
  clear hW T0 TP C R1 R2 R3 B3 R3' B3' c1 c2 n1 n2 lx bx hn e2 hW2 U1 U2 hx LT
  go_enter Tryz.func71, Tryz.ntmps71
  go_upto_region 1 with fail
  rw [← HW.out]
  clear HW
  go_upto_region 2 with fail
  rw [← HW2.out]
  clear HW2
  go_wp2_with fail
  refine part_end rfl F.out.2.2.2.1 rfl F.out.2.2.2.2.1 _ _ _ rfl rfl (fun W' T => ?_)
  refine ⟨_, rfl, Q ++ [x] ++ Pb, rfl, ⟨Q ++ [x] ++ Q2, z, a, by rw [HE.out.1]; simp, rfl, F.out.2.2.1.turn T (fun k hk q => by have := F.out.2.2.2.2.2 k hk; omega), HE.out.2.1⟩, fun k hk => .inl hk, ?_⟩
  have hx := HE.out.2.2
  refine ((F.out.1.more (S' := fun k => k ∈ blP (Q ++ [x] ++ Pb)) (fun _ _ f => f.elim)).trans (F.out.2.1.more (fun k hk q => ?_))).comp T (fun k hk q => by omega)
  subst q
  simp [blP]
end Go.Proofs.YtadogobdlcionaaGreatDoor
namespace Go.Proofs.YtadogobdlcionaaGreatDoor
open Go.ChangeShapes Go.WideShapes Go.ChangeAt Go.RowKit Go.Shelf
set_option linter.unusedVariables false
theorem blP_append (P Q : Pcs) : blP (P ++ Q) = blP P ++ blP Q := by simp [blP]
theorem txP_append (P Q : Pcs) : txP (P ++ Q) = txP P ++ txP Q := by simp [txP]
theorem PartAt.nodup {W : World} {P : Pcs} {h : Int} {v : Value} (hp : PartAt W P h v) : (blP P).Nodup := by
  obtain ⟨Q, x, a, e1, e2, e3, e4⟩ := hp
  exact e4
theorem Made.up {w W W' : World} {old old2 : List Nat} {ts : List ByteArray} {h : Int} {v : Value} (M : Made W W' old2 ts h v) (T : Turn (fun k => k ∈ old) w W) (hs : ∀ k ∈ old2, k ∈ old ∨ w.heap.size ≤ k) : Made w W' old ts h v := by
  obtain ⟨P, a, b, c, d⟩ := M
  have := T.size
  refine ⟨P, a, b, fun k hk => ?_, T.comp d (fun k hk q => (hs k q).resolve_right (by omega))⟩
  rcases c k hk with q | q
  · exact hs k q
  · exact .inr (by omega)
abbrev opB : ByteArray := ⟨#[40]⟩
abbrev shB : ByteArray := ⟨#[41]⟩
/-- At least so close. -/
def leastT (p : List ByteArray × Int) (k : Int) : List ByteArray × Int := if k ≤ p.2 then p else ([opB] ++ p.1 ++ [shB], 2)
/-- The box of a part, and that of the result. -/
def Box2 (W : World) (N : Nat) (a b : Addr) (h : Int) (M : Nat) : Prop :=
  (W.cell? ⟨N, 0, none⟩ = some (.pointer (some a)) ∧ W.cell? ⟨N, 1, none⟩ = some (.pointer (some b)) ∧ W.cell? ⟨N, 2, none⟩ = some (.int .i64 h)) ∧ W.rangeAt M 0 zpt ∧ Blk W M 129
theorem Box2.turn {W W' : World} {N M : Nat} {a b : Addr} {h : Int} (s : Box2 W N a b h M) (T : Turn (fun _ => False) W W') : Box2 W' N a b h M :=
  ⟨⟨T.cell id s.1.1, T.cell id s.1.2.1, T.cell id s.1.2.2⟩, range_turn s.2.1 T id, s.2.2.turn T id⟩
theorem Box2.turnS {W W' : World} {N M : Nat} {a b : Addr} {h : Int} {old : List Nat} (s : Box2 W N a b h M) (T : Turn (fun k => k ∈ old) W W') (hs : ∀ k ∈ old, k ≠ N ∧ k ≠ M) : Box2 W' N a b h M :=
  have h1 : ¬ N ∈ old := fun q => (hs N q).1 rfl
  have h2 : ¬ M ∈ old := fun q => (hs M q).2 rfl
  ⟨⟨T.cell h1 s.1.1, T.cell h1 s.1.2.1, T.cell h1 s.1.2.2⟩, range_turn s.2.1 T h2, s.2.2.turn T h2⟩
set_option maxRecDepth 100000 in
set_option maxHeartbeats 4000000 in
theorem least_is (w : World) {P : Pcs} {h : Int} {v : Value} (hp : PartAt w P h v) (k : Int) :
    Calls Tryz.prog 72 #[v, .int .i64 k] w fun y w' => ∃ v', y = .returned v' ∧ Made w w' (blP P) (leastT (txP P, h) k).1 (leastT (txP P, h) k).2 v' := by
  have HP0 := hp
  obtain ⟨Q, x, a, e, rfl, c, n⟩ := hp
  obtain ⟨W, hW⟩ : ∃ W, W = (w.alloc (.cells #[.pointer (some a), .pointer (some ⟨x.1, 0, none⟩), .int .i64 h] 129)).alloc (.cells #[.pointer none, .pointer none, .int .i64 0] 129) := ⟨_, rfl⟩
  have T0 : Turn (fun _ => False) w W := by rw [hW]; exact ((Turn.refl _ _).alloc _).alloc _
  have U1 : Turn (fun _ => False) (w.alloc (.cells #[.pointer (some a), .pointer (some ⟨x.1, 0, none⟩), .int .i64 h] 129)) W := by rw [hW]; exact (Turn.refl _ _).alloc _
  have R1 : W.rangeAt w.heap.size 0 (ptL (some a) (some ⟨x.1, 0, none⟩) h) := range_turn (range_new w (ptL (some a) (some ⟨x.1, 0, none⟩) h) 129) U1 id
  have B1 : Blk W w.heap.size 129 := (Blk.new w (ptL (some a) (some ⟨x.1, 0, none⟩) h) 129).turn U1 id
  have R3 : W.rangeAt (w.heap.size + 1) 0 zpt := by
    have := range_new (w.alloc (.cells #[.pointer (some a), .pointer (some ⟨x.1, 0, none⟩), .int .i64 h] 129)) zpt 129
    rw [World.size_alloc] at this; rw [hW]; exact this
  have B3 : Blk W (w.heap.size + 1) 129 := by
    have := Blk.new (w.alloc (.cells #[.pointer (some a), .pointer (some ⟨x.1, 0, none⟩), .int .i64 h] 129)) zpt 129
    rw [World.size_alloc] at this; rw [hW]; exact this
  have SB : Box2 W w.heap.size a ⟨x.1, 0, none⟩ h (w.heap.size + 1) := ⟨⟨R1 0 _ rfl, R1 1 _ rfl, R1 2 _ rfl⟩, R3, B3⟩
  have LT : ∀ c ∈ blP P, c < w.heap.size := fun c hc => (HP0.blk c hc).lt
  have HW := Lib.hid hW
  have d0 := R1 0 _ rfl
  have d1 := R1 1 _ rfl
  have d2 := R1 2 _ rfl
  have y0 := R3 0 _ rfl
  have y1 := R3 1 _ rfl
  have y2 := R3 2 _ rfl
  have ff := B3.fz
  have HH := Lib.hid (And.intro HP0 (And.intro T0 (And.intro SB (And.intro LT B1))))
  have HE := Lib.hid e
  clear hW T0 U1 R1 R3 B3 SB LT HP0 c n e B1
  by_cases hk : k ≤ h
  · have u1 : decide (h ≥ k) = true := decide_eq_true hk
    have u2 : decide (k ≤ h) = true := decide_eq_true hk
    have HK := Lib.hid hk
    clear hk
    go_enter Tryz.func72, Tryz.ntmps72
    go_upto_region 1 with fail
    rw [← HW.out]
    clear HW
    go_wp2_with fail
    refine part_end rfl HH.out.2.2.1.2.1 rfl HH.out.2.2.1.2.2 _ _ _ rfl rfl (fun W' T => ?_)
    rw [show leastT (txP P, h) k = (txP P, h) from if_pos HK.out]
    have HT := HH.out.2.1
    have HL := HH.out.2.2.2.1
    exact ⟨_, rfl, P, rfl, (HH.out.1.turn HT (fun _ _ => id)).turn T (fun c hc q => by have := HL c hc; omega), fun c hc => .inl hc, (HT.more (fun _ _ f => f.elim)).comp T (fun c hc q => by omega)⟩
  · have u1 : decide (h ≥ k) = false := decide_eq_false (by omega)
    have u2 : decide (k ≤ h) = false := decide_eq_false hk
    have HK := Lib.hid hk
    clear hk
    go_enter Tryz.func72, Tryz.ntmps72
    go_upto_region 1 with fail
    rw [← HW.out]
    clear HW
    go_upto_region 3 with fail
    have TD : Turn (fun _ => False) W W.drew := (Turn.refl _ _).drewN 1
    have PD := (HH.out.1.turn HH.out.2.1 (fun _ _ => id)).turn TD (fun _ _ => id)
    have S3 := HH.out.2.2.1.turn TD
    have sD := S3.1
    have SZ : w.heap.size + 1 < W.heap.size := S3.2.2.lt
    have LT0 : ∀ c ∈ blP P, c < w.heap.size := HH.out.2.2.2.1
    have A0 : Turn (fun k => k ∈ blP P) w W.drew := (HH.out.2.1.trans TD).more (fun _ _ f => f.elim)
    have LT : ∀ c ∈ blP P, c < W.heap.size := fun c hc => Nat.lt_of_lt_of_le (HH.out.2.2.2.1 c hc) HH.out.2.1.size
    clear d0 d1 d2 y0 y1 y2 ff
    refine lany_start 5 (fun zb w' => zb = false → (fun w' => w'.cell? ⟨w.heap.size, 0, none⟩ = some (.pointer (some a)) ∧ w'.cell? ⟨w.heap.size, 1, none⟩ = some (.pointer (some ⟨x.1, 0, none⟩)) ∧ w'.cell? ⟨w.heap.size, 2, none⟩ = some (.int .i64 h)) w') (by kernel_rfl) ?hs0 (fun hS0 => ?_)
    case hs0 => exact fun _ => sD
    refine LAny.take (i := 1) (oi := { dst := some 11, op := Op.load 129 (Operand.tmp 2), type := 129, pos := "print.go:44", after := #[], guard := none }) (v := ?_) rfl (by kernel_rfl) (by kernel_rfl) (by kernel_rfl) (by kernel_rfl) (fun _ _ _ h => h) (Or.inl ⟨by rfl, ?hy1⟩) hS0 ?_
    case hy1 => (intro w hSw; have hSw := hSw rfl; (try dsimp only at hSw); go_simp; try with_reducible rfl)
    try simp only [Act.put, List.setIfInBounds_toArray, List.set_cons_zero, List.set_cons_succ]
    refine LAny.one (i := 0) (o := { dst := some 10, op := Op.call { callee := Callee.value (Operand.func 69), args := #[Operand.const (Value.string { data := #[40] })], argTypes := #[9] }, type := 129, pos := "print.go:44", after := #[], guard := none }) (b := false) (by kernel_rfl) rfl (by kernel_rfl) (fun K hK => ?_)
    go_simp
    with_reducible refine (single_is _ _).mono ?_
    rintro y W1 ⟨v1, rfl, M1⟩
    obtain ⟨P1, t1, q1, b1, T1⟩ := M1
    have T1 : Turn (fun _ => False) W.drew W1 := T1.more (fun k _ q => by cases q)
    have PW1 := (PD.turn T1 (fun _ _ => id))
    have s1 := S3.turn T1
    have A1 : Turn (fun k => k ∈ blP P) w W1 := A0.trans (T1.more (fun _ _ f => f.elim))
    have nd1 : (blP (P1 ++ P)).Nodup := by
      rw [blP_append, List.nodup_append]
      refine ⟨q1.nodup, PD.nodup, fun c hc d hd e => ?_⟩
      subst e
      have := b1 c hc
      have := LT c hd
      simp at *
      omega
    go_simp
    refine hK.out _ _ ?hs2 (fun hS2 => ?_)
    case hs2 => exact fun _ => s1.1
    clear hK K hS0
    refine LAny.one (i := 2) (o := { dst := some 12, op := Op.call { callee := Callee.value (Operand.func 71), args := #[Operand.tmp 10, Operand.tmp 11, Operand.const (Value.int IntKind.i64 2)], argTypes := #[129, 129, 3] }, type := 129, pos := "print.go:44", after := #[{ on := 0, ground := Ground.data }, { on := 1, ground := Ground.data }, { on := 0, ground := Ground.chain }], guard := none }) (b := false) (by kernel_rfl) rfl (by kernel_rfl) (fun K hK => ?_)
    go_simp
    with_reducible refine (join_is _ q1 PW1 nd1 2).mono ?_
    rintro y W2 ⟨v2, rfl, M2⟩
    obtain ⟨P2, t2, q2, b2, T2⟩ := M2
    have z1 : W.heap.size ≤ W1.heap.size := T1.size
    have s2 := s1.turnS T2 (fun k hk => by
      rw [blP_append, List.mem_append] at hk
      rcases hk with hk | hk
      · have := b1 k hk
        simp at this
        omega
      · have := LT0 k hk
        omega)
    have A2 : Turn (fun k => k ∈ blP P) w W2 := A1.comp T2 (fun k hk q => by
      rw [blP_append, List.mem_append] at q
      rcases q with q | q
      · have := b1 k q
        simp at this
        omega
      · exact q)
    have N2 : ∀ k ∈ blP P2, k ∈ blP P ∨ W.heap.size ≤ k := fun k hk => by
      rcases b2 k hk with q | q
      · rw [blP_append, List.mem_append] at q
        rcases q with q | q
        · have := b1 k q
          simp at this
          exact .inr this
        · exact .inl q
      · exact .inr (by omega)
    go_simp
    refine hK.out _ _ ?hs3 (fun hS3 => ?_)
    case hs3 => exact fun _ => s2.1
    clear hK K hS2
    refine LAny.one (i := 3) (o := { dst := some 13, op := Op.call { callee := Callee.value (Operand.func 69), args := #[Operand.const (Value.string { data := #[41] })], argTypes := #[9] }, type := 129, pos := "print.go:44", after := #[{ on := 2, ground := Ground.chain }], guard := none }) (b := false) (by kernel_rfl) rfl (by kernel_rfl) (fun K hK => ?_)
    go_simp
    with_reducible refine (single_is _ _).mono ?_
    rintro y W3 ⟨v3, rfl, M3⟩
    obtain ⟨P3, t3, q3, b3, T3⟩ := M3
    have T3 : Turn (fun _ => False) W2 W3 := T3.more (fun k _ q => by cases q)
    have q2' := q2.turn T3 (fun _ _ => id)
    have s3 := s2.turn T3
    have nd2 : (blP (P2 ++ P3)).Nodup := by
      rw [blP_append, List.nodup_append]
      refine ⟨q2.nodup, q3.nodup, fun c hc d hd e => ?_⟩
      subst e
      have := b3 c hd
      have := (q2.blk c hc).lt
      simp at *
      omega
    go_simp
    refine hK.out _ _ ?hs4 (fun hS4 => ?_)
    case hs4 => exact fun _ => s3.1
    clear hK K hS3
    refine LAny.one (i := 4) (o := { dst := some 14, op := Op.call { callee := Callee.value (Operand.func 71), args := #[Operand.tmp 12, Operand.tmp 13, Operand.const (Value.int IntKind.i64 2)], argTypes := #[129, 129, 3] }, type := 129, pos := "print.go:44", after := #[{ on := 2, ground := Ground.data }, { on := 3, ground := Ground.data }, { on := 3, ground := Ground.chain }], guard := none }) (b := false) (by kernel_rfl) rfl (by kernel_rfl) (fun K hK => ?_)
    go_simp
    with_reducible refine (join_is _ q2' q3 nd2 2).mono ?_
    rintro y W4 ⟨v4, rfl, M4⟩
    obtain ⟨P4, t4, q4, b4, T4⟩ := M4
    have N23 : ∀ k ∈ blP (P2 ++ P3), k ∈ blP P ∨ W.heap.size ≤ k := fun k hk => by
      rw [blP_append, List.mem_append] at hk
      rcases hk with hk | hk
      · exact N2 k hk
      · have := b3 k hk
        have := T2.size
        simp at *
        exact .inr (by omega)
    have s4 := s3.turnS T4 (fun k hk => by
      rcases N23 k hk with q | q
      · have := LT0 k q
        omega
      · omega)
    have A4 : Turn (fun k => k ∈ blP P) w W4 := (A2.trans (T3.more (fun _ _ f => f.elim))).comp T4 (fun k hk q => (N23 k q).resolve_right (by omega))
    have FIN := Lib.hid (And.intro s4 (And.intro A4 (And.intro q4 (And.intro t4 (fun k hk => (b4 k hk).elim (N23 k) (fun h => Or.inr (by have := T1.size; have := T2.size; have := T3.size; exact Nat.le_trans (Nat.le_trans (Nat.le_trans T1.size T2.size) T3.size) h)))))))
    have y0 := s4.2.1 0 _ rfl
    have y1 := s4.2.1 1 _ rfl
    have y2 := s4.2.1 2 _ rfl
    have ff := s4.2.2.fz
    obtain ⟨Q4, x4, a4, e4, rfl, c4, n4⟩ := q4
    go_simp
    refine hK.out _ _ ?hs5 (fun hS5 => ?_)
    case hs5 => exact fun _ => s4.1
    clear hK K hS4
    refine LAny.one (i := 5) (o := { dst := none, op := Op.store 129 (Operand.tmp 4) (Operand.tmp 14), type := 0, pos := "print.go:44", after := #[{ on := 4, ground := Ground.data }, { on := 4, ground := Ground.chain }, { on := 0, ground := Ground.phase }, { on := 1, ground := Ground.phase }, { on := 2, ground := Ground.phase }, { on := 3, ground := Ground.phase }, { on := 4, ground := Ground.phase }], guard := none }) (b := true) (by kernel_rfl) rfl (by kernel_rfl) (fun K hK => ?_)
    go_simp
    refine hK.out _ _ ?hs6 (fun hS6 => ?_)
    case hs6 => exact fun h => by cases h
    clear hK K hS5
    refine LAny.done (by kernel_rfl) ?_ _
    skip
    go_wp2_with fail
    refine part_end rfl FIN.out.1.2.1 rfl FIN.out.1.2.2 _ _ _ rfl rfl (fun W' T => ?_)
    have hq4 := FIN.out.2.2.1
    rw [show leastT (txP P, h) k = ([opB] ++ txP P ++ [shB], 2) from if_neg (by have := HK.out; show ¬ k ≤ h; omega)]
    refine ⟨_, rfl, P4, ?_, hq4.turn T (fun c hc q => ?_), fun c hc => ?_, FIN.out.2.1.comp T (fun c hc q => by omega)⟩
    · rw [FIN.out.2.2.2.1, txP_append, t2, txP_append, t1, t3]
    · rcases FIN.out.2.2.2.2 c hc with z | z
      · have := LT0 c z
        omega
      · omega
    · rcases FIN.out.2.2.2.2 c hc with z | z
      · exact .inl z
      · exact .inr (by omega)
end Go.Proofs.YtadogobdlcionaaGreatDoor
