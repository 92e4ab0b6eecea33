/-
  A builder that is written to: what holds, and what stays.
-/
import Derived.Test.YtadogobdlcionaaDoorSc
namespace Go.Proofs.YtadogobdlcionaaDoor
open Go.ChangeShapes Go.WideShapes Go.ChangeAt Go.RowKit Go.Shelf
set_option linter.unusedVariables false
def Row5 (W : World) (k : Nat) : Prop := ∃ cs fz, W.heap[k]? = some (.cells cs 5 fz)
/-- All stays but the builder, and rows of bytes, behind B. -/
def KP (B b : Nat) (W W' : World) : Prop := Turn (fun k => B ≤ k ∧ (k = b ∨ Row5 W k)) W W'
/-- A builder, with its bytes. -/
def Bu (B b : Nat) (l : List UInt8) (W : World) : Prop := Lib.IsBuilder 48 5 B b (Lib.byteCells l) W
section
variable {B b : Nat} {W W' W2 : World} {l : List UInt8}
theorem KP.trans (h : KP B b W W') (k : KP B b W' W2) : KP B b W W2 :=
  ⟨k.os.trans h.os, k.tape.trans h.tape, k.output.trans h.output, Nat.le_trans h.size k.size, fun i hi h1 => (k.block i (Nat.lt_of_lt_of_le hi h.size) (fun q => h1 ⟨q.1, by
    rcases q.2 with q2 | ⟨cs, fz, q2⟩
    · exact .inl q2
    · exact .inr ⟨cs, fz, (h.block i hi h1).symm.trans q2⟩⟩)).trans (h.block i hi h1)⟩
theorem KP.quiet (T : Turn (fun _ => False) W W') : KP B b W W' := T.more (fun _ _ f => f.elim)
theorem KP.refl : KP B b W W := KP.quiet (Turn.refl _ _)
theorem KP.of (hb : Below B W W') (hk : Lib.OthersKept 5 (some b) W W') : KP B b W W' :=
  ⟨hb.os, hb.tape, hb.output, hb.size, fun i hi hn => by
    by_cases h : i < B
    · exact hb.block i h
    · obtain ⟨o, ho⟩ : ∃ o, W.heap[i]? = some o := ⟨_, Array.getElem?_eq_getElem hi⟩
      rw [ho]
      refine hk i o ho ?_ ?_
      · intro q
        exact hn ⟨by omega, .inl (by first | exact q.symm | exact (Option.some.inj q).symm | exact Option.some.inj q | exact q)⟩
      · rintro cs fz rfl
        exact hn ⟨by omega, .inr ⟨cs, fz, ho⟩⟩⟩
theorem KP.cell (h : KP B b W W') {k i : Nat} {t : TypeId} {x : Value} (hk : Blk W k t) (ht : t ≠ 5) (hb : k ≠ b) (hc : W.cell? ⟨k, i, none⟩ = some x) : W'.cell? ⟨k, i, none⟩ = some x :=
  Turn.cell h (fun q => by
    obtain ⟨-, q | ⟨cs, fz, q⟩⟩ := q
    · exact hb q
    · obtain ⟨cs', hk⟩ := hk
      rw [q] at hk
      injection hk with hk
      injection hk with _ hk
      exact ht hk.symm) hc
theorem KP.off (h : KP B b W W') {k : Nat} {t : TypeId} (hk : Blk W k t) (ht : t ≠ 5) (hb : k ≠ b) : ¬ (B ≤ k ∧ (k = b ∨ Row5 W k)) := fun q => by
    obtain ⟨-, q | ⟨cs, fz, q⟩⟩ := q
    · exact hb q
    · obtain ⟨cs', hk⟩ := hk
      rw [q] at hk
      injection hk with hk
      injection hk with _ hk
      exact ht hk.symm
theorem Bu.blk (h : Bu B b l W) : Blk W b 48 ∧ B ≤ b := by
  rcases h with ⟨h1, v, h2, -⟩ | ⟨h1, v, h2, -⟩
  · exact ⟨⟨_, h2⟩, h1⟩
  · exact ⟨⟨_, h2⟩, h1⟩
theorem Bu.turn {S : Nat → Prop} (h : Bu B b l W) (T : Turn S W W') (hs : ∀ k, (k = b ∨ Row5 W k) → ¬ S k) : Bu B b l W' := by
  have hlt := h.blk.1.lt
  have key : ∀ p, Lib.BuilderAt 48 5 B b p (Lib.byteCells l) W → Lib.BuilderAt 48 5 B b p (Lib.byteCells l) W' := by
    rintro p ⟨h1, v, h2, h3, h4⟩
    refine ⟨h1, v, (T.block b hlt (hs b (.inl rfl))).trans h2, own_turn h3 T (fun k hk => hs k (.inr ?_)), h4⟩
    obtain ⟨⟨cs, hb⟩, -⟩ := own_blk h3 hk
    exact ⟨cs, _, hb⟩
  exact h.imp (key _) (key _)
theorem Bu.quiet (h : Bu B b l W) (T : Turn (fun _ => False) W W') : Bu B b l W' := h.turn T (fun _ _ f => f)
/-- A new builder. -/
theorem Bu.new (W : World) : Bu B W.heap.size [] (W.alloc (.cells #[.pointer none, .slice none 0 0] 48)) ∨ W.heap.size < B := by
  by_cases h : W.heap.size < B
  · exact .inr h
  · refine .inl (.inl ⟨by omega, .slice none 0 0, ?_, World.ownsRow_nil .., by simp [Value.ownBlock]⟩)
    show (Array.push _ _)[_]? = _
    simp
theorem wb_is (c : UInt8) (h : Bu B b l W) (hlen : l.length + 1 ≤ 140737488355328) (hBw : B ≤ W.heap.size) :
    Calls Tryd.prog 28 #[.pointer (some ⟨b, 0, none⟩), .int .u8 (c.toNat : Int)] W fun e w' => e = .returned .nilIface ∧ Bu B b (l ++ [c]) w' ∧ KP B b W w' := by
  refine (wbyte_is B b _ _ W h (by rw [Lib.byteCells_length]; exact hlen) hBw).mono ?_
  rintro e w' ⟨rfl, h1, h2, h3⟩
  refine ⟨rfl, .inr ?_, KP.of h2 h3⟩
  rw [Lib.byteCells_append]
  exact h1
theorem ws_is (s : ByteArray) (h : Bu B b l W) (hlen : l.length + s.size ≤ 140737488355328) (hBw : B ≤ W.heap.size) :
    Calls Tryd.prog 10 #[.pointer (some ⟨b, 0, none⟩), .string s] W fun e w' => e = .returned (.tuple #[.int .i64 s.size, .nilIface]) ∧ Bu B b (l ++ s.data.toList) w' ∧ KP B b W w' := by
  refine (wstr_is B b _ s W h (by rw [Lib.byteCells_length]; exact hlen) hBw).mono ?_
  rintro e w' ⟨rfl, h1, h2, h3⟩
  refine ⟨rfl, .inr ?_, KP.of h2 h3⟩
  rw [Lib.byteCells_append]
  exact h1
theorem str_is (h : Bu B b l W) (hBw : B ≤ W.heap.size) : Calls Tryd.prog 15 #[.pointer (some ⟨b, 0, none⟩)] W fun e w' => e = .returned (.string ⟨l.toArray⟩) ∧ Below B W w' := Tryd.Builder_String_any B b l W h hBw
end
end Go.Proofs.YtadogobdlcionaaDoor
