/-
  A sum is printed.
-/
import Derived.Test.YtadogobdlcionaaGreatDoorKap
import Derived.Scope
import Derived.WalkMore
set_option linter.unusedSimpArgs false
namespace Go.Proofs.YtadogobdlcionaaGreatDoor
open Go.ChangeShapes Go.WideShapes Go.ChangeAt Go.RowKit Go.Shelf
set_option linter.unusedVariables false
abbrev minus : ByteArray := ⟨#[45]⟩
abbrev PT := List ByteArray × Int
/-- One code more. -/
def stepT (S : List PT) (c : CD) : Option (List PT) :=
  if (needsT c).2 = false ∨ (S.length : Int) < (needsT c).1 then none
  else if (needsT c).1 = 0 then some (S ++ [([leafT c], 2)])
  else if (needsT c).1 = 1 then match S.reverse with
    | p :: r => some (r.reverse ++ [([minus] ++ (leastT p 2).1, 2)])
    | [] => none
  else match S.reverse with
    | q :: p :: r => some (r.reverse ++ [bothT (c.op - 1).toNat p q])
    | _ => none
def foldT : List CD → List PT → Option (List PT)
  | [], S => some S
  | c :: l, S => match stepT S c with
    | some S' => foldT l S'
    | none => none
/-- The texts of a sum, if it is one. -/
def sumT (l : List CD) : Option (List ByteArray) := match foldT l [] with
  | some [p] => some p.1
  | _ => none
def flat (ts : List ByteArray) : List UInt8 := (ts.map fun t => t.data.toList).flatten
theorem flat_append (a b : List ByteArray) : flat (a ++ b) = flat a ++ flat b := by simp [flat]
theorem flat_cons (a : ByteArray) (b : List ByteArray) : flat (a :: b) = a.data.toList ++ flat b := by simp [flat]
theorem foldT_append : ∀ (a b : List CD) (S : List PT), foldT (a ++ b) S = match foldT a S with | some S' => foldT b S' | none => none
  | [], b, S => rfl
  | c :: a, b, S => by
    show (match stepT S c with | some S' => foldT (a ++ b) S' | none => none) = match (match stepT S c with | some S' => foldT a S' | none => none) with | some S' => foldT b S' | none => none
    cases stepT S c with
    | none => rfl
    | some S' => exact foldT_append a b S'
def txS (S : List (Pcs × Int)) : List PT := S.map fun p => (txP p.1, p.2)
theorem txS_snoc (S : List (Pcs × Int)) (p : Pcs × Int) : txS (S ++ [p]) = txS S ++ [(txP p.1, p.2)] := by simp [txS]
theorem txS_len (S : List (Pcs × Int)) : (txS S).length = S.length := by simp [txS]
/-- What holds between two codes. -/
def SmRel (w : World) (l : List CD) (gh : Nat) (v8 v20 : Value) (wr : World) : Prop :=
  ∃ (i : Nat) (S : List (Pcs × Int)) (v : Value), v8 = .bool true ∧ v20 = .int .i64 (i : Int) ∧ i ≤ l.length ∧ gh = l.length - i ∧ foldT (l.take i) [] = some (txS S) ∧ StkAt wr w.heap.size w.heap.size S v ∧ Turn (fun _ => False) w wr ∧ S.length ≤ i ∧ ∀ k ∈ stkB S, w.heap.size ≤ k
theorem cds_cells {w : World} {cb g cap : Nat} {l : List CD} (ho : cdsV cb l w (.slice (some ⟨g, 0, none⟩) l.length cap)) {i : Nat} {c : CD} (hc : l[i]? = some c) :
    w.cell? ⟨g, i * 5, none⟩ = some (.int .i64 c.op) ∧ w.cell? ⟨g, i * 5 + 1, none⟩ = some (.int .i64 c.n) ∧ w.cell? ⟨g, i * 5 + 2, none⟩ = some (.string c.var) ∧ w.cell? ⟨g, i * 5 + 3, none⟩ = some (.int .i64 c.field) ∧ w.cell? ⟨g, i * 5 + 4, none⟩ = some (.int .i64 0) := by
  have key : ∀ (l : List CD) (i : Nat), l[i]? = some c → ∀ j, j < 5 → (cdsC l)[i * 5 + j]? = c.cells[j]? := by
    intro l
    induction l with
    | nil => intro i h; simp at h
    | cons d l ih =>
      intro i h j hj
      have e : cdsC (d :: l) = d.cells ++ cdsC l := by simp [cdsC]
      have hl : d.cells.length = 5 := rfl
      rw [e]
      cases i with
      | zero =>
        simp at h
        subst h
        rw [List.getElem?_append_left (by rw [hl]; omega), Nat.zero_mul, Nat.zero_add]
      | succ i =>
        rw [List.getElem?_cons_succ] at h
        rw [List.getElem?_append_right (by rw [hl]; omega), hl, show (i + 1) * 5 + j - 5 = i * 5 + j by omega]
        exact ih i h j hj
  have hi := (List.getElem?_eq_some_iff.1 hc).1
  refine ⟨?_, ?_, ?_, ?_, ?_⟩
  · have := ho.cellAt (i * 5 + 0) (by omega)
    rw [Nat.add_zero] at this
    exact this.trans ((key l i hc 0 (by omega)).trans rfl)
  · exact (ho.cellAt (i * 5 + 1) (by omega)).trans ((key l i hc 1 (by omega)).trans rfl)
  · exact (ho.cellAt (i * 5 + 2) (by omega)).trans ((key l i hc 2 (by omega)).trans rfl)
  · exact (ho.cellAt (i * 5 + 3) (by omega)).trans ((key l i hc 3 (by omega)).trans rfl)
  · exact (ho.cellAt (i * 5 + 4) (by omega)).trans ((key l i hc 4 (by omega)).trans rfl)
theorem StkAt.pcs {W W' : World} {sb base : Nat} {S : List (Pcs × Int)} {v : Value} {old : List Nat} (h : StkAt W sb base S v) (T : Turn (fun k => k ∈ old) W W') (ho : ∀ k ∈ old, Blk W k 138 ∧ k ∉ stkB S) : StkAt W' sb base S v :=
  h.turn T (fun q => (ho sb q).1.ne h.bl (by decide) rfl) (fun k hk q => (own_blk h.own hk).1.ne (ho k q).1 (by decide) rfl) (fun k hk q => (ho k q).2 hk)
theorem needs_cases (c : CD) : (needsT c).1 = 0 ∨ (needsT c).1 = 1 ∨ ((needsT c).1 = 2 ∧ 1 ≤ c.op ∧ c.op ≤ 5) := by
  unfold needsT
  by_cases h6 : c.op = 6
  · rw [if_pos h6]; exact .inl rfl
  rw [if_neg h6]
  by_cases h7 : c.op = 7
  · rw [if_pos h7]; exact .inl rfl
  rw [if_neg h7]
  by_cases h8 : c.op = 8
  · rw [if_pos h8]; exact .inl rfl
  rw [if_neg h8]
  by_cases h9 : c.op = 9
  · rw [if_pos h9]; exact .inr (.inl rfl)
  rw [if_neg h9]
  by_cases h : 1 ≤ c.op ∧ c.op ≤ 5
  · rw [if_pos h]; exact .inr (.inr ⟨rfl, h⟩)
  · rw [if_neg h]; exact .inl rfl
theorem fold_bad {l : List CD} {i : Nat} {c : CD} {S : List PT} (h : foldT (l.take i) [] = some S) (htk : l.take (i + 1) = l.take i ++ [c]) (hb : stepT S c = none) : foldT l [] = none := by
  have e : l = l.take (i + 1) ++ l.drop (i + 1) := (List.take_append_drop _ _).symm
  rw [e, foldT_append, htk, foldT_append, h]
  simp only [foldT, hb]
/-- What holds between two pieces. -/
def PrRel (w : World) (B b : Nat) (bs : List UInt8) (P : Pcs) (gh : Nat) (v : Value) (wr : World) : Prop :=
  ∃ (dn rs : Pcs) (q : Option Addr), P = dn ++ rs ∧ gh = rs.length ∧ v = .pointer q ∧ ChAt wr rs q ∧ Bu B b (bs ++ flat (txP dn)) wr ∧ KP B b w wr
theorem HBL3 {B b : Nat} {bs : List UInt8} {w W : World} (hk : KP B b w W) (h : Bu B b bs W) : Blk W b 70 := h.blk.1
theorem snoc_of {α : Type} {l : List α} (h : 1 ≤ l.length) : ∃ r x, l = r ++ [x] := by
  rcases List.eq_nil_or_concat l with rfl | ⟨r, x, rfl⟩
  · simp at h
  · exact ⟨r, x, by simp⟩
set_option maxRecDepth 100000 in
set_option maxHeartbeats 4000000 in
theorem psum_is (w : World) {B b cb : Nat} {bs : List UInt8} {l : List CD} {lv : Value} (hB : Bu B b bs w) (hBw : B ≤ w.heap.size) (hl : cdsV cb l w lv) (hn : l.length ≤ 1000000) (hf : ∀ c ∈ l, CdFit c) (hE : ErrAt w) (hT : TabAt w)
    (hlen : ∀ ts, sumT l = some ts → bs.length + (flat ts).length ≤ 140737488355328) :
    Calls Tryz.prog 46 #[.pointer (some ⟨b, 0, none⟩), lv] w fun y w' => y = .returned (.bool (sumT l).isSome) ∧ Bu B b (bs ++ flat ((sumT l).getD [])) w' ∧ KP B b w w' := by
  have hmf : ∀ (fn : Fn) (first cap : Array Value) (w : World), (Instr.makeFunc fn first cap).run Tryz.prog w = .ok (.func fn first cap) w := fun _ _ _ _ => rfl
  obtain ⟨la, lc, rfl, hg⟩ := own_slice hl
  have e40 : ∀ args w, (callFunc 67 args).run Tryz.prog w = .ok (.enter 67 args) w := enters 67 Tryz.func67 (by kernel_rfl) rfl
  have e41 : ∀ args w, (callFunc 68 args).run Tryz.prog w = .ok (.enter 68 args) w := enters 68 Tryz.func68 (by kernel_rfl) rfl
  obtain ⟨W, hW⟩ : ∃ W, W = w.alloc (.cells #[.slice none 0 0] 126) := ⟨_, rfl⟩
  have T0 : Turn (fun _ => False) w W := by rw [hW]; exact (Turn.refl _ _).alloc _
  have ST0 : StkAt W w.heap.size w.heap.size [] (.slice none 0 0) := ⟨by rw [hW]; exact Blk.new w [.slice none 0 0] 126, by rw [hW]; exact cell_new rfl rfl, World.ownsRow_nil .., fun p hp => by simp at hp, List.nodup_nil⟩
  have REL0 := Lib.hid (show SmRel w l l.length (.bool true) (.int .i64 0) W from ⟨0, [], _, rfl, rfl, Nat.zero_le _, rfl, rfl, ST0, T0, Nat.le_refl _, fun k hk => by simp [stkB] at hk⟩)
  have HH := Lib.hid (And.intro hB (And.intro hBw (And.intro hl (And.intro hn (And.intro hf (And.intro hE (And.intro hT (And.intro hlen hg))))))))
  have HW := Lib.hid hW
  clear T0 ST0 hW hB hBw hl hn hf hE hT hlen hg
  go_enter Tryz.func46, Tryz.ntmps46
  go_wp2_with fail
  go_step3
  go_upto_region 2 with fail
  rw [← HW.out]
  clear HW
  go_wp2_with fail
  go_step3
  go_wp2_with fail
  go_loopg [8, 20] l.length (fun gh v8 v20 wr => SmRel w l gh v8 v20 wr)
  case atStart => exact REL0.out
  case round =>
    clear REL0
    obtain ⟨i, S, v, rfl, rfl, hi, hg, hfold, hst, hT, hSi, hbl⟩ := hrel
    obtain ⟨av, cv, rfl, -⟩ := own_slice hst.own
    by_cases hin : i < l.length
    · have u1 : decide ((i : Int) < (l.length : Int)) = true := decide_eq_true (by omega)
      have i0 : (0 : Int) ≤ (i : Int) := Int.natCast_nonneg i
      have i1 : (i : Int) < (l.length : Int) := by omega
      obtain ⟨c, hc⟩ : ∃ c, l[i]? = some c := ⟨_, List.getElem?_eq_getElem hin⟩
      obtain ⟨g, rfl⟩ := HH.out.2.2.2.2.2.2.2.2 (by omega)
      obtain ⟨q0, q1, q2, q3, q4⟩ := cds_cells HH.out.2.2.1 hc
      replace q0 := hT.cell id q0
      replace q1 := hT.cell id q1
      replace q2 := hT.cell id q2
      replace q3 := hT.cell id q3
      replace q4 := hT.cell id q4
      obtain ⟨W1, hW1⟩ : ∃ X, X = wr.alloc (.cells c.cells.toArray 45) := ⟨_, rfl⟩
      have T1 : Turn (fun _ => False) wr W1 := by rw [hW1]; exact (Turn.refl _ _).alloc _
      have R1 : W1.rangeAt wr.heap.size 0 c.cells := by rw [hW1]; exact range_new wr c.cells 45
      have d0 : W1.cell? ⟨wr.heap.size, 0, none⟩ = some (.int .i64 c.op) := R1 0 _ rfl
      have d1 : W1.cell? ⟨wr.heap.size, 1, none⟩ = some (.int .i64 c.n) := R1 1 _ rfl
      have d2 : W1.cell? ⟨wr.heap.size, 2, none⟩ = some (.string c.var) := R1 2 _ rfl
      have d3 : W1.cell? ⟨wr.heap.size, 3, none⟩ = some (.int .i64 c.field) := R1 3 _ rfl
      have d4 : W1.cell? ⟨wr.heap.size, 4, none⟩ = some (.int .i64 0) := R1 4 _ rfl
      have fit := HH.out.2.2.2.2.1 c (List.mem_of_getElem? hc)
      have ND := Lib.hid (needs_is W1 c (Nat.le_trans fit.2.2 (by omega)) (HH.out.2.2.2.2.2.1.turn (hT.trans T1) id))
      have htk : l.take (i + 1) = l.take i ++ [c] := by rw [List.take_add_one, hc]; rfl
      have HC := Lib.hid (And.intro htk fit)
      have HIN := Lib.hid (And.intro hin (And.intro hfold hSi))
      have HBL := Lib.hid hbl
      have HGK := Lib.hid hg
      have T1w := Lib.hid (show wr.heap.size ≠ w.heap.size by have := hst.bl.lt; omega)
      have F1 := Lib.hid (And.intro (hst.quiet T1) (hT.trans T1))
      have HW1 := Lib.hid (show W1 = wr.alloc (.cells #[.int .i64 c.op, .int .i64 c.n, .string c.var, .int .i64 c.field, .int .i64 0] 45) from hW1)
      clear hW1 T1 R1 hc fit hin hfold hSi hi hg hst hT htk hbl
      go_upto_region 8 with fail
      rw [← HW1.out]
      clear HW1 q0 q1 q2 q3 q4
      unfold CD.cells at ND
      go_wp2_with fail
      with_reducible refine ND.out.mono ?_
      rintro y W2 ⟨rfl, T2⟩
      replace d0 := T2.cell id d0
      replace d1 := T2.cell id d1
      replace d2 := T2.cell id d2
      replace d3 := T2.cell id d3
      replace d4 := T2.cell id d4
      have F2 := Lib.hid (And.intro (F1.out.1.quiet T2) (F1.out.2.trans T2))
      have cs := F2.out.1.c
      clear T2 ND F1
      have NC := needs_cases c
      obtain ⟨kk, hkk⟩ : ∃ k, k = (needsT c).1 := ⟨_, rfl⟩
      obtain ⟨ok, hok⟩ : ∃ k, k = (needsT c).2 := ⟨_, rfl⟩
      rw [← hkk] at NC
      rw [← hkk, ← hok]
      have HN := Lib.hid (show needsT c = (kk, ok) by rw [hkk, hok])
      clear hkk hok
      cases ok with
      | false =>
        go_wp2_with fail
        change bodyPost Tryz.prog Tryz.f46 (fun y w' => y = .returned (.bool (sumT l).isSome) ∧ Bu B b (bs ++ flat ((sumT l).getD [])) w' ∧ KP B b w w') Exit.ret _ _
        go_ret
        have hz : sumT l = none := by
          unfold sumT
          rw [fold_bad HIN.out.2.1 HC.out.1 (by unfold stepT; rw [HN.out]; exact if_pos (by first | exact .inl rfl | (refine .inr ?_; rw [txS_len]; exact HLT.out)))]
        rw [hz]
        refine ⟨rfl, ?_, KP.quiet F2.out.2⟩
        have := HH.out.1.quiet F2.out.2
        simpa [flat] using this
      | true =>
        by_cases hlt : (S.length : Int) < kk
        · have u2 : decide ((S.length : Int) < kk) = true := decide_eq_true hlt
          have HLT := Lib.hid hlt
          go_wp2_with fail
          change bodyPost Tryz.prog Tryz.f46 (fun y w' => y = .returned (.bool (sumT l).isSome) ∧ Bu B b (bs ++ flat ((sumT l).getD [])) w' ∧ KP B b w w') Exit.ret _ _
          go_ret
          have hz : sumT l = none := by
            unfold sumT
            rw [fold_bad HIN.out.2.1 HC.out.1 (by unfold stepT; rw [HN.out]; exact if_pos (by first | exact .inl rfl | (refine .inr ?_; rw [txS_len]; exact HLT.out)))]
          rw [hz]
          refine ⟨rfl, ?_, KP.quiet F2.out.2⟩
          have := HH.out.1.quiet F2.out.2
          simpa [flat] using this
        · have u2 : decide ((S.length : Int) < kk) = false := decide_eq_false hlt
          rcases NC with rfl | rfl | ⟨rfl, hop⟩
          · clear hlt
            have LF := Lib.hid (leaf_is W2 c (HC.out.2) (by rw [HN.out]) (by rw [HN.out]) (HH.out.2.2.2.2.2.2.1.turn F2.out.2 (fun _ _ => id)))
            unfold CD.cells at LF
            go_wp2_with fail
            with_reducible refine LF.out.mono ?_
            rintro y W3 ⟨rfl, T3⟩
            have F3 := Lib.hid (And.intro (F2.out.1.quiet T3) (F2.out.2.trans T3))
            clear T3
            have SG := Lib.hid (single_is W3 (leafT c))
            go_wp2_with fail
            with_reducible refine SG.out.mono ?_
            rintro y W4 ⟨v4, rfl, P1, t1, q1, b1, T4⟩
            have T4 : Turn (fun _ => False) W3 W4 := T4.more (fun _ _ q => by cases q)
            have hv4 := q1.val
            subst hv4
            have hS4 := F3.out.1.quiet T4
            have hT4 := F3.out.2.trans T4
            have hb1 : ∀ k ∈ blP P1, W3.heap.size ≤ k := fun k hk => (b1 k hk).resolve_left (by simp)
            have hd : ∀ k ∈ blP P1, k ∉ stkB S := fun k hk hs => by
              have := (F3.out.1.blk k hs).lt
              have := hb1 k hk
              omega
            have PU := Lib.hid (push_is W4 (p := (P1, 2)) hS4 q1 hd (by have := HIN.out.2.2; have := HIN.out.1; have := HH.out.2.2.2.1; omega) hT4.size)
            have hob : ∀ k, (Value.slice av S.length cv).ownBlock = some k → w.heap.size ≤ k := fun k hk => (own_blk hS4.own hk).2
            have F4 := Lib.hid (And.intro hT4 (And.intro hob (And.intro t1 (fun k (hk : k ∈ blP P1) => Nat.le_trans F3.out.2.size (hb1 k hk)))))
            clear T4 hS4 hT4 hd q1 b1 t1 hb1 hob
            go_wp2_with fail
            with_reducible refine PU.out.mono ?_
            rintro y W5 ⟨rfl, v5, S5, T5⟩
            have REL2 := Lib.hid (show SmRel w l (l.length - (i + 1)) (.bool true) (.int .i64 ((i : Int) + 1)) W5 from ⟨i + 1, S ++ [(P1, 2)], v5, rfl, rfl, HIN.out.1, rfl, by
                rw [HC.out.1, foldT_append, HIN.out.2.1]
                show (match stepT (txS S) c with | some S' => foldT [] S' | none => none) = _
                have : stepT (txS S) c = some (txS S ++ [([leafT c], 2)]) := by
                  unfold stepT
                  rw [HN.out, if_neg (by rintro (q | q); cases q; simp at q; omega)]
                  exact if_pos rfl
                rw [this, txS_snoc, F4.out.2.2.1]
                rfl, S5, F4.out.1.comp T5 (fun k hk q => by
                  rcases q with q | q
                  · omega
                  · have := F4.out.2.1 k q; omega), by have := HIN.out.2.2; simp; omega, fun k hk => by
                  rw [stkB_snoc, List.mem_append] at hk
                  rcases hk with hk | hk
                  · exact HBL.out k hk
                  · exact F4.out.2.2.2 k hk⟩)
            clear S5 T5
            have hw0 : wrap64 ((i : Int) + 1) = (i : Int) + 1 := by have := HIN.out.1; have := HH.out.2.2.2.1; unfold wrap64; omega
            obtain ⟨zi, hzi⟩ : ∃ z : Int, z = (i : Int) + 1 := ⟨_, rfl⟩
            rw [← hzi] at REL2
            have hw : wrap64 ((i : Int) + 1) = zi := hw0.trans hzi.symm
            clear hzi hw0
            go_wp2_with fail
            go_roundg (l.length - (i + 1))
            case measure => have := HIN.out.1; have := HGK.out; omega
            case rel => first | exact REL2.out | (rw [hw]; exact REL2.out)
          · have hl1 : 1 ≤ S.length := by omega
            obtain ⟨S', p, rfl⟩ := snoc_of hl1
            have SG := Lib.hid (single_is W2 minus)
            have HL := Lib.hid (show S'.length ≤ 1000000 by have := HIN.out.2.2; have := HIN.out.1; have := HH.out.2.2.2.1; simp at *; omega)
            go_wp2_with fail
            with_reducible refine SG.out.mono ?_
            rintro y W3 ⟨v3, rfl, P1, t1, q1, b1, T3⟩
            have T3 : Turn (fun _ => False) W2 W3 := T3.more (fun _ _ q => by cases q)
            have hS3 := F2.out.1.quiet T3
            have hb1 : ∀ k ∈ blP P1, W2.heap.size ≤ k := fun k hk => (b1 k hk).resolve_left (by simp)
            have PO := Lib.hid (pop_is W3 hS3 HL.out)
            have F3 := Lib.hid (And.intro hS3 (And.intro (F2.out.2.trans T3) (And.intro q1 (And.intro t1 (And.intro hb1 T3.size)))))
            clear T3 hS3 q1 b1 t1 hb1
            go_wp2_with fail
            with_reducible refine PO.out.mono ?_
            rintro y W4 ⟨rfl, v4, S4, e4, T4⟩
            have hnd := F3.out.1.nd
            rw [stkB_snoc, List.nodup_append] at hnd
            have hsbB := F3.out.1.bl
            have q1 := F3.out.2.2.1.turn T4 (fun k hk e => (F3.out.2.2.1.blk k hk).ne hsbB (by decide) e)
            have qp := (F3.out.1.pt p (by simp)).turn T4 (fun k hk e => ((F3.out.1.pt p (by simp)).blk k hk).ne hsbB (by decide) e)
            have hSlt : ∀ k ∈ stkB (S' ++ [p]), k < W2.heap.size := fun k hk => (F2.out.1.blk k hk).lt
            have hpS : ∀ k ∈ blP p.1, k ∈ stkB (S' ++ [p]) := fun k hk => by rw [stkB_snoc, List.mem_append]; exact .inr hk
            have hSS : ∀ k ∈ stkB S', k ∈ stkB (S' ++ [p]) := fun k hk => by rw [stkB_snoc, List.mem_append]; exact .inl hk
            have hpn : ∀ k ∈ blP p.1, k ∉ stkB S' := fun k hk hs => hnd.2.2 k hs k hk rfl
            have T4w : Turn (fun _ => False) w W4 := F3.out.2.1.comp T4 (fun k hk q => by omega)
            have LS := Lib.hid (least_is W4 qp 2)
            have F4 := Lib.hid (And.intro S4 (And.intro T4w (And.intro q1 (And.intro qp (And.intro hSlt (And.intro hpS (And.intro hSS (And.intro hpn T4.size))))))))
            clear S4 T4w q1 qp hSlt hpS hSS hpn T4 hnd hsbB e4
            go_wp2_with fail
            with_reducible refine LS.out.mono ?_
            rintro y W5 ⟨v5, rfl, P2, t2, q2, b2, T5⟩
            obtain ⟨S4, T4w, q1, qp, hSlt, hpS, hSS, hpn, z4⟩ := F4.out
            have hb1 := F3.out.2.2.2.2.1
            have z3 := F3.out.2.2.2.2.2
            have q1' := q1.turn T5 (fun k hk e => by have := hSlt k (hpS k e); have := hb1 k hk; omega)
            have S5 := S4.pcs T5 (fun k hk => ⟨qp.blk k hk, hpn k hk⟩)
            have T5w : Turn (fun _ => False) w W5 := T4w.comp T5 (fun k hk q => by have := HBL.out k (hpS k q); omega)
            have hP1lt : ∀ k ∈ blP P1, k < W3.heap.size := fun k hk => (F3.out.2.2.1.blk k hk).lt
            have nd : (blP (P1 ++ P2)).Nodup := by
              rw [blP_append, List.nodup_append]
              refine ⟨q1.nodup, q2.nodup, fun x hx y hy e => ?_⟩
              subst e
              have h1 := hb1 x hx
              have h2 := hP1lt x hx
              rcases b2 x hy with z | z
              · have := hSlt x (hpS x z); omega
              · omega
            have hb2 : ∀ k ∈ blP (P1 ++ P2), k ∉ stkB S' ∧ w.heap.size ≤ k := fun k hk => by
              rw [blP_append, List.mem_append] at hk
              have hw2 := F2.out.2.size
              rcases hk with hk | hk
              · have h1 := hb1 k hk
                exact ⟨fun hs => by have := hSlt k (hSS k hs); omega, by omega⟩
              · rcases b2 k hk with z | z
                · exact ⟨hpn k z, HBL.out k (hpS k z)⟩
                · exact ⟨fun hs => by have := hSlt k (hSS k hs); omega, by omega⟩
            have JN := Lib.hid (join_is W5 q1' q2 nd 2)
            have F5 := Lib.hid (And.intro S5 (And.intro T5w (And.intro (fun k hk => PartAt.blk q1' k hk) (And.intro (fun k hk => PartAt.blk q2 k hk) (And.intro hb2 (And.intro t2 (And.intro (fun k hk => hSlt k (hSS k hk)) (show W2.heap.size ≤ W5.heap.size by have := T5.size; omega))))))))
            clear S4 T4w q1 qp hSlt hpS hSS hpn z4 hb1 z3 q1' S5 T5w hP1lt nd hb2 T5 t2 q2 b2
            go_wp2_with fail
            with_reducible refine JN.out.mono ?_
            rintro y W6 ⟨v6, rfl, P3, t3, q3, b3, T6⟩
            obtain ⟨S5, T5w, k1, k2, hb2, t2, hSl, z5⟩ := F5.out
            have hv6 := q3.val
            subst hv6
            have S6 := S5.pcs T6 (fun k hk => ⟨by
              have hk' := hk
              rw [blP_append, List.mem_append] at hk'
              rcases hk' with h | h
              · exact k1 k h
              · exact k2 k h, (hb2 k hk).1⟩)
            have T6w : Turn (fun _ => False) w W6 := T5w.comp T6 (fun k hk q => by have := (hb2 k q).2; omega)
            have hd : ∀ k ∈ blP P3, k ∉ stkB S' := fun k hk hs => by
              rcases b3 k hk with z | z
              · exact (hb2 k z).1 hs
              · have := hSl k hs; omega
            have hw3 : ∀ k ∈ blP P3, w.heap.size ≤ k := fun k hk => by
              rcases b3 k hk with z | z
              · exact (hb2 k z).2
              · have := T5w.size; omega
            have PU := Lib.hid (push_is W6 (p := (P3, 2)) S6 q3 hd HL.out T6w.size)
            have hob : ∀ k, v4.ownBlock = some k → w.heap.size ≤ k := fun k hk => (own_blk S6.own hk).2
            have F6 := Lib.hid (And.intro T6w (And.intro hob (And.intro (show txP P3 = [minus] ++ (leastT (txP p.1, p.2) 2).1 by rw [t3, txP_append, F3.out.2.2.2.1, t2]) hw3)))
            clear S5 T5w k1 k2 hb2 t2 hSl z5 S6 T6w hd hw3 hob T6 q3 b3 t3
            go_wp2_with fail
            with_reducible refine PU.out.mono ?_
            rintro y W7 ⟨rfl, v7, S7, T7⟩
            have REL2 := Lib.hid (show SmRel w l (l.length - (i + 1)) (.bool true) (.int .i64 ((i : Int) + 1)) W7 from ⟨i + 1, S' ++ [(P3, 2)], v7, rfl, rfl, HIN.out.1, rfl, by
                rw [HC.out.1, foldT_append, HIN.out.2.1]
                show (match stepT (txS (S' ++ [p])) c with | some S' => foldT [] S' | none => none) = _
                have : stepT (txS (S' ++ [p])) c = some (txS S' ++ [([minus] ++ (leastT (txP p.1, p.2) 2).1, 2)]) := by
                  unfold stepT
                  rw [HN.out, if_neg (by rintro (q | q); cases q; rw [txS_len] at q; simp at q; omega), if_neg (by decide), if_pos rfl, txS_snoc, List.reverse_append]
                  simp
                rw [this, txS_snoc, F6.out.2.2.1]
                rfl, S7, F6.out.1.comp T7 (fun k hk q => by
                  rcases q with q | q
                  · omega
                  · have := F6.out.2.1 k q; omega), by have := HIN.out.2.2; simp at *; omega, fun k hk => by
                  rw [stkB_snoc, List.mem_append] at hk
                  rcases hk with hk | hk
                  · exact HBL.out k (by rw [stkB_snoc, List.mem_append]; exact .inl hk)
                  · exact F6.out.2.2.2 k hk⟩)
            clear S7 T7 hl1
            have hw0 : wrap64 ((i : Int) + 1) = (i : Int) + 1 := by have := HIN.out.1; have := HH.out.2.2.2.1; unfold wrap64; omega
            obtain ⟨zi, hzi⟩ : ∃ z : Int, z = (i : Int) + 1 := ⟨_, rfl⟩
            rw [← hzi] at REL2
            have hw : wrap64 ((i : Int) + 1) = zi := hw0.trans hzi.symm
            clear hzi hw0
            go_wp2_with fail
            go_roundg (l.length - (i + 1))
            case measure => have := HIN.out.1; have := HGK.out; omega
            case rel => first | exact REL2.out | (rw [hw]; exact REL2.out)
          · have hl2 : 2 ≤ S.length := by omega
            obtain ⟨S1, q, rfl⟩ := snoc_of (Nat.le_trans (by decide : 1 ≤ 2) hl2)
            have hl1 : 1 ≤ S1.length := by simp at hl2; omega
            obtain ⟨S', p, rfl⟩ := snoc_of hl1
            obtain ⟨o, ho⟩ : ∃ o : Nat, c.op = (o : Int) + 1 := ⟨(c.op - 1).toNat, by omega⟩
            have ho5 : o < 5 := by omega
            have HO := Lib.hid (And.intro ho ho5)
            have HL := Lib.hid (show S'.length + 1 ≤ 1000000 by have := HIN.out.2.2; have := HIN.out.1; have := HH.out.2.2.2.1; simp at *; omega)
            rw [ho] at d0
            have PO := Lib.hid (pop_is W2 F2.out.1 (by have := HL.out; simp; omega))
            clear hop ho ho5 hlt
            go_wp2_with fail
            with_reducible refine PO.out.mono ?_
            rintro y W3 ⟨rfl, v3, S3, e3, T3⟩
            have hnd := F2.out.1.nd
            rw [stkB_snoc, List.nodup_append] at hnd
            have hsbB := F2.out.1.bl
            have pq := F2.out.1.pt q (by simp)
            have pp := F2.out.1.pt p (by simp)
            have pq3 := pq.turn T3 (fun k hk e => (pq.blk k hk).ne hsbB (by decide) e)
            have T3w : Turn (fun _ => False) w W3 := F2.out.2.comp T3 (fun k hk q => by omega)
            have PO2 := Lib.hid (pop_is W3 S3 (by have := HL.out; omega))
            have d0' := T3.cell (k := wr.heap.size) (by have := T1w.out; omega) d0
            have F3 := Lib.hid (And.intro S3 (And.intro T3w (And.intro pq3 (And.intro (fun k hk h2 => hnd.2.2 k hk k h2 rfl : ∀ k ∈ stkB (S' ++ [p]), k ∉ blP q.1) (And.intro hsbB T3.size)))))
            clear d0 d1 d2 d3 d4 S3 T3w pq3 hnd hsbB pp e3 T3 pq
            go_wp2_with fail
            with_reducible refine PO2.out.mono ?_
            rintro y W4 ⟨rfl, v4, S4, e4, T4⟩
            have hsb3 := F3.out.1.bl
            have pp3 := F3.out.1.pt p (by simp)
            have pp4 := pp3.turn T4 (fun k hk e => (pp3.blk k hk).ne hsb3 (by decide) e)
            have pq4 := F3.out.2.2.1.turn T4 (fun k hk e => (F3.out.2.2.1.blk k hk).ne hsb3 (by decide) e)
            obtain ⟨qa, qb, hqa, hqb⟩ := pq4.some
            obtain ⟨pa, pb, hpa, hpb⟩ := pp4.some
            have hqv : partV q = .agg #[.pointer (some qa), .pointer (some qb), .int .i64 q.2] := by unfold partV; rw [hqa, hqb]
            have hpv : partV p = .agg #[.pointer (some pa), .pointer (some pb), .int .i64 p.2] := by unfold partV; rw [hpa, hpb]
            rw [hqv, hpv]
            have d0 := T4.cell (k := wr.heap.size) (by have := T1w.out; omega) d0'
            obtain ⟨W5, hW5⟩ : ∃ X, X = (W4.alloc (.cells #[.pointer (some qa), .pointer (some qb), .int .i64 q.2] 129)).alloc (.cells #[.pointer (some pa), .pointer (some pb), .int .i64 p.2] 129) := ⟨_, rfl⟩
            have HW5 := Lib.hid hW5
            have T5 : Turn (fun _ => False) W4 W5 := by rw [hW5]; exact ((Turn.refl _ _).alloc _).alloc _
            have RA : W5.rangeAt W4.heap.size 0 (ptL (some qa) (some qb) q.2) := by rw [hW5]; exact range_turn (range_new W4 (ptL (some qa) (some qb) q.2) 129) ((Turn.refl (fun _ => False) _).alloc _) id
            have RB : W5.rangeAt (W4.heap.size + 1) 0 (ptL (some pa) (some pb) p.2) := by
              have := range_new (W4.alloc (.cells #[.pointer (some qa), .pointer (some qb), .int .i64 q.2] 129)) (ptL (some pa) (some pb) p.2) 129
              rw [World.size_alloc] at this; rw [hW5]; exact this
            have x0 := RA 0 _ rfl
            have x1 := RA 1 _ rfl
            have x2 := RA 2 _ rfl
            have z0 := RB 0 _ rfl
            have z1 := RB 1 _ rfl
            have z2 := RB 2 _ rfl
            replace d0 := T5.cell id d0
            have pp5 := pp4.turn T5 (fun _ _ => id)
            have pq5 := pq4.turn T5 (fun _ _ => id)
            rw [hqv] at pq5
            rw [hpv] at pp5
            have hnd2 := F3.out.1.nd
            rw [stkB_snoc, List.nodup_append] at hnd2
            have hdq := F3.out.2.2.2.1
            have hpS : ∀ k ∈ blP p.1, k ∈ stkB (S' ++ [p]) := fun k hk => by rw [stkB_snoc, List.mem_append]; exact .inr hk
            have hSS : ∀ k ∈ stkB S', k ∈ stkB (S' ++ [p]) := fun k hk => by rw [stkB_snoc, List.mem_append]; exact .inl hk
            have nd : (blP (p.1 ++ q.1)).Nodup := by
              rw [blP_append, List.nodup_append]
              exact ⟨pp5.nodup, pq5.nodup, fun x hx y hy e => hdq x (hpS x hx) (e ▸ hy)⟩
            have T5w : Turn (fun _ => False) w W5 := (F3.out.2.1.comp T4 (fun k hk q => by omega)).trans T5
            have hold : ∀ k ∈ blP (p.1 ++ q.1), Blk W5 k 138 ∧ k ∉ stkB S' ∧ w.heap.size ≤ k := fun k hk => by
              rw [blP_append, List.mem_append] at hk
              rcases hk with hk | hk
              · exact ⟨pp5.blk k hk, fun hs => hnd2.2.2 k hs k hk rfl, HBL.out k (by rw [stkB_snoc, List.mem_append]; exact .inl (hpS k hk))⟩
              · exact ⟨pq5.blk k hk, fun hs => hdq k (hSS k hs) hk, HBL.out k (by rw [stkB_snoc, List.mem_append]; exact .inr hk)⟩
            have S5 := S4.quiet T5
            have BT := Lib.hid (both_two W5 pp5 pq5 nd o HO.out.2)
            have F5 := Lib.hid (And.intro S5 (And.intro T5w (And.intro hold (fun k (hk : k ∈ stkB S') => (S5.blk k hk).lt))))
            have w0 : wrap64 ((o : Int) + 1) = (o : Int) + 1 := by have := HO.out.2; unfold wrap64; omega
            clear d0' hW5 T5 RA RB pp5 pq5 hnd2 hdq hpS hSS nd T5w hold S5 S4 T4 hsb3 pp3 pp4 pq4 hqa hqb hpa hpb hqv hpv F3 e4
            go_upto_region 10 with fail
            rw [← HW5.out]
            clear HW5
            go_wp2_with fail
            with_reducible refine BT.out.mono ?_
            rintro y W6 ⟨v6, rfl, P3, t3, q3, b3, T6⟩
            obtain ⟨S5, T5w, hold, hSl⟩ := F5.out
            have hv6 := q3.val
            subst hv6
            have S6 := S5.pcs T6 (fun k hk => ⟨(hold k hk).1, (hold k hk).2.1⟩)
            have T6w : Turn (fun _ => False) w W6 := T5w.comp T6 (fun k hk q => by have := (hold k q).2.2; omega)
            have hd : ∀ k ∈ blP P3, k ∉ stkB S' := fun k hk hs => by
              rcases b3 k hk with z | z
              · exact (hold k z).2.1 hs
              · have := hSl k hs; omega
            have hw3 : ∀ k ∈ blP P3, w.heap.size ≤ k := fun k hk => by
              rcases b3 k hk with z | z
              · exact (hold k z).2.2
              · have := T5w.size; omega
            have PU := Lib.hid (push_is W6 (p := (P3, _)) S6 q3 hd (by have := HL.out; omega) T6w.size)
            have hob : ∀ k, v4.ownBlock = some k → w.heap.size ≤ k := fun k hk => (own_blk S6.own hk).2
            have F6 := Lib.hid (And.intro T6w (And.intro hob (And.intro t3 hw3)))
            clear S5 T5w hold hSl S6 T6w hd hw3 hob T6 q3 b3 t3
            go_wp2_with fail
            with_reducible refine PU.out.mono ?_
            rintro y W7 ⟨rfl, v7, S7, T7⟩
            have REL2 := Lib.hid (show SmRel w l (l.length - (i + 1)) (.bool true) (.int .i64 ((i : Int) + 1)) W7 from ⟨i + 1, S' ++ [(P3, _)], v7, rfl, rfl, HIN.out.1, rfl, by
                rw [HC.out.1, foldT_append, HIN.out.2.1]
                show (match stepT (txS (S' ++ [p] ++ [q])) c with | some S' => foldT [] S' | none => none) = _
                have : stepT (txS (S' ++ [p] ++ [q])) c = some (txS S' ++ [bothT o (txP p.1, p.2) (txP q.1, q.2)]) := by
                  unfold stepT
                  rw [HN.out, if_neg (by rintro (z | z); cases z; rw [txS_len] at z; simp at z; omega), if_neg (by decide), if_neg (by decide), txS_snoc, txS_snoc, List.reverse_append, List.reverse_append, show (c.op - 1).toNat = o by rw [HO.out.1]; omega]
                  simp
                rw [this, txS_snoc, F6.out.2.2.1]
                rfl, S7, F6.out.1.comp T7 (fun k hk q => by
                  rcases q with q | q
                  · omega
                  · have := F6.out.2.1 k q; omega), by have := HIN.out.2.2; simp at *; omega, fun k hk => by
                  rw [stkB_snoc, List.mem_append] at hk
                  rcases hk with hk | hk
                  · exact HBL.out k (by rw [stkB_snoc, List.mem_append, stkB_snoc, List.mem_append]; exact .inl (.inl hk))
                  · exact F6.out.2.2.2 k hk⟩)
            clear S7 T7 hl1 hl2
            have hw0 : wrap64 ((i : Int) + 1) = (i : Int) + 1 := by have := HIN.out.1; have := HH.out.2.2.2.1; unfold wrap64; omega
            obtain ⟨zi, hzi⟩ : ∃ z : Int, z = (i : Int) + 1 := ⟨_, rfl⟩
            rw [← hzi] at REL2
            have hw : wrap64 ((i : Int) + 1) = zi := hw0.trans hzi.symm
            clear hzi hw0
            go_wp2_with fail
            go_roundg (l.length - (i + 1))
            case measure => have := HIN.out.1; have := HGK.out; omega
            case rel => first | exact REL2.out | (rw [hw]; exact REL2.out)
    · have u1 : decide ((i : Int) < (l.length : Int)) = false := decide_eq_false (by omega)
      have hil : i = l.length := by omega
      subst hil
      rw [List.take_length] at hfold
      have cs := hst.c
      by_cases h1 : S.length = 1
      · obtain ⟨p, rfl⟩ := List.length_eq_one_iff.1 h1
        have hsum : sumT l = some (txP p.1) := by unfold sumT; rw [hfold]; rfl
        obtain ⟨pa, pb, hpa, hpb⟩ := (hst.pt p (by simp)).some
        obtain ⟨PQ, px, pc, e1, e2, e3, e4⟩ := hst.pt p (by simp)
        have hcell : ∀ j x, (ptL (some pa) (some pb) p.2)[j]? = some x → ∀ g, av = some ⟨g, 0, none⟩ → wr.cell? ⟨g, j, none⟩ = some x := fun j x hj g hg => by
          subst hg
          have hj3 : j < 3 := (List.getElem?_eq_some_iff.1 hj).1
          refine (hst.own.cellAt j (by simp; omega)).trans ?_
          have : stkC [p] = ptL (some pa) (some pb) p.2 := by simp [stkC, partC, hpa, hpb]
          rw [this]
          exact hj
        obtain ⟨g, rfl⟩ : ∃ g, av = some ⟨g, 0, none⟩ := by
          obtain ⟨a', c', hv, hg⟩ := own_slice hst.own
          injection hv with hv
          obtain ⟨g, hg⟩ := hg (by simp)
          exact ⟨g, hv.trans hg⟩
        have x0 := hcell 0 _ rfl g rfl
        have hpc : fstA p.1 = some pc := by
          have e5 := e3
          rw [e1] at e5 ⊢
          cases PQ with
          | nil => exact e5.1.symm
          | cons y PQ => exact e5.1.symm
        rw [hpc] at hpa
        have PR0 := Lib.hid (show PrRel w B b bs p.1 p.1.length (.pointer (some pa)) wr from ⟨[], p.1, some pa, rfl, rfl, rfl, by rw [show some pa = some pc from hpa.symm]; exact e3, by have := HH.out.1.quiet hT; simpa [flat, txP] using this, KP.quiet hT⟩)
        have HS := Lib.hid hsum
        have HLN := Lib.hid (HH.out.2.2.2.2.2.2.2.1 _ hsum)
        have HBL2 := Lib.hid HH.out.1.blk
        clear hfold hst hT hSi hbl hi hg hsum hpa hpb e1 e2 e3 e4 hcell hpc h1 hin
        go_wp2_with fail
        go_loopg [15] p.1.length (fun gh v15 wq => PrRel w B b bs p.1 gh v15 wq)
        case atStart => exact PR0.out
        case round =>
          clear PR0 x0 cs
          obtain ⟨dn, rs, q, hP, hg, rfl, hch, hbu, hkp⟩ := hrel
          cases rs with
          | nil =>
            have hq : q = none := hch
            subst hq
            have F := Lib.hid (And.intro hbu hkp)
            have HP := Lib.hid hP
            clear hP hch hbu hkp hg
            go_wp2_with fail
            change bodyPost Tryz.prog Tryz.f46 (fun y w' => y = .returned (.bool (sumT l).isSome) ∧ Bu B b (bs ++ flat ((sumT l).getD [])) w' ∧ KP B b w w') Exit.ret _ _
            go_ret
            have hPd : p.1 = dn := by have := HP.out; simpa using this
            rw [HS.out]
            refine ⟨rfl, ?_, F.out.2⟩
            rw [hPd]
            exact F.out.1
          | cons x rs =>
            obtain ⟨rfl, hbx, c0, q', c1, hch⟩ := hch
            have hne : x.1 ≠ b := fun e => hbx.ne (HBL3 hkp hbu) (by decide) e
            have hlen : bs.length + (flat (txP dn)).length + x.2.size + (flat (txP rs)).length ≤ 140737488355328 := by
              have := HLN.out
              rw [hP, txP_append, flat_append, show txP (x :: rs) = x.2 :: txP rs from rfl, flat_cons, List.length_append, List.length_append] at this
              have hx : x.2.data.toList.length = x.2.size := by rw [Array.length_toList]; rfl
              omega
            have WS := Lib.hid (ws_is x.2 hbu (by rw [List.length_append]; omega) (Nat.le_trans HH.out.2.1 hkp.size))
            have HX := Lib.hid (And.intro hP (And.intro hg (And.intro hch (And.intro hkp (And.intro hbx (And.intro hne hbu.blk.1))))))
            clear hP hg hch hbu hkp hlen
            go_wp2_with fail
            with_reducible refine WS.out.mono ?_
            rintro y W9 ⟨rfl, B9, K9⟩
            have c1' := K9.cell HX.out.2.2.2.2.1 (by decide) HX.out.2.2.2.2.2.1 c1
            have PRN := Lib.hid (show PrRel w B b bs p.1 rs.length (.pointer q') W9 from ⟨dn ++ [x], rs, q', by rw [HX.out.1]; simp, rfl, rfl, ChAt.turn (show Turn _ _ _ from K9) HX.out.2.2.1 (fun k hk => K9.off (HX.out.2.2.1.blk k hk) (by decide) (fun e => (HX.out.2.2.1.blk k hk).ne HX.out.2.2.2.2.2.2 (by decide) e)), by
              rw [txP_append, flat_append, ← List.append_assoc]
              simpa [txP, flat] using B9, HX.out.2.2.2.1.trans K9⟩)
            have HGG := Lib.hid HX.out.2.1
            clear B9 K9 c0 c1 WS
            go_wp2_with fail
            go_roundg rs.length
            case measure => have := HGG.out; simp at this; omega
            case rel => exact PRN.out
      · have hsum : sumT l = none := by
          unfold sumT
          rw [hfold]
          match S, h1 with
          | [], _ => rfl
          | [p], h => exact absurd rfl h
          | p :: q :: r, _ => rfl
        have u3 : ((S.length : Int) == 1) = false := beq_no (by omega)
        have u4 : ((S.length : Int) != 1) = true := by simp [bne, u3]
        have F := Lib.hid (And.intro hsum hT)
        clear hfold hst hT hSi hbl hi hg hsum h1 hin
        go_wp2_with fail
        change bodyPost Tryz.prog Tryz.f46 (fun y w' => y = .returned (.bool (sumT l).isSome) ∧ Bu B b (bs ++ flat ((sumT l).getD [])) w' ∧ KP B b w w') Exit.ret _ _
        go_ret
        rw [F.out.1]
        refine ⟨rfl, ?_, KP.quiet F.out.2⟩
        have := HH.out.1.quiet F.out.2
        simpa [flat] using this

end Go.Proofs.YtadogobdlcionaaGreatDoor
