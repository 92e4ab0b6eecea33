/-
  What pred.Eval answers: what the codes are reckoned to.
-/
import Derived.Test.YtfidnahbhomomaaRc
namespace Go.Proofs.Ytfidnahbhomomaa
open Go.ChangeShapes Go.WideShapes Go.ChangeAt Go.RowKit
set_option linter.unusedVariables false

/-- Codes in memory. -/
def CodeAt (w : World) (ad : Option Addr) (l : List Cd) : Prop := ∀ (k : Nat) (c : Cd), l[k]? = some c → ∃ (b off : Nat) (s : ByteArray), ad = some ⟨b, off, none⟩ ∧ w.cell? ⟨b, off + k * 5, none⟩ = some (.int .i64 c.op) ∧ w.cell? ⟨b, off + k * 5 + 1, none⟩ = some (.int .i64 c.n) ∧
  w.cell? ⟨b, off + k * 5 + 2, none⟩ = some (.string s) ∧ w.cell? ⟨b, off + k * 5 + 3, none⟩ = some (.int .i64 c.fld) ∧ w.cell? ⟨b, off + k * 5 + 4, none⟩ = some (.int .i64 c.place)
theorem CodeAt.keep {w w' : World} {ad : Option Addr} {l : List Cd} (h : CodeAt w ad l) (hb : Below w.heap.size w w') : CodeAt w' ad l := fun k c hk => by
  obtain ⟨b, off, s, e, h0, h1, h2, h3, h4⟩ := h k c hk
  have hl := block_lt_of_cell h0
  exact ⟨b, off, s, e, (hb.cell (p := ⟨b, off + k * 5, none⟩) hl).trans h0, (hb.cell (p := ⟨b, off + k * 5 + 1, none⟩) hl).trans h1, (hb.cell (p := ⟨b, off + k * 5 + 2, none⟩) hl).trans h2, (hb.cell (p := ⟨b, off + k * 5 + 3, none⟩) hl).trans h3, (hb.cell (p := ⟨b, off + k * 5 + 4, none⟩) hl).trans h4⟩
theorem CodesAt.code {w : World} {a : Option Addr} {n cap : Nat} {l : List Cd} (h : CodesAt w (.slice a n cap) l) : CodeAt w a l := fun k c hk => by
  obtain ⟨a', b, off, cap', e, ha, hx⟩ := h
  obtain rfl : a = a' := by injection e
  obtain rfl := ha.resolve_left (fun e => by rw [e] at hk; simp at hk)
  obtain ⟨s, hs⟩ := hx k c hk
  exact ⟨b, off, s, rfl, hs 0 _ rfl, hs 1 _ rfl, hs 2 _ rfl, hs 3 _ rfl, hs 4 _ rfl⟩

theorem wp_tail_anyP {P : Program} {id : Nat} {Q : Exit → Act → World → Prop} {a : Act} {w : World} {l : List Oper} (n : Nat) (hm : P.follows .mixedOrders = true) (hB : Region.lexTailB .any l.toArray n = true)
    (h : ∀ W, W = w.drew → wpStill P l.toArray W (fun a' => wpList P l.toArray Q (l.drop n) a' W) (l.take n) a) : (Code.region id l.toArray true).wp P Q a w :=
  wp_region_still_tail n hm hB (h _ rfl)
theorem step_op {v : Env} {op nn fld pl : Int} (h : 1 ≤ op ∧ op ≤ 5) (st : List Int) : stepCd v st ⟨op, nn, fld, pl⟩ = opTop op st := by
  unfold stepCd
  simp only
  rw [if_neg (by omega), if_neg (by omega), if_neg (by omega), if_neg (by omega), if_pos h]
theorem step_not {v : Env} {op nn fld pl : Int} {st : List Int} (h6 : ¬ op = 6) (h8 : ¬ op = 8) (h7 : ¬ op = 7) (h9 : ¬ op = 9) (h : ¬ (1 ≤ op ∧ op ≤ 5)) : stepCd v st ⟨op, nn, fld, pl⟩ = none := by
  unfold stepCd
  simp only
  rw [if_neg h6, if_neg h8, if_neg h7, if_neg h9, if_neg h]
def EvRel (w : World) (bv bs base : Nat) (v : Env) (l : List Cd) (gh : Nat) (u : Value) (wr : World) : Prop :=
  ∃ (k : Nat) (vv : Value) (st : List Int), u = .int .i64 (k : Int) ∧ k ≤ l.length ∧ gh = l.length - k ∧ Pd w wr bv bs base vv st true ∧ evalSt v (l.take k) [] = some st
theorem eval_next {v : Env} {l : List Cd} {k : Nat} {c : Cd} {st : List Int} (hc : l[k]? = some c) (h : evalSt v (l.take k) [] = some st) : evalSt v (l.take (k + 1)) [] = stepCd v st c := by
  rw [List.take_add_one, hc]
  show evalSt v (l.take k ++ [c]) [] = _
  rw [eval_snoc, h]
  rfl
theorem eval_stop {v : Env} {l : List Cd} {k : Nat} {c : Cd} {st : List Int} (hc : l[k]? = some c) (h : evalSt v (l.take k) [] = some st) (hn : stepCd v st c = none) : evalCd v l = none := by
  have := evalSt_none (v := v) (l := l) (k := k + 1) (by have := (List.getElem?_eq_some_iff.1 hc).1; omega) ((eval_next hc h).trans hn)
  unfold evalCd
  rw [this]
  rfl
theorem one_one (x : Int) : one? (some [x]) = some x := rfl
theorem one_many {st : List Int} (h : st.length ≠ 1) : one? (some st) = none := by
  match st, h with
  | [], _ => rfl
  | [x], h => exact absurd rfl h
  | _ :: _ :: _, _ => rfl

/-- What a reckoning hands back. -/
def EvPost (w : World) (v : Env) (l : List Cd) (e : Ending) (w' : World) : Prop := e = .returned (.tuple #[.int .i64 ((evalCd v l).getD 0), .bool (evalCd v l).isSome]) ∧ Below w.heap.size w w'
theorem EvPost.no {w w' : World} {v : Env} {l : List Cd} (h : evalCd v l = none) (hb : Below w.heap.size w w') : EvPost w v l (.returned (.tuple #[.int .i64 0, .bool false])) w' := by
  unfold EvPost
  rw [h]
  exact ⟨rfl, hb⟩
theorem EvPost.yes {w w' : World} {v : Env} {l : List Cd} {x : Int} (h : evalCd v l = some x) (hb : Below w.heap.size w w') : EvPost w v l (.returned (.tuple #[.int .i64 x, .bool true])) w' := by
  unfold EvPost
  rw [h]
  exact ⟨rfl, hb⟩

set_option maxRecDepth 100000 in
set_option maxHeartbeats 16000000 in
theorem eval_any {w : World} {ad a : Option Addr} {m cap cap2 : Nat} {v : Env} {l : List Cd} (hE : EnvAt w a m cap2 v) (hC : CodeAt w ad l) (hl : l.length ≤ 100) :
    Calls Try.prog 76 #[.slice ad l.length cap, .slice a m cap2] w (EvPost w v l) := by
  have P0 : Pd w ((w.alloc (.cells #[.slice none 0 0] 120)).alloc (.cells #[.bool true] 4)) w.heap.size (w.heap.size + 1) (w.heap.size + 2) (.slice none 0 0) [] true := by
    refine ⟨by omega, by omega, by omega, by simp, Nat.le_refl _, by omega, ?_, World.cell?_alloc2_new .., ?_, ?_, World.ownsRow_nil _ _ _ _, ((Below.refl _ w).alloc (Nat.le_refl _) _).alloc (by simp) _⟩
    · exact (World.cell?_alloc_lt _ _ _ (by show w.heap.size < _; simp)).trans (World.cell?_alloc_new w #[.slice none 0 0] 120 0)
    · rw [frozen?_alloc_cells, frozen?_alloc_cells]
      unfold World.frozen?
      rw [Array.getElem?_eq_none (Nat.le_refl _)]
    · rw [frozen?_alloc_cells, frozen?_alloc_cells]
      unfold World.frozen?
      rw [Array.getElem?_eq_none (by show w.heap.size ≤ w.heap.size + 1; omega)]
  have R0 : EvRel w w.heap.size (w.heap.size + 1) (w.heap.size + 2) v l l.length (.int .i64 0) ((w.alloc (.cells #[.slice none 0 0] 120)).alloc (.cells #[.bool true] 4)) := ⟨0, _, [], rfl, Nat.zero_le _, rfl, P0, rfl⟩
  have HE := Lib.hid hE
  have HC := Lib.hid hC
  obtain ⟨len, hlen⟩ : ∃ len, l.length = len := ⟨_, rfl⟩
  have HL := Lib.hid hlen
  rw [hlen] at hl R0 ⊢
  clear hE hC P0 hlen
  go_enter Try.func76, Try.ntmps76
  go_wp2_with fail
  generalize (w.alloc (.cells #[.slice none 0 0] 120)).alloc (.cells #[.bool true] 4) = w3 at *
  generalize w.heap.size + 2 = base at R0
  generalize hbs : w.heap.size + 1 = bs at R0 ⊢
  generalize hbv : w.heap.size = bv at R0 ⊢
  have HB := Lib.hid (And.intro hbs hbv)

  clear hbs hbv
  go_loopg [20] len (fun gh u wr => EvRel w bv bs base v l gh u wr)
  case atStart => exact R0
  case round =>
    clear R0
    obtain ⟨k, vv, st, rfl, hk, hg, hP, hst⟩ := hrel
    rw [HL.out] at hk hg
    have sl := eval_len hst
    have sl2 : st.length ≤ 100 := by
      have := List.length_take_le k l
      simp at sl
      omega
    by_cases hkl : k < len
    · obtain ⟨⟨op, nn, fld, pl⟩, hc⟩ : ∃ c, l[k]? = some c := ⟨_, List.getElem?_eq_getElem (by rw [HL.out]; exact hkl)⟩
      obtain ⟨cb, co9, cs, ead, x0, x1, x2, x3, x4⟩ := HC.out.keep hP.tr k _ hc
      subst ead
      simp only at x0 x1 x2 x3 x4
      have B1 : Below wr.heap.size wr (wr.alloc (.cells #[.int .i64 op, .int .i64 nn, .string cs, .int .i64 fld, .int .i64 pl] 65)) := (Below.refl _ wr).alloc (Nat.le_refl _) _
      have hP1 := hP.keep B1
      have hE1 := HE.out.keep hP1.tr
      have Y := Lib.hid (And.intro hc (And.intro hst hP1))
      clear sl hP B1 hc hst
      by_cases o6 : op = 6
      · subst o6
        have PT := Lib.hid (hP1.put (by omega) nn true)
        clear hP1 hE1
        go_wp2_with fail
        refine PT.out.mono ?_
        rintro e w5 ⟨rfl, vv5, h5⟩
        have hF : Pd w w5 bv bs base vv5 (nn :: st) true := h5
        have hN : stepCd v st ⟨6, nn, fld, pl⟩ = some (nn :: st) := rfl
        clear h5 x0 x1 x2 x3 x4 PT
        have cs5 := hF.cs
        have W5 := Lib.hid (And.intro hF hN)
        clear hF hN
        go_wp2_with fail
        go_roundg (len - (k + 1))
        case measure => omega
        case rel => exact ⟨k + 1, _, _, by go_num, by rw [HL.out]; omega, by rw [HL.out], W5.out.1, (eval_next Y.out.1 Y.out.2.1).trans W5.out.2⟩
      by_cases o8 : op = 8
      · subst o8
        obtain ⟨ea, ns, c9, hcn, hset, CS⟩ := hE1.set pl
        have CS := Lib.hid CS
        have HN := Lib.hid hcn
        have PT := Lib.hid (hP1.put (by omega) ((ns : Nat) : Int) true)
        have hle := hset.le
        clear hP1 hE1 hset hcn
        go_wp2_with fail
        refine CS.out.mono ?_
        rintro e w4 ⟨rfl, rfl⟩
        go_wp2_with fail
        refine PT.out.mono ?_
        rintro e w5 ⟨rfl, vv5, h5⟩
        have hF : Pd w w5 bv bs base vv5 (((ns : Nat) : Int) :: st) true := h5
        have hN : stepCd v st ⟨8, nn, fld, pl⟩ = some (((ns : Nat) : Int) :: st) := by rw [← HN.out]; rfl
        clear h5 x0 x1 x2 x3 x4 PT CS
        have cs5 := hF.cs
        have W5 := Lib.hid (And.intro hF hN)
        clear hF hN
        go_wp2_with fail
        go_roundg (len - (k + 1))
        case measure => omega
        case rel => exact ⟨k + 1, _, _, by go_num, by rw [HL.out]; omega, by rw [HL.out], W5.out.1, (eval_next Y.out.1 Y.out.2.1).trans W5.out.2⟩
      by_cases o7 : op = 7
      · subst o7
        have B2 : Below (wr.alloc (.cells #[.int .i64 7, .int .i64 nn, .string cs, .int .i64 fld, .int .i64 pl] 65)).heap.size (wr.alloc (.cells #[.int .i64 7, .int .i64 nn, .string cs, .int .i64 fld, .int .i64 pl] 65)) (wr.alloc (.cells #[.int .i64 7, .int .i64 nn, .string cs, .int .i64 fld, .int .i64 pl] 65)).drew := ⟨rfl, rfl, rfl, Nat.le_refl _, fun _ _ => rfl⟩
        obtain ⟨ea, ns, c9, hcn, hset, CS⟩ := (hE1.keep B2).set pl
        have CS := Lib.hid CS
        have HN := Lib.hid hcn
        by_cases hfl : ns = 0 ∨ fld < 0 ∨ 4 ≤ fld
        · have FD := Lib.hid (fld_no ea ns c9 fld (wr.alloc (.cells #[.int .i64 7, .int .i64 nn, .string cs, .int .i64 fld, .int .i64 pl] 65)).drew hfl)
          have PT := Lib.hid ((hP1.keep B2).put (by omega) 0 false)
          have HS := Lib.hid (show stepCd v st ⟨7, nn, fld, pl⟩ = none from by
            have h0 : v.cnt pl = 0 ∨ fld < 0 ∨ 4 ≤ fld := by rw [HN.out]; omega
            show (if v.cnt pl = 0 ∨ fld < 0 ∨ 4 ≤ fld then none else some (v.last pl fld :: st)) = none
            rw [if_pos h0])
          clear hP1 hE1 hset hcn B2 hfl
          go_wp2_with fail
          refine wp_tail_anyP 10 (by kernel_rfl) (by kernel_rfl) ?_
          intro W hW
          have FP := Lib.hid (show Calls Try.prog 79 #[.int .i64 0, .bool false, .pointer (some ⟨bv, 0, none⟩), .pointer (some ⟨bs, 0, none⟩)] W fun e w' => e = .returned (.tuple #[]) ∧ ∃ vv', Pd w w' bv bs base vv' (0 :: st) (true && false) from by rw [hW]; exact PT.out)
          have GS := Lib.hid (show Calls Try.prog 81 #[.slice a m cap2, .int .i64 pl] W fun e w' => e = .returned (.slice ea ns c9) ∧ w' = W from by rw [hW]; exact CS.out.mono fun e w' ⟨a, b⟩ => ⟨a, b.symm⟩)
          have GF := Lib.hid (show Calls Try.prog 82 #[.slice ea ns c9, .int .i64 fld] W fun e w' => e = .returned (.tuple #[.int .i64 0, .bool false]) ∧ w' = W from by rw [hW]; exact FD.out.mono fun e w' ⟨a, b⟩ => ⟨a, b.symm⟩)
          have y0 : W.cell? ⟨wr.heap.size, 0, none⟩ = some (.int .i64 7) := by rw [hW]; exact World.cell?_alloc_new wr #[.int .i64 7, .int .i64 nn, .string cs, .int .i64 fld, .int .i64 pl] 65 0
          have y3 : W.cell? ⟨wr.heap.size, 3, none⟩ = some (.int .i64 fld) := by rw [hW]; exact World.cell?_alloc_new wr #[.int .i64 7, .int .i64 nn, .string cs, .int .i64 fld, .int .i64 pl] 65 3
          have y4 : W.cell? ⟨wr.heap.size, 4, none⟩ = some (.int .i64 pl) := by rw [hW]; exact World.cell?_alloc_new wr #[.int .i64 7, .int .i64 nn, .string cs, .int .i64 fld, .int .i64 pl] 65 4
          clear hW PT CS FD x0 x1 x2 x3 x4
          simp only [List.take_succ_cons, List.take_zero, List.drop_succ_cons, List.drop_zero]
          repeat still_step
          still_call GS.out
          repeat still_step
          still_call GF.out
          repeat still_step
          refine wpStill_nil ?_
          go_wp2_with fail
          refine FP.out.mono ?_
          rintro e w5 ⟨rfl, vv5, h5⟩
          have hF : Pd w w5 bv bs base vv5 (0 :: st) false := h5
          have hN := HS.out
          clear h5 FP GS GF y0 y3 y4
          have cs5 := hF.cs
          have W5 := Lib.hid (And.intro hF.tr hN)
          clear hF hN
          go_wp2
          go_ret2
          exact EvPost.no (eval_stop Y.out.1 Y.out.2.1 W5.out.2) W5.out.1
        · obtain ⟨f, rfl⟩ : ∃ f : Nat, fld = (f : Int) := ⟨fld.toNat, by omega⟩
          have FD := Lib.hid (hset.field (by omega) f (by omega))
          have PT := Lib.hid ((hP1.keep B2).put (by omega) (v.last pl ((f : Nat) : Int)) true)
          have HS := Lib.hid (show stepCd v st ⟨7, nn, ((f : Nat) : Int), pl⟩ = some (v.last pl ((f : Nat) : Int) :: st) from by
            have h0 : ¬ (v.cnt pl = 0 ∨ ((f : Nat) : Int) < 0 ∨ 4 ≤ ((f : Nat) : Int)) := by rw [HN.out]; omega
            show (if v.cnt pl = 0 ∨ ((f : Nat) : Int) < 0 ∨ 4 ≤ ((f : Nat) : Int) then none else some (v.last pl ((f : Nat) : Int) :: st)) = _
            rw [if_neg h0])
          clear hP1 hE1 hset hcn B2 hfl
          go_wp2_with fail
          refine wp_tail_anyP 10 (by kernel_rfl) (by kernel_rfl) ?_
          intro W hW
          have FP := Lib.hid (show Calls Try.prog 79 #[.int .i64 (v.last pl ((f : Nat) : Int)), .bool true, .pointer (some ⟨bv, 0, none⟩), .pointer (some ⟨bs, 0, none⟩)] W fun e w' => e = .returned (.tuple #[]) ∧ ∃ vv', Pd w w' bv bs base vv' (v.last pl ((f : Nat) : Int) :: st) (true && true) from by rw [hW]; exact PT.out)
          have GS := Lib.hid (show Calls Try.prog 81 #[.slice a m cap2, .int .i64 pl] W fun e w' => e = .returned (.slice ea ns c9) ∧ w' = W from by rw [hW]; exact CS.out.mono fun e w' ⟨a, b⟩ => ⟨a, b.symm⟩)
          have GF := Lib.hid (show Calls Try.prog 82 #[.slice ea ns c9, .int .i64 ((f : Nat) : Int)] W fun e w' => e = .returned (.tuple #[.int .i64 (v.last pl ((f : Nat) : Int)), .bool true]) ∧ w' = W from by rw [hW]; exact FD.out.mono fun e w' ⟨a, b⟩ => ⟨a, b.symm⟩)
          have y0 : W.cell? ⟨wr.heap.size, 0, none⟩ = some (.int .i64 7) := by rw [hW]; exact World.cell?_alloc_new wr #[.int .i64 7, .int .i64 nn, .string cs, .int .i64 ((f : Nat) : Int), .int .i64 pl] 65 0
          have y3 : W.cell? ⟨wr.heap.size, 3, none⟩ = some (.int .i64 ((f : Nat) : Int)) := by rw [hW]; exact World.cell?_alloc_new wr #[.int .i64 7, .int .i64 nn, .string cs, .int .i64 ((f : Nat) : Int), .int .i64 pl] 65 3
          have y4 : W.cell? ⟨wr.heap.size, 4, none⟩ = some (.int .i64 pl) := by rw [hW]; exact World.cell?_alloc_new wr #[.int .i64 7, .int .i64 nn, .string cs, .int .i64 ((f : Nat) : Int), .int .i64 pl] 65 4
          clear hW PT CS FD x0 x1 x2 x3 x4
          simp only [List.take_succ_cons, List.take_zero, List.drop_succ_cons, List.drop_zero]
          repeat still_step
          still_call GS.out
          repeat still_step
          still_call GF.out
          repeat still_step
          refine wpStill_nil ?_
          go_wp2_with fail
          refine FP.out.mono ?_
          rintro e w5 ⟨rfl, vv5, h5⟩
          have hF : Pd w w5 bv bs base vv5 (v.last pl ((f : Nat) : Int) :: st) true := h5
          have hN := HS.out
          clear h5 FP GS GF y0 y3 y4
          have cs5 := hF.cs
          have W5 := Lib.hid (And.intro hF hN)
          clear hF hN
          go_wp2_with fail
          go_roundg (len - (k + 1))
          case measure => omega
          case rel => exact ⟨k + 1, _, _, by go_num, by rw [HL.out]; omega, by rw [HL.out], W5.out.1, (eval_next Y.out.1 Y.out.2.1).trans W5.out.2⟩
      by_cases o9 : op = 9
      · subst o9
        have Q := Lib.hid hP1
        clear hP1 hE1
        cases st with
        | nil =>
          obtain ⟨rz, hrz⟩ : ∃ z : Int, wrap64 (0 + wrap64 (-0)) = z := ⟨_, rfl⟩
          have DO := Lib.hid (fun W => pdo_sub 0 0 W)
          rw [hrz] at DO
          clear hrz
          go_wp2_with fail
          with_reducible refine (Q.out.take_none).mono ?_
          rintro e wq0 ⟨rfl, hq0⟩
          have HQ0 := Lib.hid hq0
          clear hq0
          go_wp2_with fail
          with_reducible refine (HQ0.out.put (by simp) 0 true).mono ?_
          rintro e wq1 ⟨rfl, vv1, hq1⟩
          have HQ1 := Lib.hid hq1
          clear hq1
          go_wp2_with fail
          with_reducible refine (HQ1.out.put (by simp) 0 true).mono ?_
          rintro e wq2 ⟨rfl, vv2, hq2⟩
          have HQ2 := Lib.hid hq2
          clear hq2
          go_wp2_with fail
          with_reducible refine (HQ2.out.take (by simp)).mono ?_
          rintro e wq3 ⟨rfl, vv3, hq3⟩
          have HQ3 := Lib.hid hq3
          clear hq3
          go_wp2_with fail
          with_reducible refine (HQ3.out.take (by simp)).mono ?_
          rintro e wq4 ⟨rfl, vv4, hq4⟩
          have HQ4 := Lib.hid hq4
          clear hq4
          go_wp2_with fail
          with_reducible refine (DO.out _).mono ?_
          rintro e wq5 ⟨rfl, rfl⟩
          go_wp2_with fail
          with_reducible refine (HQ4.out.put (by simp) rz true).mono ?_
          rintro e wq6 ⟨rfl, vv6, hq6⟩
          have HQ6 := Lib.hid hq6
          clear hq6
          have hF := HQ6.out
          have hF : Pd w wq6 bv bs base vv6 [rz] false := hF
          have hN : stepCd v [] ⟨9, nn, fld, pl⟩ = none := rfl
          clear x0 x1 x2 x3 x4
          have cs5 := hF.cs
          have W5 := Lib.hid (And.intro hF.tr hN)
          clear hF hN
          go_wp2
          go_ret2
          exact EvPost.no (eval_stop Y.out.1 Y.out.2.1 W5.out.2) W5.out.1
        | cons b r =>
          have rl : r.length ≤ 99 := by simp at sl2; omega
          obtain ⟨rz, hrz⟩ : ∃ z : Int, wrap64 (0 + wrap64 (-b)) = z := ⟨_, rfl⟩
          have DO := Lib.hid (fun W => pdo_sub 0 b W)
          rw [hrz] at DO
          have RZ := Lib.hid hrz
          clear hrz
          go_wp2_with fail
          with_reducible refine (Q.out.take (by omega)).mono ?_
          rintro e wq0 ⟨rfl, vv0, hq0⟩
          have HQ0 := Lib.hid hq0
          clear hq0
          go_wp2_with fail
          with_reducible refine (HQ0.out.put (by omega) 0 true).mono ?_
          rintro e wq1 ⟨rfl, vv1, hq1⟩
          have HQ1 := Lib.hid hq1
          clear hq1
          go_wp2_with fail
          with_reducible refine (HQ1.out.put (by simp; omega) b true).mono ?_
          rintro e wq2 ⟨rfl, vv2, hq2⟩
          have HQ2 := Lib.hid hq2
          clear hq2
          go_wp2_with fail
          with_reducible refine (HQ2.out.take (by simp; omega)).mono ?_
          rintro e wq3 ⟨rfl, vv3, hq3⟩
          have HQ3 := Lib.hid hq3
          clear hq3
          go_wp2_with fail
          with_reducible refine (HQ3.out.take (by omega)).mono ?_
          rintro e wq4 ⟨rfl, vv4, hq4⟩
          have HQ4 := Lib.hid hq4
          clear hq4
          go_wp2_with fail
          with_reducible refine (DO.out _).mono ?_
          rintro e wq5 ⟨rfl, rfl⟩
          go_wp2_with fail
          with_reducible refine (HQ4.out.put (by omega) rz true).mono ?_
          rintro e wq6 ⟨rfl, vv6, hq6⟩
          have HQ6 := Lib.hid hq6
          clear hq6
          have hF : Pd w wq6 bv bs base vv6 (rz :: r) true := HQ6.out
          have hN : stepCd v (b :: r) ⟨9, nn, fld, pl⟩ = some (rz :: r) := by rw [← RZ.out]; rfl
          clear x0 x1 x2 x3 x4
          have cs5 := hF.cs
          have W5 := Lib.hid (And.intro hF hN)
          clear hF hN
          go_wp2_with fail
          go_roundg (len - (k + 1))
          case measure => omega
          case rel => exact ⟨k + 1, _, _, by go_num, by rw [HL.out]; omega, by rw [HL.out], W5.out.1, (eval_next Y.out.1 Y.out.2.1).trans W5.out.2⟩
      have b6 : (op == 6) = false := by simpa using o6
      have b8 : (op == 8) = false := by simpa using o8
      have b7 : (op == 7) = false := by simpa using o7
      have b9 : (op == 9) = false := by simpa using o9
      by_cases o15 : 1 ≤ op ∧ op ≤ 5
      · have Q := Lib.hid hP1
        have O15 := Lib.hid o15
        clear hP1 hE1 b6 b8 b7 b9
        match st, Q, Y, sl2 with
        | [], Q, Y, sl2 =>
          have hN0 := Lib.hid (show stepCd v [] ⟨op, nn, fld, pl⟩ = none from step_op o15 _)
          rcases (show op = 1 ∨ op = 2 ∨ op = 3 ∨ op = 4 ∨ op = 5 by omega) with rfl | rfl | rfl | rfl | rfl
          all_goals
            clear o15 o6 o8 o7 o9
            go_wp2_with fail
            with_reducible refine (Q.out.take_none).mono ?_
            rintro e wq0 ⟨rfl, hq0⟩
            have HQ0 := Lib.hid hq0
            clear hq0
            go_wp2_with fail
            with_reducible refine (HQ0.out.take_none).mono ?_
            rintro e wq1 ⟨rfl, hq1⟩
            have HQ1 := Lib.hid hq1
            clear hq1
            go_wp2_with fail
            with_reducible refine (pdo_any _ 0 0 _ O15.out).mono ?_
            rintro e wq2 ⟨rfl, rfl⟩
            go_wp2_with fail
            with_reducible refine (HQ1.out.put (by simp) _ _).mono ?_
            rintro e wq3 ⟨rfl, vv3, hq3⟩
            have HQ3 := Lib.hid hq3
            clear hq3
            have hF := HQ3.out
            rw [Bool.false_and] at hF
            have hN := hN0.out
            clear x0 x1 x2 x3 x4
            have cs5 := hF.cs
            have W5 := Lib.hid (And.intro hF.tr hN)
            clear hF hN
            go_wp2
            go_ret2
            exact EvPost.no (eval_stop Y.out.1 Y.out.2.1 W5.out.2) W5.out.1
        | [b], Q, Y, sl2 =>
          have hN0 := Lib.hid (show stepCd v [b] ⟨op, nn, fld, pl⟩ = none from step_op o15 _)
          rcases (show op = 1 ∨ op = 2 ∨ op = 3 ∨ op = 4 ∨ op = 5 by omega) with rfl | rfl | rfl | rfl | rfl
          all_goals
            clear o15 o6 o8 o7 o9
            go_wp2_with fail
            with_reducible refine (Q.out.take (by simp)).mono ?_
            rintro e wq0 ⟨rfl, vv0, hq0⟩
            have HQ0 := Lib.hid hq0
            clear hq0
            go_wp2_with fail
            with_reducible refine (HQ0.out.take_none).mono ?_
            rintro e wq1 ⟨rfl, hq1⟩
            have HQ1 := Lib.hid hq1
            clear hq1
            go_wp2_with fail
            with_reducible refine (pdo_any _ 0 b _ O15.out).mono ?_
            rintro e wq2 ⟨rfl, rfl⟩
            go_wp2_with fail
            with_reducible refine (HQ1.out.put (by simp) _ _).mono ?_
            rintro e wq3 ⟨rfl, vv3, hq3⟩
            have HQ3 := Lib.hid hq3
            clear hq3
            have hF := HQ3.out
            rw [Bool.false_and] at hF
            have hN := hN0.out
            clear x0 x1 x2 x3 x4
            have cs5 := hF.cs
            have W5 := Lib.hid (And.intro hF.tr hN)
            clear hF hN
            go_wp2
            go_ret2
            exact EvPost.no (eval_stop Y.out.1 Y.out.2.1 W5.out.2) W5.out.1
        | b :: a2 :: r, Q, Y, sl2 =>
          have rl : r.length ≤ 98 := by simp at sl2; omega
          have hN0 : stepCd v (b :: a2 :: r) ⟨op, nn, fld, pl⟩ = (doOp op a2 b).map (· :: r) := step_op o15 _
          cases hD : doOp op a2 b with
          | none =>
            rw [hD] at hN0
            have DO := Lib.hid (fun W => (pdo_any op a2 b W o15))
            rw [hD] at DO
            have HN0 := Lib.hid hN0
            clear hN0 hD
            rcases (show op = 1 ∨ op = 2 ∨ op = 3 ∨ op = 4 ∨ op = 5 by omega) with rfl | rfl | rfl | rfl | rfl
            all_goals
              clear o15 o6 o8 o7 o9
              go_wp2_with fail
              with_reducible refine (Q.out.take (by simp; omega)).mono ?_
              rintro e wq0 ⟨rfl, vv0, hq0⟩
              have HQ0 := Lib.hid hq0
              clear hq0
              go_wp2_with fail
              with_reducible refine (HQ0.out.take (by omega)).mono ?_
              rintro e wq1 ⟨rfl, vv1, hq1⟩
              have HQ1 := Lib.hid hq1
              clear hq1
              go_wp2_with fail
              with_reducible refine (DO.out _).mono ?_
              rintro e wq2 ⟨rfl, rfl⟩
              go_wp2_with fail
              with_reducible refine (HQ1.out.put (by omega) 0 false).mono ?_
              rintro e wq3 ⟨rfl, vv3, hq3⟩
              have HQ3 := Lib.hid hq3
              clear hq3
              have hF : Pd w wq3 bv bs base vv3 (0 :: r) false := HQ3.out
              have hN : stepCd v (b :: a2 :: r) _ = none := HN0.out
              clear x0 x1 x2 x3 x4
              have cs5 := hF.cs
              have W5 := Lib.hid (And.intro hF.tr hN)
              clear hF hN
              go_wp2
              go_ret2
              exact EvPost.no (eval_stop Y.out.1 Y.out.2.1 W5.out.2) W5.out.1
          | some xx =>
            rw [hD] at hN0
            have DO := Lib.hid (fun W => (pdo_any op a2 b W o15))
            rw [hD] at DO
            have HN0 := Lib.hid hN0
            clear hN0 hD
            rcases (show op = 1 ∨ op = 2 ∨ op = 3 ∨ op = 4 ∨ op = 5 by omega) with rfl | rfl | rfl | rfl | rfl
            all_goals
              clear o15 o6 o8 o7 o9
              go_wp2_with fail
              with_reducible refine (Q.out.take (by simp; omega)).mono ?_
              rintro e wq0 ⟨rfl, vv0, hq0⟩
              have HQ0 := Lib.hid hq0
              clear hq0
              go_wp2_with fail
              with_reducible refine (HQ0.out.take (by omega)).mono ?_
              rintro e wq1 ⟨rfl, vv1, hq1⟩
              have HQ1 := Lib.hid hq1
              clear hq1
              go_wp2_with fail
              with_reducible refine (DO.out _).mono ?_
              rintro e wq2 ⟨rfl, rfl⟩
              go_wp2_with fail
              with_reducible refine (HQ1.out.put (by omega) xx true).mono ?_
              rintro e wq3 ⟨rfl, vv3, hq3⟩
              have HQ3 := Lib.hid hq3
              clear hq3
              have hF : Pd w wq3 bv bs base vv3 (xx :: r) true := HQ3.out
              have hN : stepCd v (b :: a2 :: r) _ = some (xx :: r) := HN0.out
              clear x0 x1 x2 x3 x4
              have cs5 := hF.cs
              have W5 := Lib.hid (And.intro hF hN)
              clear hF hN
              go_wp2_with fail
              go_roundg (len - (k + 1))
              case measure => omega
              case rel => exact ⟨k + 1, _, _, by go_num, by rw [HL.out]; omega, by rw [HL.out], W5.out.1, (eval_next Y.out.1 Y.out.2.1).trans W5.out.2⟩
      · have b1 : (op == 1) = false := by simp; omega
        have b2 : (op == 2) = false := by simp; omega
        have b3 : (op == 3) = false := by simp; omega
        have b4 : (op == 4) = false := by simp; omega
        have b5 : (op == 5) = false := by simp; omega
        have hN := Lib.hid (show stepCd v st ⟨op, nn, fld, pl⟩ = none from step_not o6 o8 o7 o9 o15)
        have cs5 := hP1.cs
        have fs5 := hP1.fs
        have TR := Lib.hid (hP1.sound false).tr
        clear hP1 hE1 o6 o8 o7 o9 o15
        go_wp2
        go_ret2
        exact EvPost.no (eval_stop Y.out.1 Y.out.2.1 hN.out) TR.out
    · obtain rfl : k = len := by omega
      have ht : evalSt v l [] = some st := by
        rw [List.take_of_length_le (by rw [HL.out]; exact Nat.le_refl _)] at hst
        exact hst
      have cv := hP.cv
      have row := hP.row
      have TR := Lib.hid hP.tr
      obtain ⟨ao, co, rfl, so⟩ := prow_slice row
      by_cases h1 : st.length = 1
      · obtain ⟨x, rfl⟩ : ∃ x, st = [x] := by
          match st, h1 with
          | [x], _ => exact ⟨x, rfl⟩
        obtain ⟨g, rfl⟩ := so (by simp)
        have z : wr.cell? ⟨g, 0, none⟩ = some (.int .i64 x) := (row.cellAt 0 (by simp)).trans rfl
        have he := Lib.hid (show evalCd v l = some x from by unfold evalCd; rw [ht]; rfl)
        rw [List.length_singleton] at cv
        clear hP row ht hst so h1 sl sl2
        go_wp2
        go_ret2
        exact EvPost.yes he.out TR.out
      · have he := Lib.hid (show evalCd v l = none from by unfold evalCd; rw [ht]; exact one_many h1)
        have hb : (((st.length : Nat) : Int) != 1) = true := by simp; omega
        clear hP row ht hst so sl sl2 h1
        generalize st.length = q at *
        go_wp2
        go_ret2
        exact EvPost.no he.out TR.out
end Go.Proofs.Ytfidnahbhomomaa
