/-
  The iterator that Each makes: what it gives.
-/
import Derived.Shelf.Abstract
import Derived.Shelf.RegionOpen
import Derived.WalkKit
import Derived.OwnWalkIn
import Derived.TacticsInMore
import Derived.LoopNIn
import Derived.LoopIn
import Derived.Sort.QuietIn
import Derived.Maps.OwnIn
import Derived.Outline
import Derived.Test.YtadogobdlcionaaDoorRangeS
import Derived.Test.YtadogobdlcionaaDoorPf
namespace Go.Proofs.YtadogobdlcionaaDoor
open Go.ChangeShapes Go.WideShapes Go.ChangeAt Go.RowKit Go.Shelf
set_option linter.unusedVariables false
attribute [local go_sem] Oper.semAt_some
theorem spanB_drop (p : UInt8 → Bool) : ∀ l : List UInt8, spanB p (l.drop (spanB p l)) = 0
  | [] => rfl
  | c :: r => by
    cases h : p c with
    | true =>
      have e : spanB p (c :: r) = spanB p r + 1 := by simp [spanB, h]
      rw [e, List.drop_succ_cons]
      exact spanB_drop p r
    | false =>
      have e : spanB p (c :: r) = 0 := by simp [spanB, h]
      rw [e, List.drop_zero, e]
theorem skipB_idem (i : Nat) (l : List UInt8) : skipB (skipB i l) l = skipB i l := by
  unfold skipB
  rw [← List.drop_drop, spanB_drop]
  rfl
theorem eachB_skip (f i : Nat) (l : List UInt8) : eachB f (skipB i l) l = eachB f i l := by
  cases f with
  | zero => rfl
  | succ f =>
    have e := skipB_idem i l
    cases h : findB (l.drop (skipB i l)) with
    | none => rw [eachB_none h, eachB_none (by rw [e]; exact h)]
    | some t => rw [eachB_some h, eachB_some (by rw [e]; exact h), e]
/-- A token as the program hands it on. -/
def tokV (s : ByteArray) (x : Nat × Tok) : Value := .agg (tokL x.2.kind x.1 x.2.n (s.extract x.1 (x.1 + x.2.len))).toArray
/-- What a round keeps. -/
def KpS (sb : Nat) (W W' : World) : Prop := Turn (fun k => k ≠ sb ∧ 3 ≤ k) W W'
theorem grown_turn {S : Nat → Prop} {w w' : World} (h : w.grownBy w' none) : Turn S w w' := ⟨h.os, h.tape, h.output, h.size, fun k hk _ => h.block k hk (by simp)⟩
theorem turn_grown {w w' : World} (h : Turn (fun _ => False) w w') : w.grownBy w' none := ⟨h.os, h.tape, h.output, h.size, fun k hk _ => h.block k hk (fun f => f)⟩
theorem putObj_turn {S : Nat → Prop} (W : World) (l : Nat) (o : Obj) (h : S l) : Turn S W (W.putObj l o) :=
  ⟨rfl, rfl, rfl, by simp [World.putObj], fun k hk hn => World.putObj_heap_other (fun e => hn (by rw [e]; exact h))⟩
/-- Between two rounds. -/
def RelS (sb : Nat) (s : ByteArray) (J : List (Nat × Tok) × Nat → World → Prop) (v : Value) (wr : World) : Prop :=
  ∃ pre i m, v = .int .i64 ((i : Nat) : Int) ∧ i ≤ s.size ∧ skipB i s.data.toList = i ∧ pre ++ eachB (s.size + 1) i s.data.toList = toksB s.data.toList ∧ J (pre, m) wr ∧ m ≤ wr.heap.size ∧ Blk wr sb 9 ∧ wr.cell? ⟨sb, 0, none⟩ = some (.string s) ∧ ErrAt wr
set_option maxRecDepth 100000 in
set_option maxHeartbeats 2000000 in
theorem each1_in (n : Nat) (hn : 1 ≤ n) (lo sb : Nat) (s : ByteArray) (hs : s.size ≤ 140737488355328) (J : List (Nat × Tok) × Nat → World → Prop) (Jx : List (Nat × Tok) → World → Prop) (W : World) (hsb : Blk W sb 9) (cs : W.cell? ⟨sb, 0, none⟩ = some (.string s)) (hE : ErrAt W) (h2 : 3 ≤ sb)
    (hJ : ∀ pre m, BearsT 67 m (fun (_ : Unit) => J (pre, m)))
    (hY : ∀ pre x m W1, J (pre, m) W1 → m ≤ W1.heap.size → (∃ r, pre ++ x :: r = toksB s.data.toList) → YieldAt Fence.wide (n - 1) Tryd.prog lo #[tokV s x] W1 fun en W' =>
      (en = .returned (.bool true) ∧ J (pre ++ [x], W'.heap.size) W' ∧ KpS sb W1 W' ∧ KeepsHi m W1 W') ∨ (en = .returned (.bool false) ∧ Jx (pre ++ [x]) W'))
    (h0 : J ([], W.heap.size) W) :
    CallsIn Fence.wide n Tryd.prog 32 #[.func (.yield lo) #[] #[], .pointer (some ⟨sb, 0, none⟩)] W fun en W' => (∃ v, en = .returned v) ∧ ((∃ m, J (toksB s.data.toList, m) W') ∨ ∃ pre r, pre ++ r = toksB s.data.toList ∧ Jx pre W') := by
  have IN := Lib.hid (And.intro hs (And.intro hJ hY))
  have FI := Lib.hid (fun (w : World) (i : Nat) (hi : i < s.size) (hE : ErrAt w) => find_is w s hi hs hE)
  have SK := Lib.hid (fun (w : World) (i : Nat) (hi : i ≤ s.size) => skip_is w s hi hs)
  have hlen : s.size = s.data.toList.length := str_len s
  have R0 : RelS sb s J (.int .i64 ((skipB 0 s.data.toList : Nat) : Int)) W := ⟨[], _, _, rfl, by rw [hlen]; exact skipB_le (Nat.zero_le _), skipB_idem _ _, by rw [eachB_skip, hlen]; rfl, h0, Nat.le_refl _, hsb, cs, hE⟩
  have S0 := Lib.hid (SK.out W 0 (Nat.zero_le _))
  have HL := Lib.hid hlen
  clear h0 hJ hY hs hE hsb hlen
  generalize skipB 0 s.data.toList = i0 at *
  refine callsIn_of_wp Tryd.func32 rfl trivial ?_ rfl
  simp only [Tryd.ntmps32, List.size_toArray, List.length_cons, List.length_nil, Nat.reduceAdd, Nat.reduceSub, Array.replicate_succ, Array.replicate_zero, List.push_toArray, List.append_toArray, List.nil_append, List.cons_append]
  gi_wp2_with fail
  refine ⟨trivial, ?_⟩
  refine (callsIn_wide.2 S0.out).mono ?_
  rintro e w1 ⟨rfl, rfl⟩
  clear S0
  gi_wp2_with fail
  gi_loopw [3] (fun v wr => RelS sb s J v wr) (fun v _ => s.size + 1 - (intOf v).toNat)
  case atStart => exact R0
  case round =>
    clear R0 cs
    obtain ⟨pre, i, m, rfl, hi, hsk, hpre, hj, hm, hb, cs, hE⟩ := hrel
    have hlt : (i : Int) < (s.size : Int) ∨ ¬ (i : Int) < (s.size : Int) := by omega
    by_cases hlt : i < s.size
    · have hv : decide ((i : Int) < (s.size : Int)) = true := decide_eq_true (by omega)
      have F := Lib.hid (FI.out wr i hlt hE)
      have HH := Lib.hid (And.intro hsk (And.intro hpre (And.intro hj (And.intro hm (And.intro hb hE)))))
      clear hsk hpre hj hm hb hE
      have CS := Lib.hid cs
      gi_wp2_with fail
      refine ⟨trivial, ?_⟩
      refine (callsIn_wide.2 F.out).mono ?_
      rintro e w2 ⟨he, T2⟩
      have H2 : 3 ≤ w2.heap.size := Nat.le_trans HH.out.2.2.2.2.2.1 T2.size
      have T3 : Turn (fun _ => False) wr (w2.alloc (.cells #[.int .i64 0, .int .i64 0, .string ⟨#[]⟩, .int .i64 0] 67)) := T2.alloc _
      have y0 : (w2.alloc (.cells #[.int .i64 0, .int .i64 0, .string ⟨#[]⟩, .int .i64 0] 67)).cell? ⟨w2.heap.size, 0, none⟩ = some (.int .i64 0) := cell_new rfl rfl
      have y1 : (w2.alloc (.cells #[.int .i64 0, .int .i64 0, .string ⟨#[]⟩, .int .i64 0] 67)).cell? ⟨w2.heap.size, 1, none⟩ = some (.int .i64 0) := cell_new rfl rfl
      have y2 : (w2.alloc (.cells #[.int .i64 0, .int .i64 0, .string ⟨#[]⟩, .int .i64 0] 67)).cell? ⟨w2.heap.size, 2, none⟩ = some (.string ⟨#[]⟩) := cell_new rfl rfl
      have y3 : (w2.alloc (.cells #[.int .i64 0, .int .i64 0, .string ⟨#[]⟩, .int .i64 0] 67)).cell? ⟨w2.heap.size, 3, none⟩ = some (.int .i64 0) := cell_new rfl rfl
      have BA : Blk (w2.alloc (.cells #[.int .i64 0, .int .i64 0, .string ⟨#[]⟩, .int .i64 0] 67)) w2.heap.size 67 := Blk.newA rfl
      have fz := BA.fz
      cases hB : findB (s.data.toList.drop i) with
      | none =>
        rw [hB] at he
        have he : e = .returned (.tuple #[.agg #[.int .i64 0, .int .i64 0, .string ⟨#[]⟩, .int .i64 0], .bool false]) := he
        subst he
        have TF := T3
        have J1 := IN.out.2.1 pre m () wr _ none HH.out.2.2.1 (turn_grown TF) (fun r e => by cases e)
        have e0 : eachB (s.size + 1) i s.data.toList = [] := eachB_none (by rw [HH.out.1]; exact hB)
        have hp := HH.out.2.1
        rw [e0, List.append_nil] at hp
        have FIN := Lib.hid (And.intro hp J1)
        clear F TF J1 e0 hp T3 T2 BA hB
        gi_wp2_with fail
        refine ⟨fun _ h => (by cases h), ?_⟩
        gi_wp2_with fail
        refine bodyPost_ret (results_none rfl _ _ _) rfl ?_
        exact ⟨⟨_, rfl⟩, .inl ⟨m, by rw [← FIN.out.1]; exact FIN.out.2⟩⟩
      | some t =>
        rw [hB] at he
        have he : e = .returned (.tuple #[.agg #[.int .i64 (t.kind : Int), .int .i64 (i : Int), .string (s.extract i (i + t.len)), .int .i64 (t.n : Int)], .bool true]) := he
        have tl := findB_len hB
        have hil : i + t.len ≤ s.size := by
          have := tl.2
          rw [List.length_drop, ← str_len] at this
          omega
        have hsz : (s.extract i (i + t.len)).size = t.len := by rw [ByteArray.size_extract]; omega
        have TF := T2.alloc (.cells #[.int .i64 (t.kind : Int), .int .i64 (i : Int), .string (s.extract i (i + t.len)), .int .i64 (t.n : Int)] 67)
        have J1 := IN.out.2.1 pre m () wr _ none HH.out.2.2.1 (turn_grown TF) (fun r e => by cases e)
        have m1 := Nat.le_trans HH.out.2.2.2.1 TF.size
        have e1 : eachB (s.size + 1) i s.data.toList = (i, t) :: eachB (s.size + 1) (i + t.len) s.data.toList := by
          have := eachB_some (f := s.size) (i := i) (l := s.data.toList) (t := t) (by rw [HH.out.1]; exact hB)
          rw [this, HH.out.1]
          rw [eachB_fuel s.size (s.size + 1) _ _ (by rw [← str_len]; have := tl.1; omega) (by rw [← str_len]; omega)]
        have hp := HH.out.2.1
        rw [e1] at hp
        have YD : YieldAt Fence.wide (n - 1) Tryd.prog lo #[.agg #[.int .i64 (t.kind : Int), .int .i64 (i : Int), .string (s.extract i (i + t.len)), .int .i64 (t.n : Int)]] (w2.alloc (.cells #[.int .i64 (t.kind : Int), .int .i64 (i : Int), .string (s.extract i (i + t.len)), .int .i64 (t.n : Int)] 67)) _ := IN.out.2.2 pre (i, t) m _ J1 m1 ⟨_, hp⟩
        have bsb := HH.out.2.2.2.2.1.turn TF (fun f => f)
        have csb := TF.cell (fun f => f) CS.out
        have erb := HH.out.2.2.2.2.2.turn TF (fun f => f)
        have mw2 : m ≤ w2.heap.size := Nat.le_trans HH.out.2.2.2.1 T2.size
        have BW : Blk (w2.alloc (.cells #[.int .i64 (t.kind : Int), .int .i64 (i : Int), .string (s.extract i (i + t.len)), .int .i64 (t.n : Int)] 67)) w2.heap.size 67 := Blk.newA rfl
        have c2 : (w2.alloc (.cells #[.int .i64 (t.kind : Int), .int .i64 (i : Int), .string (s.extract i (i + t.len)), .int .i64 (t.n : Int)] 67)).cell? ⟨w2.heap.size, 2, none⟩ = some (.string (s.extract i (i + t.len))) :=
          cell_new rfl rfl
        have hw : wrap64 ((i : Int) + (t.len : Int)) = ((i + t.len : Nat) : Int) := by have := IN.out.1; unfold wrap64; omega
        have S3 := Lib.hid (fun W => SK.out W (i + t.len) hil)
        obtain ⟨p, hpp⟩ : ∃ p : Int, p = ((i + t.len : Nat) : Int) := ⟨_, rfl⟩
        rw [← hpp] at hw S3
        obtain ⟨tk, htk⟩ : ∃ x : Int, x = (t.kind : Int) := ⟨_, rfl⟩
        obtain ⟨tn, htn⟩ : ∃ x : Int, x = (t.n : Int) := ⟨_, rfl⟩
        rw [← htk, ← htn] at he YD bsb csb erb BW c2
        generalize s.extract i (i + t.len) = sub at *
        obtain ⟨fn, tmps, assign, body, hy, hRd⟩ := YD
        subst he
        have KX := Lib.hid (And.intro hp (And.intro bsb (And.intro csb (And.intro erb (And.intro BW c2)))))
        have KY := Lib.hid (And.intro hil (And.intro mw2 (And.intro hsz tl)))
        have HR := Lib.hid hRd
        clear F TF J1 m1 e1 hp T3 T2 BA hB bsb csb erb BW c2 hRd hil mw2 hsz tl htk htn hpp
        gi_wp2_with fail
        refine HR.out.mono ?_
        rintro e W3 (⟨rfl, hJ3, hk3, hh3⟩ | ⟨rfl, hx3⟩)
        · have b3 : Blk W3 sb 9 := KX.out.2.1.turn hk3 (fun q => q.1 rfl)
          have c3 : W3.cell? ⟨sb, 0, none⟩ = some (.string s) := hk3.cell (fun q => q.1 rfl) KX.out.2.2.1
          have e3 : ErrAt W3 := KX.out.2.2.2.1.turn hk3 (fun q => absurd q.2 (by decide))
          have k3 : W3.heap[w2.heap.size]? = some (.cells #[.int .i64 tk, .int .i64 (i : Int), .string sub, .int .i64 tn] 67) := hh3 _ _ KY.out.2.1 (World.alloc_heap_new w2 _)
          have t3 : W3.cell? ⟨w2.heap.size, 2, none⟩ = some (.string sub) := (World.cell?_of_block (w := w2.alloc (.cells #[.int .i64 tk, .int .i64 (i : Int), .string sub, .int .i64 tn] 67)) (k3.trans (World.alloc_heap_new w2 _).symm)).trans KX.out.2.2.2.2.2
          have Y := Lib.hid (And.intro hJ3 (And.intro b3 (And.intro e3 (World.grownBy.refl W3 none).size)))
          have hq : (sub.size : Int) = (t.len : Int) := by rw [KY.out.2.2.1]
          have KP := Lib.hid KX.out.1
          clear hJ3 hk3 hh3 b3 e3 k3 KX HR
          have hws : wrap64 ((i : Int) + (sub.size : Int)) = p := by rw [hq]; exact hw
          have CK := Lib.hid c3
          clear hq hw
          gi_wp2_with fail
          refine ⟨trivial, ?_⟩
          refine (callsIn_wide.2 (S3.out _)).mono ?_
          rintro e w4 ⟨rfl, rfl⟩
          gi_wp2_with fail
          go_roundw
          case rel => exact ⟨pre ++ [(i, t)], skipB (i + t.len) s.data.toList, W3.heap.size, rfl, by rw [HL.out]; exact skipB_le (by rw [← HL.out]; exact KY.out.1), skipB_idem _ _, by rw [eachB_skip, List.append_assoc]; exact KP.out, Y.out.1, Nat.le_refl _, Y.out.2.1, CK.out, Y.out.2.2.1⟩
          case measure =>
            have h1 : i + t.len ≤ skipB (i + t.len) s.data.toList := by unfold skipB; omega
            have h2 := KY.out.2.2.2.1
            simp only [intOf]
            omega
        · have FIN := Lib.hid (And.intro KX.out.1 hx3)
          clear hx3 KX HR
          gi_wp2_with fail
          refine bodyPost_ret (results_none rfl _ _ _) rfl ?_
          exact ⟨⟨_, rfl⟩, .inr ⟨pre ++ [(i, t)], _, by rw [List.append_assoc]; exact FIN.out.1, FIN.out.2⟩⟩
    · have hv : decide ((i : Int) < (s.size : Int)) = false := decide_eq_false (by omega)
      have e0 : eachB (s.size + 1) i s.data.toList = [] := eachB_none (by
        rw [hsk, List.drop_eq_nil_of_le (by rw [← str_len]; omega)]
        rfl)
      rw [e0, List.append_nil] at hpre
      have FIN := Lib.hid (And.intro hpre hj)
      clear hpre hj hsk e0
      gi_wp2_with fail
      go_end0
      exact ⟨⟨_, rfl⟩, .inl ⟨m, by rw [← FIN.out.1]; exact FIN.out.2⟩⟩
/-- What the iterator gives. -/
theorem each_gives (n : Nat) (hn : 1 ≤ n) {w0 : World} {sb : Nat} {s : ByteArray} (hs : s.size ≤ 140737488355328) (hb : Blk w0 sb 9) (cs : w0.cell? ⟨sb, 0, none⟩ = some (.string s)) (hE : ErrAt w0) (h2 : 3 ≤ sb) :
    GivesS 67 n Tryd.prog 32 #[.pointer (some ⟨sb, 0, none⟩)] (fun x => #[tokV s x]) (KpS sb) (toksB s.data.toList) w0 := fun lo B J Jx W hW hK _ hJ hY h0 =>
  each1_in n hn lo sb s hs J Jx W (hb.turn hK (fun q => q.1 rfl)) (hK.cell (fun q => q.1 rfl) cs) (hE.turn hK (fun q => absurd q.2 (by decide))) h2 hJ hY h0
end Go.Proofs.YtadogobdlcionaaDoor
