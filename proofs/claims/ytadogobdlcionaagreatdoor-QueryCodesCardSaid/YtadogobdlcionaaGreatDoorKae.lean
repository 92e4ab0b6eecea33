/-
  The iterator that Each makes: what it gives.
  What Lex holds between two tokens.
  The parser's row of tokens: what stands next.
-/
import Derived.Shelf.Abstract
import Derived.Shelf.RegionOpen
import Derived.WalkKit
import Derived.OwnWalkIn
import Derived.TacticsInMore
import Derived.LoopNIn
import Derived.LoopIn
import Derived.Sort.QuietIn
import Derived.Maps.OwnIn
import Derived.Outline
import Derived.Test.YtadogobdlcionaaGreatDoorKaa
import Derived.Test.YtadogobdlcionaaGreatDoorKad
import Derived.Maps.AppendAt
set_option linter.unusedSimpArgs false
namespace Go.Proofs.YtadogobdlcionaaGreatDoor
open Go.ChangeShapes Go.WideShapes Go.ChangeAt Go.RowKit Go.Shelf
set_option linter.unusedVariables false
attribute [local go_sem] Oper.semAt_some
theorem spanB_drop (p : UInt8 → Bool) : ∀ l : List UInt8, spanB p (l.drop (spanB p l)) = 0
  | [] => rfl
  | c :: r => by
    cases h : p c with
    | true =>
      have e : spanB p (c :: r) = spanB p r + 1 := by simp [spanB, h]
      rw [e, List.drop_succ_cons]
      exact spanB_drop p r
    | false =>
      have e : spanB p (c :: r) = 0 := by simp [spanB, h]
      rw [e, List.drop_zero, e]
theorem skipB_idem (i : Nat) (l : List UInt8) : skipB (skipB i l) l = skipB i l := by
  unfold skipB
  rw [← List.drop_drop, spanB_drop]
  rfl
theorem eachB_skip (f i : Nat) (l : List UInt8) : eachB f (skipB i l) l = eachB f i l := by
  cases f with
  | zero => rfl
  | succ f =>
    have e := skipB_idem i l
    cases h : findB (l.drop (skipB i l)) with
    | none => rw [eachB_none h, eachB_none (by rw [e]; exact h)]
    | some t => rw [eachB_some h, eachB_some (by rw [e]; exact h), e]
/-- A token as the program hands it on. -/
def tokV (s : ByteArray) (x : Nat × Tok) : Value := .agg (tokL x.2.kind x.1 x.2.n (s.extract x.1 (x.1 + x.2.len))).toArray
/-- What a round keeps. -/
def KpS (sb : Nat) (W W' : World) : Prop := Turn (fun k => k ≠ sb ∧ 5 ≤ k) W W'
theorem grown_turn {S : Nat → Prop} {w w' : World} (h : w.grownBy w' none) : Turn S w w' := ⟨h.os, h.tape, h.output, h.size, fun k hk _ => h.block k hk (by simp)⟩
theorem turn_grown {w w' : World} (h : Turn (fun _ => False) w w') : w.grownBy w' none := ⟨h.os, h.tape, h.output, h.size, fun k hk _ => h.block k hk (fun f => f)⟩
theorem putObj_turn {S : Nat → Prop} (W : World) (l : Nat) (o : Obj) (h : S l) : Turn S W (W.putObj l o) :=
  ⟨rfl, rfl, rfl, by simp [World.putObj], fun k hk hn => World.putObj_heap_other (fun e => hn (by rw [e]; exact h))⟩
/-- Between two rounds. -/
def RelS (sb : Nat) (s : ByteArray) (J : List (Nat × Tok) × Nat → World → Prop) (v : Value) (wr : World) : Prop :=
  ∃ pre i m, v = .int .i64 ((i : Nat) : Int) ∧ i ≤ s.size ∧ skipB i s.data.toList = i ∧ pre ++ eachB (s.size + 1) i s.data.toList = toksB s.data.toList ∧ J (pre, m) wr ∧ m ≤ wr.heap.size ∧ Blk wr sb 9 ∧ wr.cell? ⟨sb, 0, none⟩ = some (.string s) ∧ ErrAt wr
set_option maxRecDepth 100000 in
set_option maxHeartbeats 2000000 in
theorem each1_in (n : Nat) (hn : 1 ≤ n) (lo sb : Nat) (s : ByteArray) (hs : s.size ≤ 140737488355328) (J : List (Nat × Tok) × Nat → World → Prop) (Jx : List (Nat × Tok) → World → Prop) (W : World) (hsb : Blk W sb 9) (cs : W.cell? ⟨sb, 0, none⟩ = some (.string s)) (hE : ErrAt W) (h2 : 5 ≤ sb)
    (hJ : ∀ pre m, BearsT 65 m (fun (_ : Unit) => J (pre, m)))
    (hY : ∀ pre x m W1, J (pre, m) W1 → m ≤ W1.heap.size → (∃ r, pre ++ x :: r = toksB s.data.toList) → YieldAt Fence.wide (n - 1) Tryz.prog lo #[tokV s x] W1 fun en W' =>
      (en = .returned (.bool true) ∧ J (pre ++ [x], W'.heap.size) W' ∧ KpS sb W1 W' ∧ KeepsHi m W1 W') ∨ (en = .returned (.bool false) ∧ Jx (pre ++ [x]) W'))
    (h0 : J ([], W.heap.size) W) :
    CallsIn Fence.wide n Tryz.prog 75 #[.func (.yield lo) #[] #[], .pointer (some ⟨sb, 0, none⟩)] W fun en W' => (∃ v, en = .returned v) ∧ ((∃ m, J (toksB s.data.toList, m) W') ∨ ∃ pre r, pre ++ r = toksB s.data.toList ∧ Jx pre W') := by
  have IN := Lib.hid (And.intro hs (And.intro hJ hY))
  have FI := Lib.hid (fun (w : World) (i : Nat) (hi : i < s.size) (hE : ErrAt w) => find_is w s hi hs hE)
  have SK := Lib.hid (fun (w : World) (i : Nat) (hi : i ≤ s.size) => skip_is w s hi hs)
  have hlen : s.size = s.data.toList.length := str_len s
  have R0 : RelS sb s J (.int .i64 ((skipB 0 s.data.toList : Nat) : Int)) W := ⟨[], _, _, rfl, by rw [hlen]; exact skipB_le (Nat.zero_le _), skipB_idem _ _, by rw [eachB_skip, hlen]; rfl, h0, Nat.le_refl _, hsb, cs, hE⟩
  have S0 := Lib.hid (SK.out W 0 (Nat.zero_le _))
  have HL := Lib.hid hlen
  clear h0 hJ hY hs hE hsb hlen
  generalize skipB 0 s.data.toList = i0 at *
  refine callsIn_of_wp Tryz.func75 rfl trivial ?_ rfl
  simp only [Tryz.ntmps75, List.size_toArray, List.length_cons, List.length_nil, Nat.reduceAdd, Nat.reduceSub, Array.replicate_succ, Array.replicate_zero, List.push_toArray, List.append_toArray, List.nil_append, List.cons_append]
  gi_wp2_with fail
  refine ⟨trivial, ?_⟩
  refine (callsIn_wide.2 S0.out).mono ?_
  rintro e w1 ⟨rfl, rfl⟩
  clear S0
  gi_wp2_with fail
  gi_loopw [3] (fun v wr => RelS sb s J v wr) (fun v _ => s.size + 1 - (intOf v).toNat)
  case atStart => exact R0
  case round =>
    clear R0 cs
    obtain ⟨pre, i, m, rfl, hi, hsk, hpre, hj, hm, hb, cs, hE⟩ := hrel
    have hlt : (i : Int) < (s.size : Int) ∨ ¬ (i : Int) < (s.size : Int) := by omega
    by_cases hlt : i < s.size
    · have hv : decide ((i : Int) < (s.size : Int)) = true := decide_eq_true (by omega)
      have F := Lib.hid (FI.out wr i hlt hE)
      have HH := Lib.hid (And.intro hsk (And.intro hpre (And.intro hj (And.intro hm (And.intro hb hE)))))
      clear hsk hpre hj hm hb hE
      have CS := Lib.hid cs
      gi_wp2_with fail
      refine ⟨trivial, ?_⟩
      refine (callsIn_wide.2 F.out).mono ?_
      rintro e w2 ⟨he, T2⟩
      have H2 : 5 ≤ w2.heap.size := Nat.le_trans HH.out.2.2.2.2.2.1 T2.size
      have T3 : Turn (fun _ => False) wr (w2.alloc (.cells #[.int .i64 0, .int .i64 0, .string ⟨#[]⟩, .int .i64 0] 65)) := T2.alloc _
      have y0 : (w2.alloc (.cells #[.int .i64 0, .int .i64 0, .string ⟨#[]⟩, .int .i64 0] 65)).cell? ⟨w2.heap.size, 0, none⟩ = some (.int .i64 0) := cell_new rfl rfl
      have y1 : (w2.alloc (.cells #[.int .i64 0, .int .i64 0, .string ⟨#[]⟩, .int .i64 0] 65)).cell? ⟨w2.heap.size, 1, none⟩ = some (.int .i64 0) := cell_new rfl rfl
      have y2 : (w2.alloc (.cells #[.int .i64 0, .int .i64 0, .string ⟨#[]⟩, .int .i64 0] 65)).cell? ⟨w2.heap.size, 2, none⟩ = some (.string ⟨#[]⟩) := cell_new rfl rfl
      have y3 : (w2.alloc (.cells #[.int .i64 0, .int .i64 0, .string ⟨#[]⟩, .int .i64 0] 65)).cell? ⟨w2.heap.size, 3, none⟩ = some (.int .i64 0) := cell_new rfl rfl
      have BA : Blk (w2.alloc (.cells #[.int .i64 0, .int .i64 0, .string ⟨#[]⟩, .int .i64 0] 65)) w2.heap.size 65 := Blk.newA rfl
      have fz := BA.fz
      cases hB : findB (s.data.toList.drop i) with
      | none =>
        rw [hB] at he
        have he : e = .returned (.tuple #[.agg #[.int .i64 0, .int .i64 0, .string ⟨#[]⟩, .int .i64 0], .bool false]) := he
        subst he
        have TF := T3
        have J1 := IN.out.2.1 pre m () wr _ none HH.out.2.2.1 (turn_grown TF) (fun r e => by cases e)
        have e0 : eachB (s.size + 1) i s.data.toList = [] := eachB_none (by rw [HH.out.1]; exact hB)
        have hp := HH.out.2.1
        rw [e0, List.append_nil] at hp
        have FIN := Lib.hid (And.intro hp J1)
        clear F TF J1 e0 hp T3 T2 BA hB
        gi_wp2_with fail
        refine ⟨fun _ h => (by cases h), ?_⟩
        gi_wp2_with fail
        refine bodyPost_ret (results_none rfl _ _ _) rfl ?_
        exact ⟨⟨_, rfl⟩, .inl ⟨m, by rw [← FIN.out.1]; exact FIN.out.2⟩⟩
      | some t =>
        rw [hB] at he
        have he : e = .returned (.tuple #[.agg #[.int .i64 (t.kind : Int), .int .i64 (i : Int), .string (s.extract i (i + t.len)), .int .i64 (t.n : Int)], .bool true]) := he
        have tl := findB_len hB
        have hil : i + t.len ≤ s.size := by
          have := tl.2
          rw [List.length_drop, ← str_len] at this
          omega
        have hsz : (s.extract i (i + t.len)).size = t.len := by rw [ByteArray.size_extract]; omega
        have TF := T2.alloc (.cells #[.int .i64 (t.kind : Int), .int .i64 (i : Int), .string (s.extract i (i + t.len)), .int .i64 (t.n : Int)] 65)
        have J1 := IN.out.2.1 pre m () wr _ none HH.out.2.2.1 (turn_grown TF) (fun r e => by cases e)
        have m1 := Nat.le_trans HH.out.2.2.2.1 TF.size
        have e1 : eachB (s.size + 1) i s.data.toList = (i, t) :: eachB (s.size + 1) (i + t.len) s.data.toList := by
          have := eachB_some (f := s.size) (i := i) (l := s.data.toList) (t := t) (by rw [HH.out.1]; exact hB)
          rw [this, HH.out.1]
          rw [eachB_fuel s.size (s.size + 1) _ _ (by rw [← str_len]; have := tl.1; omega) (by rw [← str_len]; omega)]
        have hp := HH.out.2.1
        rw [e1] at hp
        have YD : YieldAt Fence.wide (n - 1) Tryz.prog lo #[.agg #[.int .i64 (t.kind : Int), .int .i64 (i : Int), .string (s.extract i (i + t.len)), .int .i64 (t.n : Int)]] (w2.alloc (.cells #[.int .i64 (t.kind : Int), .int .i64 (i : Int), .string (s.extract i (i + t.len)), .int .i64 (t.n : Int)] 65)) _ := IN.out.2.2 pre (i, t) m _ J1 m1 ⟨_, hp⟩
        have bsb := HH.out.2.2.2.2.1.turn TF (fun f => f)
        have csb := TF.cell (fun f => f) CS.out
        have erb := HH.out.2.2.2.2.2.turn TF (fun f => f)
        have mw2 : m ≤ w2.heap.size := Nat.le_trans HH.out.2.2.2.1 T2.size
        have BW : Blk (w2.alloc (.cells #[.int .i64 (t.kind : Int), .int .i64 (i : Int), .string (s.extract i (i + t.len)), .int .i64 (t.n : Int)] 65)) w2.heap.size 65 := Blk.newA rfl
        have c2 : (w2.alloc (.cells #[.int .i64 (t.kind : Int), .int .i64 (i : Int), .string (s.extract i (i + t.len)), .int .i64 (t.n : Int)] 65)).cell? ⟨w2.heap.size, 2, none⟩ = some (.string (s.extract i (i + t.len))) :=
          cell_new rfl rfl
        have hw : wrap64 ((i : Int) + (t.len : Int)) = ((i + t.len : Nat) : Int) := by have := IN.out.1; unfold wrap64; omega
        have S3 := Lib.hid (fun W => SK.out W (i + t.len) hil)
        obtain ⟨p, hpp⟩ : ∃ p : Int, p = ((i + t.len : Nat) : Int) := ⟨_, rfl⟩
        rw [← hpp] at hw S3
        obtain ⟨tk, htk⟩ : ∃ x : Int, x = (t.kind : Int) := ⟨_, rfl⟩
        obtain ⟨tn, htn⟩ : ∃ x : Int, x = (t.n : Int) := ⟨_, rfl⟩
        rw [← htk, ← htn] at he YD bsb csb erb BW c2
        generalize s.extract i (i + t.len) = sub at *
        obtain ⟨fn, tmps, assign, body, hy, hRd⟩ := YD
        subst he
        have KX := Lib.hid (And.intro hp (And.intro bsb (And.intro csb (And.intro erb (And.intro BW c2)))))
        have KY := Lib.hid (And.intro hil (And.intro mw2 (And.intro hsz tl)))
        have HR := Lib.hid hRd
        clear F TF J1 m1 e1 hp T3 T2 BA hB bsb csb erb BW c2 hRd hil mw2 hsz tl htk htn hpp
        gi_wp2_with fail
        refine HR.out.mono ?_
        rintro e W3 (⟨rfl, hJ3, hk3, hh3⟩ | ⟨rfl, hx3⟩)
        · have b3 : Blk W3 sb 9 := KX.out.2.1.turn hk3 (fun q => q.1 rfl)
          have c3 : W3.cell? ⟨sb, 0, none⟩ = some (.string s) := hk3.cell (fun q => q.1 rfl) KX.out.2.2.1
          have e3 : ErrAt W3 := KX.out.2.2.2.1.turn hk3 (fun q => absurd q.2 (by decide))
          have k3 : W3.heap[w2.heap.size]? = some (.cells #[.int .i64 tk, .int .i64 (i : Int), .string sub, .int .i64 tn] 65) := hh3 _ _ KY.out.2.1 (World.alloc_heap_new w2 _)
          have t3 : W3.cell? ⟨w2.heap.size, 2, none⟩ = some (.string sub) := (World.cell?_of_block (w := w2.alloc (.cells #[.int .i64 tk, .int .i64 (i : Int), .string sub, .int .i64 tn] 65)) (k3.trans (World.alloc_heap_new w2 _).symm)).trans KX.out.2.2.2.2.2
          have Y := Lib.hid (And.intro hJ3 (And.intro b3 (And.intro e3 (World.grownBy.refl W3 none).size)))
          have hq : (sub.size : Int) = (t.len : Int) := by rw [KY.out.2.2.1]
          have KP := Lib.hid KX.out.1
          clear hJ3 hk3 hh3 b3 e3 k3 KX HR
          have hws : wrap64 ((i : Int) + (sub.size : Int)) = p := by rw [hq]; exact hw
          have CK := Lib.hid c3
          clear hq hw
          gi_wp2_with fail
          refine ⟨trivial, ?_⟩
          refine (callsIn_wide.2 (S3.out _)).mono ?_
          rintro e w4 ⟨rfl, rfl⟩
          gi_wp2_with fail
          go_roundw
          case rel => exact ⟨pre ++ [(i, t)], skipB (i + t.len) s.data.toList, W3.heap.size, rfl, by rw [HL.out]; exact skipB_le (by rw [← HL.out]; exact KY.out.1), skipB_idem _ _, by rw [eachB_skip, List.append_assoc]; exact KP.out, Y.out.1, Nat.le_refl _, Y.out.2.1, CK.out, Y.out.2.2.1⟩
          case measure =>
            have h1 : i + t.len ≤ skipB (i + t.len) s.data.toList := by unfold skipB; omega
            have h2 := KY.out.2.2.2.1
            simp only [intOf]
            omega
        · have FIN := Lib.hid (And.intro KX.out.1 hx3)
          clear hx3 KX HR
          gi_wp2_with fail
          refine bodyPost_ret (results_none rfl _ _ _) rfl ?_
          exact ⟨⟨_, rfl⟩, .inr ⟨pre ++ [(i, t)], _, by rw [List.append_assoc]; exact FIN.out.1, FIN.out.2⟩⟩
    · have hv : decide ((i : Int) < (s.size : Int)) = false := decide_eq_false (by omega)
      have e0 : eachB (s.size + 1) i s.data.toList = [] := eachB_none (by
        rw [hsk, List.drop_eq_nil_of_le (by rw [← str_len]; omega)]
        rfl)
      rw [e0, List.append_nil] at hpre
      have FIN := Lib.hid (And.intro hpre hj)
      clear hpre hj hsk e0
      gi_wp2_with fail
      go_end0
      exact ⟨⟨_, rfl⟩, .inl ⟨m, by rw [← FIN.out.1]; exact FIN.out.2⟩⟩
/-- What the iterator gives. -/
theorem each_gives (n : Nat) (hn : 1 ≤ n) {w0 : World} {sb : Nat} {s : ByteArray} (hs : s.size ≤ 140737488355328) (hb : Blk w0 sb 9) (cs : w0.cell? ⟨sb, 0, none⟩ = some (.string s)) (hE : ErrAt w0) (h2 : 5 ≤ sb) :
    GivesS 65 n Tryz.prog 75 #[.pointer (some ⟨sb, 0, none⟩)] (fun x => #[tokV s x]) (KpS sb) (toksB s.data.toList) w0 := fun lo B J Jx W hW hK _ hJ hY h0 =>
  each1_in n hn lo sb s hs J Jx W (hb.turn hK (fun q => q.1 rfl)) (hK.cell (fun q => q.1 rfl) cs) (hE.turn hK (fun q => absurd q.2 (by decide))) h2 hJ hY h0
end Go.Proofs.YtadogobdlcionaaGreatDoor
namespace Go.Proofs.YtadogobdlcionaaGreatDoor
open Go.ChangeShapes Go.WideShapes Go.ChangeAt Go.RowKit Go.Shelf
set_option linter.unusedVariables false
attribute [local go_sem] Oper.semAt_some
theorem ri_append_run {F : Fence} {nF : Nat} {P : Program} {w w' : World} {ops : Array Oper} {rest : List Oper} {o : Oper} {a : Act} {Q : Exit → Act → World → Prop} (hgd : o.guard = none) (s x : Operand) (t : TypeId)
    (ho : o.op = .call { callee := .builtin .append, args := #[s, x], argTypes := #[t, t] }) {v v1 v2 : Value} (hs : a.eval s = v1) (hx : a.eval x = v2)
    (hr : (Builtin.append_ #[t, t] o.type #[v1, v2]).run P w = .ok v w') (h : wpListIn F nF P ops Q rest (a.put o.dst v) w') : wpListIn F nF P ops Q (o :: rest) a w := by
  refine wpListIn_plain hgd fun K hK => ?_
  unfold Oper.wpIn
  refine ⟨by simp [Oper.about, ho, resolve, Target.leads, Sem.run_pure], ?_⟩
  rw [Oper.semAt_plain F _ _ (by rw [ho]; intro c hc'; cases hc')]
  simp [execOp, ho, resolve, invoke, builtin, hs, hx, hr, Result.andThen]
  exact hK _ _ h
theorem own_blk {w : World} {base size n : Nat} {e : TypeId} {v : Value} {xs : List Value} (h : w.ownsRow base e size v n xs) {k : Nat} (hk : v.ownBlock = some k) : Blk w k e ∧ base ≤ k := by
  rcases h.2 with ⟨e, _⟩ | ⟨g', cap, cur, e, hb, hgg, _⟩
  · rw [e] at hk; simp [Value.ownBlock] at hk
  · rw [e] at hk
    simp [Value.ownBlock] at hk
    subst hk
    exact ⟨⟨_, hgg⟩, hb⟩
theorem own_weak {w : World} {base base' size n : Nat} {e : TypeId} {v : Value} {xs : List Value} (h : w.ownsRow base e size v n xs) (hb : base' ≤ base) : w.ownsRow base' e size v n xs :=
  ⟨h.1, h.2.imp id (fun ⟨g, cap, cur, e, q, r⟩ => ⟨g, cap, cur, e, Nat.le_trans hb q, r⟩)⟩
def tokC (s : ByteArray) (x : Nat × Tok) : List Value := tokL x.2.kind x.1 x.2.n (s.extract x.1 (x.1 + x.2.len))
def toksC (s : ByteArray) (L : List (Nat × Tok)) : List Value := (L.map (tokC s)).flatten
theorem toksC_snoc (s : ByteArray) (L : List (Nat × Tok)) (x : Nat × Tok) : toksC s (L ++ [x]) = toksC s L ++ tokC s x := by simp [toksC]
theorem info30 : (Tryz.prog.info? 65).map (fun i => (i.zero, i.size, i.bytes)) = some (some (.agg #[.int .i64 0, .int .i64 0, .string ⟨#[]⟩, .int .i64 0]), 4, 40) := by kernel_rfl
theorem tok_add {w : World} {base n : Nat} {v : Value} {xs : List Value} (ho : w.ownsRow base 65 4 v n xs) (hn : n ≤ 1000000) (hb : base ≤ w.heap.size) (k i m : Int) (t : ByteArray) :
    ∃ v' w2, (Builtin.append_ #[60, 60] 60 #[v, .slice (some ⟨w.heap.size, 0, none⟩) 1 1]).run Tryz.prog (w.alloc (.cells #[.int .i64 k, .int .i64 i, .string t, .int .i64 m] 65)) = .ok v' w2 ∧ w2.ownsRow base 65 4 v' (n + 1) (xs ++ tokL k i m t) ∧ Turn (fun k => v.ownBlock = some k) w w2 := by
  have T1 : Turn (fun _ => False) w (w.alloc (.cells #[.int .i64 k, .int .i64 i, .string t, .int .i64 m] 65)) := (Turn.refl _ w).alloc _
  have ho1 := own_turn ho T1 (fun _ _ q => q)
  obtain ⟨i3, j1, j2, j3, j4⟩ := info_parts info30
  obtain ⟨v', w2, hrun, ho2, hg, _, hbl⟩ := run_append_own_at (w.alloc (.cells #[.int .i64 k, .int .i64 i, .string t, .int .i64 m] 65)) base 60 60 65 i3 _ 4 40 Tryz.underlying60 j1 j2 j3 j4 rfl (by decide) _ _ _ ho1 ⟨w.heap.size, 0, none⟩ 1 1 (tokL k i m t) rfl
    (cells_new w (tokL k i m t) 65 _ rfl) (fun u hu => by
      simp only [tokL, List.mem_cons, List.not_mem_nil, or_false] at hu
      rcases hu with rfl | rfl | rfl | rfl <;> rfl) (by unfold maxLen; omega) (by omega) (by rw [World.size_alloc]; omega)
  exact ⟨v', w2, hrun, ho2, (T1.more (fun _ _ q => q.elim)).trans ((Turn.refl _ _).grown hg (fun k hk => .inl hk))⟩
/-- Between two tokens: the results' boxes, what is collected, the place behind the last token. -/
structure LexI (w W : World) (N : Nat) (s : ByteArray) (v : Value) (pre : List (Nat × Tok)) (m : Nat) : Prop where
  r2 : Blk W N 60 ∧ W.cell? ⟨N, 0, none⟩ = some (.slice none 0 0)
  r3 : Blk W (N + 1) 3 ∧ W.cell? ⟨N + 1, 0, none⟩ = some (.int .i64 0)
  r4 : Blk W (N + 2) 48 ∧ W.cell? ⟨N + 2, 0, none⟩ = some (.int .i64 0)
  l : Blk W (N + 3) 60 ∧ W.cell? ⟨N + 3, 0, none⟩ = some v
  a : Blk W (N + 4) 3 ∧ W.cell? ⟨N + 4, 0, none⟩ = some (.int .i64 (endB pre : Int))
  own : W.ownsRow (N + 6) 65 4 v pre.length (toksC s pre)
  low : ∀ k, v.ownBlock = some k → k < m
  le : pre.length ≤ 200
  tn : Turn (fun _ => False) w W
  ge : w.heap.size ≤ N
section
variable {w W W' : World} {N m : Nat} {s : ByteArray} {v : Value} {pre : List (Nat × Tok)}
/-- It bears a turn of blocks that are none of these. -/
theorem LexI.turn {S : Nat → Prop} (h : LexI w W N s v pre m) (T : Turn S W W') (hS : ∀ k, S k → w.heap.size ≤ k) (h0 : ¬ S N ∧ ¬ S (N + 1) ∧ ¬ S (N + 2) ∧ ¬ S (N + 3) ∧ ¬ S (N + 4)) (ho : ∀ k, v.ownBlock = some k → ¬ S k) : LexI w W' N s v pre m :=
  ⟨⟨h.r2.1.turn T h0.1, T.cell h0.1 h.r2.2⟩, ⟨h.r3.1.turn T h0.2.1, T.cell h0.2.1 h.r3.2⟩, ⟨h.r4.1.turn T h0.2.2.1, T.cell h0.2.2.1 h.r4.2⟩, ⟨h.l.1.turn T h0.2.2.2.1, T.cell h0.2.2.2.1 h.l.2⟩, ⟨h.a.1.turn T h0.2.2.2.2, T.cell h0.2.2.2.2 h.a.2⟩, own_turn h.own T ho, h.low, h.le, h.tn.comp T (fun i hi q => by have := hS i q; omega), h.ge⟩
theorem grown_turn' {row : Option Nat} (g : W.grownBy W' row) : Turn (fun k => row = some k) W W' := (Turn.refl _ W).grown g (fun k e => .inl e)
theorem LexI.bears (h : LexI w W N s v pre m) {row : Option Nat} (g : W.grownBy W' row) (hm : N + 5 ≤ m) (hr : ∀ r, row = some r → m ≤ r) : LexI w W' N s v pre m := by
  have hg := h.ge
  refine h.turn (grown_turn' g) (fun k e => by have := hr k e; omega) ⟨?_, ?_, ?_, ?_, ?_⟩ (fun k hk e => by have := hr k e; have := h.low k hk; omega)
  all_goals (intro e; have := hr _ e; omega)
theorem LexI.own' (h : LexI w W N s v pre m) {row : Option Nat} (g : W.grownBy W' row) (hm : N + 5 ≤ W.heap.size) (hr : ∀ r, row = some r → N + 5 ≤ r ∧ ∃ o, W.heap[r]? = some o ∧ o.isCells = false) : LexI w W' N s v pre m := by
  have hg := h.ge
  refine h.turn (grown_turn' g) (fun k e => by have := (hr k e).1; omega) ⟨?_, ?_, ?_, ?_, ?_⟩ (fun k hk e => by
    obtain ⟨_, o, ho, hc⟩ := hr k e
    obtain ⟨⟨cs, hb⟩, _⟩ := own_blk h.own hk
    rw [ho] at hb
    cases hb
    cases hc)
  all_goals (intro e; have := (hr _ e).1; omega)
/-- One more token. -/
theorem LexI.push (h : LexI w W N s v pre m) (h6 : N + 6 ≤ m) (mW : m ≤ W.heap.size) (x : Nat × Tok) (hl : pre.length < 200) :
    ∃ a' c' W2, (Builtin.append_ #[60, 60] 60 #[v, .slice (some ⟨W.heap.size, 0, none⟩) 1 1]).run Tryz.prog (W.alloc (.cells #[.int .i64 (x.2.kind : Int), .int .i64 (x.1 : Int), .string (s.extract x.1 (x.1 + x.2.len)), .int .i64 (x.2.n : Int)] 65)) = .ok (.slice a' (pre.length + 1) c') W2 ∧
      Turn (fun k => v.ownBlock = some k) W W2 ∧
      LexI w ((W2.setCell ⟨N + 3, 0, none⟩ (.slice a' (pre.length + 1) c')).setCell ⟨N + 4, 0, none⟩ (.int .i64 ((x.1 + x.2.len : Nat) : Int))) N s (.slice a' (pre.length + 1) c') (pre ++ [x]) W2.heap.size := by
  obtain ⟨v', W2, hr, ho, T⟩ := tok_add h.own (by omega) (by omega) (x.2.kind : Int) (x.1 : Int) (x.2.n : Int) (s.extract x.1 (x.1 + x.2.len))
  have own6 : ∀ k, v.ownBlock = some k → N + 6 ≤ k := fun k hk => (own_blk h.own hk).2
  obtain ⟨a', c', rfl, -⟩ := own_slice ho
  have nn : ∀ j, j < N + 6 → ¬ v.ownBlock = some j := fun j hj e => by have := own6 j e; omega
  have hg := h.ge
  have T2 : Turn (fun k => k = N + 3 ∨ k = N + 4) W2 ((W2.setCell ⟨N + 3, 0, none⟩ (.slice a' (pre.length + 1) c')).setCell ⟨N + 4, 0, none⟩ (.int .i64 ((x.1 + x.2.len : Nat) : Int))) :=
    ((Turn.put W2 (N + 3) 0 (.slice a' (pre.length + 1) c')).more (fun _ _ q => .inl q)).trans ((Turn.put _ (N + 4) 0 _).more (fun _ _ q => .inr q))
  have b3 := h.l.1.turn T (nn _ (by omega))
  have b4 := h.a.1.turn T (nn _ (by omega))
  have c3 := T.cell (nn _ (by omega)) h.l.2
  have c4 := T.cell (nn _ (by omega)) h.a.2
  refine ⟨a', c', W2, hr, T, ⟨h.r2.1.turn T (nn _ (by omega)) |>.turn T2 (by omega), T2.cell (by omega) (T.cell (nn _ (by omega)) h.r2.2)⟩, ⟨h.r3.1.turn T (nn _ (by omega)) |>.turn T2 (by omega), T2.cell (by omega) (T.cell (nn _ (by omega)) h.r3.2)⟩, ⟨h.r4.1.turn T (nn _ (by omega)) |>.turn T2 (by omega), T2.cell (by omega) (T.cell (nn _ (by omega)) h.r4.2)⟩,
    ⟨(b3.set _ _).set _ _, (cell_far _ _ _ _ _ _ (by omega)).trans (World.cell?_setCell_same _ _ _ c3)⟩, ⟨(b4.set _ _).set _ _, ?_⟩, ?_, fun k hk => ?_, by rw [List.length_append]; simp; omega, ?_, h.ge⟩
  · rw [endB_snoc]
    exact World.cell?_setCell_same _ _ _ ((cell_far _ _ _ _ _ _ (by omega)).trans c4)
  · rw [List.length_append, toksC_snoc]
    exact own_turn ho T2 (fun k hk q => by have := (own_blk ho hk).2; omega)
  · exact (own_blk ho hk).1.lt
  · refine (h.tn.comp T (fun i hi e => by have := own6 i e; omega)).comp T2 (fun i hi e => by omega)
theorem keepsFrom_of {S : Nat → Prop} (T : Turn S W W') (hS : ∀ k, S k → ∃ t, Blk W k t) (B : Nat) : KeepsFrom B W W' :=
  ⟨T.size, fun k o _ hk ho => (T.block k (Array.getElem?_eq_some_iff.1 hk).1 (fun e => by
    obtain ⟨t, cs, hb⟩ := hS k e
    rw [hk] at hb
    cases hb
    cases ho)).trans hk⟩
theorem keepsHi_of {S : Nat → Prop} {m : Nat} (T : Turn S W W') (hS : ∀ k, S k → k < m) : KeepsHi m W W' :=
  fun k o hm hk => (T.block k (Array.getElem?_eq_some_iff.1 hk).1 (fun e => by have := hS k e; omega)).trans hk
end
theorem res_cell3 {fn : Func} {tmps : Array Value} {w : World} {a1 a2 a3 b1 b2 b3 : Nat} {t1 t2 t3 : TypeId} {v1 v2 v3 : Value} (hr : fn.results = #[.cell a1 t1, .cell a2 t2, .cell a3 t3]) (h1 : tmps.getD a1 undef = .pointer (some ⟨b1, 0, none⟩)) (h2 : tmps.getD a2 undef = .pointer (some ⟨b2, 0, none⟩)) (h3 : tmps.getD a3 undef = .pointer (some ⟨b3, 0, none⟩))
    (l1 : (loadVar t1 ⟨b1, 0, none⟩).run Tryz.prog w = .ok v1 w) (l2 : (loadVar t2 ⟨b2, 0, none⟩).run Tryz.prog w = .ok v2 w) (l3 : (loadVar t3 ⟨b3, 0, none⟩).run Tryz.prog w = .ok v3 w) : (results fn tmps).run Tryz.prog w = .ok (.tuple #[v1, v2, v3]) w := by
  unfold results
  rw [hr]
  simp only [List.mapM_toArray, List.mapM_cons, List.mapM_nil, bind_assoc, pure_bind, map_eq_pure_bind, h1, h2, h3, asAddr]
  simp [Sem.run_bind, l1, l2, l3]
theorem each_is (w : World) (s : ByteArray) : Calls Tryz.prog 49 #[.string s] w fun e w' => e = .returned (.func (.func 75) #[] #[.pointer (some ⟨w.heap.size, 0, none⟩)]) ∧ w' = w.alloc (.cells #[.string s] 9) := by
  go_enter Tryz.func49, Tryz.ntmps49
  go_wp2_with fail
  go_ret
  exact ⟨rfl, rfl⟩
theorem eachB_mem : ∀ (f i : Nat) (l : List UInt8) (x : Nat × Tok), x ∈ eachB f i l → x.1 + x.2.len ≤ l.length ∧ findB (l.drop x.1) = some x.2
  | 0, _, _, x, h => by simp [eachB] at h
  | f + 1, i, l, x, h => by
    cases hB : findB (l.drop (skipB i l)) with
    | none => rw [eachB_none hB] at h; simp at h
    | some t =>
      rw [eachB_some hB] at h
      simp only [List.mem_cons] at h
      rcases h with rfl | h
      · have := findB_len hB
        rw [List.length_drop] at this
        refine ⟨?_, hB⟩
        show skipB i l + t.len ≤ l.length
        omega
      · exact eachB_mem f _ l x h
theorem endB_le {l : List UInt8} : ∀ L : List (Nat × Tok), (∀ x ∈ L, x.1 + x.2.len ≤ l.length) → endB L ≤ l.length
  | [], _ => Nat.zero_le _
  | [x], h => h x (by simp)
  | x :: y :: r, h => endB_le (y :: r) (fun z hz => h z (List.mem_cons_of_mem _ hz))
/-- What Lex tells. -/
def LexPost (w : World) (s : ByteArray) (e : Ending) (w' : World) : Prop :=
  Turn (fun _ => False) w w' ∧
  ((∃ x r pre, toksB s.data.toList = pre ++ x :: r ∧ pre.length = 200 ∧ e = .returned (.tuple #[.slice none 0 0, .int .i64 (x.1 : Int), .int .i64 12])) ∨
   ((toksB s.data.toList).length ≤ 200 ∧ skipB (endB (toksB s.data.toList)) s.data.toList < s.size ∧ e = .returned (.tuple #[.slice none 0 0, .int .i64 (skipB (endB (toksB s.data.toList)) s.data.toList : Int), .int .i64 10])) ∨
   ((toksB s.data.toList).length ≤ 200 ∧ skipB (endB (toksB s.data.toList)) s.data.toList = s.size ∧ ∃ v, e = .returned (.tuple #[v, .int .i64 (s.size : Int), .int .i64 0]) ∧ w'.ownsRow w.heap.size 65 4 v (toksB s.data.toList).length (toksC s (toksB s.data.toList))))
end Go.Proofs.YtadogobdlcionaaGreatDoor
namespace Go.Proofs.YtadogobdlcionaaGreatDoor
open Go.ChangeShapes Go.WideShapes Go.ChangeAt Go.RowKit
set_option linter.unusedVariables false
theorem toksC_at (s : ByteArray) : ∀ (L : List (Nat × Tok)) (i j : Nat) (x : Nat × Tok), L[i]? = some x → j < 4 → (toksC s L)[i * 4 + j]? = (tokC s x)[j]?
  | [], i, j, x, h, _ => by simp at h
  | y :: r, 0, j, x, h, hj => by
    simp at h
    subst h
    show (tokC s y ++ toksC s r)[0 * 4 + j]? = _
    rw [Nat.zero_mul, Nat.zero_add, List.getElem?_append_left (by show j < 4; exact hj)]
  | y :: r, i + 1, j, x, h, hj => by
    rw [List.getElem?_cons_succ] at h
    have IH := toksC_at s r i j x h hj
    show (tokC s y ++ toksC s r)[(i + 1) * 4 + j]? = _
    have hl : (tokC s y).length = 4 := rfl
    rw [List.getElem?_append_right (by rw [hl]; omega), hl, ← IH]
    congr 1
    omega
theorem tok_cells {w : World} {base n : Nat} {g : Nat} {cap : Nat} {s : ByteArray} {L : List (Nat × Tok)} (ho : w.ownsRow base 65 4 (.slice (some ⟨g, 0, none⟩) n cap) n (toksC s L)) (hL : L.length = n) {j : Nat} {x : Nat × Tok} (hx : L[j]? = some x) :
    w.cell? ⟨g, j * 4, none⟩ = some (.int .i64 (x.2.kind : Int)) ∧ w.cell? ⟨g, j * 4 + 1, none⟩ = some (.int .i64 (x.1 : Int)) ∧ w.cell? ⟨g, j * 4 + 2, none⟩ = some (.string (s.extract x.1 (x.1 + x.2.len))) ∧ w.cell? ⟨g, j * 4 + 3, none⟩ = some (.int .i64 (x.2.n : Int)) := by
  have hj : j < n := by rw [← hL]; exact (List.getElem?_eq_some_iff.1 hx).1
  refine ⟨?_, ?_, ?_, ?_⟩
  · have := ho.cellAt (j * 4 + 0) (by omega)
    rw [Nat.add_zero] at this
    exact this.trans ((toksC_at s L j 0 x hx (by omega)).trans rfl)
  · exact (ho.cellAt (j * 4 + 1) (by omega)).trans ((toksC_at s L j 1 x hx (by omega)).trans rfl)
  · exact (ho.cellAt (j * 4 + 2) (by omega)).trans ((toksC_at s L j 2 x hx (by omega)).trans rfl)
  · exact (ho.cellAt (j * 4 + 3) (by omega)).trans ((toksC_at s L j 3 x hx (by omega)).trans rfl)
/-- A parser in memory: its tokens, where it stands, the text's end, how deep it is. -/
structure ParAt (W : World) (p base : Nat) (s : ByteArray) (L : List (Nat × Tok)) (v : Value) (i e nest : Nat) : Prop where
  bl : Blk W p 89
  c0 : W.cell? ⟨p, 0, none⟩ = some v
  c1 : W.cell? ⟨p, 1, none⟩ = some (.int .i64 (i : Int))
  c2 : W.cell? ⟨p, 2, none⟩ = some (.int .i64 (e : Int))
  c3 : W.cell? ⟨p, 3, none⟩ = some (.int .i64 (nest : Int))
  row : W.ownsRow base 65 4 v L.length (toksC s L)
  le : L.length ≤ 200
theorem ParAt.turn {W W' : World} {p base : Nat} {s : ByteArray} {L : List (Nat × Tok)} {v : Value} {i e nest : Nat} (h : ParAt W p base s L v i e nest) (T : Turn (fun _ => False) W W') : ParAt W' p base s L v i e nest :=
  ⟨h.bl.turn T id, T.cell id h.c0, T.cell id h.c1, T.cell id h.c2, T.cell id h.c3, own_turn h.row T (fun _ _ f => f), h.le⟩
/-- It goes on to another place. -/
theorem ParAt.go {W : World} {p base : Nat} {s : ByteArray} {L : List (Nat × Tok)} {v : Value} {i e nest : Nat} (h : ParAt W p base s L v i e nest) (k : Nat) : ParAt (W.setCell ⟨p, 1, none⟩ (.int .i64 (k : Int))) p base s L v k e nest :=
  ⟨h.bl.set _ _, (cell_off _ _ _ _ _ (by decide)).trans h.c0, World.cell?_setCell_same _ _ _ h.c1, (cell_off _ _ _ _ _ (by decide)).trans h.c2, (cell_off _ _ _ _ _ (by decide)).trans h.c3,
    own_turn h.row (Turn.put W p 1 _) (fun k hk q => by
      obtain ⟨⟨cs, hb⟩, _⟩ := own_blk h.row hk
      obtain ⟨cs', hb'⟩ := h.bl
      rw [q, hb'] at hb
      cases hb), h.le⟩
/-- What a token that may be missing reads as. -/
def peekV (s : ByteArray) (L : List (Nat × Tok)) (i : Nat) : Value := match L[i]? with
  | some x => .agg (tokC s x).toArray
  | none => .agg ztok.toArray
theorem size67 : (Tryz.prog.info? 65).map (fun i => i.size) = some 4 := by kernel_rfl
/-- A token, or none, is written to the result. -/
theorem peek_end {w W : World} {b : Nat} {a : Act} (h : Turn (fun _ => False) w W ∧ W.rangeAt b 0 ztok ∧ Blk W b 65) (k i n : Int) (t : ByteArray) (ok : Bool) (hd : a.defers = []) (hp : a.tmps.getD 2 undef = .pointer (some ⟨b, 0, none⟩)) (hk : a.tmps.getD 3 undef = .bool ok) (hb : w.heap.size ≤ b) :
    bodyPost Tryz.prog Tryz.f57 (fun x w' => x = .returned (.tuple #[.agg (tokL k i n t).toArray, .bool ok]) ∧ Turn (fun _ => False) w w') Exit.ret a ((((W.setCell ⟨b, 0, none⟩ (.int .i64 k)).setCell ⟨b, 1, none⟩ (.int .i64 i)).setCell ⟨b, 2, none⟩ (.string t)).setCell ⟨b, 3, none⟩ (.int .i64 n)).drew :=
  have R2 := World.rangeAt_setCells_same W b 0 (tokL k i n t) (range_there h.2.1 rfl h.2.2)
  have TD : Turn (fun _ => False) (W.setCells b 0 (tokL k i n t)) (W.setCells b 0 (tokL k i n t)).drew := (Turn.refl _ _).drewN 1
  bodyPost_ret (v := .tuple #[.agg (tokL k i n t).toArray, .bool ok]) (res_cell_tmp (a := 2) (k := 3) rfl hp hk (run_loadVar_mid _ b 0 65 _ _ (range_turn R2 TD id) Tryz.underlying65 rfl size67)) hd ⟨rfl, (Turn.setCells (tokL k i n t) 0 h.1 (.inr hb)).trans TD⟩
theorem peek_end2 {w W : World} {b : Nat} {a : Act} (h : Turn (fun _ => False) w W ∧ W.rangeAt b 0 ztok ∧ Blk W b 65) (k i n : Int) (t : ByteArray) (ok : Bool) (hd : a.defers = []) (hp : a.tmps.getD 2 undef = .pointer (some ⟨b, 0, none⟩)) (hk : a.tmps.getD 3 undef = .bool ok) (hb : w.heap.size ≤ b) :
    bodyPost Tryz.prog Tryz.f57 (fun x w' => x = .returned (.tuple #[.agg (tokL k i n t).toArray, .bool ok]) ∧ Turn (fun _ => False) w w') Exit.ret a ((((W.setCell ⟨b, 0, none⟩ (.int .i64 k)).setCell ⟨b, 1, none⟩ (.int .i64 i)).setCell ⟨b, 2, none⟩ (.string t)).setCell ⟨b, 3, none⟩ (.int .i64 n)).drew.drew :=
  have R2 := World.rangeAt_setCells_same W b 0 (tokL k i n t) (range_there h.2.1 rfl h.2.2)
  have TD : Turn (fun _ => False) (W.setCells b 0 (tokL k i n t)) (W.setCells b 0 (tokL k i n t)).drew.drew := ((Turn.refl _ _).drewN 1).drewN 1
  bodyPost_ret (v := .tuple #[.agg (tokL k i n t).toArray, .bool ok]) (res_cell_tmp (a := 2) (k := 3) rfl hp hk (run_loadVar_mid _ b 0 65 _ _ (range_turn R2 TD id) Tryz.underlying65 rfl size67)) hd ⟨rfl, (Turn.setCells (tokL k i n t) 0 h.1 (.inr hb)).trans TD⟩
set_option maxRecDepth 100000 in
set_option maxHeartbeats 2000000 in
theorem peek_none (w : World) {p base : Nat} {s : ByteArray} {L : List (Nat × Tok)} {v : Value} {i e nest : Nat} (h : ParAt w p base s L v i e nest) (hi : L.length ≤ i) :
    Calls Tryz.prog 57 #[.pointer (some ⟨p, 0, none⟩)] w fun x w' => x = .returned (.tuple #[.agg ztok.toArray, .bool false]) ∧ Turn (fun _ => False) w w' := by
  obtain ⟨a, c, rfl, -⟩ := own_slice h.row
  obtain ⟨W, hW⟩ : ∃ W, W = w.alloc (.cells ztok.toArray 65) := ⟨_, rfl⟩
  have T := show Turn (fun _ => False) w W by rw [hW]; exact (Turn.refl _ _).alloc _
  have R := range_new w ztok 65
  have B := Blk.new w ztok 65
  rw [← hW] at R B
  have c0 := T.cell id h.c0
  have c1 := T.cell id h.c1
  have u1 : decide ((i : Int) < (L.length : Int)) = false := decide_eq_false (by omega)
  have u2 : decide (i < L.length) = false := decide_eq_false (by omega)
  have HH := Lib.hid (And.intro T (And.intro R B))
  have HW := Lib.hid (show W = w.alloc (.cells #[.int .i64 0, .int .i64 0, .string ⟨#[]⟩, .int .i64 0] 65) from hW)
  have TA : Turn (fun _ => False) W (W.alloc (.cells #[.int .i64 0, .int .i64 0, .string ⟨#[]⟩, .int .i64 0] 65)) := (Turn.refl _ _).alloc _
  have RA := range_turn R TA id
  have y0 : (W.alloc (.cells #[.int .i64 0, .int .i64 0, .string ⟨#[]⟩, .int .i64 0] 65)).cell? ⟨w.heap.size, 0, none⟩ = some (.int .i64 0) := RA 0 _ rfl
  have y1 : (W.alloc (.cells #[.int .i64 0, .int .i64 0, .string ⟨#[]⟩, .int .i64 0] 65)).cell? ⟨w.heap.size, 1, none⟩ = some (.int .i64 0) := RA 1 _ rfl
  have y2 : (W.alloc (.cells #[.int .i64 0, .int .i64 0, .string ⟨#[]⟩, .int .i64 0] 65)).cell? ⟨w.heap.size, 2, none⟩ = some (.string ⟨#[]⟩) := RA 2 _ rfl
  have y3 : (W.alloc (.cells #[.int .i64 0, .int .i64 0, .string ⟨#[]⟩, .int .i64 0] 65)).cell? ⟨w.heap.size, 3, none⟩ = some (.int .i64 0) := RA 3 _ rfl
  have ff := (B.turn TA id).fz
  have FIN := Lib.hid (And.intro (T.trans TA) (And.intro RA (B.turn TA id)))
  clear T R B hW h hi TA RA
  generalize L.length = n at *
  go_enter Tryz.func57, Tryz.ntmps57
  go_upto_region 1 with fail
  rw [← HW.out]
  clear HW
  go_region
  all_goals go_wp2_with fail
  all_goals exact peek_end FIN.out 0 0 0 ⟨#[]⟩ false rfl rfl rfl (Nat.le_refl _)
set_option maxRecDepth 100000 in
set_option maxHeartbeats 4000000 in
theorem peek_some (w : World) {p base : Nat} {s : ByteArray} {L : List (Nat × Tok)} {v : Value} {i e nest : Nat} (h : ParAt w p base s L v i e nest) {x : Nat × Tok} (hx : L[i]? = some x) :
    Calls Tryz.prog 57 #[.pointer (some ⟨p, 0, none⟩)] w fun y w' => y = .returned (.tuple #[.agg (tokC s x).toArray, .bool true]) ∧ Turn (fun _ => False) w w' := by
  have hi := (List.getElem?_eq_some_iff.1 hx).1
  obtain ⟨a, c, rfl, hg⟩ := own_slice h.row
  obtain ⟨g, rfl⟩ := hg (by omega)
  obtain ⟨W, hW⟩ : ∃ W, W = w.alloc (.cells ztok.toArray 65) := ⟨_, rfl⟩
  have T := show Turn (fun _ => False) w W by rw [hW]; exact (Turn.refl _ _).alloc _
  have R := range_new w ztok 65
  have B := Blk.new w ztok 65
  rw [← hW] at R B
  obtain ⟨q0, q1, q2, q3⟩ := tok_cells h.row rfl hx
  replace q0 := T.cell id q0
  replace q1 := T.cell id q1
  replace q2 := T.cell id q2
  replace q3 := T.cell id q3
  have c0 := T.cell id h.c0
  have c1 := T.cell id h.c1
  have u1 : decide ((i : Int) < (L.length : Int)) = true := decide_eq_true (by omega)
  have u2 : decide (i < L.length) = true := decide_eq_true hi
  have i0 : (0 : Int) ≤ (i : Int) := Int.natCast_nonneg i
  have i1 : (i : Int) < (L.length : Int) := Int.ofNat_lt.2 hi
  have y0 : W.cell? ⟨w.heap.size, 0, none⟩ = some (.int .i64 0) := R 0 _ rfl
  have y1 : W.cell? ⟨w.heap.size, 1, none⟩ = some (.int .i64 0) := R 1 _ rfl
  have y2 : W.cell? ⟨w.heap.size, 2, none⟩ = some (.string ⟨#[]⟩) := R 2 _ rfl
  have y3 : W.cell? ⟨w.heap.size, 3, none⟩ = some (.int .i64 0) := R 3 _ rfl
  have ff := B.fz
  have np : p ≠ w.heap.size := fun q => by have := h.bl.lt; omega
  have ng : g ≠ w.heap.size := fun q => by have := (own_blk h.row (k := g) rfl).1.lt; omega
  have FIN := Lib.hid (And.intro T (And.intro R B))
  have HW := Lib.hid (show W = w.alloc (.cells #[.int .i64 0, .int .i64 0, .string ⟨#[]⟩, .int .i64 0] 65) from hW)
  clear T R B hW h hi hx
  unfold tokC
  generalize s.extract x.1 (x.1 + x.2.len) = tx at *
  generalize L.length = n at *
  go_enter Tryz.func57, Tryz.ntmps57
  go_upto_region 1 with fail
  rw [← HW.out]
  clear HW
  go_region
  all_goals go_wp2_with fail
  all_goals (try go_region)
  all_goals (try go_wp2_with fail)
  all_goals exact peek_end2 FIN.out x.2.kind x.1 x.2.n tx true rfl rfl rfl (Nat.le_refl _)
end Go.Proofs.YtadogobdlcionaaGreatDoor
