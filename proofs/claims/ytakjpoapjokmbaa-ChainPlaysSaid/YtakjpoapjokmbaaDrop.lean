/-
  A chain in memory: what Drop does.
-/
import Derived.Test.YtakjpoapjokmbaaRRow
namespace Go.Proofs.Ytakjpoapjokmbaa
open Go.ChangeShapes Go.WideShapes Go.ChangeAt Go.RowKit
set_option linter.unusedVariables false

def DRel (w : World) (c mb n m f : Nat) (nx : Int) (G : Int → Option Nd) (i0 : Int) (gh : Nat) (v1 v8 : Value) (wr : World) : Prop :=
  ∃ (f' : Nat) (G' : Int → Option Nd) (i' : Int) (l : List (Int × Int)) (n' : Nat), v1 = .int .i64 i' ∧ gh = f' ∧ wr.ownsRow w.heap.size 39 2 v8 l.length (rcells l) ∧ Chn wr c mb n' (m - l.length) nx G' ∧ DropOk f' G' i' ∧
    dropG f G i0 = ((dropG f' G' i').1, l ++ (dropG f' G' i').2) ∧ n' ≤ n ∧ l.length + f' ≤ f ∧ But mb w wr
def DPost (w : World) (c mb n m f : Nat) (nx : Int) (G : Int → Option Nd) (i : Int) (e : Ending) (w' : World) : Prop :=
  ∃ v n', e = .returned (.tuple #[v, .bool true]) ∧ w'.ownsRow w.heap.size 39 2 v (dropG f G i).2.length (rcells (dropG f G i).2) ∧ Chn w' c mb n' (m - (dropG f G i).2.length) nx (dropG f G i).1 ∧ n' ≤ n + 1 ∧ But mb w w'
theorem Chn.blocks {w w' : World} {c mb n m : Nat} {nx : Int} {G : Int → Option Nd} (h : Chn w c mb n m nx G) (e : w'.heap[c]? = w.heap[c]?) (e2 : w'.heap[mb]? = w.heap[mb]?) : Chn w' c mb n m nx G :=
  ⟨(World.cell?_of_block (w := w) (a := ⟨c, 0, none⟩) e).trans h.c0, (World.cell?_of_block (w := w) (a := ⟨c, 1, none⟩) e).trans h.c1, (World.frozen?_of_block (w := w) (a := ⟨c, 0, none⟩) e).trans h.f0, h.ms.block e2, h.ne⟩
theorem wpList_append_runC {P : Program} {w w' : World} {ops : Array Oper} {rest : List Oper} {o : Oper} {a : Act} {Q : Exit → Act → World → Prop} (hgd : o.guard = none) (s x : Operand) (t : TypeId)
    (ho : o.op = .call { callee := .builtin .append, args := #[s, x], argTypes := #[t, t] }) {v v1 v2 : Value} (hs : a.eval s = v1) (hx : a.eval x = v2)
    (hr : (Builtin.append_ #[t, t] o.type #[v1, v2]).run P w = .ok v w') (h : wpList P ops Q rest (a.put o.dst v) w') : wpList P ops Q (o :: rest) a w :=
  wpList_plain hgd fun _ hK => by
    unfold Oper.wp execOp
    simp only [ho, resolve, invoke, builtin, Sem.run_bind, Sem.run_pure, Result.andThen_ok, List.map_toArray, List.map_cons, List.map_nil, hs, hx, hr]
    exact hK _ _ h
theorem wf_small {i : Int} (h0 : -1000 ≤ i) (h1 : i ≤ 1000) : (Lit.int .i64 i).wf = true := by
  simp only [Lit.wf, Bool.and_eq_true, decide_eq_true_eq]
  show (-9223372036854775808 : Int) ≤ i ∧ i ≤ 9223372036854775807
  omega
set_option maxRecDepth 100000 in
set_option maxHeartbeats 4000000 in
theorem drop_at {w : World} {c mb n m f : Nat} {nx : Int} {G : Int → Option Nd} (h : Chn w c mb n m nx G) {i : Int} {q0 : Nd} (hG0 : G i = some q0) (hi0 : -1000 ≤ i) (hi1 : i ≤ 1000) (hok : DropOk f G i) (hf : f ≤ 100) (hn : n ≤ 100000) :
    Calls Try.prog 17 #[.pointer (some ⟨c, 0, none⟩), .int .i64 i] w (DPost w c mb n m f nx G i) := by
  have F := find_at h (wf_small hi0 hi1)
  rw [hG0] at F
  obtain ⟨p1, p2, p3, p4, p5, p6⟩ := q0
  simp only [Nd.val, Option.getD_some, Option.isSome_some] at F
  have F := Lib.hid F
  have hmb := h.lt.2
  have hcl := h.lt.1
  have H := Lib.hid (And.intro h hok)
  clear h hok hG0
  go_enter Try.func17, Try.ntmps17
  go_wp2_with fail
  refine F.out.mono ?_
  rintro e w1 ⟨rfl, b1⟩
  have bt := b1.alloc b1.size (.cells #[.int .i64 p1, .int .i64 p2, .int .i64 p3, .int .i64 p4, .int .i64 p5, .int .i64 p6] 61)
  have R0 : DRel w c mb n m f nx G i f (.int .i64 i) (.slice none 0 0) (w1.alloc (.cells #[.int .i64 p1, .int .i64 p2, .int .i64 p3, .int .i64 p4, .int .i64 p5, .int .i64 p6] 61)) :=
    ⟨f, G, i, [], n, rfl, rfl, World.ownsRow_nil _ _ _ _, H.out.1.below bt, H.out.2, by simp, Nat.le_refl _, by simp, But.of_below bt⟩
  clear F b1 bt H
  go_wp2_with fail
  go_loopg [1, 8] f (fun gh v1 v8 wr => DRel w c mb n m f nx G i gh v1 v8 wr)
  case atStart => exact R0
  case round =>
    clear R0
    obtain ⟨f', G', i', l, n', rfl, hg, hrow, hc, hok, hd, hn', hlf, hbt⟩ := hrel
    by_cases hie : i' = -1
    · subst hie
      rw [dropG_end] at hd
      have FIN := Lib.hid (And.intro hrow (And.intro hc (And.intro hd (And.intro hn' hbt))))
      clear hrow hc hd hok hbt
      go_wp2_with fail
      go_ret2
      obtain ⟨a1, a2, a3, a4, a5⟩ := FIN.out
      unfold DPost
      rw [a3]
      simp only [List.append_nil]
      exact ⟨_, n', rfl, a1, a2, by omega, a5⟩
    · cases f' with
      | zero => exact absurd hok hie
      | succ k =>
        obtain hok := hok.resolve_left hie
        obtain ⟨q, hG, h0, h1000, hc1, hc2, hor⟩ := hok
        have hwf := wf_small (i := i') (by omega) h1000
        have hrun := hc.ms.look0 Try.underlying3 Try.underlying56 (zeroE wr) hwf
        rw [hG] at hrun
        obtain ⟨p1, p2, p3, p4, p5, p6⟩ := q
        simp only [Nd.val, Option.getD_some] at hrun
        simp only at hc1 hc2 hor
        have t1 : (i' == -1) = false := by simpa using hie
        have ew : wrap64 (p6 - 1) = p6 - 1 := by unfold wrap64; omega
        have ew2 : IntKind.i64.wrap (p6 - 1) = p6 - 1 := IntWalk.i64_in _ (by omega)
        have c1 := hc.c1
        obtain ⟨va, vc, rfl, _⟩ := rrow_slice hrow
        have hwr := hbt.size
        have S := Lib.hid (And.intro hrow (And.intro hc (And.intro hd (And.intro hbt (And.intro hG hor)))))
        clear hrow hc hd hbt hG hor
        by_cases hgt : 1 < p6
        · have t2 : decide (0 < p6 - 1) = true := by simp; omega
          go_wp2_with fail
          have hb1 := (Below.refl wr.heap.size wr).alloc (Nat.le_refl _) (.cells #[.int .i64 p1, .int .i64 p2, .int .i64 p3, .int .i64 p4, .int .i64 p5, .int .i64 (p6 - 1)] 61)
          have h2 := S.out.2.1.below hb1
          have row2 := S.out.1.alloc (.cells #[.int .i64 p1, .int .i64 p2, .int .i64 p3, .int .i64 p4, .int .i64 p5, .int .i64 (p6 - 1)] 61)
          have q0 := World.cell?_alloc_new wr #[.int .i64 p1, .int .i64 p2, .int .i64 p3, .int .i64 p4, .int .i64 p5, .int .i64 (p6 - 1)] 61 0
          have q1 := World.cell?_alloc_new wr #[.int .i64 p1, .int .i64 p2, .int .i64 p3, .int .i64 p4, .int .i64 p5, .int .i64 (p6 - 1)] 61 1
          have q2 := World.cell?_alloc_new wr #[.int .i64 p1, .int .i64 p2, .int .i64 p3, .int .i64 p4, .int .i64 p5, .int .i64 (p6 - 1)] 61 2
          have q3 := World.cell?_alloc_new wr #[.int .i64 p1, .int .i64 p2, .int .i64 p3, .int .i64 p4, .int .i64 p5, .int .i64 (p6 - 1)] 61 3
          have q4 := World.cell?_alloc_new wr #[.int .i64 p1, .int .i64 p2, .int .i64 p3, .int .i64 p4, .int .i64 p5, .int .i64 (p6 - 1)] 61 4
          have q5 := World.cell?_alloc_new wr #[.int .i64 p1, .int .i64 p2, .int .i64 p3, .int .i64 p4, .int .i64 p5, .int .i64 (p6 - 1)] 61 5
          simp only [List.getElem?_toArray, List.getElem?_cons_zero, List.getElem?_cons_succ] at q0 q1 q2 q3 q4 q5
          have bt2 := S.out.2.2.2.1.trans (But.of_below (b := mb) hb1)
          have dd := S.out.2.2.1
          rw [dropG_more h0 S.out.2.2.2.2.1 hgt, List.append_nil] at dd
          have hGs : (G' i').isSome = true := by rw [S.out.2.2.2.2.1]; rfl
          clear S hb1 hrun
          generalize wr.alloc (.cells #[.int .i64 p1, .int .i64 p2, .int .i64 p3, .int .i64 p4, .int .i64 p5, .int .i64 (p6 - 1)] 61) = W2 at *
          generalize wr.heap.size = tb at *
          refine wp_tail_anyC 6 (by kernel_rfl) (by kernel_rfl) ?_
          intro W hW
          have ec : ∀ a, W.cell? a = W2.cell? a := fun a => by rw [hW]; rfl
          have hb2 : Below W2.heap.size W2 W := by rw [hW]; exact (Below.refl _ _).drew
          have h3 := h2.below hb2
          have row3 := rrow_keep (e := 39) row2 (fun x hx => hb2.block x (rrow_lt row2 hx).2)
          have q0 := (ec ⟨tb, 0, none⟩).trans q0
          have q1 := (ec ⟨tb, 1, none⟩).trans q1
          have q2 := (ec ⟨tb, 2, none⟩).trans q2
          have q3 := (ec ⟨tb, 3, none⟩).trans q3
          have q4 := (ec ⟨tb, 4, none⟩).trans q4
          have q5 := (ec ⟨tb, 5, none⟩).trans q5
          have c1 := h3.c1
          obtain ⟨W', hrun, hm, hg⟩ := h3.ms.store Try.underlying3 Try.underlying56 (by unfold maxLen; omega) hwf ⟨p1, p2, p3, p4, p5, p6 - 1⟩
          rw [hGs, if_pos rfl] at hm
          simp only [Nd.val] at hrun
          have row4 := rrow_keep (e := 39) row3 (fun x hx => hg.block x (rrow_lt row3 hx).2 (fun e => by injection e with e; have := (rrow_lt row3 hx).1; omega))
          have FIN := Lib.hid (show DPost w c mb n m f nx G i (.returned (.tuple #[.slice va l.length vc, .bool true])) W' from ⟨_, n' + 1, rfl, by rw [dd]; exact row4, by rw [dd]; exact h3.turn (But.of_grown hg) hm, by omega, (bt2.trans (But.of_below hb2)).trans (But.of_grown hg)⟩)
          clear ec hW hb2 h2 h3 hm hg row2 row3 row4 bt2 dd hGs
          simp only [List.take_succ_cons, List.take_zero, List.drop_succ_cons, List.drop_zero]
          repeat still_step
          refine wpStill_nil ?_
          go_wp2_with fail
          go_ret2
          exact FIN.out
        · have t2 : decide (0 < p6 - 1) = false := by simp; omega
          have hb1 := (Below.refl wr.heap.size wr).alloc (Nat.le_refl _) (.cells #[.int .i64 p1, .int .i64 p2, .int .i64 p3, .int .i64 p4, .int .i64 p5, .int .i64 (p6 - 1)] 61)
          have h2 := S.out.2.1.below hb1
          have c1a := h2.c1
          have row2 := S.out.1.alloc (.cells #[.int .i64 p1, .int .i64 p2, .int .i64 p3, .int .i64 p4, .int .i64 p5, .int .i64 (p6 - 1)] 61)
          have q0 := World.cell?_alloc_new wr #[.int .i64 p1, .int .i64 p2, .int .i64 p3, .int .i64 p4, .int .i64 p5, .int .i64 (p6 - 1)] 61 0
          have q1 := World.cell?_alloc_new wr #[.int .i64 p1, .int .i64 p2, .int .i64 p3, .int .i64 p4, .int .i64 p5, .int .i64 (p6 - 1)] 61 1
          have q2 := World.cell?_alloc_new wr #[.int .i64 p1, .int .i64 p2, .int .i64 p3, .int .i64 p4, .int .i64 p5, .int .i64 (p6 - 1)] 61 2
          have q3 := World.cell?_alloc_new wr #[.int .i64 p1, .int .i64 p2, .int .i64 p3, .int .i64 p4, .int .i64 p5, .int .i64 (p6 - 1)] 61 3
          have q4 := World.cell?_alloc_new wr #[.int .i64 p1, .int .i64 p2, .int .i64 p3, .int .i64 p4, .int .i64 p5, .int .i64 (p6 - 1)] 61 4
          have q5 := World.cell?_alloc_new wr #[.int .i64 p1, .int .i64 p2, .int .i64 p3, .int .i64 p4, .int .i64 p5, .int .i64 (p6 - 1)] 61 5
          simp only [List.getElem?_toArray, List.getElem?_cons_zero, List.getElem?_cons_succ] at q0 q1 q2 q3 q4 q5
          have bt2 := S.out.2.2.2.1.trans (But.of_below (b := mb) hb1)
          have dd := S.out.2.2.1
          rw [dropG_last h0 S.out.2.2.2.2.1 hgt] at dd
          have hGs : (G' i').isSome = true := by rw [S.out.2.2.2.2.1]; rfl
          have hdo := S.out.2.2.2.2.2.resolve_left hgt
          have rlt := fun x hx => (rrow_lt S.out.1 (k := x) hx)
          obtain ⟨W2, hdel, hm2, hg2⟩ := h2.ms.take Try.underlying3 Try.underlying56 hwf 0
          rw [hGs, if_pos rfl] at hm2
          have h3 := h2.turn (But.of_grown hg2) hm2
          have zt : wr.heap.size < (wr.alloc (.cells #[.int .i64 p1, .int .i64 p2, .int .i64 p3, .int .i64 p4, .int .i64 p5, .int .i64 (p6 - 1)] 61)).heap.size := by rw [World.size_alloc]; omega
          have eb := hg2.block wr.heap.size zt (fun e => by injection e with e; omega)
          have row3 := rrow_keep (e := 39) row2 (fun x hx => hg2.block x (rrow_lt row2 hx).2 (fun e => by injection e with e; have := (rrow_lt row2 hx).1; omega))
          have s2 := hg2.size
          have r0 := (World.cell?_of_block (w := wr.alloc (.cells #[.int .i64 p1, .int .i64 p2, .int .i64 p3, .int .i64 p4, .int .i64 p5, .int .i64 (p6 - 1)] 61)) (a := ⟨wr.heap.size, 0, none⟩) eb).trans q0
          have r3 := (World.cell?_of_block (w := wr.alloc (.cells #[.int .i64 p1, .int .i64 p2, .int .i64 p3, .int .i64 p4, .int .i64 p5, .int .i64 (p6 - 1)] 61)) (a := ⟨wr.heap.size, 3, none⟩) eb).trans q3
          have r4 := (World.cell?_of_block (w := wr.alloc (.cells #[.int .i64 p1, .int .i64 p2, .int .i64 p3, .int .i64 p4, .int .i64 p5, .int .i64 (p6 - 1)] 61)) (a := ⟨wr.heap.size, 4, none⟩) eb).trans q4
          have y0 := World.cell?_alloc_new W2 #[.int .i64 p4, .int .i64 p5] 39 0
          have y1 := World.cell?_alloc_new W2 #[.int .i64 p4, .int .i64 p5] 39 1
          simp only [List.getElem?_toArray, List.getElem?_cons_zero, List.getElem?_cons_succ] at y0 y1
          have zr : wr.heap.size < W2.heap.size := Nat.lt_of_lt_of_le zt s2
          obtain ⟨v4, W4, happ, row4, hg4⟩ := ref_app (row3.alloc (.cells #[.int .i64 p4, .int .i64 p5] 39)) p4 p5 W2.heap.size y0 y1 (by omega) (by rw [World.size_alloc]; omega)
          have h4 := h3.alloc (.cells #[.int .i64 p4, .int .i64 p5] 39)
          have far : ∀ x, (x = c ∨ x = mb ∨ x = wr.heap.size) → x < (W2.alloc (.cells #[.int .i64 p4, .int .i64 p5] 39)).heap.size → W4.heap[x]? = (W2.alloc (.cells #[.int .i64 p4, .int .i64 p5] 39)).heap[x]? := fun x hx hl => hg4.block x hl (fun e => by
            obtain ⟨e1, e2⟩ := rlt x e.symm
            omega)
          have h5 := h4.blocks (far c (.inl rfl) h4.lt.1) (far mb (.inr (.inl rfl)) h4.lt.2)
          have zr2 : wr.heap.size < (W2.alloc (.cells #[.int .i64 p4, .int .i64 p5] 39)).heap.size := by rw [World.size_alloc]; omega
          have r0' := (World.cell?_of_block (w := W2.alloc (.cells #[.int .i64 p4, .int .i64 p5] 39)) (a := ⟨wr.heap.size, 0, none⟩) (far _ (.inr (.inr rfl)) zr2)).trans ((World.cell?_alloc_lt W2 _ _ zr).trans r0)
          have bt3 := bt2.trans (But.of_grown hg2)
          have bt4 : But mb w W4 := ⟨hg4.os.trans bt3.os, hg4.tape.trans bt3.tape, hg4.output.trans bt3.output, by have := hg4.size; have := bt3.size; rw [World.size_alloc] at *; omega, fun x hx hn => by
            have hx2 : x < W2.heap.size := Nat.lt_of_lt_of_le hx bt3.size
            exact ((hg4.block x (by rw [World.size_alloc]; omega) (fun e => by obtain ⟨e1, _⟩ := rlt x e.symm; omega)).trans (Below.heap_alloc _ _ _ hx2)).trans (bt3.block x hx hn)⟩
          obtain ⟨v5, vc5, rfl, _⟩ := rrow_slice row4
          have HA := Lib.hid happ
          have R := Lib.hid (And.intro row4 (And.intro h5 (And.intro hdo (And.intro dd bt4))))
          clear hb1 h2 row2 bt2 bt3 dd hGs hdo rlt hm2 hg2 h3 eb row3 row4 hg4 h4 far h5 bt4 q1 q2 q3 q4 q5 happ S
          go_wp2_with (at_builtin; refine wpList_append_runC rfl _ _ _ rfl rfl rfl HA.out ?_)
          go_roundg k
          case measure => omega
          case rel =>
            obtain ⟨a1, a2, a3, a4, a5⟩ := R.out
            refine ⟨k, updG G' i' none, p1, l ++ [(p4, p5)], n', rfl, rfl, by simp only [List.length_append, List.length_cons, List.length_nil, Nat.zero_add] at a1 ⊢; exact a1, ?_, a3, ?_, hn', by rw [List.length_append]; simp; omega, a5⟩
            · rw [List.length_append, ← Nat.sub_sub]
              exact a2
            · rw [a4, List.append_assoc]
              rfl
end Go.Proofs.Ytakjpoapjokmbaa
