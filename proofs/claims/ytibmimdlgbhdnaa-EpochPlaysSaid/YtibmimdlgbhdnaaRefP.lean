/-
  The document's own epochs, in memory: what is ripe; new ones.
-/
import Derived.Test.YtibmimdlgbhdnaaRefR
namespace Go.Proofs.Ytibmimdlgbhdnaa
open Go.ChangeShapes Go.WideShapes Go.ChangeAt Go.RowKit
set_option linter.unusedVariables false

theorem turn_new {w wr wa : World} {v : Value} {e : TypeId} {s m : Nat} {xs : List Value} (T : Turn (fun _ => False) w wr) (hr : wr.ownsRow w.heap.size e s v m xs) (T2 : Turn (fun k => v.ownBlock = some k) wr wa) : Turn (fun _ => False) w wa :=
  ⟨T2.os.trans T.os, T2.tape.trans T.tape, T2.output.trans T.output, Nat.le_trans T.size T2.size, fun k hk _ => (T2.block k (Nat.lt_of_lt_of_le hk T.size) (fun e => by have := (hr.lt k e).1; omega)).trans (T.block k hk id)⟩
theorem row_low {w : World} {b b' : Nat} {e : TypeId} {size : Nat} {v : Value} {n : Nat} {xs : List Value} (h : w.ownsRow b e size v n xs) (hb : b' ≤ b) : w.ownsRow b' e size v n xs := by
  refine ⟨h.1, ?_⟩
  rcases h.2 with h0 | ⟨g, cap, cur, rfl, hg, rest⟩
  · exact .inl h0
  · exact .inr ⟨g, cap, cur, rfl, Nat.le_trans hb hg, rest⟩
theorem told_take {now : Int} {l : List (Int × Int × Int)} {j : Nat} {q : Int × Int × Int} (h : l[j]? = some q) : told now (l.take (j + 1)) = told now (l.take j) ++ (if rp now q then [ref q] else []) := by
  rw [List.take_add_one, h]
  unfold told
  simp only [Option.toList_some, List.filter_append, List.map_append]
  congr 1
  cases hr : rp now q <;> simp [hr]
theorem kept_take {now : Int} {l : List (Int × Int × Int)} {j : Nat} {q : Int × Int × Int} (h : l[j]? = some q) : kept now (l.take (j + 1)) = kept now (l.take j) ++ (if rp now q then [] else [q]) := by
  rw [List.take_add_one, h]
  unfold kept
  simp only [Option.toList_some, List.filter_append]
  congr 1
  cases hr : rp now q <;> simp [hr]
theorem told_len (now : Int) (l : List (Int × Int × Int)) : (told now l).length ≤ l.length := by
  unfold told
  rw [List.length_map]
  exact List.length_filter_le _ _
theorem kept_len (now : Int) (l : List (Int × Int × Int)) : (kept now l).length ≤ l.length := List.length_filter_le _ _
section
variable {w w' : World} {rb ab n cap base : Nat} {now : Int} {P : Nat → Int} {U : Nat → Value} {Q : Nat → List (Int × Int × Int)}
def RpRel (w : World) (now : Int) (L : List (Int × Int × Int)) (gh : Nat) (v6 v7 v8 : Value) (wr : World) : Prop :=
  ∃ j : Nat, v8 = .int .i64 (j : Int) ∧ j ≤ L.length ∧ gh = L.length - j ∧ wr.ownsRow w.heap.size 51 2 v6 (told now (L.take j)).length (cells2 (told now (L.take j))) ∧ wr.ownsRow w.heap.size 105 3 v7 (kept now (L.take j)).length (cells3 (kept now (L.take j))) ∧ Turn (fun _ => False) w wr
def RRipePost (w : World) (rb ab n cap base : Nat) (now : Int) (P : Nat → Int) (U : Nat → Value) (Q : Nat → List (Int × Int × Int)) (a : Nat) (e : Ending) (w' : World) : Prop :=
  ∃ vl u', e = .returned vl ∧ w'.ownsRow w.heap.size 51 2 vl (told now (Q a)).length (cells2 (told now (Q a))) ∧ RefE w' rb ab n cap base now P (upd U a u') (upd Q a (kept now (Q a))) ∧ Turn (RefOwn rb ab n U) w w'
set_option maxRecDepth 100000 in
set_option maxHeartbeats 4000000 in
theorem RefE.ripe (h : RefE w rb ab n cap base now P U Q) {a : Nat} (ha : a < n) (hq : (Q a).length ≤ 1000) :
    Calls Try.prog 41 #[.pointer (some ⟨rb, 0, none⟩), .int .i64 (a : Int)] w (RRipePost w rb ab n cap base now P U Q a) := by
  have H := h.is (a : Int)
  rw [hasB_yes ha] at H
  have H := Lib.hid H
  have E := Lib.hid h
  have han : (a : Int) < (n : Int) := by omega
  have ha0 : (0 : Int) ≤ (a : Int) := by omega
  have nn := h.nn
  have R0 : RpRel w now (Q a) (Q a).length (.slice none 0 0) (.slice none 0 0) (.int .i64 0) w := ⟨0, rfl, Nat.zero_le _, rfl, World.ownsRow_nil _ _ _ _, World.ownsRow_nil _ _ _ _, Turn.refl _ _⟩
  have nn0 := nn.1
  have nn1 := nn.2
  clear h nn
  go_enter Try.func41, Try.ntmps41
  go_wp2_with fail
  refine H.out.mono ?_
  rintro e w1 ⟨rfl, rfl⟩
  go_wp2_with fail
  go_loopg [6, 7, 8] (Q a).length (fun gh v6 v7 v8 wr => RpRel w now (Q a) gh v6 v7 v8 wr)
  case atStart => exact R0
  case round =>
    clear R0
    obtain ⟨j, rfl, hj, hgj, hr6, hr7, T⟩ := hrel
    obtain ⟨a6, c6, e6, _⟩ := own_slice hr6
    obtain ⟨a7, c7, e7, _⟩ := own_slice hr7
    subst e6
    subst e7
    have hE := E.out.same T
    have c0 := hE.c0
    have c1 := hE.c1
    have cu := hE.cu a ha
    have rows := hE.rows a ha
    obtain ⟨ad, cp, eu, had⟩ := own_slice rows
    rw [eu] at cu
    have fab := hE.fa (a * 2 + 1)
    by_cases hjl : j < (Q a).length
    · obtain ⟨q, hqj⟩ : ∃ q, (Q a)[j]? = some q := ⟨_, List.getElem?_eq_getElem hjl⟩
      obtain ⟨g, rfl⟩ := had (by omega)
      rw [eu] at rows
      obtain ⟨z0, z1, z2⟩ := cells3_at (Q a) j q hqj
      have y0 := (rows.cellAt (j * 3) (by omega)).trans z0
      have y1 := (rows.cellAt (j * 3 + 1) (by omega)).trans z1
      have y2 := (rows.cellAt (j * 3 + 2) (by omega)).trans z2
      have t1 : decide ((j : Int) < ((Q a).length : Int)) = true := by simp; omega
      have hjn : (j : Int) < ((Q a).length : Int) := by omega
      have hj0 : (0 : Int) ≤ (j : Int) := by omega
      have et := told_take (now := now) hqj
      have ek := kept_take (now := now) hqj
      have lt := told_len now ((Q a).take j)
      have lk := kept_len now ((Q a).take j)
      have ltj : ((Q a).take j).length ≤ 1000 := by rw [List.length_take]; omega
      have K := Lib.hid (And.intro hr6 (And.intro hr7 (And.intro T (And.intro hgj (And.intro et (And.intro ek hE.bw))))))
      have s1 : IntKind.i64.wrap (now - 2) = now - 2 := IntWalk.i64_in _ (by omega)
      have hrpq : rp now q = decide (q.2.2 ≤ now - 2) := rfl
      have HRP := Lib.hid hrpq
      clear hr6 hr7 T hgj et ek z0 z1 z2 rows eu had hE hqj hrpq
      obtain ⟨q0, q1, q2⟩ := q
      simp only at y0 y1 y2
      go_wp2_with fail
      have b0 : (wr.alloc (.cells #[.int .i64 q0, .int .i64 q1, .int .i64 q2] 105)).cell? ⟨wr.heap.size, 0, none⟩ = some (.int .i64 q0) := World.cell?_alloc_new wr #[.int .i64 q0, .int .i64 q1, .int .i64 q2] 105 0
      have b1 : (wr.alloc (.cells #[.int .i64 q0, .int .i64 q1, .int .i64 q2] 105)).cell? ⟨wr.heap.size, 1, none⟩ = some (.int .i64 q1) := World.cell?_alloc_new wr #[.int .i64 q0, .int .i64 q1, .int .i64 q2] 105 1
      have b2 : (wr.alloc (.cells #[.int .i64 q0, .int .i64 q1, .int .i64 q2] 105)).cell? ⟨wr.heap.size, 2, none⟩ = some (.int .i64 q2) := World.cell?_alloc_new wr #[.int .i64 q0, .int .i64 q1, .int .i64 q2] 105 2
      have c0' := past (o := .cells #[.int .i64 q0, .int .i64 q1, .int .i64 q2] 105) c0
      have bW : Below wr.heap.size wr (wr.alloc (.cells #[.int .i64 q0, .int .i64 q1, .int .i64 q2] 105)) := (Below.refl _ wr).alloc (Nat.le_refl _) _
      have BW := Lib.hid bW
      clear y0 y1 y2 c0 c1 cu bW
      generalize wr.alloc (.cells #[.int .i64 q0, .int .i64 q1, .int .i64 q2] 105) = W at *
      obtain ⟨ob, hob⟩ : ∃ ob, wr.heap.size = ob := ⟨_, rfl⟩
      rw [hob] at b0 b1 b2 ⊢
      have HOB := Lib.hid hob
      clear hob
      go_quiet (fail)
      have b0 : (W.drewN nq).cell? ⟨ob, 0, none⟩ = _ := b0
      have b1 : (W.drewN nq).cell? ⟨ob, 1, none⟩ = _ := b1
      have b2 : (W.drewN nq).cell? ⟨ob, 2, none⟩ = _ := b2
      have BW2 := Lib.hid (show Below wr.heap.size wr (W.drewN nq) from BW.out.trans ⟨rfl, rfl, rfl, Nat.le_refl _, fun _ _ => rfl⟩)
      clear BW c0'
      generalize W.drewN nq = W at *
      have hrow6 := K.out.1
      have hrow7 := K.out.2.1
      have hwz := K.out.2.2.1.size
      by_cases hrip : q2 ≤ now - 2
      · have t2 : decide (q2 ≤ now - 2) = true := by simpa using hrip
        obtain ⟨v', wa, hrun, hown, T2⟩ := ref_app (t := W.heap.size) (WA := W.alloc (.cells #[.int .i64 q0, .int .i64 q1] 51)) hrow6 hwz (q0, q1) (by omega) (BW2.out.alloc BW2.out.size _) (World.cell?_alloc_new W #[.int .i64 q0, .int .i64 q1] 51 0) (World.cell?_alloc_new W #[.int .i64 q0, .int .i64 q1] 51 1)
        have F := Lib.hid (show RpRel w now (Q a) ((Q a).length - (j + 1)) v' (.slice a7 (kept now ((Q a).take j)).length c7) (.int .i64 ((j + 1 : Nat) : Int)) wa from ⟨j + 1, rfl, by omega, rfl, by
            rw [K.out.2.2.2.2.1, HRP.out, t2]
            exact hown, by
            rw [K.out.2.2.2.2.2.1, HRP.out, t2]
            simp only [if_true, List.append_nil]
            refine own_turn hrow7 T2 (fun k hk e => ?_)
            rcases own_apart hrow7 hrow6 (by decide) with q | q
            · rw [hk] at q
              cases q
            · exact q (by rw [hk, e]), turn_new K.out.2.2.1 hrow6 T2⟩)
        have RUN := Lib.hid hrun
        clear hrow6 hrow7 hrun hown T2
        go_wp2_with (refine rl_append_run (by rfl) _ _ _ (by rfl) (by rfl) (by rfl) RUN.out ?_)
        go_roundg ((Q a).length - (j + 1))
        case measure => have := K.out.2.2.2.1; omega
        case rel => exact F.out
      · have t2 : decide (q2 ≤ now - 2) = false := by simpa using hrip
        obtain ⟨v', wa, hrun, hown, T2, _⟩ := old_app (t := W.heap.size) (WA := W.alloc (.cells #[.int .i64 q0, .int .i64 q1, .int .i64 q2] 105)) hrow7 hwz (q0, q1, q2) (by omega) (BW2.out.alloc BW2.out.size _) (fun j u hu => (World.cell?_alloc_new W #[.int .i64 q0, .int .i64 q1, .int .i64 q2] 105 j).trans (by simpa using hu))
        have F := Lib.hid (show RpRel w now (Q a) ((Q a).length - (j + 1)) (.slice a6 (told now ((Q a).take j)).length c6) v' (.int .i64 ((j + 1 : Nat) : Int)) wa from ⟨j + 1, rfl, by omega, rfl, by
            rw [K.out.2.2.2.2.1, HRP.out, t2]
            simp only [Bool.false_eq_true, if_false, List.append_nil]
            refine own_turn hrow6 T2 (fun k hk e => ?_)
            rcases own_apart hrow6 hrow7 (by decide) with q | q
            · rw [hk] at q
              cases q
            · exact q (by rw [hk, e]), by
            rw [K.out.2.2.2.2.2.1, HRP.out, t2]
            exact hown, turn_new K.out.2.2.1 hrow7 T2⟩)
        have RUN := Lib.hid hrun
        clear hrow6 hrow7 hrun hown T2
        go_wp2_with (refine rl_append_run (by rfl) _ _ _ (by rfl) (by rfl) (by rfl) RUN.out ?_)
        go_roundg ((Q a).length - (j + 1))
        case measure => have := K.out.2.2.2.1; omega
        case rel => exact F.out
    · have t1 : decide ((j : Int) < ((Q a).length : Int)) = false := by simp; omega
      obtain rfl : j = (Q a).length := by omega
      rw [List.take_length] at *
      have hzz := E.out.bw
      obtain ⟨E1, T2⟩ := E.out.put (u' := .slice a7 (kept now (Q a)).length c7) ha (T.more (fun k _ e => e.elim)) (row_low hr7 hzz) (by
        cases hb : (Value.slice a7 (kept now (Q a)).length c7).ownBlock with
        | none => exact .inr (.inl rfl)
        | some k => exact .inr (.inr ⟨k, rfl, (hr7.lt k hb).1⟩))
      have hab := hE.ba
      have F := Lib.hid (show RRipePost w rb ab n cap base now P U Q a (.returned (.slice a6 (told now (Q a)).length c6)) (wr.setCell ⟨ab, a * 2 + 1, none⟩ (.slice a7 (kept now (Q a)).length c7)) from ⟨_, _, rfl, own_keep hr6 (fun k hk => Below.heap_setCell _ _ _ _ (by have := (hr6.lt k hk).1; show k ≠ ab; omega)), E1, T2⟩)
      generalize (kept now (Q a)).length = kl at *
      clear hr6 hr7 E1 T2 hE rows eu had T hgj
      go_wp2_with fail
      go_ret
      exact F.out
end
end Go.Proofs.Ytibmimdlgbhdnaa
