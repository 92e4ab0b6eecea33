/-
  A hit is put between what stands ahead of it and what stands behind.
-/
import Derived.Test.YtepmealhnnoahaaSk
namespace Go.Proofs.Ytepmealhnnoahaa
set_option linter.unusedSimpArgs false
open Go.ChangeShapes Go.WideShapes Go.ChangeAt Go.RowKit
set_option linter.unusedVariables false
theorem own_base {w : World} {base base' : Nat} {e : TypeId} {size n : Nat} {v : Value} {xs : List Value} (h : w.ownsRow base e size v n xs) (hb : base' ≤ base) : w.ownsRow base' e size v n xs := by
  refine ⟨h.1, h.2.imp id ?_⟩
  rintro ⟨g, cap, cur, e1, h1, rest⟩
  exact ⟨g, cap, cur, e1, Nat.le_trans hb h1, rest⟩
/-- What stands behind, in a row of its own. -/
def RestP (w : World) (L : List Ht) (P : Nat) (v : Value) (wx : World) : Prop :=
  ∃ rg rc, v = .slice (some ⟨rg, 0, none⟩) (L.length - P) rc ∧ wx.ownsRow w.heap.size 73 3 v (L.length - P) (hcells (L.drop P)) ∧ Turn (fun _ => False) w wx
theorem rest_nil (w : World) : (Builtin.append_ #[66, 66] 66 #[.slice (some ⟨w.heap.size, 0, none⟩) 0 0, .slice none 0 0]).run Try.prog (w.alloc (.cells #[] 73)) = .ok (.slice (some ⟨w.heap.size, 0, none⟩) 0 0) (w.alloc (.cells #[] 73)) ∧ RestP w [] 0 (.slice (some ⟨w.heap.size, 0, none⟩) 0 0) (w.alloc (.cells #[] 73)) := by
  obtain ⟨i3, j1, j2, j3, j4⟩ := info_parts info73
  have h0 := World.ownsRow_lit (base := w.heap.size) (e := 73) (size := 3) w #[] 0 (Nat.le_refl _) (by decide) rfl
  exact ⟨app_none 66 73 Try.underlying66 j1 h0, _, _, rfl, h0, (Turn.refl _ w).alloc _⟩
theorem rest_some {w : World} {base g vc P c : Nat} {L : List Ht} {A : Addr} (h : w.ownsRow base 73 3 (.slice (some ⟨g, 0, none⟩) L.length vc) L.length (hcells L)) (hP : P ≤ L.length) (hL : L.length ≤ 6) (hA : P < L.length → A = ⟨g, P * 3, none⟩) :
    ∃ v wx, (Builtin.append_ #[66, 66] 66 #[.slice (some ⟨w.heap.size, 0, none⟩) 0 0, .slice (some A) (L.length - P) c]).run Try.prog (w.alloc (.cells #[] 73)) = .ok v wx ∧ RestP w L P v wx := by
  obtain ⟨i3, j1, j2, j3, j4⟩ := info_parts info73
  have h0 := World.ownsRow_lit (base := w.heap.size) (e := 73) (size := 3) w #[] 0 (Nat.le_refl _) (by decide) rfl
  have T1 : Turn (fun _ => False) w (w.alloc (.cells #[] 73)) := (Turn.refl _ w).alloc _
  have hl : (hcells (L.drop P)).length = (L.length - P) * 3 := by rw [hcells_len, List.length_drop]
  obtain ⟨v', w', hr, ho, hg, hi⟩ := run_append_own (w.alloc (.cells #[] 73)) w.heap.size 66 66 73 i3 _ 3 56 Try.underlying66 j1 j2 j3 j4 rfl (by decide) _ 0 [] h0 A (L.length - P) c (hcells (L.drop P)) hl (fun j u hu => by
    have hj : j < (L.length - P) * 3 := by rw [← hl]; exact (List.getElem?_eq_some_iff.1 hu).1
    rw [hA (by omega), Go.WideShapes.add_plain]
    refine T1.cell id ((h.cellAt _ (by omega)).trans ?_)
    rw [← hcells_drop _ _ hP, List.getElem?_drop] at hu
    exact hu) (hcells_one _) (by unfold maxLen; omega) (by omega) (by simp)
  rw [Nat.zero_add, List.nil_append] at ho
  have T2 := turn_fresh T1 h0 ((Turn.refl _ _).grown hg (fun k hk => .inl hk))
  have hne : v' ≠ .slice none 0 0 := fun e => by have := (hi.1 e).1; simp at this
  rcases ho.2 with ⟨e, _⟩ | ⟨rg, rc, cu, rfl, _⟩
  · exact absurd e hne
  · exact ⟨_, _, hr, rg, rc, rfl, ho, T2⟩
theorem ins_runs {V : World} {b0 base2 rg rc P : Nat} {L : List Ht} {x : Ht} {s : Value} (hs : (s = .slice none 0 0 ∧ P = 0) ∨ ∃ g base vc, s = .slice (some ⟨g, 0, none⟩) P P ∧ V.ownsRow base 73 3 (.slice (some ⟨g, 0, none⟩) L.length vc) L.length (hcells L)) (hP : P ≤ L.length) (n6 : L.length ≤ 6)
    (hr : V.ownsRow base2 73 3 (.slice (some ⟨rg, 0, none⟩) (L.length - P) rc) (L.length - P) (hcells (L.drop P))) (hb0 : b0 ≤ V.heap.size) :
    ∃ c1 cap1 V2, (Builtin.append_ #[66, 66] 66 #[s, .slice (some ⟨V.heap.size, 0, none⟩) 1 1]).run Try.prog (V.alloc (.cells #[.int .i64 x.id, .slice x.sa x.sn x.sc, .slice x.ra x.rn x.rc] 73)) = .ok (.slice (some ⟨c1, 0, none⟩) (P + 1) cap1) V2 ∧ Turn (fun _ => False) V V2 ∧
      ∃ ga gc V3, (Builtin.append_ #[66, 66] 66 #[.slice (some ⟨c1, 0, none⟩) (P + 1) cap1, .slice (some ⟨rg, 0, none⟩) (L.length - P) rc]).run Try.prog V2 = .ok (.slice ga (L.length + 1) gc) V3 ∧ V3.ownsRow b0 73 3 (.slice ga (L.length + 1) gc) (L.length + 1) (hcells (L.take P ++ x :: L.drop P)) ∧ Turn (fun _ => False) V V3 := by
  obtain ⟨i3, j1, j2, j3, j4⟩ := info_parts info73
  obtain ⟨V1, h1⟩ : ∃ V1, V1 = V.alloc (.cells #[.int .i64 x.id, .slice x.sa x.sn x.sc, .slice x.ra x.rn x.rc] 73) := ⟨_, rfl⟩
  rw [← h1]
  have T1 : Turn (fun _ => False) V V1 := by rw [h1]; exact (Turn.refl _ V).alloc _
  have R1 : V1.rangeAt V.heap.size 0 x.cells := by rw [h1]; exact range_new V x.cells 73
  have hlt : (hcells (L.take P)).length = P * 3 := by rw [hcells_len, List.length_take, Nat.min_eq_left hP]
  obtain ⟨cap1, V2, RUN1, own1, T2⟩ := app_full (W := V1) 66 73 Try.underlying66 j1 j2 j3 j4 rfl (s := s) (n := P) (m := 1) (c := 1) (a := ⟨V.heap.size, 0, none⟩) (olds := hcells (L.take P)) (news := x.cells) (by
    rcases hs with ⟨e, e0⟩ | ⟨g, base, vc, e, ho⟩
    · exact .inl ⟨e, e0, by rw [e0]; rfl⟩
    · refine .inr ⟨_, e, fun j u hu => ?_⟩
      have hj : j < P * 3 := by rw [← hlt]; exact (List.getElem?_eq_some_iff.1 hu).1
      rw [Go.WideShapes.add_plain, Nat.zero_add]
      refine T1.cell id ((ho.cellAt j (by omega)).trans ?_)
      rw [← hcells_take _ _ hP, List.getElem?_take, if_pos hj] at hu
      exact hu) hlt rfl (fun j u hu => by
    rw [Go.WideShapes.add_plain]
    exact R1 j u hu) (by omega) (by omega) (by omega)
  have T12 := T1.trans T2
  have hl : (hcells (L.drop P)).length = (L.length - P) * 3 := by rw [hcells_len, List.length_drop]
  obtain ⟨v', V3, hr3, ho, hg, hi⟩ := run_append_own V2 V1.heap.size 66 66 73 i3 _ 3 56 Try.underlying66 j1 j2 j3 j4 rfl (by decide) _ (P + 1) _ own1 ⟨rg, 0, none⟩ (L.length - P) rc (hcells (L.drop P)) hl (fun j u hu => by
    have hj : j < (L.length - P) * 3 := by rw [← hl]; exact (List.getElem?_eq_some_iff.1 hu).1
    rw [Go.WideShapes.add_plain, Nat.zero_add]
    exact T12.cell id ((hr.cellAt j hj).trans hu)) (hcells_one _) (by unfold maxLen; omega) (by omega) T2.size
  have T3 := turn_fresh T2 own1 ((Turn.refl _ _).grown hg (fun k hk => .inl hk))
  obtain ⟨ga, gc, rfl, _⟩ := own_slice ho
  have e1 : P + 1 + (L.length - P) = L.length + 1 := by omega
  rw [e1] at hr3 ho
  refine ⟨V1.heap.size, cap1, V2, RUN1, T12, ga, gc, V3, hr3, ?_, T1.trans T3⟩
  have e2 : hcells (L.take P) ++ x.cells ++ hcells (L.drop P) = hcells (L.take P ++ x :: L.drop P) := by
    rw [hcells_app, List.append_assoc]
    rfl
  rw [e2] at ho
  exact own_base ho (Nat.le_trans hb0 T1.size)
theorem ints_own {w : World} {base : Nat} {N : Nat → Prop} {v : Value} {l : List Int} (h : w.ownsRow base 3 1 v l.length (icells l)) (hN : ∀ k, N k → k < base) : IntsAt w N v l := by
  rcases h.2 with ⟨e, e0⟩ | ⟨g, cap, cu, rfl, hb, hg, _⟩
  · obtain rfl := List.eq_nil_of_length_eq_zero e0
    exact ⟨none, 0, 0, 0, e, .inl rfl, fun j x hx => by simp at hx⟩
  · refine ⟨_, g, 0, cap, rfl, .inr ⟨rfl, ⟨_, hg⟩, fun n => by have := hN g n; omega⟩, fun j x hx => ?_⟩
    have hj := (List.getElem?_eq_some_iff.1 hx).1
    rw [Nat.zero_add]
    refine (h.cellAt j (by omega)).trans ?_
    unfold icells
    rw [List.getElem?_map, hx]
    rfl
section
variable {w W : World} {a : ActV} {stamp : Int} {hv lv : Value} {sb rb ob i j : Nat} {O : Nat → OutV}
/-- What has been made, as a desk takes it. -/
theorem CI.outs (h : CI w a stamp hv lv sb rb ob i j O W) : OutsAt W (fun k => k < w.heap.size) (.slice (some ⟨ob, 0, none⟩) 3 3) [O 0, O 1, O 2] ∧ HitsAt W (fun k => k < w.heap.size) [O 0, O 1, O 2] := by
  have get : ∀ (k : Nat) (o : OutV), [O 0, O 1, O 2][k]? = some o → k < 3 ∧ o = O k := fun k o hk => by
    rcases k with _ | _ | _ | k
    · simp at hk; exact ⟨by omega, hk.symm⟩
    · simp at hk; exact ⟨by omega, hk.symm⟩
    · simp at hk; exact ⟨by omega, hk.symm⟩
    · simp at hk
  refine ⟨⟨_, ob, 0, 3, rfl, .inr ⟨rfl, h.bob⟩, fun k o hk => ?_⟩, fun o ho x hx => ?_⟩
  · obtain ⟨h3, rfl⟩ := get k o hk
    obtain ⟨vh, vl, h1, h2, h4⟩ := h.rows k h3
    rw [Nat.zero_add]
    exact ⟨vh, vl, none, 0, 0, none, 0, 0, h1, rowAt_own h2, ints_own h4 (fun _ q => q)⟩
  · obtain ⟨k, hk⟩ := List.mem_iff_getElem?.1 ho
    obtain ⟨h3, rfl⟩ := get k o hk
    exact h.found k h3 x hx
end
end Go.Proofs.Ytepmealhnnoahaa
