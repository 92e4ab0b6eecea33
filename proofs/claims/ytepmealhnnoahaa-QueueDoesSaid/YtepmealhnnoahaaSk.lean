/-
  A hit of an odd number: a second event is put behind the first.
-/
import Derived.Test.YtepmealhnnoahaaSj
namespace Go.Proofs.Ytepmealhnnoahaa
set_option linter.unusedSimpArgs false
open Go.ChangeShapes Go.WideShapes Go.ChangeAt Go.RowKit
set_option linter.unusedVariables false
/-- The hit lies in its box xb. -/
def XPost (w W0 : World) (xb : Nat) (qx : Int) (f : Fnd) (W : World) : Prop :=
  ∃ x : Ht, x.id = qx ∧ x.f = f ∧ W.rangeAt xb 0 x.cells ∧ Blk W xb 73 ∧ FoundAt W (fun q => q < w.heap.size) (.slice x.sa x.sn x.sc) (.slice x.ra x.rn x.rc) x.f ∧ Turn (fun q => q = xb) W0 W
theorem found_two {w : World} {N : Nat → Prop} {c1 c3 b2 d2 cap1 cap3 k2 m2 : Nat} {n s : Int} (h1 : Blk w c1 46) (hr1 : w.rangeAt c1 0 [.slice (some ⟨b2, 0, none⟩) 1 k2, .slice (some ⟨d2, 0, none⟩) 1 m2]) (hb2 : Blk w b2 3) (hd2 : Blk w d2 3) (hb : w.rangeAt b2 0 [.int .i64 n]) (hd : w.rangeAt d2 0 [.int .i64 1]) (h3 : Blk w c3 38) (hr3 : w.rangeAt c3 0 [.int .i64 n, .int .i64 0, .int .i64 1, .int .i64 s])
    (n1 : ¬ N c1) (n2 : ¬ N b2) (n3 : ¬ N d2) (n4 : ¬ N c3) : FoundAt w N (.slice (some ⟨c1, 0, none⟩) 2 cap1) (.slice (some ⟨c3, 0, none⟩) 2 cap3) ⟨[[n], [1]], [(n, 0), (1, s)]⟩ := by
  refine ⟨⟨c1, cap1, _, rfl, n1, h1, hr1, rfl, fun j l u hl hu => ?_⟩, ⟨c3, cap3, rfl, h3, hr3, rfl⟩, fun k hk => ?_, by simp, by simp, by simp, by simp⟩
  · have hj := (List.getElem?_eq_some_iff.1 hl).1
    have hj2 : j = 0 ∨ j = 1 := by simp at hj; omega
    rcases hj2 with rfl | rfl
    · simp at hl hu
      subst hl; subst hu
      refine ⟨⟨b2, k2, rfl, hb2, hb, rfl⟩, fun k hk => ?_, by simp, by simp⟩
      have : b2 = k := by simpa [Value.ownBlock] using hk
      rw [← this]; exact n2
    · simp at hl hu
      subst hl; subst hu
      refine ⟨⟨d2, m2, rfl, hd2, hd, rfl⟩, fun k hk => ?_, by simp, by simp⟩
      have : d2 = k := by simpa [Value.ownBlock] using hk
      rw [← this]; exact n3
  · have : c3 = k := by simpa [Value.ownBlock] using hk
    rw [← this]; exact n4
theorem rowv_lit {w : World} {e : TypeId} {size n b cap : Nat} {xs : List Value} (h : RowV w e size n (.slice (some ⟨b, 0, none⟩) n cap) xs) : Blk w b e ∧ w.rangeAt b 0 xs := by
  obtain ⟨b', c', e', hb, hr, _⟩ := h
  simp at e'
  obtain ⟨rfl, _⟩ := e'
  exact ⟨hb, hr⟩
theorem hit_odd {w X0 : World} {xb b1 b2 b3 : Nat} {qx n stamp : Int} (hX : X0.rangeAt xb 0 [.int .i64 qx, .slice (some ⟨b1, 0, none⟩) 1 1, .slice (some ⟨b3, 0, none⟩) 1 1]) (BX : Blk X0 xb 73) (B1 : Blk X0 b1 46) (B2 : Blk X0 b2 3) (B3 : Blk X0 b3 38)
    (r1 : X0.rangeAt b1 0 [.slice (some ⟨b2, 0, none⟩) 1 1]) (r2 : X0.rangeAt b2 0 [.int .i64 n]) (r3 : X0.rangeAt b3 0 [.int .i64 n, .int .i64 0]) (g2 : w.heap.size ≤ b2) (hw : w.heap.size ≤ X0.heap.size) :
    ∃ c1 cap1 Xc, (Builtin.append_ #[69, 69] 69 #[.slice (some ⟨b1, 0, none⟩) 1 1, .slice (some ⟨X0.heap.size + 1, 0, none⟩) 1 1]).run Try.prog ((X0.alloc (.cells #[.int .i64 1] 3)).alloc (.cells #[.slice (some ⟨X0.heap.size, 0, none⟩) 1 1] 46)) = .ok (.slice (some ⟨c1, 0, none⟩) 2 cap1) Xc ∧
      Xc.cell? ⟨xb, 1, none⟩ = some (.slice (some ⟨b1, 0, none⟩) 1 1) ∧ Xc.frozen? ⟨xb, 1, none⟩ = false ∧ ∃ Xd, Xd = Xc.setCell ⟨xb, 1, none⟩ (.slice (some ⟨c1, 0, none⟩) 2 cap1) ∧ Xd.cell? ⟨xb, 2, none⟩ = some (.slice (some ⟨b3, 0, none⟩) 1 1) ∧
      ∃ c3 cap3 Xf, (Builtin.append_ #[54, 54] 54 #[.slice (some ⟨b3, 0, none⟩) 1 1, .slice (some ⟨Xd.heap.size, 0, none⟩) 1 1]).run Try.prog (Xd.alloc (.cells #[.int .i64 1, .int .i64 stamp] 38)) = .ok (.slice (some ⟨c3, 0, none⟩) 2 cap3) Xf ∧
        Xf.cell? ⟨xb, 2, none⟩ = some (.slice (some ⟨b3, 0, none⟩) 1 1) ∧ Xf.frozen? ⟨xb, 2, none⟩ = false ∧ XPost w X0 xb qx ⟨[[n], [1]], [(n, 0), (1, stamp)]⟩ (Xf.setCell ⟨xb, 2, none⟩ (.slice (some ⟨c3, 0, none⟩) 2 cap3)) := by
  obtain ⟨Xa, ha⟩ : ∃ Xa, Xa = X0.alloc (.cells #[.int .i64 1] 3) := ⟨_, rfl⟩
  rw [← ha]
  obtain ⟨Xb, hb⟩ : ∃ Xb, Xb = Xa.alloc (.cells #[.slice (some ⟨X0.heap.size, 0, none⟩) 1 1] 46) := ⟨_, rfl⟩
  rw [← hb]
  have sa : Xa.heap.size = X0.heap.size + 1 := by rw [ha, World.size_alloc]
  have sb : Xb.heap.size = X0.heap.size + 1 + 1 := by rw [hb, World.size_alloc, sa]
  have Ta : Turn (fun _ => False) X0 Xa := by rw [ha]; exact (Turn.refl _ X0).alloc _
  have Tb : Turn (fun _ => False) Xa Xb := by rw [hb]; exact (Turn.refl _ Xa).alloc _
  have Da : Blk Xa X0.heap.size 3 ∧ Xa.rangeAt X0.heap.size 0 [.int .i64 1] := by rw [ha]; exact ⟨Blk.new X0 [.int .i64 1] 3, range_new X0 [.int .i64 1] 3⟩
  have Db : Xb.rangeAt (X0.heap.size + 1) 0 [.slice (some ⟨X0.heap.size, 0, none⟩) 1 1] := by rw [hb, ← sa]; exact range_new Xa [.slice (some ⟨X0.heap.size, 0, none⟩) 1 1] 46
  have Tab := Ta.trans Tb
  obtain ⟨i46, p1, p2, p3, p4⟩ := info_parts info46
  obtain ⟨cap1, Xc, RUN1, own1, Tc⟩ := app_full (W := Xb) 69 46 Try.underlying69 p1 p2 p3 p4 rfl (s := .slice (some ⟨b1, 0, none⟩) 1 1) (n := 1) (m := 1) (c := 1) (a := ⟨X0.heap.size + 1, 0, none⟩) (olds := [.slice (some ⟨b2, 0, none⟩) 1 1]) (news := [.slice (some ⟨X0.heap.size, 0, none⟩) 1 1]) (.inr ⟨_, rfl, fun j v hv => by
      rw [Go.WideShapes.add_plain]
      exact Tab.cell id (r1 j v hv)⟩) rfl rfl (fun j v hv => by
      rw [Go.WideShapes.add_plain]
      exact Db j v hv) (by omega) (by omega) (by omega)
  have T1 := Tab.trans Tc
  obtain ⟨k1, q1⟩ := rowv_lit (own1.rowv (by omega))
  have BX1 := BX.turn T1 id
  have X1 := range_turn hX T1 id
  have T2 : Turn (fun q => q = xb) Xc (Xc.setCell ⟨xb, 1, none⟩ (.slice (some ⟨Xb.heap.size, 0, none⟩) 2 cap1)) := Turn.put _ _ _ _
  refine ⟨Xb.heap.size, cap1, Xc, RUN1, X1 1 _ rfl, BX1.fz 1, _, rfl, by rw [cell_off _ _ _ _ _ (by omega)]; exact X1 2 _ rfl, ?_⟩
  obtain ⟨Xd, hd⟩ : ∃ Xd, Xd = Xc.setCell ⟨xb, 1, none⟩ (.slice (some ⟨Xb.heap.size, 0, none⟩) 2 cap1) := ⟨_, rfl⟩
  have BX2 : Blk Xd xb 73 := by rw [hd]; exact BX1.set _ _
  have X2 : Xd.rangeAt xb 0 [.int .i64 qx, .slice (some ⟨Xb.heap.size, 0, none⟩) 2 cap1, .slice (some ⟨b3, 0, none⟩) 1 1] := by
    rw [hd]
    intro j v hv
    rw [Nat.zero_add]
    rcases j with _ | _ | _ | j
    · rw [cell_off _ _ _ _ _ (by omega)]; exact X1 0 v (by simpa using hv)
    · simp at hv; subst hv; exact World.cell?_setCell_same _ _ _ (X1 1 _ rfl)
    · rw [cell_off _ _ _ _ _ (by omega)]; exact X1 2 v (by simpa using hv)
    · simp at hv
  rw [← hd] at T2 ⊢
  clear hd
  have T12 := (T1.more (S' := fun q => q = xb) (fun _ _ f => f.elim)).trans T2
  obtain ⟨Xe, he⟩ : ∃ Xe, Xe = Xd.alloc (.cells #[.int .i64 1, .int .i64 stamp] 38) := ⟨_, rfl⟩
  rw [← he]
  have Te : Turn (fun _ => False) Xd Xe := by rw [he]; exact (Turn.refl _ Xd).alloc _
  have De : Xe.rangeAt Xd.heap.size 0 [.int .i64 1, .int .i64 stamp] := by rw [he]; exact range_new Xd [.int .i64 1, .int .i64 stamp] 38
  obtain ⟨i38, v1, v2, v3, v4⟩ := info_parts info38c
  have nx3 : ¬ b3 = xb := B3.ne BX (by decide)
  have R3 := range_turn (range_turn r3 T12 nx3) Te id
  obtain ⟨cap3, Xf, RUN2, own2, Tf⟩ := app_full (W := Xe) 54 38 Try.underlying54 v1 v2 v3 v4 rfl (s := .slice (some ⟨b3, 0, none⟩) 1 1) (n := 1) (m := 1) (c := 1) (a := ⟨Xd.heap.size, 0, none⟩) (olds := [.int .i64 n, .int .i64 0]) (news := [.int .i64 1, .int .i64 stamp]) (.inr ⟨_, rfl, fun j v hv => by
      rw [Go.WideShapes.add_plain]
      exact R3 j v hv⟩) rfl rfl (fun j v hv => by
      rw [Go.WideShapes.add_plain]
      exact De j v hv) (by omega) (by omega) (by omega)
  obtain ⟨k3, q3⟩ := rowv_lit (own2.rowv (by omega))
  have Tef := Te.trans Tf
  have BX3 := BX2.turn Tef id
  have X3 := range_turn X2 Tef id
  have T3 : Turn (fun q => q = xb) Xf (Xf.setCell ⟨xb, 2, none⟩ (.slice (some ⟨Xe.heap.size, 0, none⟩) 2 cap3)) := Turn.put _ _ _ _
  have T23 := (Tef.more (S' := fun q => q = xb) (fun _ _ f => f.elim)).trans T3
  have TT := T12.trans T23
  have nn : ∀ {b : Nat} {t : TypeId} {W : World}, Blk W b t → Blk W xb 73 → t ≠ 73 → ¬ b = xb := fun h k e => h.ne k e
  refine ⟨Xe.heap.size, cap3, Xf, RUN2, X3 2 _ rfl, BX3.fz 2, ⟨qx, some ⟨Xb.heap.size, 0, none⟩, 2, cap1, some ⟨Xe.heap.size, 0, none⟩, 2, cap3, ⟨[[n], [1]], [(n, 0), (1, stamp)]⟩⟩, rfl, rfl, ?_, BX3.set _ _, ?_, TT⟩
  · intro j v hv
    rw [Nat.zero_add]
    rcases j with _ | _ | _ | j
    · rw [cell_off _ _ _ _ _ (by omega)]; exact X3 0 v (by simpa [Ht.cells] using hv)
    · rw [cell_off _ _ _ _ _ (by omega)]; exact X3 1 v (by simpa [Ht.cells] using hv)
    · simp [Ht.cells] at hv; subst hv; exact World.cell?_setCell_same _ _ _ (X3 2 _ rfl)
    · simp [Ht.cells] at hv
  · have D1 := Da.1.turn (Tb.trans Tc) id
    have e1 : ¬ b2 = xb := nn B2 BX (by decide)
    have e2 : ¬ X0.heap.size = xb := by have := BX.lt; omega
    have e3 : ¬ Xb.heap.size = xb := nn k1 BX1 (by decide)
    have e4 : ¬ Xe.heap.size = xb := nn k3 BX3 (by decide)
    have T223 := T2.trans T23
    have z1 := Tc.size
    have z2 := Te.size
    have z3 := T2.size
    refine found_two (k1.turn T223 e3) (range_turn q1 T223 e3) (B2.turn TT e1) (D1.turn T223 e2) (range_turn r2 TT e1) (range_turn (range_turn Da.2 (Tb.trans Tc) id) T223 e2) (k3.turn T3 e4) (range_turn q3 T3 e4) ?_ ?_ ?_ ?_ <;> omega
end Go.Proofs.Ytepmealhnnoahaa
