/-
  One part behind another one.
-/
import Derived.Test.YtadogobdlcionaaDoorSe
namespace Go.Proofs.YtadogobdlcionaaDoor
open Go.ChangeShapes Go.WideShapes Go.ChangeAt Go.RowKit Go.Shelf
set_option linter.unusedVariables false
theorem ChAt.last {W : World} : ∀ {P : Pcs} {x : Nat × ByteArray} {p : Option Addr}, ChAt W (P ++ [x]) p → Blk W x.1 104 ∧ W.cell? ⟨x.1, 1, none⟩ = some (.pointer none)
  | [], x, p, ⟨_, b, _, q, d, e⟩ => by
    rw [show q = none from e] at d
    exact ⟨b, d⟩
  | y :: P, x, p, ⟨_, _, _, _, _, h⟩ => ChAt.last h
set_option maxRecDepth 100000 in
set_option maxHeartbeats 2000000 in
theorem join_is (w : World) {Pa Pb : Pcs} {ha hb : Int} {va vb : Value} (h1 : PartAt w Pa ha va) (h2 : PartAt w Pb hb vb) (hn : (blP (Pa ++ Pb)).Nodup) (hold : Int) :
    Calls Tryd.prog 45 #[va, vb, .int .i64 hold] w fun y w' => ∃ v, y = .returned v ∧ Made w w' (blP (Pa ++ Pb)) (txP (Pa ++ Pb)) hold v := by
  obtain ⟨Q, x, a, rfl, rfl, c1, n1⟩ := h1
  obtain ⟨Q2, z, a2, e2, rfl, c2, n2⟩ := h2
  obtain ⟨W, hW⟩ : ∃ W, W = ((w.alloc (.cells #[.pointer (some a), .pointer (some ⟨x.1, 0, none⟩), .int .i64 ha] 91)).alloc (.cells #[.pointer (some a2), .pointer (some ⟨z.1, 0, none⟩), .int .i64 hb] 91)).alloc (.cells #[.pointer none, .pointer none, .int .i64 0] 91) := ⟨_, rfl⟩
  have T0 : Turn (fun _ => False) w W := by rw [hW]; exact (((Turn.refl _ _).alloc _).alloc _).alloc _
  have U1 : Turn (fun _ => False) (w.alloc (.cells #[.pointer (some a), .pointer (some ⟨x.1, 0, none⟩), .int .i64 ha] 91)) W := by rw [hW]; exact ((Turn.refl _ _).alloc _).alloc _
  have U2 : Turn (fun _ => False) ((w.alloc (.cells #[.pointer (some a), .pointer (some ⟨x.1, 0, none⟩), .int .i64 ha] 91)).alloc (.cells #[.pointer (some a2), .pointer (some ⟨z.1, 0, none⟩), .int .i64 hb] 91)) W := by rw [hW]; exact (Turn.refl _ _).alloc _
  have R1 : W.rangeAt w.heap.size 0 (ptL (some a) (some ⟨x.1, 0, none⟩) ha) := range_turn (range_new w (ptL (some a) (some ⟨x.1, 0, none⟩) ha) 91) U1 id
  have R2 : W.rangeAt (w.heap.size + 1) 0 (ptL (some a2) (some ⟨z.1, 0, none⟩) hb) := by
    have := range_turn (range_new (w.alloc (.cells #[.pointer (some a), .pointer (some ⟨x.1, 0, none⟩), .int .i64 ha] 91)) (ptL (some a2) (some ⟨z.1, 0, none⟩) hb) 91) U2 id
    rw [World.size_alloc] at this; exact this
  have R3 : W.rangeAt (w.heap.size + 2) 0 zpt := by
    have := range_new ((w.alloc (.cells #[.pointer (some a), .pointer (some ⟨x.1, 0, none⟩), .int .i64 ha] 91)).alloc (.cells #[.pointer (some a2), .pointer (some ⟨z.1, 0, none⟩), .int .i64 hb] 91)) zpt 91
    rw [World.size_alloc, World.size_alloc] at this; rw [hW]; exact this
  have B3 : Blk W (w.heap.size + 2) 91 := by
    have := Blk.new ((w.alloc (.cells #[.pointer (some a), .pointer (some ⟨x.1, 0, none⟩), .int .i64 ha] 91)).alloc (.cells #[.pointer (some a2), .pointer (some ⟨z.1, 0, none⟩), .int .i64 hb] 91)) zpt 91
    rw [World.size_alloc, World.size_alloc] at this; rw [hW]; exact this
  obtain ⟨bx, lx⟩ := c1.last
  have hx := bx.lt
  have fx := (bx.turn T0 id).fz
  have dx := T0.cell id lx
  have C := (c1.turn T0 (fun _ _ => id)).join (c2.turn T0 (fun _ _ => id)) hn
  have TP := Turn.put W x.1 1 (.pointer (some a2))
  have d1 := R1 0 _ rfl
  have d2 := R1 1 _ rfl
  have d3 := R2 0 _ rfl
  obtain ⟨W2, hW2⟩ : ∃ X, X = W.setCell ⟨x.1, 1, none⟩ (.pointer (some a2)) := ⟨_, rfl⟩
  rw [← hW2] at C TP
  have e1 : W2.cell? ⟨w.heap.size, 0, none⟩ = some (.pointer (some a)) := TP.cell (by omega) (R1 0 _ rfl)
  have e4 : W2.cell? ⟨w.heap.size + 1, 1, none⟩ = some (.pointer (some ⟨z.1, 0, none⟩)) := TP.cell (by omega) (R2 1 _ rfl)
  have R3' := range_turn R3 TP (by omega)
  have B3' := B3.turn TP (by omega)
  have y0 : W2.cell? ⟨w.heap.size + 2, 0, none⟩ = some (.pointer none) := R3' 0 _ rfl
  have y1 : W2.cell? ⟨w.heap.size + 2, 1, none⟩ = some (.pointer none) := R3' 1 _ rfl
  have y2 : W2.cell? ⟨w.heap.size + 2, 2, none⟩ = some (.int .i64 0) := R3' 2 _ rfl
  have ff := B3'.fz
  have HW := Lib.hid hW
  have HW2 := Lib.hid hW2
  have HE := Lib.hid (And.intro e2 (And.intro hn hx))
  have BL := Lib.hid (fun k (hk : k ∈ blP (Q ++ [x] ++ Pb)) => C.blk k hk)
  have LT : ∀ k ∈ blP (Q ++ [x] ++ Pb), k < w.heap.size := fun k hk => by
    simp only [blP, List.map_append, List.mem_append] at hk
    rcases hk with hk | hk
    · exact (c1.blk k (by simpa [blP] using hk)).lt
    · exact (c2.blk k hk).lt
  have F := Lib.hid (And.intro T0 (And.intro TP (And.intro C (And.intro R3' (And.intro B3' LT)))))
  clear hW T0 TP C R1 R2 R3 B3 R3' B3' c1 c2 n1 n2 lx bx hn e2 hW2 U1 U2 hx LT
  go_enter Tryd.func45, Tryd.ntmps45
  go_upto_region 1 with fail
  rw [← HW.out]
  clear HW
  go_upto_region 2 with fail
  rw [← HW2.out]
  clear HW2
  go_wp2_with fail
  refine part_end rfl F.out.2.2.2.1 rfl F.out.2.2.2.2.1 _ _ _ rfl rfl (fun W' T => ?_)
  refine ⟨_, rfl, Q ++ [x] ++ Pb, rfl, ⟨Q ++ [x] ++ Q2, z, a, by rw [HE.out.1]; simp, rfl, F.out.2.2.1.turn T (fun k hk q => by have := F.out.2.2.2.2.2 k hk; omega), HE.out.2.1⟩, fun k hk => .inl hk, ?_⟩
  have hx := HE.out.2.2
  refine ((F.out.1.more (S' := fun k => k ∈ blP (Q ++ [x] ++ Pb)) (fun _ _ f => f.elim)).trans (F.out.2.1.more (fun k hk q => ?_))).comp T (fun k hk q => by omega)
  subst q
  simp [blP]
end Go.Proofs.YtadogobdlcionaaDoor
