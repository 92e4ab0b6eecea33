/-
  A stack of parts: what is taken off, and what is put on.
-/
import Derived.Test.YtadogobdlcionaaDoorSk
namespace Go.Proofs.YtadogobdlcionaaDoor
open Go.ChangeShapes Go.WideShapes Go.ChangeAt Go.RowKit Go.Shelf
set_option linter.unusedVariables false
def fstA (P : Pcs) : Option Addr := P.head?.map fun x => ⟨x.1, 0, none⟩
def lstA (P : Pcs) : Option Addr := P.getLast?.map fun x => ⟨x.1, 0, none⟩
def partV (p : Pcs × Int) : Value := .agg #[.pointer (fstA p.1), .pointer (lstA p.1), .int .i64 p.2]
def partC (p : Pcs × Int) : List Value := ptL (fstA p.1) (lstA p.1) p.2
theorem PartAt.val {W : World} {P : Pcs} {h : Int} {v : Value} (hp : PartAt W P h v) : v = partV (P, h) := by
  obtain ⟨Q, x, a, rfl, rfl, c, n⟩ := hp
  have h1 : fstA (Q ++ [x]) = some a := by
    cases Q with
    | nil => exact c.1.symm
    | cons y Q => exact c.1.symm
  have h2 : lstA (Q ++ [x]) = some ⟨x.1, 0, none⟩ := by unfold lstA; simp
  unfold partV
  rw [h1, h2]
theorem PartAt.some {W : World} {P : Pcs} {h : Int} {v : Value} (hp : PartAt W P h v) : ∃ a b, fstA P = some a ∧ lstA P = some b := by
  obtain ⟨Q, x, a, rfl, rfl, c, n⟩ := hp
  refine ⟨a, ⟨x.1, 0, none⟩, ?_, by unfold lstA; simp⟩
  cases Q with
  | nil => exact c.1.symm
  | cons y Q => exact c.1.symm
def stkC (S : List (Pcs × Int)) : List Value := (S.map partC).flatten
theorem stkC_snoc (S : List (Pcs × Int)) (p : Pcs × Int) : stkC (S ++ [p]) = stkC S ++ partC p := by simp [stkC]
theorem stkC_len (S : List (Pcs × Int)) : (stkC S).length = S.length * 3 := by
  induction S with
  | nil => rfl
  | cons p S ih =>
    have : stkC (p :: S) = partC p ++ stkC S := by simp [stkC]
    rw [this, List.length_append, ih, List.length_cons]
    show 3 + _ = _
    omega
/-- All blocks of all parts. -/
def stkB (S : List (Pcs × Int)) : List Nat := (S.map fun p => blP p.1).flatten
theorem stkB_snoc (S : List (Pcs × Int)) (p : Pcs × Int) : stkB (S ++ [p]) = stkB S ++ blP p.1 := by simp [stkB]
structure StkAt (W : World) (sb base : Nat) (S : List (Pcs × Int)) (v : Value) : Prop where
  bl : Blk W sb 88
  c : W.cell? ⟨sb, 0, none⟩ = some v
  own : W.ownsRow base 91 3 v S.length (stkC S)
  pt : ∀ p ∈ S, PartAt W p.1 p.2 (partV p)
  nd : (stkB S).Nodup
section
variable {W W' : World} {sb base : Nat} {S : List (Pcs × Int)} {v : Value} {p : Pcs × Int}
theorem StkAt.blk (h : StkAt W sb base S v) : ∀ k ∈ stkB S, Blk W k 104 := by
  intro k hk
  simp only [stkB, List.mem_flatten, List.mem_map] at hk
  obtain ⟨l, ⟨p, hp, rfl⟩, hk⟩ := hk
  exact (h.pt p hp).blk k hk
theorem Blk.turn' {b c i : Nat} {t : TypeId} {x : Value} (h : Blk W b t) (e : W' = W.setCell ⟨c, i, none⟩ x) : Blk W' b t := by rw [e]; exact h.set _ _
theorem mem_stkB (hp : p ∈ S) {k : Nat} (hk : k ∈ blP p.1) : k ∈ stkB S := by
  simp only [stkB, List.mem_flatten, List.mem_map]
  exact ⟨_, ⟨p, hp, rfl⟩, hk⟩
theorem StkAt.turn {T' : Nat → Prop} (h : StkAt W sb base S v) (T : Turn T' W W') (h1 : ¬ T' sb) (h2 : ∀ k, v.ownBlock = some k → ¬ T' k) (h3 : ∀ k ∈ stkB S, ¬ T' k) : StkAt W' sb base S v :=
  ⟨h.bl.turn T h1, T.cell h1 h.c, own_turn h.own T h2, fun p hp => (h.pt p hp).turn T (fun k hk => h3 k (mem_stkB hp hk)), h.nd⟩
theorem StkAt.quiet (h : StkAt W sb base S v) (T : Turn (fun _ => False) W W') : StkAt W' sb base S v := h.turn T id (fun _ _ => id) (fun _ _ => id)
end
set_option maxRecDepth 100000 in
set_option maxHeartbeats 2000000 in
/-- The topmost part is taken off. -/
theorem pop_is (w : World) {sb base : Nat} {S : List (Pcs × Int)} {v : Value} {p : Pcs × Int} (h : StkAt w sb base (S ++ [p]) v) (hn : S.length ≤ 1000000) :
    Calls Tryd.prog 40 #[.pointer (some ⟨sb, 0, none⟩)] w fun y w' => y = .returned (partV p) ∧ ∃ v', StkAt w' sb base S v' ∧ v'.ownBlock = v.ownBlock ∧ Turn (fun k => k = sb) w w' := by
  obtain ⟨a, b, ha, hb⟩ := (h.pt p (by simp)).some
  have hl : (S ++ [p]).length = S.length + 1 := by simp
  have ho := h.own
  rw [hl, stkC_snoc] at ho
  obtain ⟨ad, cap, rfl, hg⟩ := own_slice ho
  obtain ⟨g, rfl⟩ := hg (by omega)
  obtain ⟨W, hW⟩ : ∃ W, W = w.alloc (.cells #[.pointer none, .pointer none, .int .i64 0] 91) := ⟨_, rfl⟩
  have T0 : Turn (fun _ => False) w W := by rw [hW]; exact (Turn.refl _ _).alloc _
  have R1 : W.rangeAt w.heap.size 0 zpt := by rw [hW]; exact range_new w zpt 91
  have B1 : Blk W w.heap.size 91 := by rw [hW]; exact Blk.new w zpt 91
  have H := h.quiet T0
  have cp : ∀ j x, (ptL (some a) (some b) p.2)[j]? = some x → W.cell? ⟨g, S.length * 3 + j, none⟩ = some x := fun j x hj => by
    have hj3 : j < 3 := (List.getElem?_eq_some_iff.1 hj).1
    refine T0.cell id ((ho.cellAt (S.length * 3 + j) (by omega)).trans ?_)
    rw [List.getElem?_append_right (by rw [stkC_len]; omega), stkC_len, show S.length * 3 + j - S.length * 3 = j by omega]
    unfold partC
    rw [ha, hb]
    exact hj
  have p0 := cp 0 _ rfl
  have p1 := cp 1 _ rfl
  have p2 := cp 2 _ rfl
  rw [Nat.add_zero] at p0
  have cs := T0.cell id h.c
  have fs := H.bl.fz
  have pop : W.ownsRow base 91 3 (.slice (some ⟨g, 0, none⟩) S.length cap) S.length (stkC S) := ownsRow_pop (stkC_len S) (own_turn ho T0 (fun _ _ => id))
  have hsb := h.bl.lt
  obtain ⟨W1, hW1⟩ : ∃ X, X = W.alloc (.cells #[.pointer (some a), .pointer (some b), .int .i64 p.2] 91) := ⟨_, rfl⟩
  have T1 : Turn (fun _ => False) W W1 := by rw [hW1]; exact (Turn.refl _ _).alloc _
  have R2 : W1.rangeAt W.heap.size 0 (ptL (some a) (some b) p.2) := by rw [hW1]; exact range_new W (ptL (some a) (some b) p.2) 91
  have sz : W.heap.size = w.heap.size + 1 := by rw [hW]; simp
  have TP := Turn.put W1 sb 0 (.slice (some ⟨g, 0, none⟩) S.length cap)
  have c1 := T1.cell id cs
  have f1 := (H.bl.turn T1 id).fz
  obtain ⟨W2, hW2⟩ : ∃ X, X = W1.setCell ⟨sb, 0, none⟩ (.slice (some ⟨g, 0, none⟩) S.length cap) := ⟨_, rfl⟩
  rw [← hW2] at TP
  have TQ : Turn (fun k => k = sb) w W2 := ((T0.trans T1).more (fun _ _ f => f.elim)).trans TP
  have R3 := range_turn R2 TP (by omega)
  have q0 := R3 0 _ rfl
  have q1 := R3 1 _ rfl
  have q2 := R3 2 _ rfl
  rw [sz] at q0 q1 q2
  have R4 := range_turn (range_turn R1 T1 id) TP (by omega)
  have B4 := (B1.turn T1 id).turn TP (by omega)
  have y0 := R4 0 _ rfl
  have y1 := R4 1 _ rfl
  have y2 := R4 2 _ rfl
  have fr := B4.fz
  have hgs : g ≠ sb := fun e => (own_blk ho (k := g) rfl).1.ne h.bl (by decide) e
  have hgl := (own_blk ho (k := g) rfl).1.lt
  have hSB : ∀ k ∈ stkB S, k ≠ sb ∧ k < w.heap.size := fun k hk => by
    have := h.blk k (by rw [stkB_snoc, List.mem_append]; exact .inl hk)
    exact ⟨fun e => this.ne h.bl (by decide) e, this.lt⟩
  have ST : StkAt W2 sb base S (.slice (some ⟨g, 0, none⟩) S.length cap) :=
    ⟨(H.bl.turn T1 id).turn' hW2, by rw [hW2]; exact World.cell?_setCell_same _ _ _ c1, own_turn (own_turn pop T1 (fun _ _ => id)) TP (fun k hk q => hgs ((show g = k by simpa [Value.ownBlock] using hk).trans q)),
      fun q hq => (((h.pt q (List.mem_append_left _ hq)).turn T0 (fun _ _ => id)).turn T1 (fun _ _ => id)).turn TP (fun k hk e => (hSB k (mem_stkB hq hk)).1 e),
      by have := h.nd; rw [stkB_snoc, List.nodup_append] at this; exact this.1⟩
  have F := Lib.hid (And.intro ST (And.intro TQ (And.intro R4 (And.intro B4 (And.intro hsb (And.intro hgl hSB))))))
  have HV := Lib.hid (show partV p = .agg #[.pointer (some a), .pointer (some b), .int .i64 p.2] by unfold partV; rw [ha, hb])
  have HW := Lib.hid hW
  have HW1 := Lib.hid hW1
  have HW2 := Lib.hid hW2
  have w1 : wrap64 (((S.length + 1 : Nat) : Int) - 1) = (S.length : Int) := by unfold wrap64; omega
  have w1' : wrap64 ((S.length : Int) + 1 - 1) = (S.length : Int) := by unfold wrap64; omega
  have i0 : (0 : Int) ≤ (S.length : Int) := Int.natCast_nonneg _
  have i1 : (S.length : Int) < ((S.length + 1 : Nat) : Int) := by omega
  have hcap : S.length + 1 ≤ cap := by
    rcases ho.2 with ⟨h0, -⟩ | ⟨g', cap', cur, hv, -, -, h3, -⟩
    · cases h0
    · injection hv with _ _ hv; subst hv; exact h3
  clear hW hW1 hW2 T0 T1 TP TQ ST R1 R2 R3 R4 B1 B4 H pop ho h cp hgs hgl hSB hsb hl hg ha hb
  generalize S.length = n at *
  go_enter Tryd.func40, Tryd.ntmps40
  go_upto_region 1 with fail
  rw [← HW.out]
  clear HW
  go_upto_region 2 with fail
  rw [← HW1.out]
  clear HW1
  go_upto_region 3 with fail
  rw [← HW2.out]
  clear HW2
  go_wp2_with fail
  refine part_end rfl F.out.2.2.1 rfl F.out.2.2.2.1 _ _ _ rfl rfl (fun W' T => ?_)
  have hh := F.out.2.2.2.2
  refine ⟨by rw [HV.out], _, F.out.1.turn T (by omega) (fun k hk e => ?_) (fun k hk e => by have := (hh.2.2 k hk).2; omega), rfl, F.out.2.1.comp T (fun k hk e => by omega)⟩
  have hk : g = k := by simpa [Value.ownBlock] using hk
  have := hh.2.1
  omega
end Go.Proofs.YtadogobdlcionaaDoor
