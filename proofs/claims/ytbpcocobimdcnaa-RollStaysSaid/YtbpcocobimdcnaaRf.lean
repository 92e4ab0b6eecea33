/-
  An entry told, and found: contracts for the walks of the statements of layer 15.
-/
import Derived.Test.YtbpcocobimdcnaaRa
namespace Go.Proofs.Ytbpcocobimdcnaa
open Go.ChangeShapes Go.WideShapes Go.ChangeAt Go.RowKit
set_option linter.unusedVariables false

theorem Turn.put {S : Nat → Prop} {a w : World} (h : Turn S a w) {b i : Nat} (hb : S b) (u : Value) : Turn S a (w.setCell ⟨b, i, none⟩ u) := h.setCell (p := ⟨b, i, none⟩) (.inl hb) u
theorem Turn.put1 {s i : Nat} {a w : World} (h : Turn (fun b => b = s) a w) (u : Value) : Turn (fun b => b = s) a (w.setCell ⟨s, i, none⟩ u) := h.setCell (p := ⟨s, i, none⟩) (.inl rfl) u
theorem PlainTab.turnS {S : Nat → Prop} {B : Nat} {w w' : World} {cs : Value} {o : Option Int} (h : PlainTab B w cs o) (t : Turn S w w') (hs : ∀ b, B ≤ b → ¬ S b) : PlainTab B w' cs o := by
  cases o with
  | none => exact h
  | some x =>
    obtain ⟨cb, c, hB, e, h0, h1, h2, h3⟩ := h
    exact ⟨cb, c, hB, e, t.cell (hs cb hB) h0, t.cell (hs cb hB) h1, t.cell (hs cb hB) h2, t.cell (hs cb hB) h3⟩
set_option maxRecDepth 100000 in
set_option maxHeartbeats 2000000 in
theorem told_is {w : World} {e : EV} (h : PlainTab 0 w e.cs e.o) :
    Calls Try.prog 26 #[e.val] w fun en w' => ∃ cs', en = .returned (EV.val ⟨e.id, e.till, cs', e.win, e.o⟩) ∧ PlainTab w.heap.size w' cs' e.o ∧ Turn (fun _ => False) w w' := by
  obtain ⟨i, till, cs, win, o⟩ := e
  dsimp only at h
  obtain ⟨a, n, c, rfl⟩ := plain_slice h
  unfold EV.val
  dsimp only
  have E := Lib.hid (fun (W : World) (t : Turn (fun _ => False) w W) => table_is (win := win) (h.turn t))
  clear h
  go_enter Try.func26, Try.ntmps26
  go_wp2_with fail
  have T0 : Turn (fun _ => False) w ((w.alloc (.cells #[.int .i64 i, .int .i64 till, .slice a n c, .int .i64 win, .bool false] 48)).alloc (.cells #[.int .i64 0, .int .i64 0, .slice none 0 0, .int .i64 0, .bool false] 48)) := ((Turn.refl _ w).alloc _).alloc _
  obtain ⟨W1, hW1⟩ : ∃ W1, W1 = (w.alloc (.cells #[.int .i64 i, .int .i64 till, .slice a n c, .int .i64 win, .bool false] 48)).alloc (.cells #[.int .i64 0, .int .i64 0, .slice none 0 0, .int .i64 0, .bool false] 48) := ⟨_, rfl⟩
  have p0 : ∀ (j : Nat) (v : Value), #[Value.int .i64 i, .int .i64 till, .slice a n c, .int .i64 win, .bool false][j]? = some v → W1.cell? ⟨w.heap.size, j, none⟩ = some v := fun j v h => by rw [hW1]; exact past ((World.cell?_alloc_new w _ 48 j).trans h)
  have p1 : ∀ (j : Nat) (v : Value), #[Value.int .i64 0, .int .i64 0, .slice none 0 0, .int .i64 0, .bool false][j]? = some v → W1.cell? ⟨w.heap.size + 1, j, none⟩ = some v := fun j v h => by
    rw [hW1]
    have := World.cell?_alloc_new (w.alloc (.cells #[.int .i64 i, .int .i64 till, .slice a n c, .int .i64 win, .bool false] 48)) #[.int .i64 0, .int .i64 0, .slice none 0 0, .int .i64 0, .bool false] 48 j
    rw [World.size_alloc] at this
    exact this.trans h
  have q0 : ∀ j, W1.frozen? ⟨w.heap.size, j, none⟩ = false := fun j => by rw [hW1, frozen?_alloc_cells, frozen?_alloc_cells]; exact fz _ (Nat.le_refl _)
  have q1 : ∀ j, W1.frozen? ⟨w.heap.size + 1, j, none⟩ = false := fun j => by rw [hW1, frozen?_alloc_cells, frozen?_alloc_cells]; exact fz _ (by omega)
  have zW : W1.heap.size = w.heap.size + 2 := by rw [hW1]; simp
  have E1 := Lib.hid (E.out _ T0)
  rw [← hW1] at T0 E1 ⊢
  clear hW1 E
  refine E1.out.mono ?_
  rintro e w1 ⟨cs', rfl, hp, T⟩
  have x0 := T.cell (fun f => f) (p0 0 _ rfl)
  have x1 := T.cell (fun f => f) (p0 1 _ rfl)
  have x2 := T.cell (fun f => f) (p0 2 _ rfl)
  have x3 := T.cell (fun f => f) (p0 3 _ rfl)
  have x4 := T.cell (fun f => f) (p0 4 _ rfl)
  have y0 := T.cell (fun f => f) (p1 0 _ rfl)
  have y1 := T.cell (fun f => f) (p1 1 _ rfl)
  have y2 := T.cell (fun f => f) (p1 2 _ rfl)
  have y3 := T.cell (fun f => f) (p1 3 _ rfl)
  have y4 := T.cell (fun f => f) (p1 4 _ rfl)
  have fr : ∀ b j, b < W1.heap.size → W1.frozen? ⟨b, j, none⟩ = false → w1.frozen? ⟨b, j, none⟩ = false := fun b j hb h => (World.frozen?_of_block (w := W1) (w' := w1) (a := ⟨b, j, none⟩) (T.block b hb (fun f => f))).trans h
  have g2 := fr w.heap.size 2 (by omega) (q0 2)
  have g3 := fr w.heap.size 3 (by omega) (q0 3)
  have g4 := fr w.heap.size 4 (by omega) (q0 4)
  have k0 := fr (w.heap.size + 1) 0 (by omega) (q1 0)
  have k1 := fr (w.heap.size + 1) 1 (by omega) (q1 1)
  have k2 := fr (w.heap.size + 1) 2 (by omega) (q1 2)
  have k3 := fr (w.heap.size + 1) 3 (by omega) (q1 3)
  have k4 := fr (w.heap.size + 1) 4 (by omega) (q1 4)
  obtain ⟨a', n', c', rfl⟩ := plain_slice hp
  have FIN := Lib.hid (show ∀ (W : World), Turn (fun b => b = w.heap.size ∨ b = w.heap.size + 1) w1 W → PlainTab w.heap.size W (.slice a' n' c') o ∧ Turn (fun _ => False) w W from fun W t =>
    ⟨(hp.turnS t (fun b hb => by omega)).low (by omega), (T0.trans T).comp t (fun b hb e => by omega)⟩)
  clear E1 p0 p1 q0 q1 fr T hp T0
  go_wp2
  refine bodyPost_ret (v := .agg #[.int .i64 i, .int .i64 till, .slice a' n' c', .int .i64 win, .bool false]) (by simp [results, Try.results26, go_sem, cell_off, y0, y1, y2, y3, y4]) rfl ⟨_, rfl, FIN.out _ ?_⟩
  have L : (fun b => b = w.heap.size ∨ b = w.heap.size + 1) w.heap.size := .inl rfl
  have R : (fun b => b = w.heap.size ∨ b = w.heap.size + 1) (w.heap.size + 1) := .inr rfl
  exact ((((((((Turn.refl _ w1).put L _).put L _).put L _).put R _).put R _).put R _).put R _).put R _
theorem foundB_true {l : List EV} {x : Int} {i : Nat} (h : foundB l x i = true) : ∃ e, l[i]? = some e ∧ e.id = x := by
  unfold foundB at h
  split at h
  · exact ⟨_, by assumption, by simpa using h⟩
  · cases h
theorem foundB_false {l : List EV} {x : Int} {i : Nat} (h : foundB l x i = false) (hp : IsPlace l x i) (hs : Sorted l) : ∀ e ∈ l, e.id ≠ x := fun e he hx => by
  obtain ⟨k, hk⟩ := List.mem_iff_getElem?.1 he
  by_cases h1 : k < i
  · have := hp.2.1 k e h1 hk
    omega
  · by_cases h2 : k = i
    · subst h2
      unfold foundB at h
      rw [hk] at h
      simp [hx] at h
    · obtain ⟨e2, he2⟩ : ∃ e2, l[i]? = some e2 := ⟨_, List.getElem?_eq_getElem (by have := (List.getElem?_eq_some_iff.1 hk).1; omega)⟩
      have h3 := hs.lt he2 hk (by omega)
      have h4 := hp.2.2 i e2 (Nat.le_refl _) he2
      omega
/-- What Find answers. -/
def FindPost (w : World) (l : List EV) (x : Int) (en : Ending) (w' : World) : Prop :=
  Turn (fun _ => False) w w' ∧ ((en = .returned (.tuple #[.agg #[.int .i64 0, .int .i64 0, .slice none 0 0, .int .i64 0, .bool false], .bool false]) ∧ ∀ e ∈ l, e.id ≠ x) ∨
    ∃ e cs', e ∈ l ∧ e.id = x ∧ en = .returned (.tuple #[EV.val ⟨e.id, e.till, cs', e.win, e.o⟩, .bool true]) ∧ PlainTab 0 w' cs' e.o)
set_option maxRecDepth 100000 in
set_option maxHeartbeats 2000000 in
theorem find_is {w : World} {p : Option Addr} {l : List EV} (h : RollS w p l) (x : Int) :
    Calls Try.prog 15 #[.pointer p, .int .i64 x] w fun en w' => FindPost w l x en w' := by
  have T0 : Turn (fun _ => False) w (w.alloc (.cells #[.int .i64 0, .int .i64 0, .slice none 0 0, .int .i64 0, .bool false] 48)) := (Turn.refl _ w).alloc _
  obtain ⟨W1, hW1⟩ : ∃ W1, W1 = w.alloc (.cells #[.int .i64 0, .int .i64 0, .slice none 0 0, .int .i64 0, .bool false] 48) := ⟨_, rfl⟩
  have p1 : ∀ (j : Nat) (v : Value), #[Value.int .i64 0, .int .i64 0, .slice none 0 0, .int .i64 0, .bool false][j]? = some v → W1.cell? ⟨w.heap.size, j, none⟩ = some v := fun j v h => by rw [hW1]; exact (World.cell?_alloc_new w _ 48 j).trans h
  have q1 : ∀ j, W1.frozen? ⟨w.heap.size, j, none⟩ = false := fun j => by rw [hW1, frozen?_alloc_cells]; exact fz _ (Nat.le_refl _)
  have hz : W1.heap.size = w.heap.size + 1 := by rw [hW1]; simp
  rw [← hW1] at T0
  have h1 := h.turn T0
  have PL := Lib.hid (place_is h1.at_ h1.srt x)
  have HH := Lib.hid (And.intro h1 (And.intro T0 (And.intro p1 q1)))
  clear h h1 T0 p1 q1
  go_enter Try.func15, Try.ntmps15
  go_wp2_with fail
  rw [← hW1]
  refine PL.out.mono ?_
  rintro en w2 ⟨i, rfl, hp, T2⟩
  have HP := Lib.hid (And.intro hp T2)
  clear hp T2 PL hW1
  cases hf : foundB l x i with
  | false =>
    have NO := Lib.hid (show Turn (fun _ => False) w w2 ∧ (∀ e ∈ l, e.id ≠ x) from ⟨HH.out.2.1.trans HP.out.2, foundB_false hf HP.out.1 HH.out.1.srt⟩)
    have y := fun j v hj => HP.out.2.cell (fun f => f) (HH.out.2.2.1 j v hj)
    have y0 := y 0 _ rfl
    have y1 := y 1 _ rfl
    have y2 := y 2 _ rfl
    have y3 := y 3 _ rfl
    have y4 := y 4 _ rfl
    have kf : ∀ j, w2.frozen? ⟨w.heap.size, j, none⟩ = false := fun j => (World.frozen?_of_block (w := W1) (w' := w2) (a := ⟨w.heap.size, j, none⟩) (HP.out.2.block w.heap.size (by omega) (fun f => f))).trans (HH.out.2.2.2 j)
    have k0 := kf 0
    have k1 := kf 1
    have k2 := kf 2
    have k3 := kf 3
    have k4 := kf 4
    have KT := Lib.hid (fun (W : World) (t : Turn (fun b => b = w.heap.size) w2 W) => NO.out.1.comp t (fun b hb e => by omega))
    clear hf y kf HH HP
    go_wp2
    refine bodyPost_ret (v := .tuple #[.agg #[.int .i64 0, .int .i64 0, .slice none 0 0, .int .i64 0, .bool false], .bool false]) (by simp [results, Try.results15, go_sem, cell_off, y0, y1, y2, y3, y4]) rfl ⟨KT.out _ ?_, .inl ⟨rfl, NO.out.2⟩⟩
    exact (((((Turn.refl (fun b => b = w.heap.size) w2).put1 _).put1 _).put1 _).put1 _).put1 _
  | true =>
    obtain ⟨e, he, hex⟩ := foundB_true hf
    have h2 := HH.out.1.turn HP.out.2
    have R2 := Lib.hid (row_is h2.at_)
    have TD := Lib.hid (told_is (h2.tabs e (List.mem_of_getElem? he)))
    have LT := Lib.hid (And.intro he hex)
    clear hf he hex h2
    go_wp2_with fail
    refine R2.out.mono ?_
    rintro en w3 ⟨v, rfl, hr, rfl⟩
    obtain ⟨a, c, rfl, hg⟩ := own_slice hr.own
    have hil := (List.getElem?_eq_some_iff.1 LT.out.1).1
    have hlt := hr.lt
    obtain ⟨g, rfl⟩ := hg (by omega)
    obtain ⟨x0, x1, x2, x3, x4⟩ := ecells_at l i e LT.out.1
    have y0 := (hr.own.cellAt (i * 5) (by omega)).trans x0
    have y1 := (hr.own.cellAt (i * 5 + 1) (by omega)).trans x1
    have y2 := (hr.own.cellAt (i * 5 + 2) (by omega)).trans x2
    have y3 := (hr.own.cellAt (i * 5 + 3) (by omega)).trans x3
    have y4 := (hr.own.cellAt (i * 5 + 4) (by omega)).trans x4
    have hi1 : (i : Int) < (l.length : Int) := by omega
    have hi0 : (0 : Int) ≤ (i : Int) := by omega
    unfold EV.val at TD
    dsimp only at TD
    clear x0 x1 x2 x3 x4 hr R2
    go_wp2_with fail
    refine TD.out.mono ?_
    rintro en w4 ⟨cs', rfl, hp4, T4⟩
    have T24 := HP.out.2.trans T4
    have y := fun j v hj => T24.cell (fun f => f) (HH.out.2.2.1 j v hj)
    have u0 := y 0 _ rfl
    have u1 := y 1 _ rfl
    have u2 := y 2 _ rfl
    have u3 := y 3 _ rfl
    have u4 := y 4 _ rfl
    have kf : ∀ j, w4.frozen? ⟨w.heap.size, j, none⟩ = false := fun j => (World.frozen?_of_block (w := W1) (w' := w4) (a := ⟨w.heap.size, j, none⟩) (T24.block w.heap.size (by omega) (fun f => f))).trans (HH.out.2.2.2 j)
    have k0 := kf 0
    have k1 := kf 1
    have k2 := kf 2
    have k3 := kf 3
    have k4 := kf 4
    obtain ⟨na, nn, nc, rfl⟩ := plain_slice hp4
    have hws := HP.out.2.size
    have KT := Lib.hid (fun (W : World) (t : Turn (fun b => b = w.heap.size) w4 W) => And.intro ((HH.out.2.1.trans T24).comp t (fun b hb e => by omega)) ((hp4.turnS t (fun b hb => by omega)).low (Nat.zero_le _)))
    clear y kf y0 y1 y2 y3 y4 hp4 T4 T24 TD
    go_wp2
    refine bodyPost_ret (v := .tuple #[.agg #[.int .i64 e.id, .int .i64 e.till, .slice na nn nc, .int .i64 e.win, .bool false], .bool true]) (by simp [results, Try.results15, go_sem, cell_off, u0, u1, u2, u3, u4]) rfl ?_
    have KK := KT.out _ ((((((Turn.refl (fun b => b = w.heap.size) w4).put1 (i := 0) (.int .i64 e.id)).put1 (i := 1) (.int .i64 e.till)).put1 (i := 2) (.slice na nn nc)).put1 (i := 3) (.int .i64 e.win)).put1 (i := 4) (.bool false))
    exact ⟨KK.1, .inr ⟨e, _, List.mem_of_getElem? LT.out.1, LT.out.2, rfl, KK.2⟩⟩
end Go.Proofs.Ytbpcocobimdcnaa
