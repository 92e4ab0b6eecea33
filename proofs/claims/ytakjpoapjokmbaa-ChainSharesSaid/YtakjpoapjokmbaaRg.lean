/-
  Within one statement whose order is drawn: rows that were made there, whichever first.
-/
import Derived.Test.YtakjpoapjokmbaaShareSt
namespace Go.Proofs.Ytakjpoapjokmbaa
open Go.ChangeShapes Go.WideShapes Go.ChangeAt Go.RowKit
set_option linter.unusedVariables false

/-- Since W0 nothing elder has turned; what Sets told lies (gv), a row that is put together lies (rv), other blocks lie (fx). -/
structure Rg (W0 : World) (L : List (List Int)) (w' : World) (gv : Option Value) (rv : Option (Value × List Int)) (fx : List (Nat × Obj)) : Prop where
  b : Below W0.heap.size W0 w'
  ex : ∃ F : Nat → Prop, (∀ k, F k → k < w'.heap.size) ∧ (∀ v, gv = some v → ∃ W lo, Sts W lo v L ∧ ∀ k, lo ≤ k → k < W.heap.size → F k ∧ w'.heap[k]? = W.heap[k]?) ∧
    (∀ r, rv = some r → w'.ownsRow W0.heap.size 3 1 r.1 r.2.length (icells r.2) ∧ ∀ k, r.1.ownBlock = some k → ¬ F k) ∧ ∀ p ∈ fx, F p.1 ∧ w'.heap[p.1]? = some p.2
section
variable {W0 w' w'' : World} {L : List (List Int)} {gv : Option Value} {rv : Option (Value × List Int)} {fx : List (Nat × Obj)}
theorem Rg.start (W0 : World) (L : List (List Int)) : Rg W0 L W0.drew none none [] :=
  ⟨(Below.refl _ W0).drew, fun _ => False, fun k h => h.elim, (fun v h => by cases h), (fun r h => by cases h), fun p hp => by cases hp⟩
theorem Rg.cell (h : Rg W0 L w' gv rv fx) {a : Addr} {v : Value} (hc : W0.cell? a = some v) (ha : a.block < W0.heap.size) : w'.cell? a = some v := (h.b.cell ha).trans hc
theorem Rg.onward (h : Rg W0 L w' gv rv fx) (hb : Below w'.heap.size w' w'') : Below W0.heap.size W0 w'' := h.b.trans (hb.mono h.b.size)
theorem hat_of {W : World} {g : Nat} {news : List Int} (h : IntsAt W (some ⟨g, 0, none⟩) news) : ∀ (j : Nat) (x : Int), news[j]? = some x → W.cell? ((⟨g, 0, none⟩ : Addr).add j) = some (.int .i64 x) := fun j x hx => by
  obtain ⟨b, off, e, hc⟩ := h j x hx
  injection e with e
  injection e with e1 e2
  subst e1
  subst e2
  rw [Go.WideShapes.add_plain]
  exact hc
theorem Rg.sets {args : Array Value} {n : Nat} (h : Rg W0 L w' none rv fx) (hn : L.length = n) (hc : Calls Try.prog 19 args w' (GPost w' L)) :
    Calls Try.prog 19 args w' fun e W => ∃ ad cap, e = .returned (.slice ad n cap) ∧ Rg W0 L W (some (.slice ad n cap)) rv fx := by
  refine hc.mono ?_
  rintro e W ⟨v, rfl, hs, hb⟩
  obtain ⟨ad, cap, rfl⟩ := hs.shape
  subst hn
  obtain ⟨F, f1, f2, f3, f4⟩ := h.ex
  refine ⟨ad, cap, rfl, h.b.trans (hb.mono h.b.size), fun k => F k ∨ (w'.heap.size ≤ k ∧ k < W.heap.size), fun k hk => ?_, fun v hv => ?_, fun r hr => ?_, fun p hp => ?_⟩
  · have := hb.size
    rcases hk with hk | hk
    · have := f1 k hk
      omega
    · omega
  · injection hv with hv
    subst hv
    exact ⟨W, w'.heap.size, hs, fun k h1 h2 => ⟨.inr ⟨h1, h2⟩, rfl⟩⟩
  · obtain ⟨r1, r2⟩ := f3 r hr
    have r3 : ∀ k, r.1.ownBlock = some k → k < w'.heap.size := fun k hk => (rrow_cells r1 hk).2.1
    refine ⟨rrow_keep (e := 3) r1 (fun k hk => hb.block k (r3 k hk)), fun k hk hF => ?_⟩
    rcases hF with hF | hF
    · exact r2 k hk hF
    · have := r3 k hk
      omega
  · obtain ⟨p1, p2⟩ := f4 p hp
    exact ⟨.inl p1, (hb.block _ (f1 _ p1)).trans p2⟩
theorem Rg.alloc (h : Rg W0 L w' gv rv fx) (o : Obj) : Rg W0 L (w'.alloc o) gv rv ((w'.heap.size, o) :: fx) := by
  have hb : Below w'.heap.size w' (w'.alloc o) := (Below.refl _ w').alloc (Nat.le_refl _) o
  obtain ⟨F, f1, f2, f3, f4⟩ := h.ex
  refine ⟨h.b.trans (hb.mono h.b.size), fun k => F k ∨ k = w'.heap.size, fun k hk => ?_, fun v hv => ?_, fun r hr => ?_, fun p hp => ?_⟩
  · rw [World.size_alloc]
    rcases hk with hk | hk
    · have := f1 k hk
      omega
    · omega
  · obtain ⟨W, lo, hs, hk⟩ := f2 v hv
    exact ⟨W, lo, hs, fun k h1 h2 => ⟨.inl (hk k h1 h2).1, (hb.block k (f1 k (hk k h1 h2).1)).trans (hk k h1 h2).2⟩⟩
  · obtain ⟨r1, r2⟩ := f3 r hr
    have r3 : ∀ k, r.1.ownBlock = some k → k < w'.heap.size := fun k hk => (rrow_cells r1 hk).2.1
    refine ⟨rrow_keep (e := 3) r1 (fun k hk => hb.block k (r3 k hk)), fun k hk hF => ?_⟩
    rcases hF with hF | hF
    · exact r2 k hk hF
    · have := r3 k hk
      omega
  · rcases List.mem_cons.1 hp with hp | hp
    · subst hp
      exact ⟨.inr rfl, World.alloc_heap_new _ _⟩
    · obtain ⟨p1, p2⟩ := f4 p hp
      exact ⟨.inl p1, (hb.block _ (f1 _ p1)).trans p2⟩
theorem Rg.row (h : Rg W0 L w' gv none fx) : Rg W0 L (w'.alloc (.cells #[] 3)) gv (some (.slice (some ⟨w'.heap.size, 0, none⟩) 0 0, [])) fx := by
  have hb : Below w'.heap.size w' (w'.alloc (.cells #[] 3)) := (Below.refl _ w').alloc (Nat.le_refl _) _
  obtain ⟨F, f1, f2, f3, f4⟩ := h.ex
  refine ⟨h.b.trans (hb.mono h.b.size), F, fun k hk => ?_, fun v hv => ?_, fun r hr => ?_, fun p hp => ?_⟩
  · rw [World.size_alloc]
    have := f1 k hk
    omega
  · obtain ⟨W, lo, hs, hk⟩ := f2 v hv
    exact ⟨W, lo, hs, fun k h1 h2 => ⟨(hk k h1 h2).1, (hb.block k (f1 k (hk k h1 h2).1)).trans (hk k h1 h2).2⟩⟩
  · injection hr with hr
    subst hr
    refine ⟨⟨rfl, .inr ⟨w'.heap.size, 0, #[], rfl, h.b.size, World.alloc_heap_new _ _, Nat.le_refl _, by decide, rfl, rfl⟩⟩, fun k hk hF => ?_⟩
    have : w'.heap.size = k := by simpa [Value.ownBlock] using hk
    have := f1 k hF
    omega
  · obtain ⟨p1, p2⟩ := f4 p hp
    exact ⟨p1, (hb.block _ (f1 _ p1)).trans p2⟩
theorem Rg.app {v : Value} {xs news : List Int} {ad : Addr} {m c N : Nat} (h : Rg W0 L w' gv (some (v, xs)) fx) (hm : news.length = m) (h0 : 0 < m) (hx : xs.length ≤ 1000) (hm1 : m ≤ 1000) (hN : xs.length + m = N) (hat : ∀ (j : Nat) x, news[j]? = some x → w'.cell? (ad.add j) = some (.int .i64 x)) :
    ∃ g cap w1, (Builtin.append_ #[46, 46] 46 #[v, .slice (some ad) m c]).run Try.prog w' = .ok (.slice (some ⟨g, 0, none⟩) N cap) w1 ∧ Rg W0 L w1 gv (some (.slice (some ⟨g, 0, none⟩) N cap, xs ++ news)) fx := by
  obtain ⟨i3, hj3, hy0, hy1, hy2⟩ := info_parts info3
  obtain ⟨F, f1, f2, f3, f4⟩ := h.ex
  obtain ⟨r1, r2⟩ := f3 _ rfl
  dsimp only at r1
  obtain ⟨v', w1, hrun, hown, hg, _, ha⟩ := run_append_own_at (P := Try.prog) w' W0.heap.size 46 46 3 i3 (.int .i64 0) 1 8 Try.underlying46 hj3 hy0 hy1 hy2 rfl (by decide) _ _ _ r1 ad m c (icells news) (by simp [icells, hm]) (fun j u hu => by
    unfold icells at hu
    rw [List.getElem?_map] at hu
    cases e : news[j]? with
    | none => rw [e] at hu; cases hu
    | some x =>
      rw [e] at hu
      injection hu with hu
      subst hu
      exact hat j x e) (fun u hu => by
    unfold icells at hu
    obtain ⟨x, _, rfl⟩ := List.mem_map.1 hu
    rfl) (by unfold maxLen; omega) (by omega) h.b.size
  obtain ⟨k, hk⟩ : ∃ k, xs.length + m = k + 1 := ⟨xs.length + m - 1, by omega⟩
  rw [hk] at hown
  obtain ⟨g, cap, rfl⟩ := ownsRow_succ hown
  obtain rfl : k + 1 = N := by omega
  have hne : ∀ k, F k → some k ≠ v.ownBlock := fun k hk e => r2 k e.symm hk
  refine ⟨g, cap, w1, hrun, h.b.trans ⟨hg.os, hg.tape, hg.output, by have := hg.size; have := h.b.size; omega, fun k hk => hg.block k (by have := h.b.size; omega) (fun e => by have := (rrow_cells r1 e.symm).1; omega)⟩, F, fun k hk => Nat.lt_of_lt_of_le (f1 k hk) hg.size, fun v hv => ?_, fun r hr => ?_, fun p hp => ?_⟩
  · obtain ⟨W, lo, hs, hk⟩ := f2 v hv
    exact ⟨W, lo, hs, fun k h1 h2 => ⟨(hk k h1 h2).1, (hg.block k (f1 k (hk k h1 h2).1) (hne k (hk k h1 h2).1)).trans (hk k h1 h2).2⟩⟩
  · injection hr with hr
    subst hr
    refine ⟨by
      rw [show (xs ++ news).length = k + 1 from by rw [List.length_append]; omega, show icells (xs ++ news) = icells xs ++ icells news from by simp [icells]]
      exact hown, fun j hj hF => ?_⟩
    rcases ha with ha | ha
    · exact r2 j (by rw [← ha]; exact hj) hF
    · rw [ha] at hj
      injection hj with hj
      have := f1 j hF
      omega
  · obtain ⟨p1, p2⟩ := f4 p hp
    exact ⟨p1, (hg.block _ (f1 _ p1) (hne _ p1)).trans p2⟩
theorem Rg.grid {v : Value} (h : Rg W0 L w' (some v) rv fx) : ∃ lo, Sts w' lo v L := by
  obtain ⟨F, f1, f2, f3, f4⟩ := h.ex
  obtain ⟨W, lo, hs, hk⟩ := f2 v rfl
  exact ⟨lo, hs.blocks (fun k h1 h2 => (hk k h1 h2).2)⟩
theorem Rg.fixed (h : Rg W0 L w' gv rv fx) {p : Nat × Obj} (hp : p ∈ fx) : w'.heap[p.1]? = some p.2 := by
  obtain ⟨F, f1, f2, f3, f4⟩ := h.ex
  exact (f4 p hp).2
theorem Rg.its {r : Value × List Int} (h : Rg W0 L w' gv (some r) fx) : w'.ownsRow W0.heap.size 3 1 r.1 r.2.length (icells r.2) := by
  obtain ⟨F, f1, f2, f3, f4⟩ := h.ex
  exact (f3 _ rfl).1
theorem ints_at_keep {ad : Option Addr} {xs : List Int} (h : IntsAt W0 ad xs) (hb : Below W0.heap.size W0 w') : IntsAt w' ad xs := fun j x hx => by
  obtain ⟨b, off, rfl, hc⟩ := h j x hx
  exact ⟨b, off, rfl, (hb.cell (block_lt_of_cell hc)).trans hc⟩
theorem Sts.head {W : World} {n₀ gs cs : Nat} {L0 : List Int} (h : Sts W n₀ (.slice (some ⟨gs, 0, none⟩) 1 cs) [L0]) (h0 : 0 < L0.length) : ∃ g c0, W.cell? ⟨gs, 0, none⟩ = some (.slice (some ⟨g, 0, none⟩) L0.length c0) ∧ IntsAt W (some ⟨g, 0, none⟩) L0 ∧ gs < W.heap.size ∧ g < W.heap.size := by
  obtain ⟨us, hO, hI⟩ := h
  obtain ⟨u, hu⟩ : ∃ u, us[0]? = some u := ⟨_, List.getElem?_eq_getElem (by have := hO.1; simp at this; omega)⟩
  have hr := hI.at_ 0 L0 u rfl hu
  obtain ⟨a, c0, rfl, ha⟩ := rrow_slice hr
  obtain ⟨g, rfl⟩ := ha h0
  exact ⟨g, c0, (hO.cellAt 0 (by have := hO.1; simp at this; omega)).trans hu, ints_of hr, (rrow_cells hO (show Value.ownBlock _ = some gs from rfl)).2.1, (rrow_cells hr (show Value.ownBlock _ = some g from rfl)).2.1⟩
/-- Both sides of the first comparison. -/
theorem Rg.cmp_a {ad u0 : Option Addr} {cap c0 b7 b8 N : Nat} {L0 : List Int} {x : Int} (h : Rg W0 [L0, [x]] w' (some (.slice ad 2 cap)) none fx) (hL : L0.length = N) (hl : N ≤ 1000) (h0 : IntsAt W0 u0 L0) (h7 : (b7, Obj.cells #[.int .i64 x] 3 (0, 0)) ∈ fx)
    (h8 : (b8, Obj.cells #[.slice u0 N c0, .slice (some ⟨b7, 0, none⟩) 1 1] 46 (0, 0)) ∈ fx) : Calls Try.prog 20 #[.slice ad 2 cap, .slice (some ⟨b8, 0, none⟩) 2 2] w' fun e w'' => e = .returned (.int .i64 0) ∧ Below w'.heap.size w' w'' := by
  subst hL
  obtain ⟨lo, hs⟩ := h.grid
  have q7 := h.fixed h7
  have q8 := h.fixed h8
  have hr : ∀ (j : Nat) (l : List Int), [L0, [x]][j]? = some l → l.length ≤ 100000 := fun j l hj => by
    match j, hj with
    | 0, hj => simp at hj; subst hj; omega
    | 1, hj => simp at hj; subst hj; simp
    | j + 2, hj => simp at hj
  refine (compare_at (c1 := cap) (c2 := 2) (xs := [L0, [x]]) (ys := [L0, [x]]) (grid_of hs hr) ?_ rfl rfl (by simp) (by simp)).mono ?_
  · intro j l hj
    match j, hj with
    | 0, hj =>
      simp at hj
      subst hj
      exact ⟨b8, 0, u0, L0.length, c0, rfl, cells_of (vs := [_, _]) q8 0 _ rfl, rfl, by omega, ints_at_keep h0 h.b⟩
    | 1, hj =>
      simp at hj
      subst hj
      exact ⟨b8, 0, _, 1, 1, rfl, cells_of (vs := [_, _]) q8 1 _ rfl, rfl, by omega, ints_one q7⟩
    | j + 2, hj => simp at hj
  · rintro e W ⟨rfl, d, rfl⟩
    rw [cmpM_self]
    exact ⟨rfl, below_drewN _ _⟩
theorem Rg.cmp_b {ad : Option Addr} {cap b11 N cr : Nat} {ar : Option Addr} {L1 : List Int} (h : Rg W0 [L1] w' (some (.slice ad 1 cap)) (some (.slice ar N cr, L1)) fx) (hl : L1.length = N) (hN : N ≤ 1000)
    (h8 : (b11, Obj.cells #[.slice ar N cr] 46 (0, 0)) ∈ fx) : Calls Try.prog 20 #[.slice ad 1 cap, .slice (some ⟨b11, 0, none⟩) 1 1] w' fun e w'' => e = .returned (.int .i64 0) ∧ Below w'.heap.size w' w'' := by
  obtain ⟨lo, hs⟩ := h.grid
  have q8 := h.fixed h8
  have hr : ∀ (j : Nat) (l : List Int), [L1][j]? = some l → l.length ≤ 100000 := fun j l hj => by
    match j, hj with
    | 0, hj => simp at hj; subst hj; omega
    | j + 1, hj => simp at hj
  subst hl
  refine (compare_at (c1 := cap) (c2 := 1) (xs := [L1]) (ys := [L1]) (grid_of hs hr) ?_ rfl rfl (by simp) (by simp)).mono ?_
  · intro j l hj
    match j, hj with
    | 0, hj =>
      simp at hj
      subst hj
      exact ⟨b11, 0, ar, L1.length, cr, rfl, cells_of (vs := [_]) q8 0 _ rfl, rfl, by omega, ints_of h.its⟩
    | j + 1, hj => simp at hj
  · rintro e W ⟨rfl, d, rfl⟩
    rw [cmpM_self]
    exact ⟨rfl, below_drewN _ _⟩
end
end Go.Proofs.Ytakjpoapjokmbaa
