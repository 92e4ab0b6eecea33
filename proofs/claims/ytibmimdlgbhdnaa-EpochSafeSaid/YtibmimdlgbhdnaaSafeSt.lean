/-
  What holds between two acts of EpochSafe: who was pinned when a ref was retired, and what becomes of it.
-/
import Derived.Test.YtibmimdlgbhdnaaEachSt
namespace Go.Proofs.Ytibmimdlgbhdnaa
open Go.ChangeShapes Go.WideShapes Go.ChangeAt Go.RowKit
set_option linter.unusedVariables false

/-- Records that were kept: a ref, and five numbers. -/
def rcell (Hd : Nat → Nat → Nat) (k : Nat) : List Value := [.int .i64 (k : Int), .int .i64 0, .int .i64 (Hd k 0 : Int), .int .i64 (Hd k 1 : Int), .int .i64 (Hd k 2 : Int), .int .i64 (Hd k 3 : Int), .int .i64 (Hd k 4 : Int)]
def rcells (Hd : Nat → Nat → Nat) : List Nat → List Value
  | [] => []
  | k :: l => rcell Hd k ++ rcells Hd l

theorem rcells_snoc (Hd : Nat → Nat → Nat) : ∀ (l : List Nat) (k : Nat), rcells Hd (l ++ [k]) = rcells Hd l ++ rcell Hd k
  | [], k => by simp [rcells]
  | j :: l, k => by simp [rcells, rcells_snoc Hd l k]
theorem rcells_at (Hd : Nat → Nat → Nat) : ∀ (l : List Nat) (j k o : Nat) (u : Value), l[j]? = some k → (rcell Hd k)[o]? = some u → (rcells Hd l)[j * 7 + o]? = some u
  | [], j, k, o, u, h, _ => by simp at h
  | q :: l, 0, k, o, u, h, ho => by
    simp at h
    subst h
    have hl : o < (rcell Hd q).length := (List.getElem?_eq_some_iff.1 ho).1
    rw [rcells, Nat.zero_mul, Nat.zero_add, List.getElem?_append_left hl]
    exact ho
  | q :: l, j + 1, k, o, u, h, ho => by
    have hl : (rcell Hd q).length = 7 := rfl
    rw [rcells, List.getElem?_append_right (by rw [hl]; omega), hl, show (j + 1) * 7 + o - 7 = j * 7 + o from by omega]
    exact rcells_at Hd l j k o u (by simpa using h) ho
theorem rcells_congr {Hd Hd' : Nat → Nat → Nat} : ∀ (l : List Nat), (∀ k ∈ l, Hd k = Hd' k) → rcells Hd l = rcells Hd' l
  | [], _ => rfl
  | q :: l, h => by
    rw [rcells, rcells, rcells_congr l (fun k hk => h k (List.mem_cons_of_mem _ hk))]
    unfold rcell
    rw [h q (List.mem_cons_self ..)]
theorem rcells_len (Hd : Nat → Nat → Nat) : ∀ (l : List Nat), (rcells Hd l).length = l.length * 7
  | [] => rfl
  | q :: l => by
    rw [rcells, List.length_append, rcells_len Hd l]
    have hl : (rcell Hd q).length = 7 := rfl
    rw [hl, List.length_cons]
    omega

structure SLink (n i : Nat) (now : Int) (P : Nat → Int) (Q : Nat → List (Int × Int × Int)) (M : Nat → Nat) (rl : List Nat) (Hd : Nat → Nat → Nat) (E : Nat → Int) : Prop where
  q : ∀ a, a < n → ∀ q ∈ Q a, ∃ k : Nat, k < i ∧ q = ((k : Int), 0, E k)
  qlen : ∀ a, a < n → (Q a).length ≤ i
  low : ∀ k ∈ rl, k < i
  len : rl.length ≤ i
  odd : ∀ p, p < n → (M p % 2 = 1 ↔ P p ≠ -1)
  mle : ∀ p, p < n → M p ≤ i
  near : ∀ p, p < n → P p ≠ -1 → now - 1 ≤ P p ∧ P p ≤ now
  hold : ∀ k ∈ rl, ∀ p, p < n → Hd k p ≤ M p ∧ (0 < Hd k p → Hd k p = M p → P p ≠ -1 ∧ P p ≤ E k)

section
variable {n i : Nat} {now : Int} {P : Nat → Int} {Q : Nat → List (Int × Int × Int)} {M : Nat → Nat} {rl : List Nat} {Hd : Nat → Nat → Nat} {E : Nat → Int}
theorem SLink.more (h : SLink n i now P Q M rl Hd E) : SLink n (i + 1) now P Q M rl Hd E :=
  ⟨fun a ha q hq => by obtain ⟨k, hk, e⟩ := h.q a ha q hq; exact ⟨k, by omega, e⟩, fun a ha => by have := h.qlen a ha; omega, fun k hk => by have := h.low k hk; omega, by have := h.len; omega, h.odd, fun p hp => by have := h.mle p hp; omega, h.near, h.hold⟩
theorem SLink.pin (h : SLink n i now P Q M rl Hd E) (h0 : 0 ≤ now) {a : Nat} (hp : P a = -1) : SLink n (i + 1) now (upd P a now) Q (upd M a (M a + 1)) rl Hd E := by
  refine ⟨h.more.q, h.more.qlen, h.more.low, h.more.len, fun p hpn => ?_, fun p hpn => ?_, fun p hpn hq => ?_, fun k hk p hpn => ?_⟩
  · by_cases e : p = a
    · subst e
      have h1 := h.odd p hpn
      rw [upd_at, upd_at]
      have : M p % 2 ≠ 1 := fun e => (h1.1 e) hp
      constructor
      · intro _; omega
      · intro _; omega
    · rw [upd_off _ _ e, upd_off _ _ e]
      exact h.odd p hpn
  · by_cases e : p = a
    · subst e
      have := h.mle p hpn
      rw [upd_at]
      omega
    · rw [upd_off _ _ e]
      have := h.mle p hpn
      omega
  · by_cases e : p = a
    · subst e
      rw [upd_at]
      omega
    · rw [upd_off _ _ e] at hq ⊢
      exact h.near p hpn hq
  · have h1 := h.hold k hk p hpn
    by_cases e : p = a
    · subst e
      rw [upd_at, upd_at]
      exact ⟨by omega, fun _ e => absurd e (by omega)⟩
    · rw [upd_off _ _ e, upd_off _ _ e]
      exact h1
theorem SLink.unpin (h : SLink n i now P Q M rl Hd E) {a : Nat} (hp : P a ≠ -1) : SLink n (i + 1) now (upd P a (-1)) Q (upd M a (M a + 1)) rl Hd E := by
  refine ⟨h.more.q, h.more.qlen, h.more.low, h.more.len, fun p hpn => ?_, fun p hpn => ?_, fun p hpn hq => ?_, fun k hk p hpn => ?_⟩
  · by_cases e : p = a
    · subst e
      have h1 := (h.odd p hpn).2 hp
      rw [upd_at, upd_at]
      constructor
      · intro _; omega
      · intro e; exact absurd rfl e
    · rw [upd_off _ _ e, upd_off _ _ e]
      exact h.odd p hpn
  · by_cases e : p = a
    · subst e
      have := h.mle p hpn
      rw [upd_at]
      omega
    · rw [upd_off _ _ e]
      have := h.mle p hpn
      omega
  · by_cases e : p = a
    · subst e
      rw [upd_at] at hq
      exact absurd rfl hq
    · rw [upd_off _ _ e] at hq ⊢
      exact h.near p hpn hq
  · have h1 := h.hold k hk p hpn
    by_cases e : p = a
    · subst e
      rw [upd_at, upd_at]
      exact ⟨by omega, fun _ e => absurd e (by omega)⟩
    · rw [upd_off _ _ e, upd_off _ _ e]
      exact h1
theorem SLink.adv (h : SLink n i now P Q M rl Hd E) (hall : ∀ j, j < n → P j = -1 ∨ P j = now) : SLink n (i + 1) (now + 1) P Q M rl Hd E :=
  ⟨h.more.q, h.more.qlen, h.more.low, h.more.len, h.odd, h.more.mle, fun p hp hq => by have := hall p hp; omega, h.hold⟩
def holdOf (M : Nat → Nat) (n : Nat) (p : Nat) : Nat := if p < n ∧ M p % 2 = 1 then M p else 0
theorem SLink.retired (h : SLink n i now P Q M rl Hd E) {a : Nat} (ha : a < n) : SLink n (i + 1) now P (upd Q a (Q a ++ [((i : Int), 0, now)])) M (rl ++ [i]) (upd Hd i (holdOf M n)) (upd E i now) := by
  refine ⟨fun b hb q hq => ?_, fun b hb => ?_, fun k hk => ?_, by have := h.len; simp; omega, h.odd, h.more.mle, h.near, fun k hk p hp => ?_⟩
  · have old : q ∈ Q b → ∃ k : Nat, k < i + 1 ∧ q = ((k : Int), 0, upd E i now k) := fun hq => by
      obtain ⟨k, hk, e⟩ := h.q b hb q hq
      exact ⟨k, by omega, by rw [upd_off _ _ (by omega)]; exact e⟩
    by_cases e : b = a
    · subst e
      rw [upd_at] at hq
      rcases List.mem_append.1 hq with hq | hq
      · exact old hq
      · simp at hq
        exact ⟨i, by omega, by rw [upd_at]; exact hq⟩
    · rw [upd_off _ _ e] at hq
      exact old hq
  · by_cases e : b = a
    · subst e
      have := h.qlen b hb
      rw [upd_at]
      simp
      omega
    · rw [upd_off _ _ e]
      have := h.qlen b hb
      omega
  · rcases List.mem_append.1 hk with hk | hk
    · have := h.low k hk
      omega
    · simp at hk
      omega
  · rcases List.mem_append.1 hk with hk | hk
    · have := h.low k hk
      rw [upd_off _ _ (by omega), upd_off _ _ (by omega)]
      exact h.hold k hk p hp
    · simp at hk
      subst hk
      rw [upd_at, upd_at]
      unfold holdOf
      by_cases ho : M p % 2 = 1
      · rw [if_pos ⟨hp, ho⟩]
        have h1 := (h.odd p hp).1 ho
        exact ⟨Nat.le_refl _, fun _ _ => ⟨h1, (h.near p hp h1).2⟩⟩
      · rw [if_neg (fun e => ho e.2)]
        exact ⟨Nat.zero_le _, fun e => absurd e (Nat.lt_irrefl 0)⟩
theorem SLink.ripened (h : SLink n i now P Q M rl Hd E) {a : Nat} : SLink n (i + 1) now P (upd Q a (kept now (Q a))) M rl Hd E := by
  refine ⟨fun b hb q hq => ?_, fun b hb => ?_, h.more.low, h.more.len, h.odd, h.more.mle, h.near, h.hold⟩
  · by_cases e : b = a
    · subst e
      rw [upd_at] at hq
      exact h.more.q b hb q (List.mem_filter.1 hq).1
    · rw [upd_off _ _ e] at hq
      exact h.more.q b hb q hq
  · by_cases e : b = a
    · subst e
      rw [upd_at]
      have := h.qlen b hb
      have := List.length_filter_le (fun q => !rp now q) (Q b)
      unfold kept
      omega
    · rw [upd_off _ _ e]
      have := h.qlen b hb
      omega
/-- What came out is nobody's who is still pinned since. -/
theorem SLink.safe (h : SLink n i now P Q M rl Hd E) {a p k : Nat} {r : Int × Int} (ha : a < n) (hp : p < n) (hk : k ∈ rl) (hr : r ∈ told now (Q a)) (he : (k : Int) = r.1) (h0 : 0 < Hd k p) : Hd k p ≠ M p := by
  intro hm
  obtain ⟨q, hq, e⟩ := List.mem_map.1 hr
  obtain ⟨hq1, hq2⟩ := List.mem_filter.1 hq
  obtain ⟨k', hk', e'⟩ := h.q a ha q hq1
  subst e'
  subst e
  have : k = k' := by
    simp only [ref] at he
    omega
  subst this
  simp only [rp, decide_eq_true_eq] at hq2
  obtain ⟨h1, h2⟩ := (h.hold k hk p hp).2 h0 hm
  have := h.near p hp h1
  omega
theorem told_zero (h : SLink n i now P Q M rl Hd E) {a : Nat} {r : Int × Int} (ha : a < n) (hr : r ∈ told now (Q a)) : ∃ k : Nat, k < i ∧ r = ((k : Int), 0) := by
  obtain ⟨q, hq, e⟩ := List.mem_map.1 hr
  obtain ⟨hq1, hq2⟩ := List.mem_filter.1 hq
  obtain ⟨k', hk', e'⟩ := h.q a ha q hq1
  subst e'
  exact ⟨k', hk', e.symm⟩
end

/-- Epochs, marks, and records in memory. -/
structure SSt (w wr : World) (x lb n base mb : Nat) (now : Int) (P : Nat → Int) (V : Nat → Value) (Q : Nat → List (Int × Int × Int)) (M : Nat → Nat) (vh : Value) (rl : List Nat) (Hd : Nat → Nat → Nat) : Prop where
  epo : Epo wr x lb n base now P V Q
  cm : ∀ k, k < 5 → wr.cell? ⟨mb, k, none⟩ = some (.int .i64 (M k : Int))
  fm : ∀ i, wr.frozen? ⟨mb, i, none⟩ = false
  row : wr.ownsRow base 66 7 vh rl.length (rcells Hd rl)
  tr : Turn (From w.heap.size) w wr
structure SLaid (w : World) (x lb n base mb : Nat) : Prop where
  nx : x ≠ mb
  nl : lb ≠ mb
  bx : x < base
  bl : lb < base
  bm : mb < base
  hx : w.heap.size ≤ x
  hl : w.heap.size ≤ lb
  hm : w.heap.size ≤ mb
  n1 : 1 ≤ n
  n5 : n ≤ 5

section
variable {w wr w' : World} {x lb n base mb i : Nat} {now now' : Int} {P P' : Nat → Int} {V V' : Nat → Value} {Q Q' : Nat → List (Int × Int × Int)} {M : Nat → Nat} {vh : Value} {rl : List Nat} {Hd : Nat → Nat → Nat}
theorem SLaid.own (L : SLaid w x lb n base mb) (h : Epo wr x lb n base now P V Q) {k : Nat} (hk : EpoOwn x lb n V k) : k ≠ mb ∧ w.heap.size ≤ k := by
  have := L.nx; have := L.nl; have := L.hx; have := L.hl; have := L.bm; have := L.bx
  rcases hk with rfl | rfl | ⟨a, ha, e⟩
  · omega
  · omega
  · have := h.rowx ha e
    omega
/-- The epochs alone have turned. -/
theorem SSt.epos (L : SLaid w x lb n base mb) (h : SSt w wr x lb n base mb now P V Q M vh rl Hd) (h1 : Epo w' x lb n base now' P' V' Q') (ht : Turn (EpoOwn x lb n V) wr w') : SSt w w' x lb n base mb now' P' V' Q' M vh rl Hd := by
  have lm : mb < wr.heap.size := Nat.lt_of_lt_of_le L.bm h.epo.bw
  have e := ht.block mb lm (fun q => (L.own h.epo q).1 rfl)
  refine ⟨h1, fun k hk => (World.cell?_of_block (w := wr) e).trans (h.cm k hk), fun i => (World.frozen?_of_block (w := wr) e).trans (h.fm i), own_turn h.row ht (fun k hk q => ?_), h.tr.trans (ht.more (fun k _ q => (L.own h.epo q).2))⟩
  rcases q with rfl | rfl | ⟨a, ha, e⟩
  · have := (h.row.lt _ hk).1
    have := L.bx
    omega
  · have := (h.row.lt _ hk).1
    have := L.bl
    omega
  · rcases own_apart h.row (h.epo.rows a ha) (by decide) with q | q
    · rw [hk] at q
      cases q
    · exact q (by rw [hk, e])
theorem SSt.same (h : SSt w wr x lb n base mb now P V Q M vh rl Hd) (ht : Turn (fun _ => False) wr w') : SSt w w' x lb n base mb now P V Q M vh rl Hd := by
  refine ⟨h.epo.same ht, fun k hk => ht.cell id (h.cm k hk), fun i => ?_, own_turn h.row ht (fun _ _ => id), h.tr.trans ht.none⟩
  have e := ht.block mb (block_lt_of_cell (h.cm 0 (by decide))) id
  exact (World.frozen?_of_block (w := wr) e).trans (h.fm i)
theorem SSt.mark (L : SLaid w x lb n base mb) (h : SSt w wr x lb n base mb now P V Q M vh rl Hd) {a : Nat} (ha : a < 5) (m : Nat) : SSt w (wr.setCell ⟨mb, a, none⟩ (.int .i64 (m : Int))) x lb n base mb now P V Q (upd M a m) vh rl Hd := by
  have ht : Turn (fun k => k = mb) wr (wr.setCell ⟨mb, a, none⟩ (.int .i64 (m : Int))) := (Turn.refl (fun k => k = mb) wr).setCell (p := ⟨mb, a, none⟩) (.inl rfl) _
  refine ⟨h.epo.keep ht (fun k _ q e => (L.own h.epo q).1 e), fun k hk => ?_, fun i => by simpa using h.fm i, own_turn h.row ht (fun k hk e => ?_), h.tr.trans (ht.more (fun k _ e => by have := L.hm; unfold From; omega))⟩
  · by_cases e : k = a
    · subst e
      rw [upd_at]
      exact World.cell?_setCell_same _ _ _ (h.cm k hk)
    · rw [cell_off _ _ _ _ _ (Ne.symm e), upd_off _ _ e]
      exact h.cm k hk
  · have := (h.row.lt k hk).1
    have := L.bm
    omega
/-- A record more. -/
theorem SSt.record (L : SLaid w x lb n base mb) (h : SSt w wr x lb n base mb now P V Q M vh rl Hd) (hlow : ∀ k ∈ rl, k < i) {hd : Nat → Nat} {o : Obj} {w5 : World} {v' : Value} (hg : (wr.alloc o).grownBy w5 vh.ownBlock)
    (ho : w5.ownsRow base 66 7 v' (rl.length + 1) (rcells Hd rl ++ rcell (upd Hd i hd) i)) : SSt w w5 x lb n base mb now P V Q M v' (rl ++ [i]) (upd Hd i hd) := by
  have ht : Turn (fun k => vh.ownBlock = some k) wr w5 := ((Turn.refl _ wr).alloc o).grown hg (fun k hk => .inl hk)
  have hne : ∀ k, vh.ownBlock = some k → base ≤ k := fun k hk => (h.row.lt k hk).1
  have lm : mb < wr.heap.size := Nat.lt_of_lt_of_le L.bm h.epo.bw
  have e := ht.block mb lm (fun q => by have := hne _ q; have := L.bm; omega)
  refine ⟨h.epo.keep ht (fun k _ q e => ?_), fun k hk => (World.cell?_of_block (w := wr) e).trans (h.cm k hk), fun i => (World.frozen?_of_block (w := wr) e).trans (h.fm i), ?_, h.tr.trans (ht.more (fun k _ e => by have := hne _ e; have := L.hm; have := L.bm; unfold From; omega))⟩
  · have := hne _ e
    rcases q with rfl | rfl | ⟨a, ha, e2⟩
    · have := L.bx
      omega
    · have := L.bl
      omega
    · rcases own_apart h.row (h.epo.rows a ha) (by decide) with q | q
      · rw [e] at q
        cases q
      · exact q (by rw [e, e2])
  · rw [rcells_snoc, List.length_append, rcells_congr (Hd := upd Hd i hd) (Hd' := Hd) rl (fun k hk => upd_off _ _ (by have := hlow k hk; omega))]
    exact ho
theorem SSt.rowAt (h : SSt w wr x lb n base mb now P V Q M vh rl Hd) {j k o : Nat} {u : Value} (hj : rl[j]? = some k) (ho : (rcell Hd k)[o]? = some u) : ∃ g cap, vh = .slice (some ⟨g, 0, none⟩) rl.length cap ∧ wr.cell? ⟨g, j * 7 + o, none⟩ = some u := by
  obtain ⟨ao, cap, e, s⟩ := own_slice h.row
  have hl := (List.getElem?_eq_some_iff.1 hj).1
  obtain ⟨g, rfl⟩ := s (by omega)
  subst e
  refine ⟨g, cap, rfl, ?_⟩
  have h2 := rcells_at Hd rl j k o u hj ho
  exact (h.row.cellAt (j * 7 + o) (by have := (List.getElem?_eq_some_iff.1 h2).1; rw [rcells_len] at this; exact this)).trans h2
theorem SSt.rowIn {g cap : Nat} {ln : Nat} (h : SSt w wr x lb n base mb now P V Q M (.slice (some ⟨g, 0, none⟩) ln cap) rl Hd) {j k o : Nat} {u : Value} (hj : rl[j]? = some k) (ho : (rcell Hd k)[o]? = some u) : wr.cell? ⟨g, j * 7 + o, none⟩ = some u := by
  obtain ⟨g2, c2, e, z⟩ := h.rowAt hj ho
  injection e with e _ _
  injection e with e
  injection e with e
  rw [e]
  exact z
end
end Go.Proofs.Ytibmimdlgbhdnaa
