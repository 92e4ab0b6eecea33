/-
  An event put behind a run's events.
-/
import Derived.Test.YtfidnahbhomomaaSe
import Derived.Test.YtfidnahbhomomaaHl
import Derived.Laws.IdiomCopy
namespace Go.Proofs.Ytfidnahbhomomaa
open Go.ChangeShapes Go.WideShapes Go.ChangeAt Go.RowKit
set_option linter.unusedVariables false
set_option linter.unusedSimpArgs false
theorem heap_alloc_new (w : World) (o : Obj) : (w.alloc o).heap[w.heap.size]? = some o := World.alloc_heap_new w o
theorem size_zeroCells (z : Array Value) (n : Nat) : (Builtin.zeroCells z n).size = n * z.size := by simp [Builtin.zeroCells]
/-- A full row grows: what it held and what came lie in a block that is new. -/
theorem app_full {W : World} (t e : TypeId) {i : TypeInfo} {z : Value} {size bytes : Nat} (ht : Try.prog.underlying t = some (.slice e)) (hi : Try.prog.info? e = some i) (hz : i.zero = some z) (hs : i.size = size) (hb : i.bytes = bytes) (hzs : z.cells.size = size)
    {s : Value} {n m c : Nat} {a : Addr} {olds news : List Value} (h0 : (s = .slice none 0 0 ∧ n = 0 ∧ olds = []) ∨ ∃ b, s = .slice (some b) n n ∧ ∀ j v, olds[j]? = some v → W.cell? (b.add j) = some v) (hlo : olds.length = n * size) (hl : news.length = m * size) (hnews : ∀ j v, news[j]? = some v → W.cell? (a.add j) = some v)
    (hm : 0 < m) (hn : n + m ≤ 1000000) (hbb : bytes ≤ 1000) :
    ∃ cap W', (Builtin.append_ #[t, t] t #[s, .slice (some a) m c]).run Try.prog W = .ok (.slice (some ⟨W.heap.size, 0, none⟩) (n + m) cap) W' ∧ W'.ownsRow W.heap.size e size (.slice (some ⟨W.heap.size, 0, none⟩) (n + m) cap) (n + m) (olds ++ news) ∧ Turn (fun _ => False) W W' := by
  subst hs; subst hb
  have hbm : (n + m) * i.bytes ≤ 1000000 * 1000 := Nat.mul_le_mul hn hbb
  have own : ∀ cap, n + m ≤ cap → cap ≤ maxLen → (W.drew.alloc (.cells (olds.toArray ++ news.toArray ++ Builtin.zeroCells z.cells (cap - (n + m))) e)).ownsRow W.heap.size e i.size (.slice (some ⟨W.heap.size, 0, none⟩) (n + m) cap) (n + m) (olds ++ news) := fun cap h1 h2 => by
    have hlen : (olds ++ news).length = (n + m) * i.size := by rw [List.length_append, hlo, hl, Nat.add_mul]
    refine ⟨hlen, .inr ⟨W.heap.size, cap, _, rfl, Nat.le_refl _, heap_alloc_new W.drew _, h1, h2, ?_, ?_⟩⟩
    · simp only [Array.size_append, List.size_toArray, size_zeroCells, hzs, hlo, hl, ← Nat.add_mul]
      rw [show n + m + (cap - (n + m)) = cap by omega]
    · simp only [Array.toList_append, List.append_assoc]
      rw [← List.append_assoc, ← hlen]
      exact List.take_left
  have tn : ∀ o, Turn (fun _ => False) W (W.drew.alloc o) := fun o => ((Turn.refl _ W).drewN 1).alloc o
  rcases h0 with ⟨rfl, rfl, rfl⟩ | ⟨b, rfl, hold⟩
  · have hr := run_append_nil (P := Try.prog) W t t e i z ht hi hz a m c news hl hnews hm (by omega) (by simp only [Nat.zero_add] at hbm; omega)
    have := own (grownCap W m 0 e) (by rw [Nat.zero_add]; exact grownCap_ge W m 0 e) (grownCap_le_maxLen W m 0 e (by unfold maxLen; omega))
    simp only [Nat.zero_add, List.nil_append, Array.empty_append] at this ⊢
    exact ⟨_, _, hr, this, tn _⟩
  · have hr := run_append_grow (P := Try.prog) W t t e i z ht hi hz b n n olds hlo hold a m c news hl hnews (by omega) (by omega) (growslice_fits (by omega) (by omega))
    exact ⟨_, _, hr, own _ (grownCap_ge W (n + m) n e) (grownCap_le_maxLen W (n + m) n e (by unfold maxLen; omega)), tn _⟩
/-- The rows, and an event behind those of one place. -/
def withE (L : List (List Ev)) (at_ : Nat) (e : Ev) : List (List Ev) := (L ++ List.replicate (at_ + 1 - L.length) []).set at_ (L.getD at_ [] ++ [e])
theorem withE_len (L : List (List Ev)) (at_ : Nat) (e : Ev) : (withE L at_ e).length = max (at_ + 1) L.length := by
  unfold withE
  rw [List.length_set, List.length_append, List.length_replicate]
  omega
/-- What lies in a row of rows. -/
theorem ESetsAt.list {w : World} {v : Value} {L : List (List Ev)} (h : ESetsAt w v L) (hL : 1 ≤ L.length) : ∃ (b off cap : Nat) (rs : List Value), v = .slice (some ⟨b, off, none⟩) L.length cap ∧ Blk w b 36 ∧ rs.length = L.length ∧ (∀ (j : Nat) (u : Value), rs[j]? = some u → w.cell? ⟨b, off + j, none⟩ = some u) ∧ ∀ (j : Nat) (u : Value) (l : List Ev), rs[j]? = some u → L[j]? = some l → EvsAt w u l := by
  obtain ⟨a, b, off, cap, e, ha, hx⟩ := h
  obtain ⟨rfl, hb⟩ := ha.resolve_left (fun e => by rw [e] at hL; simp at hL)
  have key : ∀ n, n ≤ L.length → ∃ rs : List Value, rs.length = n ∧ (∀ (j : Nat) (u : Value), rs[j]? = some u → w.cell? ⟨b, off + j, none⟩ = some u) ∧ ∀ (j : Nat) (u : Value) (l : List Ev), rs[j]? = some u → L[j]? = some l → EvsAt w u l := fun n => by
    induction n with
    | zero => intro _; exact ⟨[], rfl, fun j u h => by simp at h, fun j u l h => by simp at h⟩
    | succ n ih =>
      intro hn
      obtain ⟨rs, h1, h2, h3⟩ := ih (by omega)
      obtain ⟨l, hl⟩ : ∃ l, L[n]? = some l := ⟨_, List.getElem?_eq_getElem (by omega)⟩
      obtain ⟨r, hr1, hr2⟩ := hx n l hl
      refine ⟨rs ++ [r], by simp [h1], fun j u hu => ?_, fun j u m hu hm => ?_⟩
      · rw [List.getElem?_append] at hu
        split at hu
        · exact h2 j u hu
        · have : j - rs.length = 0 := by
            have := (List.getElem?_eq_some_iff.1 hu).1
            simpa using this
          rw [this] at hu
          simp at hu
          subst hu
          rw [show j = n by omega]
          exact hr1
      · rw [List.getElem?_append] at hu
        split at hu
        · exact h3 j u m hu hm
        · have : j - rs.length = 0 := by
            have := (List.getElem?_eq_some_iff.1 hu).1
            simpa using this
          rw [this] at hu
          simp at hu
          subst hu
          have : j = n := by omega
          subst this
          rw [hl] at hm
          cases hm
          exact hr2
  obtain ⟨rs, h1, h2, h3⟩ := key L.length (Nat.le_refl _)
  exact ⟨b, off, cap, rs, e, hb, h1, h2, h3⟩
theorem EvsAt.one {w : World} {v : Value} {l : List Ev} (h : EvsAt w v l) : v.oneCell' = true := by
  obtain ⟨a, c, e⟩ := h.sl
  rw [e]; rfl
/-- A made row, with rows copied into it. -/
structure Cop (w : World) (g n : Nat) (L : List (List Ev)) (rs : List Value) (V : World) : Prop where
  bg : Blk V g 36
  lo : ∀ (j : Nat) (u : Value), rs[j]? = some u → V.cell? ⟨g, j, none⟩ = some u
  hi : ∀ j, L.length ≤ j → j < n → V.cell? ⟨g, j, none⟩ = some (.slice none 0 0)
  rl : rs.length = L.length
  ev : ∀ (j : Nat) (u : Value) (l : List Ev), rs[j]? = some u → L[j]? = some l → EvsAt V u l
  turn : Turn (fun _ => False) w V
  gw : w.heap.size ≤ g
theorem Cop.turns {w V V' : World} {g n : Nat} {L : List (List Ev)} {rs : List Value} (h : Cop w g n L rs V) (T : Turn (fun _ => False) V V') : Cop w g n L rs V' :=
  ⟨h.bg.turn T id, fun j u hu => T.cell id (h.lo j u hu), fun j h1 h2 => T.cell id (h.hi j h1 h2), h.rl, fun j u l h1 h2 => (h.ev j u l h1 h2).turn T (fun _ _ f => f), h.turn.trans T, h.gw⟩
/-- The row at one place is another one. -/
theorem Cop.put {w V W : World} {g at_ : Nat} {L : List (List Ev)} {rs : List Value} {v : Value} {e : Ev} (h : Cop w g (max (at_ + 1) L.length) L rs V) (T : Turn (fun _ => False) V W) (hv : EvsAt W v (L.getD at_ [] ++ [e])) :
    ESetsAt (W.setCell ⟨g, at_, none⟩ v) (.slice (some ⟨g, 0, none⟩) (max (at_ + 1) L.length) (max (at_ + 1) L.length)) (withE L at_ e) ∧ Turn (fun _ => False) w (W.setCell ⟨g, at_, none⟩ v) := by
  have hW := h.turns T
  have T2 : Turn (fun q => q = g) W (W.setCell ⟨g, at_, none⟩ v) := Turn.put _ _ _ _
  have nb : ∀ b, Blk W b 62 → ¬ b = g := fun b hb e => hb.ne hW.bg (by decide) e
  have old : ∃ u, W.cell? ⟨g, at_, none⟩ = some u := by
    by_cases hl : at_ < L.length
    · obtain ⟨u, hu⟩ : ∃ u, rs[at_]? = some u := ⟨_, List.getElem?_eq_getElem (by rw [hW.rl]; exact hl)⟩
      exact ⟨u, hW.lo _ _ hu⟩
    · exact ⟨_, hW.hi at_ (by omega) (by omega)⟩
  obtain ⟨u0, hu0⟩ := old
  refine ⟨⟨_, g, 0, _, by rw [withE_len], .inr ⟨rfl, hW.bg.set _ _⟩, fun k l hl => ?_⟩, hW.turn.comp T2 (fun q hq e => by have := h.gw; omega)⟩
  rw [Nat.zero_add]
  have hk := (List.getElem?_eq_some_iff.1 hl).1
  rw [withE_len] at hk
  unfold withE at hl
  by_cases e1 : k = at_
  · subst e1
    rw [List.getElem?_set_self (by rw [List.length_append, List.length_replicate]; omega)] at hl
    cases hl
    exact ⟨v, World.cell?_setCell_same _ _ _ hu0, hv.turn T2 nb⟩
  · rw [List.getElem?_set_ne (fun e => e1 e.symm), List.getElem?_append] at hl
    rw [cell_off _ _ _ _ _ (fun e => e1 e.symm)]
    split at hl
    · rename_i hlt
      obtain ⟨u, hu⟩ : ∃ u, rs[k]? = some u := ⟨_, List.getElem?_eq_getElem (by rw [hW.rl]; exact hlt)⟩
      exact ⟨u, hW.lo _ _ hu, (hW.ev k u l hu hl).turn T2 nb⟩
    · rename_i hlt
      have : l = [] := by
        rw [List.getElem?_replicate] at hl
        split at hl
        · cases hl; rfl
        · cases hl
      subst this
      exact ⟨_, hW.hi k (by omega) hk, none, 0, 0, 0, rfl, Nat.zero_le _, .inl rfl, fun k e h => by simp at h⟩
theorem wrapA {a : Nat} (h : a ≤ 100) : wrap64 ((a : Int) + 1) = (a : Int) + 1 := by unfold wrap64; omega
theorem max_is (a b : Nat) : (if (a : Int) + 1 < (b : Int) then (b : Int) else (a : Int) + 1) = ((max (a + 1) b : Nat) : Int) := by
  split <;> omega
theorem Ev.one (e : Ev) : ∀ u ∈ e.cells, u.oneCell' = true := fun u hu => by
  unfold Ev.cells at hu
  simp only [List.mem_cons, List.not_mem_nil, or_false] at hu
  rcases hu with h | h | h | h | h | h <;> (rw [h]; rfl)
theorem rl_copy_run {P : Program} {w w' : World} {ops : Array Oper} {rest : List Oper} {o : Oper} {a : Act} {Q : Exit → Act → World → Prop} (hgd : o.guard = none) (d s : Operand) (t t' : TypeId)
    (ho : o.op = .call { callee := .builtin .copy, args := #[d, s], argTypes := #[t, t'] }) {v u v' : Value} (hd : a.eval d = v) (hs : a.eval s = u)
    (hr : (Builtin.copy_ #[t, t'] o.type #[v, u]).run P w = .ok v' w') (h : wpList P ops Q rest (a.put o.dst v') w') : wpList P ops Q (o :: rest) a w :=
  wpList_plain hgd fun _ hK => by
    unfold Oper.wp execOp
    simp only [ho, resolve, invoke, builtin, Sem.run_bind, Sem.run_pure, Result.andThen_ok, List.map_toArray, List.map_cons, List.map_nil, hd, hs, hr]
    exact hK _ _ h
/-- Rows are copied into a made row. -/
theorem cop_new {w : World} {ev : Value} {L : List (List Ev)} (h : ESetsAt w ev L) (hL : 1 ≤ L.length) {n : Nat} (hn : L.length ≤ n) (ty : TypeId) :
    ∃ rs : List Value, rs.length = L.length ∧ (Builtin.copy_ #[72, 72] ty #[.slice (some ⟨w.heap.size, 0, none⟩) n n, ev]).run Try.prog (w.alloc (.cells (madeCells #[.slice none 0 0] n) 36)) = .ok (goInt rs.length) ((w.alloc (.cells (madeCells #[.slice none 0 0] n) 36)).setCells w.heap.size 0 rs) ∧
      Cop w w.heap.size n L rs ((w.alloc (.cells (madeCells #[.slice none 0 0] n) 36)).setCells w.heap.size 0 rs) := by
  obtain ⟨b, off, cap, rs, rfl, hb, hrl, hx, hv⟩ := h.list hL
  obtain ⟨W, hW⟩ : ∃ W, W = w.alloc (.cells (madeCells #[.slice none 0 0] n) 36) := ⟨_, rfl⟩
  have TW : Turn (fun _ => False) w W := by rw [hW]; exact (Turn.refl _ w).alloc _
  have BW : Blk W w.heap.size 36 := by
    rw [hW]
    have := Blk.new w (madeCells #[.slice none 0 0] n).toList 36
    rw [Array.toArray_toList] at this
    exact this
  have RW : ∀ j, j < n → W.cell? ⟨w.heap.size, j, none⟩ = some (.slice none 0 0) := fun j hj => by
    have h0 := range_new w (madeCells #[.slice none 0 0] n).toList 36
    rw [Array.toArray_toList, ← hW] at h0
    have := h0 j (.slice none 0 0) (by simp [madeCells, hj, Nat.mod_one])
    rw [Nat.zero_add] at this
    exact this
  rw [← hW]
  have hth : W.there w.heap.size 0 rs.length := fun j hj => ⟨by rw [Nat.zero_add, RW j (by omega)]; rfl, BW.fz _⟩
  have T2 : Turn (fun q => q = w.heap.size) W (W.setCells w.heap.size 0 rs) := Turn.setCells _ _ (Turn.refl _ _) (.inl rfl)
  have one : ∀ v ∈ rs, v.oneCell' = true := fun v hvm => by
    obtain ⟨j, hj⟩ := List.mem_iff_getElem?.1 hvm
    obtain ⟨l, hl⟩ : ∃ l, L[j]? = some l := ⟨_, List.getElem?_eq_getElem (by have := (List.getElem?_eq_some_iff.1 hj).1; omega)⟩
    exact (hv j v l hj hl).one
  refine ⟨rs, hrl, ?_, ?_⟩
  · refine run_copy_cells W 72 72 ty 36 w.heap.size 0 n n ⟨b, off, none⟩ L.length cap rs Try.underlying72 (by kernel_rfl) (by rw [hrl]; show _ = min _ _; omega) (fun j v hj => ?_) (fun j hj => (hth j hj).1) (fun j hj => (hth j hj).2) one
    rw [Go.WideShapes.add_plain]
    exact TW.cell id (hx j v hj)
  · refine ⟨Blk.setCells _ _ BW, fun j u hu => ?_, fun j h1 h2 => ?_, hrl, fun j u l hu hl => ((hv j u l hu hl).turn TW (fun _ _ f => f)).turn T2 (fun b hb e => hb.ne BW (by decide) e), TW.comp T2 (fun q hq e => by omega), Nat.le_refl _⟩
    · have := World.rangeAt_setCells_same W w.heap.size 0 rs hth j u hu
      rw [Nat.zero_add] at this
      exact this
    · rw [World.cell?_setCells_out w.heap.size rs 0 W ⟨w.heap.size, j, none⟩ (fun _ _ => .inr (by show 0 + rs.length ≤ j; omega))]
      exact RW j h2
theorem evs_cell {w : World} {lb lo : Nat} {l : List Ev} (hrx : ∀ (k : Nat) (e : Ev), l[k]? = some e → w.rangeAt lb (lo + k * 6) e.cells) {j : Nat} {u : Value} (hu : (ecells l)[j]? = some u) : w.cell? ⟨lb, lo + j, none⟩ = some u := by
  have hj := (List.getElem?_eq_some_iff.1 hu).1
  rw [ecells_len] at hj
  obtain ⟨e, he⟩ : ∃ e, l[j / 6]? = some e := ⟨_, List.getElem?_eq_getElem (by omega)⟩
  have hm : j % 6 < e.cells.length := by show j % 6 < 6; omega
  obtain ⟨u2, hu2⟩ : ∃ u2, e.cells[j % 6]? = some u2 := ⟨_, List.getElem?_eq_getElem hm⟩
  have h1 := ecells_at l (j / 6) e he (j % 6) u2 hu2
  rw [show j / 6 * 6 + j % 6 = j by omega] at h1
  rw [h1] at hu
  cases hu
  have h2 := hrx (j / 6) e he (j % 6) u hu2
  rw [show lo + j / 6 * 6 + j % 6 = lo + j by omega] at h2
  exact h2
set_option maxRecDepth 100000 in
set_option maxHeartbeats 8000000 in
theorem with_some {w : World} {ev : Value} {L : List (List Ev)} {at_ : Nat} {e : Ev} {l : List Ev} (h : ESetsAt w ev L) (hL : 1 ≤ L.length ∧ L.length ≤ 100) (ha : at_ ≤ 100) (hl : L[at_]? = some l) (hp : 1 ≤ l.length ∧ l.length ≤ 10000) :
    Calls Try.prog 55 #[ev, .int .i64 (at_ : Int), .agg e.cells.toArray] w fun en w' => ∃ v, en = .returned v ∧ ESetsAt w' v (withE L at_ e) ∧ Turn (fun _ => False) w w' := by
  obtain ⟨W0, hW0⟩ : ∃ W0, W0 = w.alloc (.cells e.cells.toArray 62) := ⟨_, rfl⟩
  have T0 : Turn (fun _ => False) w W0 := by rw [hW0]; exact (Turn.refl _ w).alloc _
  have R0 : W0.rangeAt w.heap.size 0 e.cells := by rw [hW0]; exact range_new w e.cells 62
  have MK := make36 (n := max (at_ + 1) L.length) (by omega) W0
  obtain ⟨rs, hrl, hcp, C0⟩ := cop_new (h.turn T0) hL.1 (n := max (at_ + 1) L.length) (by omega) 3
  obtain ⟨ea, ecap, rfl⟩ : ∃ a c, ev = .slice a L.length c := by
    obtain ⟨a, _, _, c, e, _⟩ := h
    exact ⟨a, c, e⟩
  obtain ⟨W1, hW1⟩ : ∃ W1, W1 = (W0.alloc (.cells (madeCells #[.slice none 0 0] (max (at_ + 1) L.length)) 36)).setCells W0.heap.size 0 rs := ⟨_, rfl⟩
  rw [← hW1] at hcp C0
  have RE := range_turn R0 C0.turn id
  obtain ⟨g, hg⟩ : ∃ g, g = W0.heap.size := ⟨_, rfl⟩
  rw [← hg] at hcp C0 MK
  obtain ⟨i3, j1, j2, j3, j4⟩ := info_parts info62
  obtain ⟨V, hV⟩ : ∃ V, V = W1.drew := ⟨_, rfl⟩
  have TV : Turn (fun _ => False) W1 V := by rw [hV]; exact (Turn.refl _ W1).drewN 1
  have C := C0.turns TV
  have hat := (List.getElem?_eq_some_iff.1 hl).1
  obtain ⟨u, hu⟩ : ∃ u, rs[at_]? = some u := ⟨_, List.getElem?_eq_getElem (by rw [C.rl]; exact hat)⟩
  have hold : L.getD at_ [] = l := by rw [List.getD_eq_getElem?_getD, hl]; rfl
  have hur := C.ev at_ u l hu hl
  have hcell := C.lo at_ u hu
  obtain ⟨ra, lb, lo, lc, rfl, m2, hra, hrx⟩ := hur
  obtain ⟨rfl, hlb⟩ := hra.resolve_left (fun e => by rw [e] at hp; simp at hp)
  obtain ⟨cap, W4, hrun, hown, T4⟩ := app_full (W := V.alloc (.cells e.cells.toArray 62)) 36 62 Try.underlying36 j1 j2 j3 j4 rfl (s := .slice (some ⟨lb, lo, none⟩) l.length l.length) (n := l.length) (m := 1) (c := 1) (a := ⟨V.heap.size, 0, none⟩) (olds := ecells l) (news := e.cells) (.inr ⟨_, rfl, fun j u hu => by
    rw [Go.WideShapes.add_plain]
    exact past (evs_cell hrx hu)⟩) (ecells_len l) rfl (fun j u hu => by
    rw [Go.WideShapes.add_plain]
    have := range_new V e.cells 62 j u hu
    exact this) (by omega) (by omega) (by omega)
  have m0 : ¬ l.length = 0 := by omega
  have m1 : (0 : Int) ≤ (l.length : Int) := Int.natCast_nonneg _
  have hsa : (V.alloc (.cells e.cells.toArray 62)).heap.size = V.heap.size + 1 := World.size_alloc _ _
  rw [hsa] at hrun hown
  clear hsa
  have zV := range_turn RE TV id
  have TA : Turn (fun _ => False) V (V.alloc (.cells e.cells.toArray 62)) := (Turn.refl _ V).alloc _
  have T4V := TA.trans T4
  have FIN0 := C.put T4V (v := .slice (some ⟨V.heap.size + 1, 0, none⟩) (l.length + 1) cap) (by
    rw [hold]
    refine EvsAt.own (base := V.heap.size + 1) ?_
    rw [ecells_app, List.length_append]
    have e1 : ecells [e] = e.cells := by simp [ecells]
    rw [e1]
    exact hown)
  have FIN := Lib.hid (show ESetsAt _ _ _ ∧ Turn (fun _ => False) w _ from ⟨FIN0.1, T0.trans FIN0.2⟩)
  have yV : V.cell? ⟨g, at_, none⟩ = some (.slice (some ⟨lb, lo, none⟩) l.length lc) := hcell
  have yV1 := past (o := .cells e.cells.toArray 62) yV
  have y3 := T4V.cell id yV
  have fz3 : W4.frozen? ⟨g, at_, none⟩ = false := (C.bg.turn T4V id).fz _
  have zV1 := range_turn zV TA id
  have zV3 := range_turn zV T4V id
  have bX : w.heap.size < g := by rw [hg, hW0, World.size_alloc]; omega
  have zV4 := range_turn zV3 (Turn.put W4 g at_ (.slice (some ⟨V.heap.size + 1, 0, none⟩) (l.length + 1) cap)) (show ¬ w.heap.size = g by omega)
  have zD := zV
  rw [hV] at zD
  have xD := yV
  rw [hV] at xD
  have x0 : W1.cell? ⟨g, at_, none⟩ = some (.slice (some ⟨lb, lo, none⟩) l.length lc) := by rw [hV] at yV; exact yV
  have ew := wrapA ha
  have a0 : (0 : Int) ≤ (at_ : Int) := Int.natCast_nonneg at_
  have a1 : (at_ : Int) < ((max (at_ + 1) L.length : Nat) : Int) := Int.ofNat_lt.2 (Nat.lt_of_lt_of_le (Nat.lt_succ_self _) (Nat.le_max_left _ _))
  have emx := max_is at_ L.length
  have RUN1 := Lib.hid hrun
  have HCP := Lib.hid hcp
  have HW0 := Lib.hid hW0
  obtain ⟨et, ek, eaa, ebb, ec, ed⟩ := e
  unfold Ev.cells at *
  dsimp only at *
  clear h hL ha T0 R0 hrl C0 hW1 RE hg TV C TA T4V FIN0 hown T4 hcell hrun hcp hW0 bX hold hl hp hra hrx hlb hat hu
  generalize hmn : max (at_ + 1) L.length = mn at *
  clear hmn
  go_enter Try.func55, Try.ntmps55
  go_upto_region 1 with fail
  rw [← HW0.out]
  clear HW0
  generalize w.heap.size = eb at *
  go_upto_region 2 with fail
  clear MK emx ew
  go_upto_region 3 with (((with_reducible show wpList _ _ _ ({ dst := some 16, op := _, type := _, pos := _, after := _, guard := _ } :: _) _ _); refine rl_copy_run (by rfl) _ _ _ _ (by rfl) (by rfl) (by rfl) HCP.out ?_))
  clear HCP x0
  refine lany_start 21 (fun b w' => b = false → (fun w' => w'.rangeAt eb 0 [.int .i64 et, .int .i64 ek, .int .i64 eaa, .int .i64 ebb, .int .i64 ec, .int .i64 ed] ∧ w'.cell? ⟨g, at_, none⟩ = some (.slice (some ⟨lb, lo, none⟩) l.length lc)) w') (by kernel_rfl) ?hs0 (fun hS0 => ?_)
  case hs0 => exact fun _ => ⟨zD, xD⟩
  rw [← hV] at hS0 ⊢
  clear hV
  refine LAny.take (i := 0) (oi := { dst := some 17, op := Op.move (Operand.tmp 7), type := 72, pos := "step.go:65", after := #[], guard := none }) (v := ?_) rfl (by kernel_rfl) (by kernel_rfl) (by kernel_rfl) (by kernel_rfl) (fun _ _ _ h => h) (Or.inl ⟨by rfl, ?hy1⟩) hS0 ?_
  case hy1 => (intro w hSw; have hSw := hSw rfl; (try dsimp only at hSw); go_simp; try with_reducible rfl)
  try simp only [Act.put, List.setIfInBounds_toArray, List.set_cons_zero, List.set_cons_succ]
  refine LAny.take (i := 1) (oi := { dst := some 18, op := Op.move (Operand.tmp 1), type := 3, pos := "step.go:65", after := #[], guard := none }) (v := ?_) rfl (by kernel_rfl) (by kernel_rfl) (by kernel_rfl) (by kernel_rfl) (fun _ _ _ h => h) (Or.inl ⟨by rfl, ?hy2⟩) hS0 ?_
  case hy2 => (intro w hSw; have hSw := hSw rfl; (try dsimp only at hSw); go_simp; try with_reducible rfl)
  try simp only [Act.put, List.setIfInBounds_toArray, List.set_cons_zero, List.set_cons_succ]
  refine LAny.take (i := 2) (oi := { dst := some 19, op := Op.move (Operand.tmp 7), type := 72, pos := "step.go:65", after := #[], guard := none }) (v := ?_) rfl (by kernel_rfl) (by kernel_rfl) (by kernel_rfl) (by kernel_rfl) (fun _ _ _ h => h) (Or.inl ⟨by rfl, ?hy3⟩) hS0 ?_
  case hy3 => (intro w hSw; have hSw := hSw rfl; (try dsimp only at hSw); go_simp; try with_reducible rfl)
  try simp only [Act.put, List.setIfInBounds_toArray, List.set_cons_zero, List.set_cons_succ]
  refine LAny.take (i := 3) (oi := { dst := some 20, op := Op.move (Operand.tmp 1), type := 3, pos := "step.go:65", after := #[], guard := none }) (v := ?_) rfl (by kernel_rfl) (by kernel_rfl) (by kernel_rfl) (by kernel_rfl) (fun _ _ _ h => h) (Or.inl ⟨by rfl, ?hy4⟩) hS0 ?_
  case hy4 => (intro w hSw; have hSw := hSw rfl; (try dsimp only at hSw); go_simp; try with_reducible rfl)
  try simp only [Act.put, List.setIfInBounds_toArray, List.set_cons_zero, List.set_cons_succ]
  refine LAny.take (i := 4) (oi := { dst := some 21, op := Op.indexAddr 72 (Operand.tmp 19) (Operand.tmp 20), type := 0, pos := "step.go:65", after := #[{ on := 2, ground := Ground.data }, { on := 3, ground := Ground.data }], guard := none }) (v := ?_) rfl (by kernel_rfl) (by kernel_rfl) (by kernel_rfl) (by kernel_rfl) (fun _ _ _ h => h) (Or.inl ⟨by rfl, ?hy5⟩) hS0 ?_
  case hy5 => (intro w hSw; have hSw := hSw rfl; (try dsimp only at hSw); go_simp; try with_reducible rfl)
  try simp only [Act.put, List.setIfInBounds_toArray, List.set_cons_zero, List.set_cons_succ]
  refine LAny.take (i := 5) (oi := { dst := some 22, op := Op.load 36 (Operand.tmp 21), type := 36, pos := "step.go:65", after := #[{ on := 4, ground := Ground.data }], guard := none }) (v := ?_) rfl (by kernel_rfl) (by kernel_rfl) (by kernel_rfl) (by kernel_rfl) (fun _ _ _ h => h) (Or.inl ⟨by rfl, ?hy6⟩) hS0 ?_
  case hy6 => (intro w hSw; have hSw := hSw rfl; (try dsimp only at hSw); go_simp; try with_reducible rfl)
  try simp only [Act.put, List.setIfInBounds_toArray, List.set_cons_zero, List.set_cons_succ]
  refine LAny.take (i := 6) (oi := { dst := some 23, op := Op.move (Operand.tmp 7), type := 72, pos := "step.go:65", after := #[], guard := none }) (v := ?_) rfl (by kernel_rfl) (by kernel_rfl) (by kernel_rfl) (by kernel_rfl) (fun _ _ _ h => h) (Or.inl ⟨by rfl, ?hy7⟩) hS0 ?_
  case hy7 => (intro w hSw; have hSw := hSw rfl; (try dsimp only at hSw); go_simp; try with_reducible rfl)
  try simp only [Act.put, List.setIfInBounds_toArray, List.set_cons_zero, List.set_cons_succ]
  refine LAny.take (i := 7) (oi := { dst := some 24, op := Op.move (Operand.tmp 1), type := 3, pos := "step.go:65", after := #[], guard := none }) (v := ?_) rfl (by kernel_rfl) (by kernel_rfl) (by kernel_rfl) (by kernel_rfl) (fun _ _ _ h => h) (Or.inl ⟨by rfl, ?hy8⟩) hS0 ?_
  case hy8 => (intro w hSw; have hSw := hSw rfl; (try dsimp only at hSw); go_simp; try with_reducible rfl)
  try simp only [Act.put, List.setIfInBounds_toArray, List.set_cons_zero, List.set_cons_succ]
  refine LAny.take (i := 8) (oi := { dst := some 25, op := Op.indexAddr 72 (Operand.tmp 23) (Operand.tmp 24), type := 0, pos := "step.go:65", after := #[{ on := 6, ground := Ground.data }, { on := 7, ground := Ground.data }], guard := none }) (v := ?_) rfl (by kernel_rfl) (by kernel_rfl) (by kernel_rfl) (by kernel_rfl) (fun _ _ _ h => h) (Or.inl ⟨by rfl, ?hy9⟩) hS0 ?_
  case hy9 => (intro w hSw; have hSw := hSw rfl; (try dsimp only at hSw); go_simp; try with_reducible rfl)
  try simp only [Act.put, List.setIfInBounds_toArray, List.set_cons_zero, List.set_cons_succ]
  refine LAny.take (i := 9) (oi := { dst := some 26, op := Op.load 36 (Operand.tmp 25), type := 36, pos := "step.go:65", after := #[{ on := 8, ground := Ground.data }], guard := none }) (v := ?_) rfl (by kernel_rfl) (by kernel_rfl) (by kernel_rfl) (by kernel_rfl) (fun _ _ _ h => h) (Or.inl ⟨by rfl, ?hy10⟩) hS0 ?_
  case hy10 => (intro w hSw; have hSw := hSw rfl; (try dsimp only at hSw); go_simp; try with_reducible rfl)
  try simp only [Act.put, List.setIfInBounds_toArray, List.set_cons_zero, List.set_cons_succ]
  refine LAny.take (i := 10) (oi := { dst := some 27, op := Op.call { callee := Callee.builtin Builtin.len, args := #[Operand.tmp 26], argTypes := #[36] }, type := 3, pos := "step.go:65", after := #[{ on := 9, ground := Ground.data }], guard := none }) (v := ?_) rfl (by kernel_rfl) (by kernel_rfl) (by kernel_rfl) (by kernel_rfl) (fun _ _ _ h => h) (Or.inl ⟨by rfl, ?hy11⟩) hS0 ?_
  case hy11 => (intro w hSw; have hSw := hSw rfl; (try dsimp only at hSw); go_simp; try with_reducible rfl)
  try simp only [Act.put, List.setIfInBounds_toArray, List.set_cons_zero, List.set_cons_succ]
  refine LAny.take (i := 11) (oi := { dst := some 28, op := Op.move (Operand.tmp 7), type := 72, pos := "step.go:65", after := #[], guard := none }) (v := ?_) rfl (by kernel_rfl) (by kernel_rfl) (by kernel_rfl) (by kernel_rfl) (fun _ _ _ h => h) (Or.inl ⟨by rfl, ?hy12⟩) hS0 ?_
  case hy12 => (intro w hSw; have hSw := hSw rfl; (try dsimp only at hSw); go_simp; try with_reducible rfl)
  try simp only [Act.put, List.setIfInBounds_toArray, List.set_cons_zero, List.set_cons_succ]
  refine LAny.take (i := 12) (oi := { dst := some 29, op := Op.move (Operand.tmp 1), type := 3, pos := "step.go:65", after := #[], guard := none }) (v := ?_) rfl (by kernel_rfl) (by kernel_rfl) (by kernel_rfl) (by kernel_rfl) (fun _ _ _ h => h) (Or.inl ⟨by rfl, ?hy13⟩) hS0 ?_
  case hy13 => (intro w hSw; have hSw := hSw rfl; (try dsimp only at hSw); go_simp; try with_reducible rfl)
  try simp only [Act.put, List.setIfInBounds_toArray, List.set_cons_zero, List.set_cons_succ]
  refine LAny.take (i := 13) (oi := { dst := some 30, op := Op.indexAddr 72 (Operand.tmp 28) (Operand.tmp 29), type := 0, pos := "step.go:65", after := #[{ on := 11, ground := Ground.data }, { on := 12, ground := Ground.data }], guard := none }) (v := ?_) rfl (by kernel_rfl) (by kernel_rfl) (by kernel_rfl) (by kernel_rfl) (fun _ _ _ h => h) (Or.inl ⟨by rfl, ?hy14⟩) hS0 ?_
  case hy14 => (intro w hSw; have hSw := hSw rfl; (try dsimp only at hSw); go_simp; try with_reducible rfl)
  try simp only [Act.put, List.setIfInBounds_toArray, List.set_cons_zero, List.set_cons_succ]
  refine LAny.take (i := 14) (oi := { dst := some 31, op := Op.load 36 (Operand.tmp 30), type := 36, pos := "step.go:65", after := #[{ on := 13, ground := Ground.data }], guard := none }) (v := ?_) rfl (by kernel_rfl) (by kernel_rfl) (by kernel_rfl) (by kernel_rfl) (fun _ _ _ h => h) (Or.inl ⟨by rfl, ?hy15⟩) hS0 ?_
  case hy15 => (intro w hSw; have hSw := hSw rfl; (try dsimp only at hSw); go_simp; try with_reducible rfl)
  try simp only [Act.put, List.setIfInBounds_toArray, List.set_cons_zero, List.set_cons_succ]
  refine LAny.take (i := 15) (oi := { dst := some 32, op := Op.call { callee := Callee.builtin Builtin.len, args := #[Operand.tmp 31], argTypes := #[36] }, type := 3, pos := "step.go:65", after := #[{ on := 14, ground := Ground.data }], guard := none }) (v := ?_) rfl (by kernel_rfl) (by kernel_rfl) (by kernel_rfl) (by kernel_rfl) (fun _ _ _ h => h) (Or.inl ⟨by rfl, ?hy16⟩) hS0 ?_
  case hy16 => (intro w hSw; have hSw := hSw rfl; (try dsimp only at hSw); go_simp; try with_reducible rfl)
  try simp only [Act.put, List.setIfInBounds_toArray, List.set_cons_zero, List.set_cons_succ]
  refine LAny.take (i := 16) (oi := { dst := some 33, op := Op.slice 36 (Operand.tmp 22) none (some (Operand.tmp 27)) (some (Operand.tmp 32)), type := 36, pos := "step.go:65", after := #[{ on := 5, ground := Ground.data }, { on := 10, ground := Ground.data }, { on := 15, ground := Ground.data }], guard := none }) (v := ?_) rfl (by kernel_rfl) (by kernel_rfl) (by kernel_rfl) (by kernel_rfl) (fun _ _ _ h => h) (Or.inl ⟨by rfl, ?hy17⟩) hS0 ?_
  case hy17 => (intro w hSw; have hSw := hSw rfl; (try dsimp only at hSw); go_simp; try with_reducible rfl)
  try simp only [Act.put, List.setIfInBounds_toArray, List.set_cons_zero, List.set_cons_succ]
  refine LAny.take (i := 17) (oi := { dst := some 34, op := Op.load 62 (Operand.tmp 5), type := 62, pos := "step.go:65", after := #[], guard := none }) (v := .agg #[.int .i64 et, .int .i64 ek, .int .i64 eaa, .int .i64 ebb, .int .i64 ec, .int .i64 ed]) rfl (by kernel_rfl) (by kernel_rfl) (by kernel_rfl) (by kernel_rfl) (fun _ _ _ h => h) (yieldsIf_load_mid rfl 62 _ rfl eb 0 rfl [.int .i64 et, .int .i64 ek, .int .i64 eaa, .int .i64 ebb, .int .i64 ec, .int .i64 ed] _ (fun _ hSw => (hSw rfl).1) Try.underlying62 rfl size62) hS0 ?_
  try simp only [Act.put, List.setIfInBounds_toArray, List.set_cons_zero, List.set_cons_succ]
  refine LAny.one (i := 18) (o := { dst := some 35, op := Op.buildSlice 36 1 #[(0, Operand.tmp 34)], type := 36, pos := "step.go:65", after := #[{ on := 17, ground := Ground.data }], guard := none }) (b := false) (by kernel_rfl) rfl (by kernel_rfl) (fun K hK => ?_)
  go_simp
  refine hK.out _ _ ?hs19 (fun hS19 => ?_)
  case hs19 => exact fun _ => ⟨zV1, yV1⟩
  clear hK K hS0
  refine LAny.one (i := 19) (o := { dst := some 36, op := Op.call { callee := Callee.builtin Builtin.append, args := #[Operand.tmp 33, Operand.tmp 35], argTypes := #[36, 36] }, type := 36, pos := "step.go:65", after := #[{ on := 16, ground := Ground.data }, { on := 18, ground := Ground.data }], guard := none }) (b := false) (by kernel_rfl) rfl (by kernel_rfl) (fun K hK => ?_)
  refine rs_append_run (by rfl) _ _ _ (by rfl) (by rfl) (by rfl) RUN1.out ?_
  refine hK.out _ _ ?hs20 (fun hS20 => ?_)
  case hs20 => exact fun _ => ⟨zV3, y3⟩
  clear hK K hS19
  refine LAny.take (i := 20) (oi := { dst := some 37, op := Op.indexAddr 72 (Operand.tmp 17) (Operand.tmp 18), type := 0, pos := "step.go:65", after := #[{ on := 0, ground := Ground.data }, { on := 1, ground := Ground.data }, { on := 0, ground := Ground.phase }, { on := 1, ground := Ground.phase }, { on := 2, ground := Ground.phase }, { on := 3, ground := Ground.phase }, { on := 4, ground := Ground.phase }, { on := 5, ground := Ground.phase }, { on := 6, ground := Ground.phase }, { on := 7, ground := Ground.phase }, { on := 8, ground := Ground.phase }, { on := 9, ground := Ground.phase }, { on := 10, ground := Ground.phase }, { on := 11, ground := Ground.phase }, { on := 12, ground := Ground.phase }, { on := 13, ground := Ground.phase }, { on := 14, ground := Ground.phase }, { on := 15, ground := Ground.phase }, { on := 16, ground := Ground.phase }, { on := 17, ground := Ground.phase }, { on := 18, ground := Ground.phase }, { on := 19, ground := Ground.phase }], guard := none }) (v := ?_) rfl (by kernel_rfl) (by kernel_rfl) (by kernel_rfl) (by kernel_rfl) (fun _ _ _ h => h) (Or.inl ⟨by rfl, ?hy21⟩) hS20 ?_
  case hy21 => (intro w hSw; have hSw := hSw rfl; (try dsimp only at hSw); go_simp; try with_reducible rfl)
  try simp only [Act.put, List.setIfInBounds_toArray, List.set_cons_zero, List.set_cons_succ]
  refine LAny.one (i := 21) (o := { dst := none, op := Op.store 36 (Operand.tmp 37) (Operand.tmp 36), type := 0, pos := "step.go:65", after := #[{ on := 20, ground := Ground.data }, { on := 19, ground := Ground.data }, { on := 19, ground := Ground.chain }, { on := 0, ground := Ground.phase }, { on := 1, ground := Ground.phase }, { on := 2, ground := Ground.phase }, { on := 3, ground := Ground.phase }, { on := 4, ground := Ground.phase }, { on := 5, ground := Ground.phase }, { on := 6, ground := Ground.phase }, { on := 7, ground := Ground.phase }, { on := 8, ground := Ground.phase }, { on := 9, ground := Ground.phase }, { on := 10, ground := Ground.phase }, { on := 11, ground := Ground.phase }, { on := 12, ground := Ground.phase }, { on := 13, ground := Ground.phase }, { on := 14, ground := Ground.phase }, { on := 15, ground := Ground.phase }, { on := 16, ground := Ground.phase }, { on := 17, ground := Ground.phase }, { on := 18, ground := Ground.phase }, { on := 19, ground := Ground.phase }], guard := none }) (b := true) (by kernel_rfl) rfl (by kernel_rfl) (fun K hK => ?_)
  go_simp
  refine hK.out _ _ ?hs22 (fun hS22 => ?_)
  case hs22 => exact fun h => by cases h
  clear hK K hS20
  refine LAny.done (by kernel_rfl) ?_ _
  clear zD xD zV zV1 zV3 zV4 yV yV1 y3 fz3 RUN1
  go_wp2_with fail
  go_ret
  exact ⟨_, rfl, FIN.out⟩
end Go.Proofs.Ytfidnahbhomomaa
