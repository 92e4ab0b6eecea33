/-
  Events in memory; the events of a run's sets.
-/
import Derived.Test.YtfidnahbhomomaaSd
import Derived.Deep.RegionHeld3
namespace Go.Proofs.Ytfidnahbhomomaa
open Go.ChangeShapes Go.WideShapes Go.ChangeAt Go.RowKit
set_option linter.unusedVariables false
set_option linter.unusedSimpArgs false
structure Ev where
  typ : Int
  key : Int
  a : Int
  b : Int
  c : Int
  d : Int
def Ev.cells (e : Ev) : List Value := [.int .i64 e.typ, .int .i64 e.key, .int .i64 e.a, .int .i64 e.b, .int .i64 e.c, .int .i64 e.d]
def Ev.zero : Ev := ⟨0, 0, 0, 0, 0, 0⟩
def ecells : List Ev → List Value
  | [] => []
  | e :: l => e.cells ++ ecells l
theorem ecells_len : ∀ l : List Ev, (ecells l).length = l.length * 6
  | [] => rfl
  | e :: l => by
    simp only [ecells, List.length_append, List.length_cons, ecells_len l, Nat.add_mul]
    have : e.cells.length = 6 := rfl
    omega
theorem ecells_app : ∀ l m : List Ev, ecells (l ++ m) = ecells l ++ ecells m
  | [], m => rfl
  | e :: l, m => by simp only [List.cons_append, ecells, ecells_app l m, List.append_assoc]
theorem ecells_at : ∀ (l : List Ev) (k : Nat) (e : Ev), l[k]? = some e → ∀ (j : Nat) (u : Value), e.cells[j]? = some u → (ecells l)[k * 6 + j]? = some u
  | [], k, e, h => by simp at h
  | x :: l, 0, e, h => by
    intro j u hu
    simp at h
    subst h
    have hj := (List.getElem?_eq_some_iff.1 hu).1
    simp only [ecells, Nat.zero_mul, Nat.zero_add]
    rw [List.getElem?_append_left hj]
    exact hu
  | x :: l, k + 1, e, h => by
    intro j u hu
    simp only [List.getElem?_cons_succ] at h
    have := ecells_at l k e h j u hu
    have h6 : x.cells.length = 6 := rfl
    simp only [ecells]
    rw [List.getElem?_append_right (by omega), h6, show (k + 1) * 6 + j - 6 = k * 6 + j by omega]
    exact this
theorem info62 : (Try.prog.info? 62).map (fun i => (i.zero, i.size, i.bytes)) = some (some (.agg #[.int .i64 0, .int .i64 0, .int .i64 0, .int .i64 0, .int .i64 0, .int .i64 0]), 6, 48) := by kernel_rfl
theorem size62 : (Try.prog.info? 62).map (·.size) = some 6 := by kernel_rfl
theorem info36 : (Try.prog.info? 36).map (fun i => (i.zero, i.size, i.bytes)) = some (some (.slice none 0 0), 1, 24) := by kernel_rfl
/-- A row of events. -/
def EvsAt (w : World) (v : Value) (l : List Ev) : Prop :=
  ∃ (a : Option Addr) (b off cap : Nat), v = .slice a l.length cap ∧ l.length ≤ cap ∧ (l = [] ∨ (a = some ⟨b, off, none⟩ ∧ Blk w b 62)) ∧ ∀ (k : Nat) (e : Ev), l[k]? = some e → w.rangeAt b (off + k * 6) e.cells
/-- Rows of events. -/
def ESetsAt (w : World) (v : Value) (L : List (List Ev)) : Prop :=
  ∃ (a : Option Addr) (b off cap : Nat), v = .slice a L.length cap ∧ (L = [] ∨ (a = some ⟨b, off, none⟩ ∧ Blk w b 36)) ∧ ∀ (k : Nat) (l : List Ev), L[k]? = some l → ∃ r, w.cell? ⟨b, off + k, none⟩ = some r ∧ EvsAt w r l
theorem EvsAt.turn {Z : Nat → Prop} {w w' : World} {v : Value} {l : List Ev} (h : EvsAt w v l) (T : Turn Z w w') (hz : ∀ b, Blk w b 62 → ¬ Z b) : EvsAt w' v l := by
  obtain ⟨a, b, off, cap, e, hcp, ha, hx⟩ := h
  rcases ha with rfl | ⟨ha, hb⟩
  · exact ⟨a, b, off, cap, e, hcp, .inl rfl, fun k e h => by simp at h⟩
  · exact ⟨a, b, off, cap, e, hcp, .inr ⟨ha, hb.turn T (hz b hb)⟩, fun k e he => range_turn (hx k e he) T (hz b hb)⟩
theorem ESetsAt.turn {w w' : World} {v : Value} {L : List (List Ev)} (h : ESetsAt w v L) (T : Turn (fun _ => False) w w') : ESetsAt w' v L := by
  obtain ⟨a, b, off, cap, e, ha, hx⟩ := h
  exact ⟨a, b, off, cap, e, ha.imp id (fun q => ⟨q.1, q.2.turn T id⟩), fun k l hl => by
    obtain ⟨r, h1, h2⟩ := hx k l hl
    exact ⟨r, T.cell id h1, h2.turn T (fun _ _ f => f)⟩⟩
theorem EvsAt.sl {w : World} {v : Value} {l : List Ev} (h : EvsAt w v l) : ∃ a cap, v = .slice a l.length cap := by
  obtain ⟨a, b, off, cap, e, _⟩ := h
  exact ⟨a, cap, e⟩
theorem EvsAt.own {w : World} {base : Nat} {v : Value} {l : List Ev} (h : w.ownsRow base 62 6 v l.length (ecells l)) : EvsAt w v l := by
  obtain ⟨a, cap, rfl, ha⟩ := own_slice h
  rcases Nat.eq_zero_or_pos l.length with hz | hp
  · obtain rfl := List.eq_nil_of_length_eq_zero hz
    exact ⟨a, 0, 0, cap, rfl, Nat.zero_le _, .inl rfl, fun k e h => by simp at h⟩
  · obtain ⟨g, rfl⟩ := ha hp
    have hb : Blk w g 62 := by
      rcases h.2 with ⟨e, _⟩ | ⟨g', cap', cu, e, _, hgg, _⟩
      · cases e
      · injection e with z1
        injection z1 with z1
        injection z1 with z1
        subst z1
        exact ⟨_, hgg⟩
    exact ⟨_, g, 0, cap, rfl, own_cap h, .inr ⟨rfl, hb⟩, fun k e he j u hu => by
      rw [Nat.zero_add]
      have hk := (List.getElem?_eq_some_iff.1 he).1
      have hj := (List.getElem?_eq_some_iff.1 hu).1
      have h6 : e.cells.length = 6 := rfl
      have := h.cellAt (k * 6 + j) (by omega)
      rw [ecells_at l k e he j u hu] at this
      exact this⟩
theorem EvsAt.at {w : World} {v : Value} {l : List Ev} (h : EvsAt w v l) {k : Nat} {e : Ev} (he : l[k]? = some e) : ∃ b off cap, v = .slice (some ⟨b, off, none⟩) l.length cap ∧ Blk w b 62 ∧ w.rangeAt b (off + k * 6) e.cells := by
  obtain ⟨a, b, off, cap, e1, -, ha, hx⟩ := h
  obtain ⟨rfl, hb⟩ := ha.resolve_left (fun e => by rw [e] at he; simp at he)
  exact ⟨b, off, cap, e1, hb, hx k e he⟩
/-- One event is put behind a row of one's own. -/
theorem app_ev {W : World} {base n : Nat} {v : Value} {xs : List Value} (h : W.ownsRow base 62 6 v n xs) (hb : base ≤ W.heap.size) (hn : n ≤ 100000) (e : Ev) :
    ∃ v' W', (Builtin.append_ #[36, 36] 36 #[v, .slice (some ⟨W.heap.size, 0, none⟩) 1 1]).run Try.prog (W.alloc (.cells e.cells.toArray 62)) = .ok v' W' ∧ W'.ownsRow base 62 6 v' (n + 1) (xs ++ e.cells) ∧ Turn (fun q => v.ownBlock = some q) W W' := by
  have T1 : Turn (fun _ => False) W (W.alloc (.cells e.cells.toArray 62)) := (Turn.refl _ W).alloc _
  obtain ⟨i3, j1, j2, j3, j4⟩ := info_parts info62
  obtain ⟨v', W', hrn, ho2, hgr, _, _⟩ := run_append_own_at (W.alloc (.cells e.cells.toArray 62)) base 36 36 62 i3 _ 6 48 Try.underlying36 j1 j2 j3 j4 rfl (by decide) _ _ _ (own_turn h T1 (fun _ _ f => f)) ⟨W.heap.size, 0, none⟩ 1 1 e.cells rfl
    (cells_new W e.cells 62 _ rfl) (fun u hu => by
      unfold Ev.cells at hu
      simp only [List.mem_cons, List.not_mem_nil, or_false] at hu
      rcases hu with h | h | h | h | h | h <;> (rw [h]; rfl)) (by unfold maxLen; omega) (by omega) (Nat.le_trans hb T1.size)
  exact ⟨v', W', hrn, ho2, (T1.more (fun _ _ q => q.elim)).trans ((Turn.refl _ _).grown hgr (fun k hk => .inl hk))⟩
theorem make36 {n : Nat} (h2 : n ≤ 4096) (w : World) : (Instr.makeSlice 72 (.int .i64 (n : Int)) (.int .i64 (n : Int))).run Try.prog w = .ok (.slice (some ⟨w.heap.size, 0, none⟩) n n) (w.alloc (.cells (madeCells #[.slice none 0 0] n) 36)) := by
  obtain ⟨i, hi, he⟩ := Option.map_eq_some_iff.mp info36
  simp only [Prod.mk.injEq] at he
  obtain ⟨hz, hs, hb⟩ := he
  have := run_make (P := Try.prog) w 72 36 i (.slice none 0 0) Try.underlying72 hi hz .i64 .i64 (n : Int) (n : Int) (by omega) (by omega) (by rw [hb]; omega) (by omega)
  rw [hs] at this
  simpa [Value.cells] using this
/-- The events of numbers. -/
def pickE (H : List Ev) (l : List Int) : List Ev := l.map (fun x => H.getD x.toNat Ev.zero)
theorem pickE_step {H : List Ev} {l : List Int} {j m : Nat} (h : l[j]? = some ((m : Nat) : Int)) {e : Ev} (he : H[m]? = some e) : pickE H (l.take (j + 1)) = pickE H (l.take j) ++ [e] := by
  unfold pickE
  rw [List.take_add_one, h, List.map_append]
  simp [List.getD_eq_getElem?_getD, he]
theorem pickE_len (H : List Ev) (l : List Int) : (pickE H l).length = l.length := by unfold pickE; rw [List.length_map]
def LkO (W : World) (g : Nat) (H : List Ev) (L : List (List Int)) (gh : Nat) (v15 : Value) (wr : World) : Prop :=
  ∃ k : Nat, v15 = .int .i64 (k : Int) ∧ k ≤ L.length ∧ gh = L.length - k ∧ Blk wr g 36 ∧ (∀ (j : Nat) (l : List Int), j < k → L[j]? = some l → ∃ r, wr.cell? ⟨g, j, none⟩ = some r ∧ EvsAt wr r (pickE H l)) ∧ (∀ j, k ≤ j → j < L.length → wr.cell? ⟨g, j, none⟩ = some (.slice none 0 0)) ∧ Turn (fun q => q = g) W wr
def LkI (wk : World) (g k : Nat) (H : List Ev) (l : List Int) (gh : Nat) (v22 : Value) (wr : World) : Prop :=
  ∃ (j : Nat) (rv : Value), v22 = .int .i64 (j : Int) ∧ j ≤ l.length ∧ gh = l.length - j ∧ Blk wr g 36 ∧ wr.cell? ⟨g, k, none⟩ = some rv ∧ wr.ownsRow wk.heap.size 62 6 rv j (ecells (pickE H (l.take j))) ∧ (∀ q, q ≠ k → wr.cell? ⟨g, q, none⟩ = wk.cell? ⟨g, q, none⟩) ∧ Turn (fun q => q = g) wk wr
theorem lk_next {W wk wr : World} {g k : Nat} {H : List Ev} {L : List (List Int)} {l : List Int} {rv : Value} (hk : k < L.length) (hl : L[k]? = some l) (hlo : ∀ (j : Nat) (l : List Int), j < k → L[j]? = some l → ∃ r, wk.cell? ⟨g, j, none⟩ = some r ∧ EvsAt wk r (pickE H l)) (hhi : ∀ j, k ≤ j → j < L.length → wk.cell? ⟨g, j, none⟩ = some (.slice none 0 0)) (hT : Turn (fun q => q = g) W wk) (hbk : Blk wk g 36)
    (hb : Blk wr g 36) (hc : wr.cell? ⟨g, k, none⟩ = some rv) (ho : wr.ownsRow wk.heap.size 62 6 rv l.length (ecells (pickE H l))) (hq : ∀ q, q ≠ k → wr.cell? ⟨g, q, none⟩ = wk.cell? ⟨g, q, none⟩) (T : Turn (fun q => q = g) wk wr) : LkO W g H L (L.length - (k + 1)) (.int .i64 ((k : Int) + 1)) wr := by
  refine ⟨k + 1, congrArg (Value.int .i64) (Int.natCast_succ k).symm, hk, rfl, hb, fun j m hj hm => ?_, fun j hj hj2 => ?_, hT.trans T⟩
  · by_cases e : j = k
    · subst e
      rw [hl] at hm
      cases hm
      refine ⟨rv, hc, EvsAt.own (base := wk.heap.size) ?_⟩
      rw [pickE_len]
      exact ho
    · obtain ⟨r, h1, h2⟩ := hlo j m (by omega) hm
      exact ⟨r, by rw [hq j e]; exact h1, h2.turn T (fun b hb62 e => hb62.ne hbk (by decide) e)⟩
  · rw [hq j (by omega)]
    exact hhi j (by omega) hj2
theorem own_ne62 {w : World} {base n g : Nat} {v : Value} {xs : List Value} (h : w.ownsRow base 62 6 v n xs) (hb : Blk w g 36) (e : v.ownBlock = some g) : False := by
  rcases h.2 with ⟨e1, _⟩ | ⟨g', cap', cu, e1, _, hgg, _⟩
  · rw [e1] at e; simp [Value.ownBlock] at e
  · rw [e1] at e
    have : g' = g := by simpa [Value.ownBlock] using e
    subst this
    exact (Blk.ne ⟨_, hgg⟩ hb (by decide)) rfl
theorem own_lo {w : World} {base n g : Nat} {v : Value} {xs : List Value} (h : w.ownsRow base 62 6 v n xs) (e : v.ownBlock = some g) : base ≤ g := by
  rcases h.2 with ⟨e1, _⟩ | ⟨g', cap', cu, e1, hb, hgg, _⟩
  · rw [e1] at e; simp [Value.ownBlock] at e
  · rw [e1] at e
    have : g' = g := by simpa [Value.ownBlock] using e
    subst this
    exact hb
theorem lk_step {wk wq V W' : World} {g k j m : Nat} {H : List Ev} {l : List Int} {rv v' : Value} {e : Ev} (hjl : j < l.length) (hxj : l[j]? = some ((m : Nat) : Int)) (he : H[m]? = some e) (hq : ∀ q, q ≠ k → wq.cell? ⟨g, q, none⟩ = wk.cell? ⟨g, q, none⟩) (TI : Turn (fun q => q = g) wk wq) (TV : Turn (fun _ => False) wq V) (T' : Turn (fun q => rv.ownBlock = some q) V W')
    (ho' : W'.ownsRow wk.heap.size 62 6 v' (j + 1) (ecells (pickE H (l.take j)) ++ e.cells)) (b36 : Blk V g 36) (n62 : ¬ rv.ownBlock = some g) (y3 : W'.cell? ⟨g, k, none⟩ = some rv) (hoV : V.ownsRow wk.heap.size 62 6 rv j (ecells (pickE H (l.take j)))) (hbq : Blk wq g 36) :
    LkI wk g k H l (l.length - (j + 1)) (.int .i64 ((j : Int) + 1)) (W'.setCell ⟨g, k, none⟩ v') := by
  have bW := b36.turn T' n62
  have T2 : Turn (fun q => q = g) W' (W'.setCell ⟨g, k, none⟩ v') := Turn.put _ _ _ _
  have back : ∀ q, q ≠ k → (W'.setCell ⟨g, k, none⟩ v').cell? ⟨g, q, none⟩ = wk.cell? ⟨g, q, none⟩ := fun q hqk => by
    rw [cell_off _ _ _ _ _ (fun e => hqk e.symm), ← hq q hqk]
    have e1 : W'.heap[g]? = V.heap[g]? := T'.block g b36.lt n62
    have e2 : V.heap[g]? = wq.heap[g]? := TV.block g hbq.lt id
    exact World.cell?_of_block (e1.trans e2)
  refine ⟨j + 1, v', congrArg (Value.int .i64) (Int.natCast_succ j).symm, hjl, rfl, bW.set _ _, World.cell?_setCell_same _ _ _ y3, ?_, back, ?_⟩
  · rw [pickE_step hxj he, ecells_app]
    have e1 : ecells [e] = e.cells := by simp [ecells]
    rw [e1]
    exact own_turn ho' T2 (fun q hq2 e2 => by
      subst e2
      rcases ho'.2 with ⟨z, _⟩ | ⟨g', cap', cu, z, _, hgg, _⟩
      · rw [z] at hq2; simp [Value.ownBlock] at hq2
      · rw [z] at hq2
        have : g' = q := by simpa [Value.ownBlock] using hq2
        subst this
        exact (Blk.ne ⟨_, hgg⟩ bW (by decide)) rfl)
  · exact ((TI.trans (TV.more (fun _ _ f => f.elim))).comp T' (fun q hq2 e2 => by have := own_lo hoV e2; omega)).trans T2
set_option maxRecDepth 100000 in
set_option maxHeartbeats 8000000 in
theorem look_is {w : World} {hv sv : Value} {H : List Ev} {L : List (List Int)} (h : EvsAt w hv H) (hs : RowsAt w sv L) (hL : L.length ≤ 12 ∧ ∀ x ∈ L, x.length ≤ 50) (hx : ∀ l ∈ L, ∀ x ∈ l, ∃ m : Nat, x = (m : Int) ∧ m < H.length) :
    Calls Try.prog 34 #[hv, sv] w fun e w' => ∃ v, e = .returned v ∧ ESetsAt w' v (L.map (pickE H)) ∧ Turn (fun _ => False) w w' := by
  have hL0 := hL.1
  have MK := make36 (n := L.length) (by omega) w
  obtain ⟨W, hW⟩ : ∃ W, W = w.alloc (.cells (madeCells #[.slice none 0 0] L.length) 36) := ⟨_, rfl⟩
  have TW : Turn (fun _ => False) w W := by rw [hW]; exact (Turn.refl _ w).alloc _
  have BW : Blk W w.heap.size 36 := by
    rw [hW]
    have := Blk.new w (madeCells #[.slice none 0 0] L.length).toList 36
    rw [Array.toArray_toList] at this
    exact this
  have RW : ∀ j, j < L.length → W.cell? ⟨w.heap.size, j, none⟩ = some (.slice none 0 0) := fun j hj => by
    have h0 := range_new w (madeCells #[.slice none 0 0] L.length).toList 36
    rw [Array.toArray_toList, ← hW] at h0
    have := h0 j (.slice none 0 0) (by simp [madeCells, hj, Nat.mod_one])
    rw [Nat.zero_add] at this
    exact this
  rw [← hW] at MK
  obtain ⟨g, hg⟩ : ∃ g, g = w.heap.size := ⟨_, rfl⟩
  rw [← hg] at MK BW RW
  have FF := Lib.hid (And.intro h (And.intro hs (And.intro TW hg)))
  obtain ⟨sa, sc, rfl⟩ : ∃ sa sc, sv = .slice sa L.length sc := by
    obtain ⟨sa, _, _, sc, e, _⟩ := hs
    exact ⟨sa, sc, e⟩
  obtain ⟨ha, hcap, rfl⟩ := h.sl
  have O0 : LkO W g H L L.length (.int .i64 0) W := ⟨0, rfl, Nat.zero_le _, rfl, BW, fun j l hj => absurd hj (Nat.not_lt_zero j), fun j _ hj => RW j hj, Turn.refl _ _⟩
  clear hW TW BW RW h hs hg
  go_enter Try.func34, Try.ntmps34
  go_wp2_with fail
  clear MK
  go_loopg [6, 7, 9, 15] L.length (fun gh v6 v7 v9 v15 wr => LkO W g H L gh v15 wr)
  case atStart => exact O0
  case round =>
    clear O0
    obtain ⟨k, rfl, hk, hgk, hb, hlo, hhi, hT⟩ := hrel
    obtain ⟨h, hs, TW, hg⟩ := FF.out
    by_cases hkl : k < L.length
    · obtain ⟨l, hl⟩ : ∃ l, L[k]? = some l := ⟨_, List.getElem?_eq_getElem hkl⟩
      obtain ⟨sb, so, sc2, e⟩ := hs.sl1 (by omega)
      have e1 : sa = some ⟨sb, so, none⟩ := by injection e
      subst e1
      obtain ⟨r, hrc, hra⟩ := hs.at hl
      have ngb : ∀ {b i : Nat} {u : Value}, w.cell? ⟨b, i, none⟩ = some u → ¬ b = g := fun hc e => by have := block_lt_of_cell hc; dsimp only at this; omega
      have hrw := hT.cell (ngb hrc) (TW.cell id hrc)
      have hl50 := hL.2 l (List.mem_of_getElem? hl)
      have hml := hx l (List.mem_of_getElem? hl)
      obtain ⟨ra, rb2, ro, rc, rfl, -, hra1, hra2⟩ := hra
      have u1 : decide ((k : Int) < (L.length : Int)) = true := decide_eq_true (Int.ofNat_lt.2 hkl)
      have u2 : decide (k < L.length) = true := decide_eq_true hkl
      have k0 : (0 : Int) ≤ (k : Int) := Int.natCast_nonneg k
      have k1 : (k : Int) < (L.length : Int) := Int.ofNat_lt.2 hkl
      have ek : wrap64 ((k : Int) + 1) = (k : Int) + 1 := wrapR hkl (Nat.le_trans hL0 (by decide))
      have I0 : LkI wr g k H l l.length (.int .i64 0) wr := ⟨0, .slice none 0 0, rfl, Nat.zero_le _, rfl, hb, hhi k (Nat.le_refl _) hkl, ⟨rfl, .inl ⟨rfl, rfl⟩⟩, fun q _ => rfl, Turn.refl _ _⟩
      have NEXT := Lib.hid (show ∀ rv U, Blk U g 36 → U.cell? ⟨g, k, none⟩ = some rv → U.ownsRow wr.heap.size 62 6 rv l.length (ecells (pickE H l)) → (∀ q, q ≠ k → U.cell? ⟨g, q, none⟩ = wr.cell? ⟨g, q, none⟩) → Turn (fun q => q = g) wr U → LkO W g H L (L.length - (k + 1)) (.int .i64 ((k : Int) + 1)) U from fun rv U a b c d e => lk_next hkl hl hlo hhi hT hb a b c d e)
      have KK := Lib.hid (And.intro hT (And.intro hra1 (And.intro hra2 (And.intro hl50 (And.intro hml hb)))))
      have G := Lib.hid (And.intro hgk hkl)
      clear hk hgk hkl hb hlo hhi hT h hs TW hg hl e hrc hl50 hml hra1 hra2 ngb
      go_wp2_with fail
      clear hrw
      go_loopg [9, 22] l.length (fun gh v9 v22 wq => LkI wr g k H l gh v22 wq)
      case atStart => exact I0
      case round =>
        clear I0
        obtain ⟨j, rv, rfl, hj, hgj, hb, hc, ho, hq, TI⟩ := hrel
        rename World => wq
        obtain ⟨h, hs, TW, hg⟩ := FF.out
        obtain ⟨hT, hra1, hra2, hl50, hml, hb0⟩ := KK.out
        by_cases hjl : j < l.length
        · obtain ⟨x, hxj⟩ : ∃ x, l[j]? = some x := ⟨_, List.getElem?_eq_getElem hjl⟩
          obtain rfl := hra1.resolve_left (fun e => by rw [e] at hjl; exact absurd hjl (Nat.not_lt_zero j))
          obtain ⟨m, rfl, hm⟩ := hml x (List.mem_of_getElem? hxj)
          obtain ⟨e, he⟩ : ∃ e, H[m]? = some e := ⟨_, List.getElem?_eq_getElem hm⟩
          have TA := (hT.trans TI)
          obtain ⟨hb2, hoff, hc2, e1, hbh, hre⟩ := h.at he
          have e2 : ha = some ⟨hb2, hoff, none⟩ := by injection e1
          subst e2
          have nh : ¬ hb2 = g := fun e => by have := hbh.lt; omega
          have hre2 := range_turn (range_turn hre TW id) TA nh
          have nr : ¬ rb2 = g := fun e => by have := block_lt_of_cell (hra2 j _ hxj); dsimp only at this; omega
          have yx := TA.cell nr (TW.cell id (hra2 j _ hxj))
          obtain ⟨et, ek2, ea, eb, ec, ed⟩ := e
          unfold Ev.cells at hre2
          dsimp only at hre2
          obtain ⟨V, hV⟩ : ∃ V, V = wq.drew := ⟨_, rfl⟩
          have TV : Turn (fun _ => False) wq V := by rw [hV]; exact (Turn.refl _ wq).drewN 1
          have hoV := own_turn ho TV (fun _ _ f => f)
          have hsz : wr.heap.size ≤ V.heap.size := Nat.le_trans TI.size TV.size
          obtain ⟨v', W', hrun, ho', T'⟩ := app_ev hoV hsz (by omega) (⟨et, ek2, ea, eb, ec, ed⟩ : Ev)
          have b36 : Blk V g 36 := hb.turn TV id
          have n62 : ¬ rv.ownBlock = some g := fun e => own_ne62 hoV b36 e
          have zV := range_turn hre2 TV id
          have zD := zV
          rw [hV] at zD
          have zV1 := range_turn zV ((Turn.refl (fun _ => False) V).alloc (.cells #[.int .i64 et, .int .i64 ek2, .int .i64 ea, .int .i64 eb, .int .i64 ec, .int .i64 ed] 62)) id
          have nhv : ¬ rv.ownBlock = some hb2 := fun e => by have := own_lo hoV e; have := hbh.lt; have := hT.size; have := TW.size; omega
          have zV3 := range_turn zV T' nhv
          have zV4 := range_turn zV3 (Turn.put W' g k v') nh
          have yV : V.cell? ⟨g, k, none⟩ = some rv := TV.cell id hc
          have yV1 : (V.alloc (.cells #[.int .i64 et, .int .i64 ek2, .int .i64 ea, .int .i64 eb, .int .i64 ec, .int .i64 ed] 62)).cell? ⟨g, k, none⟩ = some rv := past yV
          have y3 : W'.cell? ⟨g, k, none⟩ = some rv := T'.cell n62 yV
          have fz3 : W'.frozen? ⟨g, k, none⟩ = false := (b36.turn T' n62).fz _
          have v1 : decide ((j : Int) < (l.length : Int)) = true := decide_eq_true (Int.ofNat_lt.2 hjl)
          have v2 : decide (j < l.length) = true := decide_eq_true hjl
          have l0 : (0 : Int) ≤ (j : Int) := Int.natCast_nonneg j
          have l1 : (j : Int) < (l.length : Int) := Int.ofNat_lt.2 hjl
          have m0 : (0 : Int) ≤ (m : Int) := Int.natCast_nonneg m
          have m1 : (m : Int) < (H.length : Int) := Int.ofNat_lt.2 hm
          have ej := wrapR hjl (Nat.le_trans hl50 (by decide))
          have ST2 := Lib.hid (show LkI wr g k H l (l.length - (j + 1)) (.int .i64 ((j : Int) + 1)) (W'.setCell ⟨g, k, none⟩ v') from lk_step hjl hxj he hq TI TV T' ho' b36 n62 y3 hoV hb)
          obtain ⟨av, cv, rfl, -⟩ := own_slice ho
          obtain ⟨av', cv', rfl, -⟩ := own_slice ho'
          have RUN1 := Lib.hid hrun
          have G2 := Lib.hid (And.intro hgj hjl)
          clear hj hgj hjl hb hc ho hq TI h hs TW hg hT hra1 hra2 hl50 hml hb0 hxj hm he TA e1 hbh hre nh nr TV hoV hsz hrun ho' T' b36 n62 nhv
          go_upto_region 8 with fail
          clear yx hre2 hc2
          refine wp_region_held_drew (S := (fun w' => w'.rangeAt hb2 (hoff + m * 6) [.int .i64 et, .int .i64 ek2, .int .i64 ea, .int .i64 eb, .int .i64 ec, .int .i64 ed])) (by kernel_rfl) ?hs0 (fun hS0 => ?_)
          case hs0 => ((try dsimp only); first | with_reducible exact zD | with_reducible exact zV | with_reducible exact zV1 | with_reducible exact zV3 | with_reducible exact zV4)
          rw [← hV] at hS0 ⊢
          clear hV
          refine wpAnyH_take (i := 0) (oi := { dst := some 26, op := Op.move (Operand.tmp 5), type := 72, pos := "step.go:73", after := #[], guard := none }) (v := ?_) rfl (by kernel_rfl) (by kernel_rfl) (by kernel_rfl) (fun _ _ _ h => h) (Or.inl ⟨by rfl, ?hy1⟩) hS0 ?_
          case hy1 => (intro w hSw; (try dsimp only at hSw); go_simp; try with_reducible rfl)
          try simp only [Act.put, List.setIfInBounds_toArray, List.set_cons_zero, List.set_cons_succ]
          refine wpAnyH_take (i := 1) (oi := { dst := some 27, op := Op.move (Operand.tmp 6), type := 3, pos := "step.go:73", after := #[], guard := none }) (v := ?_) rfl (by kernel_rfl) (by kernel_rfl) (by kernel_rfl) (fun _ _ _ h => h) (Or.inl ⟨by rfl, ?hy2⟩) hS0 ?_
          case hy2 => (intro w hSw; (try dsimp only at hSw); go_simp; try with_reducible rfl)
          try simp only [Act.put, List.setIfInBounds_toArray, List.set_cons_zero, List.set_cons_succ]
          refine wpAnyH_take (i := 2) (oi := { dst := some 28, op := Op.move (Operand.tmp 5), type := 72, pos := "step.go:73", after := #[], guard := none }) (v := ?_) rfl (by kernel_rfl) (by kernel_rfl) (by kernel_rfl) (fun _ _ _ h => h) (Or.inl ⟨by rfl, ?hy3⟩) hS0 ?_
          case hy3 => (intro w hSw; (try dsimp only at hSw); go_simp; try with_reducible rfl)
          try simp only [Act.put, List.setIfInBounds_toArray, List.set_cons_zero, List.set_cons_succ]
          refine wpAnyH_take (i := 3) (oi := { dst := some 29, op := Op.move (Operand.tmp 6), type := 3, pos := "step.go:73", after := #[], guard := none }) (v := ?_) rfl (by kernel_rfl) (by kernel_rfl) (by kernel_rfl) (fun _ _ _ h => h) (Or.inl ⟨by rfl, ?hy4⟩) hS0 ?_
          case hy4 => (intro w hSw; (try dsimp only at hSw); go_simp; try with_reducible rfl)
          try simp only [Act.put, List.setIfInBounds_toArray, List.set_cons_zero, List.set_cons_succ]
          refine wpAnyH_take (i := 4) (oi := { dst := some 30, op := Op.indexAddr 72 (Operand.tmp 28) (Operand.tmp 29), type := 0, pos := "step.go:73", after := #[{ on := 2, ground := Ground.data }, { on := 3, ground := Ground.data }], guard := none }) (v := ?_) rfl (by kernel_rfl) (by kernel_rfl) (by kernel_rfl) (fun _ _ _ h => h) (Or.inl ⟨by rfl, ?hy5⟩) hS0 ?_
          case hy5 => (intro w hSw; (try dsimp only at hSw); go_simp; try with_reducible rfl)
          try simp only [Act.put, List.setIfInBounds_toArray, List.set_cons_zero, List.set_cons_succ]
          refine wpAnyH_take (i := 6) (oi := { dst := some 32, op := Op.move (Operand.tmp 0), type := 36, pos := "step.go:73", after := #[], guard := none }) (v := ?_) rfl (by kernel_rfl) (by kernel_rfl) (by kernel_rfl) (fun _ _ _ h => h) (Or.inl ⟨by rfl, ?hy6⟩) hS0 ?_
          case hy6 => (intro w hSw; (try dsimp only at hSw); go_simp; try with_reducible rfl)
          try simp only [Act.put, List.setIfInBounds_toArray, List.set_cons_zero, List.set_cons_succ]
          refine wpAnyH_take (i := 7) (oi := { dst := some 33, op := Op.move (Operand.tmp 9), type := 3, pos := "step.go:73", after := #[], guard := none }) (v := ?_) rfl (by kernel_rfl) (by kernel_rfl) (by kernel_rfl) (fun _ _ _ h => h) (Or.inl ⟨by rfl, ?hy7⟩) hS0 ?_
          case hy7 => (intro w hSw; (try dsimp only at hSw); go_simp; try with_reducible rfl)
          try simp only [Act.put, List.setIfInBounds_toArray, List.set_cons_zero, List.set_cons_succ]
          refine wpAnyH_take (i := 8) (oi := { dst := some 34, op := Op.indexAddr 36 (Operand.tmp 32) (Operand.tmp 33), type := 0, pos := "step.go:73", after := #[{ on := 6, ground := Ground.data }, { on := 7, ground := Ground.data }], guard := none }) (v := ?_) rfl (by kernel_rfl) (by kernel_rfl) (by kernel_rfl) (fun _ _ _ h => h) (Or.inl ⟨by rfl, ?hy8⟩) hS0 ?_
          case hy8 => (intro w hSw; (try dsimp only at hSw); go_simp; try with_reducible rfl)
          try simp only [Act.put, List.setIfInBounds_toArray, List.set_cons_zero, List.set_cons_succ]
          refine wpAnyH_take (i := 9) (oi := { dst := some 35, op := Op.load 62 (Operand.tmp 34), type := 62, pos := "step.go:73", after := #[{ on := 8, ground := Ground.data }], guard := none }) (v := .agg #[.int .i64 et, .int .i64 ek2, .int .i64 ea, .int .i64 eb, .int .i64 ec, .int .i64 ed]) rfl (by kernel_rfl) (by kernel_rfl) (by kernel_rfl) (fun _ _ _ h => h) (yieldsIf_load_mid rfl 62 _ rfl hb2 (hoff + m * 6) rfl [.int .i64 et, .int .i64 ek2, .int .i64 ea, .int .i64 eb, .int .i64 ec, .int .i64 ed] _ (fun _ hSw => hSw) Try.underlying62 rfl size62) hS0 ?_
          try simp only [Act.put, List.setIfInBounds_toArray, List.set_cons_zero, List.set_cons_succ]
          refine wpAnyH_ready (rs := [5, 10]) (by kernel_rfl) (by simp) ?_
          refine AllReadyH.cons (o := { dst := some 31, op := Op.load 36 (Operand.tmp 30), type := 36, pos := "step.go:73", after := #[{ on := 4, ground := Ground.data }], guard := none }) rfl (fun K hK => ?_) ?_
          · go_simp
            refine hK.out _ _ ?hs10 (fun hS10 => ?_)
            case hs10 => ((try dsimp only); first | with_reducible exact zD | with_reducible exact zV | with_reducible exact zV1 | with_reducible exact zV3 | with_reducible exact zV4)
            clear hK K hS0
            refine wpAnyH_ready (rs := [10]) (by kernel_rfl) (by simp) ?_
            refine AllReadyH.cons (o := { dst := some 36, op := Op.buildSlice 36 1 #[(0, Operand.tmp 35)], type := 36, pos := "step.go:73", after := #[{ on := 9, ground := Ground.data }], guard := none }) rfl (fun K hK => ?_) ?_
            · go_simp
              refine hK.out _ _ ?hs11 (fun hS11 => ?_)
              case hs11 => ((try dsimp only); first | with_reducible exact zD | with_reducible exact zV | with_reducible exact zV1 | with_reducible exact zV3 | with_reducible exact zV4)
              clear hK K hS10
              refine wpAnyH_ready (rs := [11]) (by kernel_rfl) (by simp) ?_
              refine AllReadyH.cons (o := { dst := some 37, op := Op.call { callee := Callee.builtin Builtin.append, args := #[Operand.tmp 31, Operand.tmp 36], argTypes := #[36, 36] }, type := 36, pos := "step.go:73", after := #[{ on := 5, ground := Ground.data }, { on := 10, ground := Ground.data }], guard := none }) rfl (fun K hK => ?_) ?_
              · refine rs_append_run (by rfl) _ _ _ (by rfl) (by rfl) (by rfl) RUN1.out ?_
                refine hK.out _ _ ?hs12 (fun hS12 => ?_)
                case hs12 => ((try dsimp only); first | with_reducible exact zD | with_reducible exact zV | with_reducible exact zV1 | with_reducible exact zV3 | with_reducible exact zV4)
                clear hK K hS11
                refine wpAnyH_take (i := 12) (oi := { dst := some 38, op := Op.indexAddr 72 (Operand.tmp 26) (Operand.tmp 27), type := 0, pos := "step.go:73", after := #[{ on := 0, ground := Ground.data }, { on := 1, ground := Ground.data }, { on := 0, ground := Ground.phase }, { on := 1, ground := Ground.phase }, { on := 2, ground := Ground.phase }, { on := 3, ground := Ground.phase }, { on := 4, ground := Ground.phase }, { on := 5, ground := Ground.phase }, { on := 6, ground := Ground.phase }, { on := 7, ground := Ground.phase }, { on := 8, ground := Ground.phase }, { on := 9, ground := Ground.phase }, { on := 10, ground := Ground.phase }, { on := 11, ground := Ground.phase }], guard := none }) (v := ?_) rfl (by kernel_rfl) (by kernel_rfl) (by kernel_rfl) (fun _ _ _ h => h) (Or.inl ⟨by rfl, ?hy13⟩) hS12 ?_
                case hy13 => (intro w hSw; (try dsimp only at hSw); go_simp; try with_reducible rfl)
                try simp only [Act.put, List.setIfInBounds_toArray, List.set_cons_zero, List.set_cons_succ]
                refine wpAnyH_ready (rs := [13]) (by kernel_rfl) (by simp) ?_
                refine AllReadyH.cons (o := { dst := none, op := Op.store 36 (Operand.tmp 38) (Operand.tmp 37), type := 0, pos := "step.go:73", after := #[{ on := 12, ground := Ground.data }, { on := 11, ground := Ground.data }, { on := 11, ground := Ground.chain }, { on := 0, ground := Ground.phase }, { on := 1, ground := Ground.phase }, { on := 2, ground := Ground.phase }, { on := 3, ground := Ground.phase }, { on := 4, ground := Ground.phase }, { on := 5, ground := Ground.phase }, { on := 6, ground := Ground.phase }, { on := 7, ground := Ground.phase }, { on := 8, ground := Ground.phase }, { on := 9, ground := Ground.phase }, { on := 10, ground := Ground.phase }, { on := 11, ground := Ground.phase }], guard := none }) rfl (fun K hK => ?_) ?_
                · go_simp
                  refine hK.out _ _ ?hs14 (fun hS14 => ?_)
                  case hs14 => ((try dsimp only); first | with_reducible exact zD | with_reducible exact zV | with_reducible exact zV1 | with_reducible exact zV3 | with_reducible exact zV4)
                  clear hK K hS12
                  refine wpAnyH_done (by kernel_rfl) ?_ _
                  clear zD zV zV1 zV3 zV4 yV yV1 y3 fz3
                  go_wp2_with fail
                  go_roundg (l.length - (j + 1))
                  case measure => have := G2.out.1; have := G2.out.2; omega
                  case rel => first | exact ST2.out | (rw [ej]; exact ST2.out)
                exact AllReadyH.nil
              exact AllReadyH.nil
            exact AllReadyH.nil
          refine AllReadyH.cons (o := { dst := some 36, op := Op.buildSlice 36 1 #[(0, Operand.tmp 35)], type := 36, pos := "step.go:73", after := #[{ on := 9, ground := Ground.data }], guard := none }) rfl (fun K hK => ?_) ?_
          · go_simp
            refine hK.out _ _ ?hs15 (fun hS15 => ?_)
            case hs15 => ((try dsimp only); first | with_reducible exact zD | with_reducible exact zV | with_reducible exact zV1 | with_reducible exact zV3 | with_reducible exact zV4)
            clear hK K hS0
            refine wpAnyH_ready (rs := [5]) (by kernel_rfl) (by simp) ?_
            refine AllReadyH.cons (o := { dst := some 31, op := Op.load 36 (Operand.tmp 30), type := 36, pos := "step.go:73", after := #[{ on := 4, ground := Ground.data }], guard := none }) rfl (fun K hK => ?_) ?_
            · go_simp
              refine hK.out _ _ ?hs16 (fun hS16 => ?_)
              case hs16 => ((try dsimp only); first | with_reducible exact zD | with_reducible exact zV | with_reducible exact zV1 | with_reducible exact zV3 | with_reducible exact zV4)
              clear hK K hS15
              refine wpAnyH_ready (rs := [11]) (by kernel_rfl) (by simp) ?_
              refine AllReadyH.cons (o := { dst := some 37, op := Op.call { callee := Callee.builtin Builtin.append, args := #[Operand.tmp 31, Operand.tmp 36], argTypes := #[36, 36] }, type := 36, pos := "step.go:73", after := #[{ on := 5, ground := Ground.data }, { on := 10, ground := Ground.data }], guard := none }) rfl (fun K hK => ?_) ?_
              · refine rs_append_run (by rfl) _ _ _ (by rfl) (by rfl) (by rfl) RUN1.out ?_
                refine hK.out _ _ ?hs17 (fun hS17 => ?_)
                case hs17 => ((try dsimp only); first | with_reducible exact zD | with_reducible exact zV | with_reducible exact zV1 | with_reducible exact zV3 | with_reducible exact zV4)
                clear hK K hS16
                refine wpAnyH_take (i := 12) (oi := { dst := some 38, op := Op.indexAddr 72 (Operand.tmp 26) (Operand.tmp 27), type := 0, pos := "step.go:73", after := #[{ on := 0, ground := Ground.data }, { on := 1, ground := Ground.data }, { on := 0, ground := Ground.phase }, { on := 1, ground := Ground.phase }, { on := 2, ground := Ground.phase }, { on := 3, ground := Ground.phase }, { on := 4, ground := Ground.phase }, { on := 5, ground := Ground.phase }, { on := 6, ground := Ground.phase }, { on := 7, ground := Ground.phase }, { on := 8, ground := Ground.phase }, { on := 9, ground := Ground.phase }, { on := 10, ground := Ground.phase }, { on := 11, ground := Ground.phase }], guard := none }) (v := ?_) rfl (by kernel_rfl) (by kernel_rfl) (by kernel_rfl) (fun _ _ _ h => h) (Or.inl ⟨by rfl, ?hy18⟩) hS17 ?_
                case hy18 => (intro w hSw; (try dsimp only at hSw); go_simp; try with_reducible rfl)
                try simp only [Act.put, List.setIfInBounds_toArray, List.set_cons_zero, List.set_cons_succ]
                refine wpAnyH_ready (rs := [13]) (by kernel_rfl) (by simp) ?_
                refine AllReadyH.cons (o := { dst := none, op := Op.store 36 (Operand.tmp 38) (Operand.tmp 37), type := 0, pos := "step.go:73", after := #[{ on := 12, ground := Ground.data }, { on := 11, ground := Ground.data }, { on := 11, ground := Ground.chain }, { on := 0, ground := Ground.phase }, { on := 1, ground := Ground.phase }, { on := 2, ground := Ground.phase }, { on := 3, ground := Ground.phase }, { on := 4, ground := Ground.phase }, { on := 5, ground := Ground.phase }, { on := 6, ground := Ground.phase }, { on := 7, ground := Ground.phase }, { on := 8, ground := Ground.phase }, { on := 9, ground := Ground.phase }, { on := 10, ground := Ground.phase }, { on := 11, ground := Ground.phase }], guard := none }) rfl (fun K hK => ?_) ?_
                · go_simp
                  refine hK.out _ _ ?hs19 (fun hS19 => ?_)
                  case hs19 => ((try dsimp only); first | with_reducible exact zD | with_reducible exact zV | with_reducible exact zV1 | with_reducible exact zV3 | with_reducible exact zV4)
                  clear hK K hS17
                  refine wpAnyH_done (by kernel_rfl) ?_ _
                  clear zD zV zV1 zV3 zV4 yV yV1 y3 fz3
                  go_wp2_with fail
                  go_roundg (l.length - (j + 1))
                  case measure => have := G2.out.1; have := G2.out.2; omega
                  case rel => first | exact ST2.out | (rw [ej]; exact ST2.out)
                exact AllReadyH.nil
              exact AllReadyH.nil
            exact AllReadyH.nil
          exact AllReadyH.nil
        · obtain rfl : j = l.length := Nat.le_antisymm hj (Nat.not_lt.1 hjl)
          have v1 : decide ((l.length : Int) < (l.length : Int)) = false := decide_eq_false (Int.lt_irrefl _)
          have v2 : decide (l.length < l.length) = false := decide_eq_false (Nat.lt_irrefl _)
          rw [List.take_length] at ho
          have ST2 := Lib.hid (NEXT.out rv wq hb hc ho hq TI)
          clear hj hgj hjl hb hc ho hq TI h hs TW hg hT hra1 hra2 hl50 hml hb0
          go_wp2_with fail
          go_roundg (L.length - (k + 1))
          case measure => have := G.out.1; have := G.out.2; omega
          case rel => first | exact ST2.out | (rw [ek]; exact ST2.out)
    · obtain rfl : k = L.length := Nat.le_antisymm hk (Nat.not_lt.1 hkl)
      have u1 : decide ((L.length : Int) < (L.length : Int)) = false := decide_eq_false (Int.lt_irrefl _)
      have u2 : decide (L.length < L.length) = false := decide_eq_false (Nat.lt_irrefl _)
      have FIN := Lib.hid (show ESetsAt wr (.slice (some ⟨g, 0, none⟩) L.length L.length) (L.map (pickE H)) ∧ Turn (fun _ => False) w wr from ⟨⟨_, g, 0, _, by rw [List.length_map], .inr ⟨rfl, hb⟩, fun k l hl => by
        rw [List.getElem?_map] at hl
        obtain ⟨l0, h0, rfl⟩ := Option.map_eq_some_iff.1 hl
        obtain ⟨r, h1, h2⟩ := hlo k l0 (List.getElem?_eq_some_iff.1 h0).1 h0
        exact ⟨r, by rw [Nat.zero_add]; exact h1, h2⟩⟩, TW.comp hT (fun q hq e => by omega)⟩)
      clear hk hkl hgk hb hlo hhi hT h hs TW hg
      go_wp2
      go_ret
      exact ⟨_, rfl, FIN.out⟩
end Go.Proofs.Ytfidnahbhomomaa
