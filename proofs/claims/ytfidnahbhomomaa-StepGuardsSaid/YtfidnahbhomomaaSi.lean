/-
  A number put behind a run's numbers.
-/
import Derived.Test.YtfidnahbhomomaaSh
namespace Go.Proofs.Ytfidnahbhomomaa
open Go.ChangeShapes Go.WideShapes Go.ChangeAt Go.RowKit
set_option linter.unusedVariables false
set_option linter.unusedSimpArgs false
/-- The rows, and a number behind those of one place. -/
def putN (L : List (List Int)) (at_ : Nat) (x : Int) : List (List Int) := (L ++ List.replicate (at_ + 1 - L.length) []).set at_ (L.getD at_ [] ++ [x])
theorem putN_len {L : List (List Int)} {at_ : Nat} {x : Int} (h : L.length ≤ at_ + 1) : (putN L at_ x).length = at_ + 1 := by
  unfold putN
  rw [List.length_set, List.length_append, List.length_replicate]
  omega
theorem RowsAt.list {w : World} {v : Value} {L : List (List Int)} (h : RowsAt w v L) (hL : 1 ≤ L.length) : ∃ (b off cap : Nat) (rs : List Value), v = .slice (some ⟨b, off, none⟩) L.length cap ∧ rs.length = L.length ∧ (∀ (j : Nat) (u : Value), rs[j]? = some u → w.cell? ⟨b, off + j, none⟩ = some u) ∧ ∀ (j : Nat) (u : Value) (l : List Int), rs[j]? = some u → L[j]? = some l → RowAt w u l := by
  obtain ⟨a, b, off, cap, e, ha, hx⟩ := h
  obtain rfl := ha.resolve_left (fun e => by rw [e] at hL; simp at hL)
  have key : ∀ n, n ≤ L.length → ∃ rs : List Value, rs.length = n ∧ (∀ (j : Nat) (u : Value), rs[j]? = some u → w.cell? ⟨b, off + j, none⟩ = some u) ∧ ∀ (j : Nat) (u : Value) (l : List Int), rs[j]? = some u → L[j]? = some l → RowAt w u l := fun n => by
    induction n with
    | zero => intro _; exact ⟨[], rfl, fun j u h => by simp at h, fun j u l h => by simp at h⟩
    | succ n ih =>
      intro hn
      obtain ⟨rs, h1, h2, h3⟩ := ih (by omega)
      obtain ⟨l, hl⟩ : ∃ l, L[n]? = some l := ⟨_, List.getElem?_eq_getElem (by omega)⟩
      obtain ⟨r, hr1, hr2⟩ := hx n l hl
      refine ⟨rs ++ [r], by simp [h1], fun j u hu => ?_, fun j u m hu hm => ?_⟩
      · rw [List.getElem?_append] at hu
        split at hu
        · exact h2 j u hu
        · have : j - rs.length = 0 := by
            have := (List.getElem?_eq_some_iff.1 hu).1
            simpa using this
          rw [this] at hu
          simp at hu
          subst hu
          rw [show j = n by omega]
          exact hr1
      · rw [List.getElem?_append] at hu
        split at hu
        · exact h3 j u m hu hm
        · have : j - rs.length = 0 := by
            have := (List.getElem?_eq_some_iff.1 hu).1
            simpa using this
          rw [this] at hu
          simp at hu
          subst hu
          have : j = n := by omega
          subst this
          rw [hl] at hm
          cases hm
          exact hr2
  obtain ⟨rs, h1, h2, h3⟩ := key L.length (Nat.le_refl _)
  exact ⟨b, off, cap, rs, e, h1, h2, h3⟩
theorem RowAt.one {w : World} {v : Value} {l : List Int} (h : RowAt w v l) : v.oneCell' = true := by
  obtain ⟨a, _, _, c, e, _⟩ := h
  rw [e]; rfl
/-- A made row, with rows of numbers copied into it. -/
structure CopN (w : World) (g n : Nat) (L : List (List Int)) (rs : List Value) (V : World) : Prop where
  bg : Blk V g 22
  lo : ∀ (j : Nat) (u : Value), rs[j]? = some u → V.cell? ⟨g, j, none⟩ = some u
  hi : ∀ j, L.length ≤ j → j < n → V.cell? ⟨g, j, none⟩ = some (.slice none 0 0)
  rl : rs.length = L.length
  ev : ∀ (j : Nat) (u : Value) (l : List Int), rs[j]? = some u → L[j]? = some l → RowAt w u l
  turn : Turn (fun _ => False) w V
  gw : w.heap.size ≤ g
theorem CopN.turns {w V V' : World} {g n : Nat} {L : List (List Int)} {rs : List Value} (h : CopN w g n L rs V) (T : Turn (fun _ => False) V V') : CopN w g n L rs V' :=
  ⟨h.bg.turn T id, fun j u hu => T.cell id (h.lo j u hu), fun j h1 h2 => T.cell id (h.hi j h1 h2), h.rl, h.ev, h.turn.trans T, h.gw⟩
/-- The row at one place is another one. -/
theorem CopN.put {w V W : World} {g at_ : Nat} {L : List (List Int)} {rs : List Value} {v : Value} {x : Int} (h : CopN w g (at_ + 1) L rs V) (hn : L.length ≤ at_ + 1) (T : Turn (fun _ => False) V W) (hv : ∀ W', Turn (fun q => q = g) W W' → RowAt W' v (L.getD at_ [] ++ [x])) :
    RowsAt (W.setCell ⟨g, at_, none⟩ v) (.slice (some ⟨g, 0, none⟩) (at_ + 1) (at_ + 1)) (putN L at_ x) ∧ Turn (fun _ => False) w (W.setCell ⟨g, at_, none⟩ v) := by
  have hW := h.turns T
  have T2 : Turn (fun q => q = g) W (W.setCell ⟨g, at_, none⟩ v) := Turn.put _ _ _ _
  have TC : Turn (fun _ => False) w (W.setCell ⟨g, at_, none⟩ v) := hW.turn.comp T2 (fun q hq e => by have := h.gw; omega)
  have old : ∃ u, W.cell? ⟨g, at_, none⟩ = some u := by
    by_cases hl : at_ < L.length
    · obtain ⟨u, hu⟩ : ∃ u, rs[at_]? = some u := ⟨_, List.getElem?_eq_getElem (by rw [hW.rl]; exact hl)⟩
      exact ⟨u, hW.lo _ _ hu⟩
    · exact ⟨_, hW.hi at_ (by omega) (by omega)⟩
  obtain ⟨u0, hu0⟩ := old
  refine ⟨⟨_, g, 0, at_ + 1, by rw [putN_len hn], .inr rfl, fun k l hl => ?_⟩, TC⟩
  rw [Nat.zero_add]
  have hk := (List.getElem?_eq_some_iff.1 hl).1
  rw [putN_len hn] at hk
  unfold putN at hl
  by_cases e1 : k = at_
  · subst e1
    rw [List.getElem?_set_self (by rw [List.length_append, List.length_replicate]; omega)] at hl
    cases hl
    exact ⟨v, World.cell?_setCell_same _ _ _ hu0, hv _ T2⟩
  · rw [List.getElem?_set_ne (fun e => e1 e.symm), List.getElem?_append] at hl
    rw [cell_off _ _ _ _ _ (fun e => e1 e.symm)]
    split at hl
    · rename_i hlt
      obtain ⟨u, hu⟩ : ∃ u, rs[k]? = some u := ⟨_, List.getElem?_eq_getElem (by rw [hW.rl]; exact hlt)⟩
      exact ⟨u, hW.lo _ _ hu, (hW.ev k u l hu hl).turn TC⟩
    · rename_i hlt
      have : l = [] := by
        rw [List.getElem?_replicate] at hl
        split at hl
        · cases hl; rfl
        · cases hl
      subst this
      exact ⟨_, hW.hi k (by omega) hk, none, 0, 0, 0, rfl, Nat.zero_le _, .inl rfl, fun k e h => by simp at h⟩
/-- Rows of numbers are copied into a made row. -/
theorem copn_new {w : World} {ev : Value} {L : List (List Int)} (h : RowsAt w ev L) (hL : 1 ≤ L.length) {n : Nat} (hn : L.length ≤ n) (ty : TypeId) :
    ∃ rs : List Value, rs.length = L.length ∧ (Builtin.copy_ #[38, 38] ty #[.slice (some ⟨w.heap.size, 0, none⟩) n n, ev]).run Try.prog (w.alloc (.cells (madeCells #[.slice none 0 0] n) 22)) = .ok (goInt rs.length) ((w.alloc (.cells (madeCells #[.slice none 0 0] n) 22)).setCells w.heap.size 0 rs) ∧
      CopN w w.heap.size n L rs ((w.alloc (.cells (madeCells #[.slice none 0 0] n) 22)).setCells w.heap.size 0 rs) := by
  obtain ⟨b, off, cap, rs, rfl, hrl, hx, hv⟩ := h.list hL
  obtain ⟨W, hW⟩ : ∃ W, W = w.alloc (.cells (madeCells #[.slice none 0 0] n) 22) := ⟨_, rfl⟩
  have TW : Turn (fun _ => False) w W := by rw [hW]; exact (Turn.refl _ w).alloc _
  have BW : Blk W w.heap.size 22 := by
    rw [hW]
    have := Blk.new w (madeCells #[.slice none 0 0] n).toList 22
    rw [Array.toArray_toList] at this
    exact this
  have RW : ∀ j, j < n → W.cell? ⟨w.heap.size, j, none⟩ = some (.slice none 0 0) := fun j hj => by
    have h0 := range_new w (madeCells #[.slice none 0 0] n).toList 22
    rw [Array.toArray_toList, ← hW] at h0
    have := h0 j (.slice none 0 0) (by simp [madeCells, hj, Nat.mod_one])
    rw [Nat.zero_add] at this
    exact this
  rw [← hW]
  have hth : W.there w.heap.size 0 rs.length := fun j hj => ⟨by rw [Nat.zero_add, RW j (by omega)]; rfl, BW.fz _⟩
  have T2 : Turn (fun q => q = w.heap.size) W (W.setCells w.heap.size 0 rs) := Turn.setCells _ _ (Turn.refl _ _) (.inl rfl)
  have one : ∀ v ∈ rs, v.oneCell' = true := fun v hvm => by
    obtain ⟨j, hj⟩ := List.mem_iff_getElem?.1 hvm
    obtain ⟨l, hl⟩ : ∃ l, L[j]? = some l := ⟨_, List.getElem?_eq_getElem (by have := (List.getElem?_eq_some_iff.1 hj).1; omega)⟩
    exact (hv j v l hj hl).one
  refine ⟨rs, hrl, ?_, ?_⟩
  · refine run_copy_cells W 38 38 ty 22 w.heap.size 0 n n ⟨b, off, none⟩ L.length cap rs Try.underlying38 (by kernel_rfl) (by rw [hrl]; show _ = min _ _; omega) (fun j v hj => ?_) (fun j hj => (hth j hj).1) (fun j hj => (hth j hj).2) one
    rw [Go.WideShapes.add_plain]
    exact TW.cell id (hx j v hj)
  · refine ⟨Blk.setCells _ _ BW, fun j u hu => ?_, fun j h1 h2 => ?_, hrl, hv, TW.comp T2 (fun q hq e => by omega), Nat.le_refl _⟩
    · have := World.rangeAt_setCells_same W w.heap.size 0 rs hth j u hu
      rw [Nat.zero_add] at this
      exact this
    · rw [World.cell?_setCells_out w.heap.size rs 0 W ⟨w.heap.size, j, none⟩ (fun _ _ => .inr (by show 0 + rs.length ≤ j; omega))]
      exact RW j h2
theorem own_row {W W' : World} {base g : Nat} {v : Value} {l : List Int} (h : W.ownsRow base 3 1 v l.length (intsV l)) (hg : g < base) (T : Turn (fun q => q = g) W W') : RowAt W' v l :=
  rowAt_own (own_turn h T (fun k hk e => by have e : k = g := e; have := (h.lt k hk).1; omega))
theorem wrapP {a : Nat} (h : a < 12) : wrap64 ((a : Int) + 1) = ((a + 1 : Nat) : Int) := by unfold wrap64; omega
theorem putN_ok {L : List (List Int)} {at_ : Nat} {x : Int} (hL : L.length ≤ 12 ∧ ∀ x ∈ L, 1 ≤ x.length ∧ x.length ≤ 49) (hn : L.length = at_ + 1 ∨ L.length = at_) (ha : at_ < 12) : (putN L at_ x).length ≤ 12 ∧ ∀ l ∈ putN L at_ x, 1 ≤ l.length ∧ l.length ≤ 50 := by
  refine ⟨by rw [putN_len (by omega)]; omega, fun l hl => ?_⟩
  obtain ⟨k, hk⟩ := List.mem_iff_getElem?.1 hl
  have hkl := (List.getElem?_eq_some_iff.1 hk).1
  rw [putN_len (by omega)] at hkl
  unfold putN at hk
  by_cases e1 : k = at_
  · subst e1
    rw [List.getElem?_set_self (by rw [List.length_append, List.length_replicate]; omega)] at hk
    cases hk
    rw [List.length_append]
    have : (L.getD k []).length ≤ 49 := by
      rw [List.getD_eq_getElem?_getD]
      cases hq : L[k]? with
      | none => simp
      | some m => exact (hL.2 m (List.mem_of_getElem? hq)).2
    simp only [List.length_cons, List.length_nil]
    omega
  · rw [List.getElem?_set_ne (fun e => e1 e.symm), List.getElem?_append] at hk
    split at hk
    · have := hL.2 l (List.mem_of_getElem? hk)
      omega
    · omega
set_option maxRecDepth 100000 in
set_option maxHeartbeats 8000000 in
theorem put_some {w : World} {ev : Value} {L : List (List Int)} {at_ : Nat} {x : Int} {l : List Int} (h : RowsAt w ev L) (hL : L.length ≤ 12 ∧ ∀ x ∈ L, 1 ≤ x.length ∧ x.length ≤ 49) (h1 : 1 ≤ L.length) (hn : L.length = at_ + 1 ∨ L.length = at_) (ha : at_ < 12) (hl : L[at_]? = some l) :
    Calls Try.prog 38 #[ev, .int .i64 (at_ : Int), .int .i64 x] w fun en w' => ∃ v, en = .returned v ∧ (∀ W2, Turn (fun q => q < w.heap.size) w' W2 → RowsAt W2 v (putN L at_ x)) ∧ Turn (fun _ => False) w w' := by
  have hle : L.length ≤ at_ + 1 := by omega
  have MK := make22 (n := at_ + 1) (by omega) w
  obtain ⟨rs, hrl, hcp, C0⟩ := copn_new h h1 (n := at_ + 1) hle 3
  obtain ⟨ea, ecap, rfl⟩ : ∃ a c, ev = .slice a L.length c := by
    obtain ⟨a, _, _, c, e, _⟩ := h
    exact ⟨a, c, e⟩
  obtain ⟨W1, hW1⟩ : ∃ W1, W1 = (w.alloc (.cells (madeCells #[.slice none 0 0] (at_ + 1)) 22)).setCells w.heap.size 0 rs := ⟨_, rfl⟩
  rw [← hW1] at hcp C0
  obtain ⟨g, hg⟩ : ∃ g, g = w.heap.size := ⟨_, rfl⟩
  rw [← hg] at hcp C0 MK
  obtain ⟨i3, j1, j2, j3, j4⟩ := info_parts info3t
  obtain ⟨V, hV⟩ : ∃ V, V = W1.drew := ⟨_, rfl⟩
  have TV : Turn (fun _ => False) W1 V := by rw [hV]; exact (Turn.refl _ W1).drewN 1
  have C := C0.turns TV
  have hat := (List.getElem?_eq_some_iff.1 hl).1
  obtain ⟨u, hu⟩ : ∃ u, rs[at_]? = some u := ⟨_, List.getElem?_eq_getElem (by rw [C.rl]; exact hat)⟩
  have hold : L.getD at_ [] = l := by rw [List.getD_eq_getElem?_getD, hl]; rfl
  have hp := hL.2 l (List.mem_of_getElem? hl)
  have hur := (C.ev at_ u l hu hl).turn C.turn
  have hcell := C.lo at_ u hu
  have hur2 := hur
  obtain ⟨ra, lb, lo, lc, rfl, m2, hra, -⟩ := hur2
  obtain rfl := hra.resolve_left (fun e => by rw [e] at hp; simp at hp)
  obtain ⟨cap, W4, hrun, hown, T4⟩ := app_full (W := V.alloc (.cells #[.int .i64 x] 3)) 22 3 Try.underlying22 j1 j2 j3 j4 rfl (s := .slice (some ⟨lb, lo, none⟩) l.length l.length) (n := l.length) (m := 1) (c := 1) (a := ⟨V.heap.size, 0, none⟩) (olds := intsV l) (news := [.int .i64 x]) (.inr ⟨_, rfl, fun j u hu => by
    rw [Go.WideShapes.add_plain]
    unfold intsV at hu
    rw [List.getElem?_map] at hu
    obtain ⟨y, hy, rfl⟩ := Option.map_eq_some_iff.1 hu
    exact past (hur.at hy)⟩) (by unfold intsV; simp) rfl (fun j u hu => by
    rw [Go.WideShapes.add_plain]
    have := range_new V [.int .i64 x] 3 j u hu
    exact this) (by omega) (by omega) (by omega)
  have m0 : ¬ l.length = 0 := by omega
  have m1 : (0 : Int) ≤ (l.length : Int) := Int.natCast_nonneg _
  have hsa : (V.alloc (.cells #[.int .i64 x] 3)).heap.size = V.heap.size + 1 := World.size_alloc _ _
  rw [hsa] at hrun hown
  clear hsa
  have TA : Turn (fun _ => False) V (V.alloc (.cells #[.int .i64 x] 3)) := (Turn.refl _ V).alloc _
  have T4V := TA.trans T4
  have hgV : g < V.heap.size + 1 := by have := block_lt_of_cell hcell; dsimp only at this; omega
  have FIN0 := C.put hle T4V (v := .slice (some ⟨V.heap.size + 1, 0, none⟩) (l.length + 1) cap) (x := x) (fun W' T' => by
    rw [hold]
    refine own_row (base := V.heap.size + 1) ?_ hgV T'
    have e1 : intsV (l ++ [x]) = intsV l ++ [.int .i64 x] := by simp [intsV]
    rw [e1, List.length_append]
    exact hown)
  have FIN := Lib.hid FIN0
  have OK := Lib.hid (putN_ok (x := x) hL hn ha)
  have LE := Lib.hid hle
  have yV : V.cell? ⟨g, at_, none⟩ = some (.slice (some ⟨lb, lo, none⟩) l.length lc) := hcell
  have yV1 := past (o := .cells #[.int .i64 x] 3) yV
  have y3 := T4V.cell id yV
  have fz3 : W4.frozen? ⟨g, at_, none⟩ = false := (C.bg.turn T4V id).fz _
  have xD := yV
  rw [hV] at xD
  have x0 : W1.cell? ⟨g, at_, none⟩ = some (.slice (some ⟨lb, lo, none⟩) l.length lc) := by rw [hV] at yV; exact yV
  have ew := wrapP ha
  have a0 : (0 : Int) ≤ (at_ : Int) := Int.natCast_nonneg at_
  have a1 : (at_ : Int) < ((at_ + 1 : Nat) : Int) := Int.ofNat_lt.2 (Nat.lt_succ_self _)
  have RUN1 := Lib.hid hrun
  have HCP := Lib.hid hcp
  clear h hL h1 hn ha hrl C0 hW1 hg TV C TA T4V FIN0 hown T4 hcell hrun hcp hold hl hgV hle hp hat hu hur hra
  generalize hmn : at_ + 1 = mn at *
  clear hmn
  go_enter Try.func38, Try.ntmps38
  go_upto_region 1 with fail
  go_upto_region 2 with fail
  clear MK ew
  go_upto_region 3 with (((with_reducible show wpList _ _ _ ({ dst := some 13, op := _, type := _, pos := _, after := _, guard := _ } :: _) _ _); refine rl_copy_run (by rfl) _ _ _ _ (by rfl) (by rfl) (by rfl) HCP.out ?_))
  clear HCP x0
  refine lany_start 21 (fun zb w' => zb = false → (fun w' => w'.cell? ⟨g, at_, none⟩ = some (.slice (some ⟨lb, lo, none⟩) l.length lc)) w') (by kernel_rfl) ?hs0 (fun hS0 => ?_)
  case hs0 => exact fun _ => xD
  rw [← hV] at hS0 ⊢
  clear hV
  refine LAny.take (i := 0) (oi := { dst := some 14, op := Op.move (Operand.tmp 7), type := 38, pos := "step.go:83", after := #[], guard := none }) (v := ?_) rfl (by kernel_rfl) (by kernel_rfl) (by kernel_rfl) (by kernel_rfl) (fun _ _ _ h => h) (Or.inl ⟨by rfl, ?hy1⟩) hS0 ?_
  case hy1 => (intro w hSw; have hSw := hSw rfl; (try dsimp only at hSw); go_simp; try with_reducible rfl)
  try simp only [Act.put, List.setIfInBounds_toArray, List.set_cons_zero, List.set_cons_succ]
  refine LAny.take (i := 1) (oi := { dst := some 15, op := Op.move (Operand.tmp 1), type := 3, pos := "step.go:83", after := #[], guard := none }) (v := ?_) rfl (by kernel_rfl) (by kernel_rfl) (by kernel_rfl) (by kernel_rfl) (fun _ _ _ h => h) (Or.inl ⟨by rfl, ?hy2⟩) hS0 ?_
  case hy2 => (intro w hSw; have hSw := hSw rfl; (try dsimp only at hSw); go_simp; try with_reducible rfl)
  try simp only [Act.put, List.setIfInBounds_toArray, List.set_cons_zero, List.set_cons_succ]
  refine LAny.take (i := 2) (oi := { dst := some 16, op := Op.move (Operand.tmp 7), type := 38, pos := "step.go:83", after := #[], guard := none }) (v := ?_) rfl (by kernel_rfl) (by kernel_rfl) (by kernel_rfl) (by kernel_rfl) (fun _ _ _ h => h) (Or.inl ⟨by rfl, ?hy3⟩) hS0 ?_
  case hy3 => (intro w hSw; have hSw := hSw rfl; (try dsimp only at hSw); go_simp; try with_reducible rfl)
  try simp only [Act.put, List.setIfInBounds_toArray, List.set_cons_zero, List.set_cons_succ]
  refine LAny.take (i := 3) (oi := { dst := some 17, op := Op.move (Operand.tmp 1), type := 3, pos := "step.go:83", after := #[], guard := none }) (v := ?_) rfl (by kernel_rfl) (by kernel_rfl) (by kernel_rfl) (by kernel_rfl) (fun _ _ _ h => h) (Or.inl ⟨by rfl, ?hy4⟩) hS0 ?_
  case hy4 => (intro w hSw; have hSw := hSw rfl; (try dsimp only at hSw); go_simp; try with_reducible rfl)
  try simp only [Act.put, List.setIfInBounds_toArray, List.set_cons_zero, List.set_cons_succ]
  refine LAny.take (i := 4) (oi := { dst := some 18, op := Op.indexAddr 38 (Operand.tmp 16) (Operand.tmp 17), type := 0, pos := "step.go:83", after := #[{ on := 2, ground := Ground.data }, { on := 3, ground := Ground.data }], guard := none }) (v := ?_) rfl (by kernel_rfl) (by kernel_rfl) (by kernel_rfl) (by kernel_rfl) (fun _ _ _ h => h) (Or.inl ⟨by rfl, ?hy5⟩) hS0 ?_
  case hy5 => (intro w hSw; have hSw := hSw rfl; (try dsimp only at hSw); go_simp; try with_reducible rfl)
  try simp only [Act.put, List.setIfInBounds_toArray, List.set_cons_zero, List.set_cons_succ]
  refine LAny.take (i := 5) (oi := { dst := some 19, op := Op.load 22 (Operand.tmp 18), type := 22, pos := "step.go:83", after := #[{ on := 4, ground := Ground.data }], guard := none }) (v := ?_) rfl (by kernel_rfl) (by kernel_rfl) (by kernel_rfl) (by kernel_rfl) (fun _ _ _ h => h) (Or.inl ⟨by rfl, ?hy6⟩) hS0 ?_
  case hy6 => (intro w hSw; have hSw := hSw rfl; (try dsimp only at hSw); go_simp; try with_reducible rfl)
  try simp only [Act.put, List.setIfInBounds_toArray, List.set_cons_zero, List.set_cons_succ]
  refine LAny.take (i := 6) (oi := { dst := some 20, op := Op.move (Operand.tmp 7), type := 38, pos := "step.go:83", after := #[], guard := none }) (v := ?_) rfl (by kernel_rfl) (by kernel_rfl) (by kernel_rfl) (by kernel_rfl) (fun _ _ _ h => h) (Or.inl ⟨by rfl, ?hy7⟩) hS0 ?_
  case hy7 => (intro w hSw; have hSw := hSw rfl; (try dsimp only at hSw); go_simp; try with_reducible rfl)
  try simp only [Act.put, List.setIfInBounds_toArray, List.set_cons_zero, List.set_cons_succ]
  refine LAny.take (i := 7) (oi := { dst := some 21, op := Op.move (Operand.tmp 1), type := 3, pos := "step.go:83", after := #[], guard := none }) (v := ?_) rfl (by kernel_rfl) (by kernel_rfl) (by kernel_rfl) (by kernel_rfl) (fun _ _ _ h => h) (Or.inl ⟨by rfl, ?hy8⟩) hS0 ?_
  case hy8 => (intro w hSw; have hSw := hSw rfl; (try dsimp only at hSw); go_simp; try with_reducible rfl)
  try simp only [Act.put, List.setIfInBounds_toArray, List.set_cons_zero, List.set_cons_succ]
  refine LAny.take (i := 8) (oi := { dst := some 22, op := Op.indexAddr 38 (Operand.tmp 20) (Operand.tmp 21), type := 0, pos := "step.go:83", after := #[{ on := 6, ground := Ground.data }, { on := 7, ground := Ground.data }], guard := none }) (v := ?_) rfl (by kernel_rfl) (by kernel_rfl) (by kernel_rfl) (by kernel_rfl) (fun _ _ _ h => h) (Or.inl ⟨by rfl, ?hy9⟩) hS0 ?_
  case hy9 => (intro w hSw; have hSw := hSw rfl; (try dsimp only at hSw); go_simp; try with_reducible rfl)
  try simp only [Act.put, List.setIfInBounds_toArray, List.set_cons_zero, List.set_cons_succ]
  refine LAny.take (i := 9) (oi := { dst := some 23, op := Op.load 22 (Operand.tmp 22), type := 22, pos := "step.go:83", after := #[{ on := 8, ground := Ground.data }], guard := none }) (v := ?_) rfl (by kernel_rfl) (by kernel_rfl) (by kernel_rfl) (by kernel_rfl) (fun _ _ _ h => h) (Or.inl ⟨by rfl, ?hy10⟩) hS0 ?_
  case hy10 => (intro w hSw; have hSw := hSw rfl; (try dsimp only at hSw); go_simp; try with_reducible rfl)
  try simp only [Act.put, List.setIfInBounds_toArray, List.set_cons_zero, List.set_cons_succ]
  refine LAny.take (i := 10) (oi := { dst := some 24, op := Op.call { callee := Callee.builtin Builtin.len, args := #[Operand.tmp 23], argTypes := #[22] }, type := 3, pos := "step.go:83", after := #[{ on := 9, ground := Ground.data }], guard := none }) (v := ?_) rfl (by kernel_rfl) (by kernel_rfl) (by kernel_rfl) (by kernel_rfl) (fun _ _ _ h => h) (Or.inl ⟨by rfl, ?hy11⟩) hS0 ?_
  case hy11 => (intro w hSw; have hSw := hSw rfl; (try dsimp only at hSw); go_simp; try with_reducible rfl)
  try simp only [Act.put, List.setIfInBounds_toArray, List.set_cons_zero, List.set_cons_succ]
  refine LAny.take (i := 11) (oi := { dst := some 25, op := Op.move (Operand.tmp 7), type := 38, pos := "step.go:83", after := #[], guard := none }) (v := ?_) rfl (by kernel_rfl) (by kernel_rfl) (by kernel_rfl) (by kernel_rfl) (fun _ _ _ h => h) (Or.inl ⟨by rfl, ?hy12⟩) hS0 ?_
  case hy12 => (intro w hSw; have hSw := hSw rfl; (try dsimp only at hSw); go_simp; try with_reducible rfl)
  try simp only [Act.put, List.setIfInBounds_toArray, List.set_cons_zero, List.set_cons_succ]
  refine LAny.take (i := 12) (oi := { dst := some 26, op := Op.move (Operand.tmp 1), type := 3, pos := "step.go:83", after := #[], guard := none }) (v := ?_) rfl (by kernel_rfl) (by kernel_rfl) (by kernel_rfl) (by kernel_rfl) (fun _ _ _ h => h) (Or.inl ⟨by rfl, ?hy13⟩) hS0 ?_
  case hy13 => (intro w hSw; have hSw := hSw rfl; (try dsimp only at hSw); go_simp; try with_reducible rfl)
  try simp only [Act.put, List.setIfInBounds_toArray, List.set_cons_zero, List.set_cons_succ]
  refine LAny.take (i := 13) (oi := { dst := some 27, op := Op.indexAddr 38 (Operand.tmp 25) (Operand.tmp 26), type := 0, pos := "step.go:83", after := #[{ on := 11, ground := Ground.data }, { on := 12, ground := Ground.data }], guard := none }) (v := ?_) rfl (by kernel_rfl) (by kernel_rfl) (by kernel_rfl) (by kernel_rfl) (fun _ _ _ h => h) (Or.inl ⟨by rfl, ?hy14⟩) hS0 ?_
  case hy14 => (intro w hSw; have hSw := hSw rfl; (try dsimp only at hSw); go_simp; try with_reducible rfl)
  try simp only [Act.put, List.setIfInBounds_toArray, List.set_cons_zero, List.set_cons_succ]
  refine LAny.take (i := 14) (oi := { dst := some 28, op := Op.load 22 (Operand.tmp 27), type := 22, pos := "step.go:83", after := #[{ on := 13, ground := Ground.data }], guard := none }) (v := ?_) rfl (by kernel_rfl) (by kernel_rfl) (by kernel_rfl) (by kernel_rfl) (fun _ _ _ h => h) (Or.inl ⟨by rfl, ?hy15⟩) hS0 ?_
  case hy15 => (intro w hSw; have hSw := hSw rfl; (try dsimp only at hSw); go_simp; try with_reducible rfl)
  try simp only [Act.put, List.setIfInBounds_toArray, List.set_cons_zero, List.set_cons_succ]
  refine LAny.take (i := 15) (oi := { dst := some 29, op := Op.call { callee := Callee.builtin Builtin.len, args := #[Operand.tmp 28], argTypes := #[22] }, type := 3, pos := "step.go:83", after := #[{ on := 14, ground := Ground.data }], guard := none }) (v := ?_) rfl (by kernel_rfl) (by kernel_rfl) (by kernel_rfl) (by kernel_rfl) (fun _ _ _ h => h) (Or.inl ⟨by rfl, ?hy16⟩) hS0 ?_
  case hy16 => (intro w hSw; have hSw := hSw rfl; (try dsimp only at hSw); go_simp; try with_reducible rfl)
  try simp only [Act.put, List.setIfInBounds_toArray, List.set_cons_zero, List.set_cons_succ]
  refine LAny.take (i := 16) (oi := { dst := some 30, op := Op.slice 22 (Operand.tmp 19) none (some (Operand.tmp 24)) (some (Operand.tmp 29)), type := 22, pos := "step.go:83", after := #[{ on := 5, ground := Ground.data }, { on := 10, ground := Ground.data }, { on := 15, ground := Ground.data }], guard := none }) (v := ?_) rfl (by kernel_rfl) (by kernel_rfl) (by kernel_rfl) (by kernel_rfl) (fun _ _ _ h => h) (Or.inl ⟨by rfl, ?hy17⟩) hS0 ?_
  case hy17 => (intro w hSw; have hSw := hSw rfl; (try dsimp only at hSw); go_simp; try with_reducible rfl)
  try simp only [Act.put, List.setIfInBounds_toArray, List.set_cons_zero, List.set_cons_succ]
  refine LAny.take (i := 17) (oi := { dst := some 31, op := Op.move (Operand.tmp 2), type := 3, pos := "step.go:83", after := #[], guard := none }) (v := ?_) rfl (by kernel_rfl) (by kernel_rfl) (by kernel_rfl) (by kernel_rfl) (fun _ _ _ h => h) (Or.inl ⟨by rfl, ?hy18⟩) hS0 ?_
  case hy18 => (intro w hSw; have hSw := hSw rfl; (try dsimp only at hSw); go_simp; try with_reducible rfl)
  try simp only [Act.put, List.setIfInBounds_toArray, List.set_cons_zero, List.set_cons_succ]
  refine LAny.one (i := 18) (o := { dst := some 32, op := Op.buildSlice 22 1 #[(0, Operand.tmp 31)], type := 22, pos := "step.go:83", after := #[{ on := 17, ground := Ground.data }], guard := none }) (b := false) (by kernel_rfl) rfl (by kernel_rfl) (fun K hK => ?_)
  go_simp
  refine hK.out _ _ ?hs19 (fun hS19 => ?_)
  case hs19 => exact fun _ => yV1
  clear hK K hS0
  refine LAny.one (i := 19) (o := { dst := some 33, op := Op.call { callee := Callee.builtin Builtin.append, args := #[Operand.tmp 30, Operand.tmp 32], argTypes := #[22, 22] }, type := 22, pos := "step.go:83", after := #[{ on := 16, ground := Ground.data }, { on := 18, ground := Ground.data }], guard := none }) (b := false) (by kernel_rfl) rfl (by kernel_rfl) (fun K hK => ?_)
  refine rs_append_run (by rfl) _ _ _ (by rfl) (by rfl) (by rfl) RUN1.out ?_
  refine hK.out _ _ ?hs20 (fun hS20 => ?_)
  case hs20 => exact fun _ => y3
  clear hK K hS19
  refine LAny.take (i := 20) (oi := { dst := some 34, op := Op.indexAddr 38 (Operand.tmp 14) (Operand.tmp 15), type := 0, pos := "step.go:83", after := #[{ on := 0, ground := Ground.data }, { on := 1, ground := Ground.data }, { on := 0, ground := Ground.phase }, { on := 1, ground := Ground.phase }, { on := 2, ground := Ground.phase }, { on := 3, ground := Ground.phase }, { on := 4, ground := Ground.phase }, { on := 5, ground := Ground.phase }, { on := 6, ground := Ground.phase }, { on := 7, ground := Ground.phase }, { on := 8, ground := Ground.phase }, { on := 9, ground := Ground.phase }, { on := 10, ground := Ground.phase }, { on := 11, ground := Ground.phase }, { on := 12, ground := Ground.phase }, { on := 13, ground := Ground.phase }, { on := 14, ground := Ground.phase }, { on := 15, ground := Ground.phase }, { on := 16, ground := Ground.phase }, { on := 17, ground := Ground.phase }, { on := 18, ground := Ground.phase }, { on := 19, ground := Ground.phase }], guard := none }) (v := ?_) rfl (by kernel_rfl) (by kernel_rfl) (by kernel_rfl) (by kernel_rfl) (fun _ _ _ h => h) (Or.inl ⟨by rfl, ?hy21⟩) hS20 ?_
  case hy21 => (intro w hSw; have hSw := hSw rfl; (try dsimp only at hSw); go_simp; try with_reducible rfl)
  try simp only [Act.put, List.setIfInBounds_toArray, List.set_cons_zero, List.set_cons_succ]
  refine LAny.one (i := 21) (o := { dst := none, op := Op.store 22 (Operand.tmp 34) (Operand.tmp 33), type := 0, pos := "step.go:83", after := #[{ on := 20, ground := Ground.data }, { on := 19, ground := Ground.data }, { on := 19, ground := Ground.chain }, { on := 0, ground := Ground.phase }, { on := 1, ground := Ground.phase }, { on := 2, ground := Ground.phase }, { on := 3, ground := Ground.phase }, { on := 4, ground := Ground.phase }, { on := 5, ground := Ground.phase }, { on := 6, ground := Ground.phase }, { on := 7, ground := Ground.phase }, { on := 8, ground := Ground.phase }, { on := 9, ground := Ground.phase }, { on := 10, ground := Ground.phase }, { on := 11, ground := Ground.phase }, { on := 12, ground := Ground.phase }, { on := 13, ground := Ground.phase }, { on := 14, ground := Ground.phase }, { on := 15, ground := Ground.phase }, { on := 16, ground := Ground.phase }, { on := 17, ground := Ground.phase }, { on := 18, ground := Ground.phase }, { on := 19, ground := Ground.phase }], guard := none }) (b := true) (by kernel_rfl) rfl (by kernel_rfl) (fun K hK => ?_)
  go_simp
  refine hK.out _ _ ?hs22 (fun hS22 => ?_)
  case hs22 => exact fun h => by cases h
  clear hK K hS20
  refine LAny.done (by kernel_rfl) ?_ _
  clear xD yV yV1 y3 fz3 RUN1
  have CUT := Lib.hid (cut_is FIN.out.1 ⟨OK.out.1, fun x hx => (OK.out.2 x hx).2⟩ (fun x hx => (OK.out.2 x hx).1))
  go_wp2_with fail
  with_reducible refine CUT.out.mono ?_
  rintro en W9 ⟨v9, rfl, R9, T9⟩
  have FF := Lib.hid (And.intro (fun W2 T2 => R9 W2 (Turn.more T2 (fun q _ hq => Nat.lt_of_lt_of_le hq FIN.out.2.size))) (FIN.out.2.trans T9))
  clear R9 T9 CUT FIN OK LE
  go_wp2_with fail
  go_ret
  exact ⟨_, rfl, FF.out⟩
set_option maxRecDepth 100000 in
set_option maxHeartbeats 8000000 in
theorem put_none {w : World} {ev : Value} {L : List (List Int)} {at_ : Nat} {x : Int} (h : RowsAt w ev L) (hL : L.length ≤ 12 ∧ ∀ x ∈ L, 1 ≤ x.length ∧ x.length ≤ 49) (h1 : 1 ≤ L.length) (hn : L.length = at_ + 1 ∨ L.length = at_) (ha : at_ < 12) (hl : L.length ≤ at_) :
    Calls Try.prog 38 #[ev, .int .i64 (at_ : Int), .int .i64 x] w fun en w' => ∃ v, en = .returned v ∧ (∀ W2, Turn (fun q => q < w.heap.size) w' W2 → RowsAt W2 v (putN L at_ x)) ∧ Turn (fun _ => False) w w' := by
  have hle : L.length ≤ at_ + 1 := by omega
  have MK := make22 (n := at_ + 1) (by omega) w
  obtain ⟨rs, hrl, hcp, C0⟩ := copn_new h h1 (n := at_ + 1) hle 3
  obtain ⟨ea, ecap, rfl⟩ : ∃ a c, ev = .slice a L.length c := by
    obtain ⟨a, _, _, c, e, _⟩ := h
    exact ⟨a, c, e⟩
  obtain ⟨W1, hW1⟩ : ∃ W1, W1 = (w.alloc (.cells (madeCells #[.slice none 0 0] (at_ + 1)) 22)).setCells w.heap.size 0 rs := ⟨_, rfl⟩
  rw [← hW1] at hcp C0
  obtain ⟨g, hg⟩ : ∃ g, g = w.heap.size := ⟨_, rfl⟩
  rw [← hg] at hcp C0 MK
  obtain ⟨i3, j1, j2, j3, j4⟩ := info_parts info3t
  obtain ⟨V, hV⟩ : ∃ V, V = W1.drew := ⟨_, rfl⟩
  have TV : Turn (fun _ => False) W1 V := by rw [hV]; exact (Turn.refl _ W1).drewN 1
  have C := C0.turns TV
  have hold : L.getD at_ [] = [] := by rw [List.getD_eq_getElem?_getD, List.getElem?_eq_none hl]; rfl
  have hcell := C.hi at_ hl (by omega)
  obtain ⟨cap, W4, hrun, hown, T4⟩ := app_full (W := V.alloc (.cells #[.int .i64 x] 3)) 22 3 Try.underlying22 j1 j2 j3 j4 rfl (s := .slice none 0 0) (n := 0) (m := 1) (c := 1) (a := ⟨V.heap.size, 0, none⟩) (olds := []) (news := [.int .i64 x]) (.inl ⟨rfl, rfl, rfl⟩) rfl rfl (fun j u hu => by
    rw [Go.WideShapes.add_plain]
    have := range_new V [.int .i64 x] 3 j u hu
    exact this) (by omega) (by omega) (by omega)
  have hsa : (V.alloc (.cells #[.int .i64 x] 3)).heap.size = V.heap.size + 1 := World.size_alloc _ _
  rw [hsa] at hrun hown
  clear hsa
  have TA : Turn (fun _ => False) V (V.alloc (.cells #[.int .i64 x] 3)) := (Turn.refl _ V).alloc _
  have T4V := TA.trans T4
  have hgV : g < V.heap.size + 1 := by have := block_lt_of_cell hcell; dsimp only at this; omega
  have FIN0 := C.put hle T4V (v := .slice (some ⟨V.heap.size + 1, 0, none⟩) (0 + 1) cap) (x := x) (fun W' T' => by
    rw [hold]
    refine own_row (base := V.heap.size + 1) ?_ hgV T'
    have e1 : intsV (([] : List Int) ++ [x]) = intsV ([] : List Int) ++ [.int .i64 x] := by simp [intsV]
    rw [e1, List.length_append]
    exact hown)
  have FIN := Lib.hid FIN0
  have OK := Lib.hid (putN_ok (x := x) hL hn ha)
  have LE := Lib.hid hle
  have yV : V.cell? ⟨g, at_, none⟩ = some (.slice none 0 0) := hcell
  have yV1 := past (o := .cells #[.int .i64 x] 3) yV
  have y3 := T4V.cell id yV
  have fz3 : W4.frozen? ⟨g, at_, none⟩ = false := (C.bg.turn T4V id).fz _
  have xD := yV
  rw [hV] at xD
  have x0 : W1.cell? ⟨g, at_, none⟩ = some (.slice none 0 0) := by rw [hV] at yV; exact yV
  have ew := wrapP ha
  have a0 : (0 : Int) ≤ (at_ : Int) := Int.natCast_nonneg at_
  have a1 : (at_ : Int) < ((at_ + 1 : Nat) : Int) := Int.ofNat_lt.2 (Nat.lt_succ_self _)
  have RUN1 := Lib.hid hrun
  have HCP := Lib.hid hcp
  clear h hL h1 hn ha hrl C0 hW1 hg TV C TA T4V FIN0 hown T4 hcell hrun hcp hold hl hgV hle
  generalize hmn : at_ + 1 = mn at *
  clear hmn
  go_enter Try.func38, Try.ntmps38
  go_upto_region 1 with fail
  go_upto_region 2 with fail
  clear MK ew
  go_upto_region 3 with (((with_reducible show wpList _ _ _ ({ dst := some 13, op := _, type := _, pos := _, after := _, guard := _ } :: _) _ _); refine rl_copy_run (by rfl) _ _ _ _ (by rfl) (by rfl) (by rfl) HCP.out ?_))
  clear HCP x0
  refine lany_start 21 (fun zb w' => zb = false → (fun w' => w'.cell? ⟨g, at_, none⟩ = some (.slice none 0 0)) w') (by kernel_rfl) ?hs0 (fun hS0 => ?_)
  case hs0 => exact fun _ => xD
  rw [← hV] at hS0 ⊢
  clear hV
  refine LAny.take (i := 0) (oi := { dst := some 14, op := Op.move (Operand.tmp 7), type := 38, pos := "step.go:83", after := #[], guard := none }) (v := ?_) rfl (by kernel_rfl) (by kernel_rfl) (by kernel_rfl) (by kernel_rfl) (fun _ _ _ h => h) (Or.inl ⟨by rfl, ?hy1⟩) hS0 ?_
  case hy1 => (intro w hSw; have hSw := hSw rfl; (try dsimp only at hSw); go_simp; try with_reducible rfl)
  try simp only [Act.put, List.setIfInBounds_toArray, List.set_cons_zero, List.set_cons_succ]
  refine LAny.take (i := 1) (oi := { dst := some 15, op := Op.move (Operand.tmp 1), type := 3, pos := "step.go:83", after := #[], guard := none }) (v := ?_) rfl (by kernel_rfl) (by kernel_rfl) (by kernel_rfl) (by kernel_rfl) (fun _ _ _ h => h) (Or.inl ⟨by rfl, ?hy2⟩) hS0 ?_
  case hy2 => (intro w hSw; have hSw := hSw rfl; (try dsimp only at hSw); go_simp; try with_reducible rfl)
  try simp only [Act.put, List.setIfInBounds_toArray, List.set_cons_zero, List.set_cons_succ]
  refine LAny.take (i := 2) (oi := { dst := some 16, op := Op.move (Operand.tmp 7), type := 38, pos := "step.go:83", after := #[], guard := none }) (v := ?_) rfl (by kernel_rfl) (by kernel_rfl) (by kernel_rfl) (by kernel_rfl) (fun _ _ _ h => h) (Or.inl ⟨by rfl, ?hy3⟩) hS0 ?_
  case hy3 => (intro w hSw; have hSw := hSw rfl; (try dsimp only at hSw); go_simp; try with_reducible rfl)
  try simp only [Act.put, List.setIfInBounds_toArray, List.set_cons_zero, List.set_cons_succ]
  refine LAny.take (i := 3) (oi := { dst := some 17, op := Op.move (Operand.tmp 1), type := 3, pos := "step.go:83", after := #[], guard := none }) (v := ?_) rfl (by kernel_rfl) (by kernel_rfl) (by kernel_rfl) (by kernel_rfl) (fun _ _ _ h => h) (Or.inl ⟨by rfl, ?hy4⟩) hS0 ?_
  case hy4 => (intro w hSw; have hSw := hSw rfl; (try dsimp only at hSw); go_simp; try with_reducible rfl)
  try simp only [Act.put, List.setIfInBounds_toArray, List.set_cons_zero, List.set_cons_succ]
  refine LAny.take (i := 4) (oi := { dst := some 18, op := Op.indexAddr 38 (Operand.tmp 16) (Operand.tmp 17), type := 0, pos := "step.go:83", after := #[{ on := 2, ground := Ground.data }, { on := 3, ground := Ground.data }], guard := none }) (v := ?_) rfl (by kernel_rfl) (by kernel_rfl) (by kernel_rfl) (by kernel_rfl) (fun _ _ _ h => h) (Or.inl ⟨by rfl, ?hy5⟩) hS0 ?_
  case hy5 => (intro w hSw; have hSw := hSw rfl; (try dsimp only at hSw); go_simp; try with_reducible rfl)
  try simp only [Act.put, List.setIfInBounds_toArray, List.set_cons_zero, List.set_cons_succ]
  refine LAny.take (i := 5) (oi := { dst := some 19, op := Op.load 22 (Operand.tmp 18), type := 22, pos := "step.go:83", after := #[{ on := 4, ground := Ground.data }], guard := none }) (v := ?_) rfl (by kernel_rfl) (by kernel_rfl) (by kernel_rfl) (by kernel_rfl) (fun _ _ _ h => h) (Or.inl ⟨by rfl, ?hy6⟩) hS0 ?_
  case hy6 => (intro w hSw; have hSw := hSw rfl; (try dsimp only at hSw); go_simp; try with_reducible rfl)
  try simp only [Act.put, List.setIfInBounds_toArray, List.set_cons_zero, List.set_cons_succ]
  refine LAny.take (i := 6) (oi := { dst := some 20, op := Op.move (Operand.tmp 7), type := 38, pos := "step.go:83", after := #[], guard := none }) (v := ?_) rfl (by kernel_rfl) (by kernel_rfl) (by kernel_rfl) (by kernel_rfl) (fun _ _ _ h => h) (Or.inl ⟨by rfl, ?hy7⟩) hS0 ?_
  case hy7 => (intro w hSw; have hSw := hSw rfl; (try dsimp only at hSw); go_simp; try with_reducible rfl)
  try simp only [Act.put, List.setIfInBounds_toArray, List.set_cons_zero, List.set_cons_succ]
  refine LAny.take (i := 7) (oi := { dst := some 21, op := Op.move (Operand.tmp 1), type := 3, pos := "step.go:83", after := #[], guard := none }) (v := ?_) rfl (by kernel_rfl) (by kernel_rfl) (by kernel_rfl) (by kernel_rfl) (fun _ _ _ h => h) (Or.inl ⟨by rfl, ?hy8⟩) hS0 ?_
  case hy8 => (intro w hSw; have hSw := hSw rfl; (try dsimp only at hSw); go_simp; try with_reducible rfl)
  try simp only [Act.put, List.setIfInBounds_toArray, List.set_cons_zero, List.set_cons_succ]
  refine LAny.take (i := 8) (oi := { dst := some 22, op := Op.indexAddr 38 (Operand.tmp 20) (Operand.tmp 21), type := 0, pos := "step.go:83", after := #[{ on := 6, ground := Ground.data }, { on := 7, ground := Ground.data }], guard := none }) (v := ?_) rfl (by kernel_rfl) (by kernel_rfl) (by kernel_rfl) (by kernel_rfl) (fun _ _ _ h => h) (Or.inl ⟨by rfl, ?hy9⟩) hS0 ?_
  case hy9 => (intro w hSw; have hSw := hSw rfl; (try dsimp only at hSw); go_simp; try with_reducible rfl)
  try simp only [Act.put, List.setIfInBounds_toArray, List.set_cons_zero, List.set_cons_succ]
  refine LAny.take (i := 9) (oi := { dst := some 23, op := Op.load 22 (Operand.tmp 22), type := 22, pos := "step.go:83", after := #[{ on := 8, ground := Ground.data }], guard := none }) (v := ?_) rfl (by kernel_rfl) (by kernel_rfl) (by kernel_rfl) (by kernel_rfl) (fun _ _ _ h => h) (Or.inl ⟨by rfl, ?hy10⟩) hS0 ?_
  case hy10 => (intro w hSw; have hSw := hSw rfl; (try dsimp only at hSw); go_simp; try with_reducible rfl)
  try simp only [Act.put, List.setIfInBounds_toArray, List.set_cons_zero, List.set_cons_succ]
  refine LAny.take (i := 10) (oi := { dst := some 24, op := Op.call { callee := Callee.builtin Builtin.len, args := #[Operand.tmp 23], argTypes := #[22] }, type := 3, pos := "step.go:83", after := #[{ on := 9, ground := Ground.data }], guard := none }) (v := ?_) rfl (by kernel_rfl) (by kernel_rfl) (by kernel_rfl) (by kernel_rfl) (fun _ _ _ h => h) (Or.inl ⟨by rfl, ?hy11⟩) hS0 ?_
  case hy11 => (intro w hSw; have hSw := hSw rfl; (try dsimp only at hSw); go_simp; try with_reducible rfl)
  try simp only [Act.put, List.setIfInBounds_toArray, List.set_cons_zero, List.set_cons_succ]
  refine LAny.take (i := 11) (oi := { dst := some 25, op := Op.move (Operand.tmp 7), type := 38, pos := "step.go:83", after := #[], guard := none }) (v := ?_) rfl (by kernel_rfl) (by kernel_rfl) (by kernel_rfl) (by kernel_rfl) (fun _ _ _ h => h) (Or.inl ⟨by rfl, ?hy12⟩) hS0 ?_
  case hy12 => (intro w hSw; have hSw := hSw rfl; (try dsimp only at hSw); go_simp; try with_reducible rfl)
  try simp only [Act.put, List.setIfInBounds_toArray, List.set_cons_zero, List.set_cons_succ]
  refine LAny.take (i := 12) (oi := { dst := some 26, op := Op.move (Operand.tmp 1), type := 3, pos := "step.go:83", after := #[], guard := none }) (v := ?_) rfl (by kernel_rfl) (by kernel_rfl) (by kernel_rfl) (by kernel_rfl) (fun _ _ _ h => h) (Or.inl ⟨by rfl, ?hy13⟩) hS0 ?_
  case hy13 => (intro w hSw; have hSw := hSw rfl; (try dsimp only at hSw); go_simp; try with_reducible rfl)
  try simp only [Act.put, List.setIfInBounds_toArray, List.set_cons_zero, List.set_cons_succ]
  refine LAny.take (i := 13) (oi := { dst := some 27, op := Op.indexAddr 38 (Operand.tmp 25) (Operand.tmp 26), type := 0, pos := "step.go:83", after := #[{ on := 11, ground := Ground.data }, { on := 12, ground := Ground.data }], guard := none }) (v := ?_) rfl (by kernel_rfl) (by kernel_rfl) (by kernel_rfl) (by kernel_rfl) (fun _ _ _ h => h) (Or.inl ⟨by rfl, ?hy14⟩) hS0 ?_
  case hy14 => (intro w hSw; have hSw := hSw rfl; (try dsimp only at hSw); go_simp; try with_reducible rfl)
  try simp only [Act.put, List.setIfInBounds_toArray, List.set_cons_zero, List.set_cons_succ]
  refine LAny.take (i := 14) (oi := { dst := some 28, op := Op.load 22 (Operand.tmp 27), type := 22, pos := "step.go:83", after := #[{ on := 13, ground := Ground.data }], guard := none }) (v := ?_) rfl (by kernel_rfl) (by kernel_rfl) (by kernel_rfl) (by kernel_rfl) (fun _ _ _ h => h) (Or.inl ⟨by rfl, ?hy15⟩) hS0 ?_
  case hy15 => (intro w hSw; have hSw := hSw rfl; (try dsimp only at hSw); go_simp; try with_reducible rfl)
  try simp only [Act.put, List.setIfInBounds_toArray, List.set_cons_zero, List.set_cons_succ]
  refine LAny.take (i := 15) (oi := { dst := some 29, op := Op.call { callee := Callee.builtin Builtin.len, args := #[Operand.tmp 28], argTypes := #[22] }, type := 3, pos := "step.go:83", after := #[{ on := 14, ground := Ground.data }], guard := none }) (v := ?_) rfl (by kernel_rfl) (by kernel_rfl) (by kernel_rfl) (by kernel_rfl) (fun _ _ _ h => h) (Or.inl ⟨by rfl, ?hy16⟩) hS0 ?_
  case hy16 => (intro w hSw; have hSw := hSw rfl; (try dsimp only at hSw); go_simp; try with_reducible rfl)
  try simp only [Act.put, List.setIfInBounds_toArray, List.set_cons_zero, List.set_cons_succ]
  refine LAny.take (i := 16) (oi := { dst := some 30, op := Op.slice 22 (Operand.tmp 19) none (some (Operand.tmp 24)) (some (Operand.tmp 29)), type := 22, pos := "step.go:83", after := #[{ on := 5, ground := Ground.data }, { on := 10, ground := Ground.data }, { on := 15, ground := Ground.data }], guard := none }) (v := ?_) rfl (by kernel_rfl) (by kernel_rfl) (by kernel_rfl) (by kernel_rfl) (fun _ _ _ h => h) (Or.inl ⟨by rfl, ?hy17⟩) hS0 ?_
  case hy17 => (intro w hSw; have hSw := hSw rfl; (try dsimp only at hSw); go_simp; try with_reducible rfl)
  try simp only [Act.put, List.setIfInBounds_toArray, List.set_cons_zero, List.set_cons_succ]
  refine LAny.take (i := 17) (oi := { dst := some 31, op := Op.move (Operand.tmp 2), type := 3, pos := "step.go:83", after := #[], guard := none }) (v := ?_) rfl (by kernel_rfl) (by kernel_rfl) (by kernel_rfl) (by kernel_rfl) (fun _ _ _ h => h) (Or.inl ⟨by rfl, ?hy18⟩) hS0 ?_
  case hy18 => (intro w hSw; have hSw := hSw rfl; (try dsimp only at hSw); go_simp; try with_reducible rfl)
  try simp only [Act.put, List.setIfInBounds_toArray, List.set_cons_zero, List.set_cons_succ]
  refine LAny.one (i := 18) (o := { dst := some 32, op := Op.buildSlice 22 1 #[(0, Operand.tmp 31)], type := 22, pos := "step.go:83", after := #[{ on := 17, ground := Ground.data }], guard := none }) (b := false) (by kernel_rfl) rfl (by kernel_rfl) (fun K hK => ?_)
  go_simp
  refine hK.out _ _ ?hs19 (fun hS19 => ?_)
  case hs19 => exact fun _ => yV1
  clear hK K hS0
  refine LAny.one (i := 19) (o := { dst := some 33, op := Op.call { callee := Callee.builtin Builtin.append, args := #[Operand.tmp 30, Operand.tmp 32], argTypes := #[22, 22] }, type := 22, pos := "step.go:83", after := #[{ on := 16, ground := Ground.data }, { on := 18, ground := Ground.data }], guard := none }) (b := false) (by kernel_rfl) rfl (by kernel_rfl) (fun K hK => ?_)
  refine rs_append_run (by rfl) _ _ _ (by rfl) (by rfl) (by rfl) RUN1.out ?_
  refine hK.out _ _ ?hs20 (fun hS20 => ?_)
  case hs20 => exact fun _ => y3
  clear hK K hS19
  refine LAny.take (i := 20) (oi := { dst := some 34, op := Op.indexAddr 38 (Operand.tmp 14) (Operand.tmp 15), type := 0, pos := "step.go:83", after := #[{ on := 0, ground := Ground.data }, { on := 1, ground := Ground.data }, { on := 0, ground := Ground.phase }, { on := 1, ground := Ground.phase }, { on := 2, ground := Ground.phase }, { on := 3, ground := Ground.phase }, { on := 4, ground := Ground.phase }, { on := 5, ground := Ground.phase }, { on := 6, ground := Ground.phase }, { on := 7, ground := Ground.phase }, { on := 8, ground := Ground.phase }, { on := 9, ground := Ground.phase }, { on := 10, ground := Ground.phase }, { on := 11, ground := Ground.phase }, { on := 12, ground := Ground.phase }, { on := 13, ground := Ground.phase }, { on := 14, ground := Ground.phase }, { on := 15, ground := Ground.phase }, { on := 16, ground := Ground.phase }, { on := 17, ground := Ground.phase }, { on := 18, ground := Ground.phase }, { on := 19, ground := Ground.phase }], guard := none }) (v := ?_) rfl (by kernel_rfl) (by kernel_rfl) (by kernel_rfl) (by kernel_rfl) (fun _ _ _ h => h) (Or.inl ⟨by rfl, ?hy21⟩) hS20 ?_
  case hy21 => (intro w hSw; have hSw := hSw rfl; (try dsimp only at hSw); go_simp; try with_reducible rfl)
  try simp only [Act.put, List.setIfInBounds_toArray, List.set_cons_zero, List.set_cons_succ]
  refine LAny.one (i := 21) (o := { dst := none, op := Op.store 22 (Operand.tmp 34) (Operand.tmp 33), type := 0, pos := "step.go:83", after := #[{ on := 20, ground := Ground.data }, { on := 19, ground := Ground.data }, { on := 19, ground := Ground.chain }, { on := 0, ground := Ground.phase }, { on := 1, ground := Ground.phase }, { on := 2, ground := Ground.phase }, { on := 3, ground := Ground.phase }, { on := 4, ground := Ground.phase }, { on := 5, ground := Ground.phase }, { on := 6, ground := Ground.phase }, { on := 7, ground := Ground.phase }, { on := 8, ground := Ground.phase }, { on := 9, ground := Ground.phase }, { on := 10, ground := Ground.phase }, { on := 11, ground := Ground.phase }, { on := 12, ground := Ground.phase }, { on := 13, ground := Ground.phase }, { on := 14, ground := Ground.phase }, { on := 15, ground := Ground.phase }, { on := 16, ground := Ground.phase }, { on := 17, ground := Ground.phase }, { on := 18, ground := Ground.phase }, { on := 19, ground := Ground.phase }], guard := none }) (b := true) (by kernel_rfl) rfl (by kernel_rfl) (fun K hK => ?_)
  go_simp
  refine hK.out _ _ ?hs22 (fun hS22 => ?_)
  case hs22 => exact fun h => by cases h
  clear hK K hS20
  refine LAny.done (by kernel_rfl) ?_ _
  clear xD yV yV1 y3 fz3 RUN1
  have CUT := Lib.hid (cut_is FIN.out.1 ⟨OK.out.1, fun x hx => (OK.out.2 x hx).2⟩ (fun x hx => (OK.out.2 x hx).1))
  go_wp2_with fail
  with_reducible refine CUT.out.mono ?_
  rintro en W9 ⟨v9, rfl, R9, T9⟩
  have FF := Lib.hid (And.intro (fun W2 T2 => R9 W2 (Turn.more T2 (fun q _ hq => Nat.lt_of_lt_of_le hq FIN.out.2.size))) (FIN.out.2.trans T9))
  clear R9 T9 CUT FIN OK LE
  go_wp2_with fail
  go_ret
  exact ⟨_, rfl, FF.out⟩
theorem put_is {w : World} {ev : Value} {L : List (List Int)} {at_ : Nat} {x : Int} (h : RowsAt w ev L) (hL : L.length ≤ 12 ∧ ∀ x ∈ L, 1 ≤ x.length ∧ x.length ≤ 49) (h1 : 1 ≤ L.length) (hn : L.length = at_ + 1 ∨ L.length = at_) (ha : at_ < 12) :
    Calls Try.prog 38 #[ev, .int .i64 (at_ : Int), .int .i64 x] w fun en w' => ∃ v, en = .returned v ∧ (∀ W2, Turn (fun q => q < w.heap.size) w' W2 → RowsAt W2 v (putN L at_ x)) ∧ Turn (fun _ => False) w w' := by
  by_cases hl : at_ < L.length
  · obtain ⟨l, hl⟩ : ∃ l, L[at_]? = some l := ⟨_, List.getElem?_eq_getElem hl⟩
    exact put_some h hL h1 hn ha hl
  · exact put_none h hL h1 hn ha (Nat.not_lt.1 hl)
end Go.Proofs.Ytfidnahbhomomaa
