/-
  A run's step.
-/
import Derived.Test.YtfidnahbhomomaaSj
namespace Go.Proofs.Ytfidnahbhomomaa
open Go.ChangeShapes Go.WideShapes Go.ChangeAt Go.RowKit
set_option linter.unusedVariables false
set_option linter.unusedSimpArgs false
def stayR (T : Tab) (a : Nat) (L : List (List Int)) (bl : Bool) (c : Cel) (gd : Bool) : List Rn := if (c.plus || decide (a < T.cells.length - 1)) && (c.plus || !gd) then [⟨a, L, bl || gd⟩] else []
def sameR (X : List (List Ev)) (a n : Nat) (L : List (List Int)) (c : Cel) (e : Ev) : List Rn := if c.plus && takesB X a e c then [⟨a, putN L a (n : Int), false⟩] else []
def nextB (T : Tab) (X : List (List Ev)) (a : Nat) (bl : Bool) (e : Ev) : Bool := match T.cells[a + 1]? with
  | some c => !bl && takesB X (a + 1) e c
  | none => false
def nextR (T : Tab) (X : List (List Ev)) (a n : Nat) (L : List (List Int)) (bl : Bool) (e : Ev) : List Rn := if nextB T X a bl e then [⟨a + 1, putN L (a + 1) (n : Int), false⟩] else []
def gdB (T : Tab) (X : List (List Ev)) (c : Cel) (e : Ev) : Bool := c.nots.any (grdB (withE X T.cells.length e) e.typ)
def stepR (T : Tab) (X : List (List Ev)) (a n : Nat) (L : List (List Int)) (bl : Bool) (c : Cel) (e : Ev) : List Rn :=
  if T.win ≤ (n : Int) - (flatI L).getD 0 0 then [] else stayR T a L bl c (gdB T X c e) ++ sameR X a n L c e ++ nextR T X a n L bl e
theorem app_fresh {B : Nat} {D U : World} {v sv : Value} {l : List Rn} {r : Rn} (h : RunsO B D v l) (hB : B ≤ D.heap.size) (T : Turn (fun _ => False) D U) (hl : l.length ≤ 100) (hf : ∀ W2, Turn (fun q => q < D.heap.size) U W2 → RowsAt W2 sv r.sets) :
    ∃ v' W', (Builtin.append_ #[47, 47] 47 #[v, .slice (some ⟨U.heap.size, 0, none⟩) 1 1]).run Try.prog (U.alloc (.cells #[.int .i64 (r.at_ : Int), sv, .bool r.bl] 40)) = .ok v' W' ∧ RunsO B W' v' (l ++ [r]) ∧ Turn (fun q => B ≤ q) U W' := by
  have hsv : sv.oneCell' = true := by
    obtain ⟨_, _, _, _, e, _⟩ := hf U (Turn.refl _ U)
    rw [e]; rfl
  have hh := h.turn T
  obtain ⟨xs, ho, _⟩ := h
  exact runs_app hh (Nat.le_trans hB T.size) hl hsv (fun W2 T2 => hf W2 (T2.more (fun q _ hq => (ho.lt q hq).2)))
theorem wrapN {n : Nat} (h1 : 1 ≤ n) (h : n ≤ 100001) : wrap64 ((n : Int) - 1) = ((n - 1 : Nat) : Int) := by unfold wrap64; omega
theorem wrapD {n : Nat} {x : Int} (h : n ≤ 100000) (h0 : 0 ≤ x) (h2 : x ≤ 100000) : IntKind.i64.wrap ((n : Int) - x) = (n : Int) - x := IntWalk.i64_in _ (by omega)
theorem wrapL {m : Nat} (h : m ≤ 6) (h1 : 1 ≤ m) : wrap64 ((m : Int) - 1) = ((m - 1 : Nat) : Int) := by unfold wrap64; omega
theorem wrapK {a m : Nat} (h : m ≤ 6) (h1 : a < m) : wrap64 ((a : Int) + 1) = ((a + 1 : Nat) : Int) := by unfold wrap64; omega
theorem wrapK2 {a m : Nat} (h : m ≤ 6) (h1 : a < m) : IntKind.i64.wrap ((a : Int) + 1) = ((a + 1 : Nat) : Int) := by
  rw [IntWalk.i64_in _ (by omega)]
  omega
theorem decA {a m : Nat} : decide ((a : Int) < ((m : Nat) : Int)) = decide (a < m) := by simp
theorem zero_le_first {L : List (List Int)} {n : Nat} {x : Int} (hx : (flatI L)[0]? = some x) (ris : ∀ (i : Nat) (x : Int), (flatI L)[i]? = some x → lastN (flatI L) i < x ∧ x < (n : Int)) (hn : n ≤ 100000) : 0 ≤ x ∧ x ≤ 100000 := by
  have := ris 0 x hx
  unfold lastN at this
  rw [if_pos rfl] at this
  omega
theorem risP {F : List Int} {n : Nat} (ris : ∀ (i : Nat) (x : Int), F[i]? = some x → lastN F i < x ∧ x < (n : Int)) : ∀ (i : Nat) (x : Int), F[i]? = some x → 0 ≤ x
  | 0, x, h => by
    have := (ris 0 x h).1
    unfold lastN at this
    rw [if_pos rfl] at this
    omega
  | i + 1, x, h => by
    obtain ⟨y, hy⟩ : ∃ y, F[i]? = some y := ⟨_, List.getElem?_eq_getElem (by have := (List.getElem?_eq_some_iff.1 h).1; omega)⟩
    have h1 := risP ris i y hy
    have h2 := (ris (i + 1) x h).1
    rw [lastN_succ hy] at h2
    omega
theorem in_hist {L : List (List Int)} {n m : Nat} (ris : ∀ (i : Nat) (x : Int), (flatI L)[i]? = some x → lastN (flatI L) i < x ∧ x < (n : Int)) (hn : n < m) : ∀ l ∈ L, ∀ x ∈ l, ∃ k : Nat, x = (k : Int) ∧ k < m := fun l hl x hx => by
  obtain ⟨i, hi⟩ := List.mem_iff_getElem?.1 (show x ∈ flatI L from List.mem_flatten.2 ⟨l, hl, hx⟩)
  have h1 := risP ris i x hi
  have h2 := (ris i x hi).2
  exact ⟨x.toNat, by omega, by omega⟩
theorem rows12 {T : Tab} {a n : Nat} {L : List (List Int)} {bl : Bool} (ok : T.ok) (hr : RunOk T a L bl n) (hrow : ∀ x ∈ L, x.length ≤ 49) : L.length ≤ 12 ∧ ∀ x ∈ L, 1 ≤ x.length ∧ x.length ≤ 49 := by
  have hLn := hr.len
  have hal := hr.le
  have h6 := ok.n6
  refine ⟨by omega, fun m hm => ?_⟩
  obtain ⟨k, hk⟩ := List.mem_iff_getElem?.1 hm
  obtain ⟨ck, hck⟩ : ∃ c, T.cells[k]? = some c := ⟨_, List.getElem?_eq_getElem (by have := (List.getElem?_eq_some_iff.1 hk).1; omega)⟩
  exact ⟨(hr.row k m ck hk hck).1, hrow m hm⟩
theorem esk {T : Tab} {a n : Nat} {L : List (List Int)} {bl : Bool} {H : List Ev} (ok : T.ok) (hr : RunOk T a L bl n) (hrow : ∀ x ∈ L, x.length ≤ 49) : ESOk (L.map (pickE H)) := by
  have h12 := rows12 ok hr hrow
  have hLn := hr.len
  refine ⟨by rw [List.length_map]; omega, fun k l hl => ?_⟩
  rw [List.getElem?_map] at hl
  obtain ⟨m, hm, rfl⟩ := Option.map_eq_some_iff.1 hl
  have := h12.2 m (List.mem_of_getElem? hm)
  rw [pickE_len]
  omega
theorem put_at {w : World} {ev : Value} {T : Tab} {a n k : Nat} {L : List (List Int)} {bl : Bool} {x : Int} (h : RowsAt w ev L) (ok : T.ok) (hr : RunOk T a L bl n) (hrow : ∀ x ∈ L, x.length ≤ 49) (hk : L.length = k + 1 ∨ L.length = k) :
    Calls Try.prog 38 #[ev, .int .i64 (k : Int), .int .i64 x] w fun en w' => ∃ v, en = .returned v ∧ (∀ W2, Turn (fun q => q < w.heap.size) w' W2 → RowsAt W2 v (putN L k x)) ∧ Turn (fun _ => False) w w' := by
  have hLn := hr.len
  have hal := hr.le
  have h6 := ok.n6
  exact put_is h (rows12 ok hr hrow) (by omega) hk (by omega)
theorem at100 {T : Tab} {k : Nat} {c : Cel} (ok : T.ok) (h : T.cells[k]? = some c) : k ≤ 100 := by
  have := (List.getElem?_eq_some_iff.1 h).1
  have := ok.n6
  omega
set_option maxRecDepth 100000 in
set_option maxHeartbeats 16000000 in
theorem step_is {w : World} {cv hv sv : Value} {T : Tab} {H : List Ev} {L : List (List Int)} {a : Nat} {bl : Bool} {c : Cel} {e : Ev} (h : CellsAt w cv T.cells) (ok : T.ok) (hH : EvsAt w hv H) (hs : RowsAt w sv L) (h1 : 1 ≤ H.length) (hr : RunOk T a L bl (H.length - 1))
    (hrow : ∀ x ∈ L, x.length ≤ 49) (hc : T.cells[a]? = some c) (he : H[H.length - 1]? = some e) :
    Calls Try.prog 18 #[.agg #[cv, .int .i64 T.win, .bool T.key], hv, .agg #[.int .i64 (a : Int), sv, .bool bl]] w fun en w' => ∃ v B, en = .returned v ∧ RunsO B w' v (stepR T (L.map (pickE H)) a (H.length - 1) L bl c e) ∧ Turn (fun _ => False) w w' := by
  obtain ⟨n, hn⟩ : ∃ n, n = H.length - 1 := ⟨_, rfl⟩
  have ew := wrapN h1 (show H.length ≤ 100001 by have := hr.small.2; omega)
  rw [← hn] at hr he ew ⊢
  have hal := hr.le
  have hLl := hr.len
  have nk := hr.small.2
  have ok6 := ok.n6
  -- the first row, and its first number
  obtain ⟨l0, hl0⟩ : ∃ l, L[0]? = some l := ⟨_, List.getElem?_eq_getElem (by omega)⟩
  obtain ⟨c0, hc0⟩ : ∃ c, T.cells[0]? = some c := ⟨_, List.getElem?_eq_getElem (by omega)⟩
  have hl1 := (hr.row 0 l0 c0 hl0 hc0).1
  obtain ⟨x0, hx0⟩ : ∃ x, l0[0]? = some x := ⟨_, List.getElem?_eq_getElem (by omega)⟩
  have hhd := flatI_head hl0 hx0
  have hf0 : (flatI L)[0]? = some x0 := by
    have := flatI_at hl0 hx0
    unfold offI at this
    simpa [flatI] using this
  obtain ⟨x00, x01⟩ := zero_le_first hf0 hr.ris nk
  have ed := wrapD (n := n) nk x00 x01
  -- the boxes
  obtain ⟨W1, hW1⟩ : ∃ W1, W1 = (((w.alloc (.cells #[cv, .int .i64 T.win, .bool T.key] 26)).alloc (.cells #[hv] 36)).alloc (.cells #[.int .i64 (a : Int), sv, .bool bl] 40)).alloc (.cells #[.int .i64 (n : Int)] 3) := ⟨_, rfl⟩
  have T1 : Turn (fun _ => False) w W1 := by rw [hW1]; exact ((((Turn.refl _ w).alloc _).alloc _).alloc _).alloc _
  have RT : W1.rangeAt w.heap.size 0 [cv, .int .i64 T.win, .bool T.key] := by
    rw [hW1]
    exact range_turn (range_new w [cv, .int .i64 T.win, .bool T.key] 26) ((((Turn.refl (fun _ => False) _).alloc _).alloc _).alloc _) id
  have RH : W1.cell? ⟨w.heap.size + 1, 0, none⟩ = some hv := by
    rw [hW1]
    have := range_new (w.alloc (.cells #[cv, .int .i64 T.win, .bool T.key] 26)) [hv] 36
    rw [World.size_alloc] at this
    exact range_turn this (((Turn.refl (fun _ => False) _).alloc _).alloc _) id 0 _ rfl
  have RR : W1.rangeAt (w.heap.size + 1 + 1) 0 [.int .i64 (a : Int), sv, .bool bl] := by
    rw [hW1]
    have := range_new ((w.alloc (.cells #[cv, .int .i64 T.win, .bool T.key] 26)).alloc (.cells #[hv] 36)) [.int .i64 (a : Int), sv, .bool bl] 40
    rw [World.size_alloc, World.size_alloc] at this
    exact range_turn this ((Turn.refl (fun _ => False) _).alloc _) id
  have RN : W1.cell? ⟨w.heap.size + 1 + 1 + 1, 0, none⟩ = some (.int .i64 (n : Int)) := by
    rw [hW1]
    have := range_new (((w.alloc (.cells #[cv, .int .i64 T.win, .bool T.key] 26)).alloc (.cells #[hv] 36)).alloc (.cells #[.int .i64 (a : Int), sv, .bool bl] 40)) [.int .i64 (n : Int)] 3
    rw [World.size_alloc, World.size_alloc, World.size_alloc] at this
    exact this 0 _ rfl
  obtain ⟨sb, so, sc, rfl⟩ := hs.sl1 (by omega)
  obtain ⟨r0, hr0, hra0⟩ := (hs.turn T1).at hl0
  obtain ⟨lb, lo, lc, rfl⟩ := hra0.sl1 hl1
  have hx00 := hra0.at hx0
  rw [Nat.add_zero] at hr0 hx00
  obtain ⟨cb, co, cc, rfl⟩ := h.sl
  obtain ⟨rv9, nv, hcl, -, -⟩ := (h.turn T1).at hc
  obtain ⟨p, hvb, hvo, hvc, rfl, -, hp, hxe⟩ := id hH
  have hnH := (List.getElem?_eq_some_iff.1 he).1
  obtain ⟨rfl, -⟩ := hp.resolve_left (fun e => by rw [e] at hnH; exact absurd hnH (Nat.not_lt_zero n))
  have hre := range_turn (hxe n e he) T1 id
  obtain ⟨tb, htb⟩ : ∃ tb, tb = w.heap.size := ⟨_, rfl⟩
  obtain ⟨hb, hhb⟩ : ∃ hb, hb = tb + 1 := ⟨_, rfl⟩
  obtain ⟨rb, hrb⟩ : ∃ rb, rb = hb + 1 := ⟨_, rfl⟩
  obtain ⟨nb, hnb⟩ : ∃ nb, nb = rb + 1 := ⟨_, rfl⟩
  rw [← htb] at RT RH RR RN
  rw [← hhb] at RH RR RN
  rw [← hrb] at RR RN
  rw [← hnb] at RN
  have FF := Lib.hid (show ∀ U, Turn (fun _ => False) W1 U → U.rangeAt tb 0 [.slice (some ⟨cb, co, none⟩) T.cells.length cc, .int .i64 T.win, .bool T.key] ∧ U.rangeAt rb 0 [.int .i64 (a : Int), .slice (some ⟨sb, so, none⟩) L.length sc, .bool bl] ∧ U.rangeAt hvb (hvo + n * 6) e.cells ∧ U.cell? ⟨tb, 0, none⟩ = some (.slice (some ⟨cb, co, none⟩) T.cells.length cc) ∧ U.cell? ⟨tb, 1, none⟩ = some (.int .i64 T.win) ∧ U.cell? ⟨hb, 0, none⟩ = some (.slice (some ⟨hvb, hvo, none⟩) H.length hvc) ∧ U.cell? ⟨rb, 0, none⟩ = some (.int .i64 (a : Int)) ∧ U.cell? ⟨rb, 1, none⟩ = some (.slice (some ⟨sb, so, none⟩) L.length sc) ∧ U.cell? ⟨rb, 2, none⟩ = some (.bool bl) ∧ U.cell? ⟨nb, 0, none⟩ = some (.int .i64 (n : Int)) ∧ U.cell? ⟨sb, so, none⟩ = some (.slice (some ⟨lb, lo, none⟩) l0.length lc) ∧ U.cell? ⟨lb, lo, none⟩ = some (.int .i64 x0) ∧ Turn (fun _ => False) W1 U from fun U TU =>
    ⟨range_turn RT TU id, range_turn RR TU id, range_turn hre TU id, range_turn RT TU id 0 _ rfl, range_turn RT TU id 1 _ rfl, TU.cell id RH, range_turn RR TU id 0 _ rfl, range_turn RR TU id 1 _ rfl, range_turn RR TU id 2 _ rfl, TU.cell id RN, TU.cell id hr0, TU.cell id hx00, TU⟩)
  have sD := FF.out W1.drew ((Turn.refl _ W1).drewN 1)
  have FITS := Lib.hid (show ∀ U, Turn (fun _ => False) W1 U → _ from fun U TU => fits_is (h.turn (T1.trans TU)) ok (hs.turn (T1.trans TU)) hr)
  have LOOK := Lib.hid (show ∀ U, Turn (fun _ => False) W1 U → _ from fun U TU => look_is (hH.turn (T1.trans TU) (fun _ _ f => f)) (hs.turn (T1.trans TU)) ⟨by omega, hr.small.1⟩ (in_hist hr.ris hnH))
  have HW1 := Lib.hid hW1
  have TT := Lib.hid T1
  have a0 : (0 : Int) ≤ (n : Int) := Int.natCast_nonneg n
  have a1 : (n : Int) < (H.length : Int) := Int.ofNat_lt.2 hnH
  have i0 : (0 : Int) < (L.length : Int) := by omega
  have i1 : (0 : Int) < (l0.length : Int) := by omega
  have i2 : 0 < L.length := by omega
  have i3 : 0 < l0.length := by omega
  have CTX := Lib.hid (And.intro h (And.intro ok (And.intro hH (And.intro hs (And.intro hr (And.intro hrow (And.intro hc he)))))))
  have LIM := Lib.hid (And.intro hal (And.intro hLl (And.intro ok6 nk)))
  have HHD := Lib.hid hhd
  have HX := Lib.hid (And.intro htb (And.intro hhb (And.intro hrb hnb)))
  clear h ok hH hs h1 hr hrow hc he hn hal hLl nk ok6 hl0 hc0 hl1 hx0 hhd hf0 hW1 T1 RT RH RR RN hr0 hra0 hx00 hcl hxe hnH hp hre htb hhb hrb hnb
  obtain ⟨et, ek, eaa, ebb, ec, ed2⟩ := e
  unfold Ev.cells at *
  dsimp only at *
  go_enter Try.func18, Try.ntmps18
  go_upto_region 2 with fail
  rw [← HW1.out]
  obtain ⟨htb, hhb, hrb, hnb⟩ := HX.out
  rw [← htb, ← hhb, ← hrb, ← hnb]
  clear HW1 htb hhb hrb hnb ew
  refine wp_region_held_drew (S := fun w' => w'.rangeAt tb 0 [.slice (some ⟨cb, co, none⟩) T.cells.length cc, .int .i64 T.win, .bool T.key] ∧ w'.rangeAt rb 0 [.int .i64 (a : Int), .slice (some ⟨sb, so, none⟩) L.length sc, .bool bl] ∧ w'.rangeAt hvb (hvo + n * 6) [.int .i64 et, .int .i64 ek, .int .i64 eaa, .int .i64 ebb, .int .i64 ec, .int .i64 ed2] ∧ w'.cell? ⟨tb, 0, none⟩ = some (.slice (some ⟨cb, co, none⟩) T.cells.length cc) ∧ w'.cell? ⟨tb, 1, none⟩ = some (.int .i64 T.win) ∧ w'.cell? ⟨hb, 0, none⟩ = some (.slice (some ⟨hvb, hvo, none⟩) H.length hvc) ∧ w'.cell? ⟨rb, 0, none⟩ = some (.int .i64 (a : Int)) ∧ w'.cell? ⟨rb, 1, none⟩ = some (.slice (some ⟨sb, so, none⟩) L.length sc) ∧ w'.cell? ⟨rb, 2, none⟩ = some (.bool bl) ∧ w'.cell? ⟨nb, 0, none⟩ = some (.int .i64 (n : Int)) ∧ w'.cell? ⟨sb, so, none⟩ = some (.slice (some ⟨lb, lo, none⟩) l0.length lc) ∧ w'.cell? ⟨lb, lo, none⟩ = some (.int .i64 x0) ∧ Turn (fun _ => False) W1 w') (by kernel_rfl) ?hs0 (fun hS0 => ?_)
  case hs0 => exact sD
  refine wpAnyH_take (i := 0) (oi := { dst := some 17, op := Op.load 26 (Operand.tmp 3), type := 26, pos := "step.go:24", after := #[], guard := none }) (v := .agg #[.slice (some ⟨cb, co, none⟩) T.cells.length cc, .int .i64 T.win, .bool T.key]) rfl (by kernel_rfl) (by kernel_rfl) (by kernel_rfl) (fun _ _ _ h => h) (yieldsIf_load_mid rfl 26 _ rfl tb 0 rfl [.slice (some ⟨cb, co, none⟩) T.cells.length cc, .int .i64 T.win, .bool T.key] _ (fun _ hSw => hSw.1) Try.underlying26 rfl size26) hS0 ?_
  try simp only [Act.put, List.setIfInBounds_toArray, List.set_cons_zero, List.set_cons_succ]
  refine wpAnyH_take (i := 1) (oi := { dst := some 18, op := Op.load 40 (Operand.tmp 5), type := 40, pos := "step.go:24", after := #[], guard := none }) (v := .agg #[.int .i64 (a : Int), .slice (some ⟨sb, so, none⟩) L.length sc, .bool bl]) rfl (by kernel_rfl) (by kernel_rfl) (by kernel_rfl) (fun _ _ _ h => h) (yieldsIf_load_mid rfl 40 _ rfl rb 0 rfl [.int .i64 (a : Int), .slice (some ⟨sb, so, none⟩) L.length sc, .bool bl] _ (fun _ hSw => hSw.2.1) Try.underlying40 rfl size40) hS0 ?_
  try simp only [Act.put, List.setIfInBounds_toArray, List.set_cons_zero, List.set_cons_succ]
  refine wpAnyH_take (i := 2) (oi := { dst := some 19, op := Op.load 3 (Operand.tmp 7), type := 3, pos := "step.go:24", after := #[], guard := none }) (v := ?_) rfl (by kernel_rfl) (by kernel_rfl) (by kernel_rfl) (fun _ _ _ h => h) (Or.inl ⟨by rfl, ?hy3⟩) hS0 ?_
  case hy3 => (intro w hSw; (try dsimp only at hSw); go_simp; try with_reducible rfl)
  try simp only [Act.put, List.setIfInBounds_toArray, List.set_cons_zero, List.set_cons_succ]
  refine wpAnyH_ready (rs := [3]) (by kernel_rfl) (by simp) ?_
  refine AllReadyH.cons (o := { dst := some 20, op := Op.call { callee := Callee.value (Operand.func 23), args := #[Operand.tmp 17, Operand.tmp 18, Operand.tmp 19], argTypes := #[26, 40, 3] }, type := 4, pos := "step.go:24", after := #[{ on := 0, ground := Ground.data }, { on := 1, ground := Ground.data }, { on := 2, ground := Ground.data }], guard := none }) rfl (fun K hK => ?_) AllReadyH.nil
  go_simp
  with_reducible refine (FITS.out _ sD.2.2.2.2.2.2.2.2.2.2.2.2).mono ?_
  rintro en Wa ⟨rfl, Ta⟩
  have sA := FF.out _ (sD.2.2.2.2.2.2.2.2.2.2.2.2.trans Ta)
  clear FITS
  go_simp
  refine hK.out _ _ ?hs4 (fun hS4 => ?_)
  case hs4 => exact sA
  clear hK K hS0
  refine wpAnyH_take (i := 4) (oi := { dst := some 21, op := Op.unOp UnOp.not 4 (Operand.tmp 20), type := 4, pos := "step.go:24", after := #[{ on := 3, ground := Ground.data }], guard := none }) (v := ?_) rfl (by kernel_rfl) (by kernel_rfl) (by kernel_rfl) (fun _ _ _ h => h) (Or.inl ⟨by rfl, ?hy5⟩) hS4 ?_
  case hy5 => (intro w hSw; (try dsimp only at hSw); go_simp; try with_reducible rfl)
  try simp only [Act.put, List.setIfInBounds_toArray, List.set_cons_zero, List.set_cons_succ]
  refine wpAnyH_take (i := 5) (oi := { dst := some 22, op := Op.move (Operand.tmp 21), type := 4, pos := "step.go:24", after := #[{ on := 4, ground := Ground.data }, { on := 3, ground := Ground.chain }], guard := none }) (v := ?_) rfl (by kernel_rfl) (by kernel_rfl) (by kernel_rfl) (fun _ _ _ h => h) (Or.inl ⟨by rfl, ?hy6⟩) hS4 ?_
  case hy6 => (intro w hSw; (try dsimp only at hSw); go_simp; try with_reducible rfl)
  try simp only [Act.put, List.setIfInBounds_toArray, List.set_cons_zero, List.set_cons_succ]
  refine wpAnyH_take (i := 6) (oi := { dst := some 23, op := Op.load 3 (Operand.tmp 7), type := 3, pos := "step.go:24", after := #[{ on := 5, ground := Ground.guard }], guard := some (5, false) }) (v := ?_) rfl (by kernel_rfl) (by kernel_rfl) (by kernel_rfl) (fun _ _ _ h => h) (Or.inl ⟨by rfl, ?hy7⟩) hS4 ?_
  case hy7 => (intro w hSw; (try dsimp only at hSw); go_simp; try with_reducible rfl)
  try simp only [Act.put, List.setIfInBounds_toArray, List.set_cons_zero, List.set_cons_succ]
  refine wpAnyH_take (i := 7) (oi := { dst := some 24, op := Op.fieldAddr 40 (Operand.tmp 5) 1, type := 0, pos := "step.go:24", after := #[{ on := 5, ground := Ground.guard }], guard := some (5, false) }) (v := ?_) rfl (by kernel_rfl) (by kernel_rfl) (by kernel_rfl) (fun _ _ _ h => h) (Or.inl ⟨by rfl, ?hy8⟩) hS4 ?_
  case hy8 => (intro w hSw; (try dsimp only at hSw); go_simp; try with_reducible rfl)
  try simp only [Act.put, List.setIfInBounds_toArray, List.set_cons_zero, List.set_cons_succ]
  refine wpAnyH_take (i := 8) (oi := { dst := some 25, op := Op.load 38 (Operand.tmp 24), type := 38, pos := "step.go:24", after := #[{ on := 7, ground := Ground.data }, { on := 5, ground := Ground.guard }], guard := some (5, false) }) (v := ?_) rfl (by kernel_rfl) (by kernel_rfl) (by kernel_rfl) (fun _ _ _ h => h) (Or.inl ⟨by rfl, ?hy9⟩) hS4 ?_
  case hy9 => (intro w hSw; (try dsimp only at hSw); go_simp; try with_reducible rfl)
  try simp only [Act.put, List.setIfInBounds_toArray, List.set_cons_zero, List.set_cons_succ]
  refine wpAnyH_take (i := 9) (oi := { dst := some 26, op := Op.indexAddr 38 (Operand.tmp 25) (Operand.const (Value.int IntKind.i64 0)), type := 0, pos := "step.go:24", after := #[{ on := 8, ground := Ground.data }, { on := 5, ground := Ground.guard }], guard := some (5, false) }) (v := ?_) rfl (by kernel_rfl) (by kernel_rfl) (by kernel_rfl) (fun _ _ _ h => h) (Or.inl ⟨by rfl, ?hy10⟩) hS4 ?_
  case hy10 => (intro w hSw; (try dsimp only at hSw); go_simp; try with_reducible rfl)
  try simp only [Act.put, List.setIfInBounds_toArray, List.set_cons_zero, List.set_cons_succ]
  refine wpAnyH_take (i := 10) (oi := { dst := some 27, op := Op.load 22 (Operand.tmp 26), type := 22, pos := "step.go:24", after := #[{ on := 9, ground := Ground.data }, { on := 5, ground := Ground.guard }], guard := some (5, false) }) (v := ?_) rfl (by kernel_rfl) (by kernel_rfl) (by kernel_rfl) (fun _ _ _ h => h) (Or.inl ⟨by rfl, ?hy11⟩) hS4 ?_
  case hy11 => (intro w hSw; (try dsimp only at hSw); go_simp; try with_reducible rfl)
  try simp only [Act.put, List.setIfInBounds_toArray, List.set_cons_zero, List.set_cons_succ]
  refine wpAnyH_take (i := 11) (oi := { dst := some 28, op := Op.indexAddr 22 (Operand.tmp 27) (Operand.const (Value.int IntKind.i64 0)), type := 0, pos := "step.go:24", after := #[{ on := 10, ground := Ground.data }, { on := 5, ground := Ground.guard }], guard := some (5, false) }) (v := ?_) rfl (by kernel_rfl) (by kernel_rfl) (by kernel_rfl) (fun _ _ _ h => h) (Or.inl ⟨by rfl, ?hy12⟩) hS4 ?_
  case hy12 => (intro w hSw; (try dsimp only at hSw); go_simp; try with_reducible rfl)
  try simp only [Act.put, List.setIfInBounds_toArray, List.set_cons_zero, List.set_cons_succ]
  refine wpAnyH_take (i := 12) (oi := { dst := some 29, op := Op.load 3 (Operand.tmp 28), type := 3, pos := "step.go:24", after := #[{ on := 11, ground := Ground.data }, { on := 5, ground := Ground.guard }], guard := some (5, false) }) (v := ?_) rfl (by kernel_rfl) (by kernel_rfl) (by kernel_rfl) (fun _ _ _ h => h) (Or.inl ⟨by rfl, ?hy13⟩) hS4 ?_
  case hy13 => (intro w hSw; (try dsimp only at hSw); go_simp; try with_reducible rfl)
  try simp only [Act.put, List.setIfInBounds_toArray, List.set_cons_zero, List.set_cons_succ]
  refine wpAnyH_take (i := 13) (oi := { dst := some 30, op := Op.binOp BinOp.sub 3 (Operand.tmp 23) (Operand.tmp 29) 3, type := 3, pos := "step.go:24", after := #[{ on := 6, ground := Ground.data }, { on := 12, ground := Ground.data }, { on := 5, ground := Ground.guard }], guard := some (5, false) }) (v := ?_) rfl (by kernel_rfl) (by kernel_rfl) (by kernel_rfl) (fun _ _ _ h => h) (Or.inl ⟨by rfl, ?hy14⟩) hS4 ?_
  case hy14 => (intro w hSw; (try dsimp only at hSw); go_simp; try with_reducible rfl)
  try simp only [Act.put, List.setIfInBounds_toArray, List.set_cons_zero, List.set_cons_succ]
  refine wpAnyH_take (i := 14) (oi := { dst := some 31, op := Op.fieldAddr 26 (Operand.tmp 3) 1, type := 0, pos := "step.go:24", after := #[{ on := 5, ground := Ground.guard }], guard := some (5, false) }) (v := ?_) rfl (by kernel_rfl) (by kernel_rfl) (by kernel_rfl) (fun _ _ _ h => h) (Or.inl ⟨by rfl, ?hy15⟩) hS4 ?_
  case hy15 => (intro w hSw; (try dsimp only at hSw); go_simp; try with_reducible rfl)
  try simp only [Act.put, List.setIfInBounds_toArray, List.set_cons_zero, List.set_cons_succ]
  refine wpAnyH_take (i := 15) (oi := { dst := some 32, op := Op.load 3 (Operand.tmp 31), type := 3, pos := "step.go:24", after := #[{ on := 14, ground := Ground.data }, { on := 5, ground := Ground.guard }], guard := some (5, false) }) (v := ?_) rfl (by kernel_rfl) (by kernel_rfl) (by kernel_rfl) (fun _ _ _ h => h) (Or.inl ⟨by rfl, ?hy16⟩) hS4 ?_
  case hy16 => (intro w hSw; (try dsimp only at hSw); go_simp; try with_reducible rfl)
  try simp only [Act.put, List.setIfInBounds_toArray, List.set_cons_zero, List.set_cons_succ]
  refine wpAnyH_take (i := 16) (oi := { dst := some 33, op := Op.binOp BinOp.geq 3 (Operand.tmp 30) (Operand.tmp 32) 3, type := 4, pos := "step.go:24", after := #[{ on := 13, ground := Ground.data }, { on := 15, ground := Ground.data }, { on := 5, ground := Ground.guard }], guard := some (5, false) }) (v := ?_) rfl (by kernel_rfl) (by kernel_rfl) (by kernel_rfl) (fun _ _ _ h => h) (Or.inl ⟨by rfl, ?hy17⟩) hS4 ?_
  case hy17 => (intro w hSw; (try dsimp only at hSw); go_simp; try with_reducible rfl)
  try simp only [Act.put, List.setIfInBounds_toArray, List.set_cons_zero, List.set_cons_succ]
  refine wpAnyH_take (i := 17) (oi := { dst := some 34, op := Op.pick (Operand.tmp 22) (Operand.const (Value.bool true)) (Operand.tmp 33), type := 4, pos := "step.go:24", after := #[{ on := 5, ground := Ground.data }, { on := 16, ground := Ground.data }], guard := none }) (v := ?_) rfl (by kernel_rfl) (by kernel_rfl) (by kernel_rfl) (fun _ _ _ h => h) (Or.inl ⟨by rfl, ?hy18⟩) hS4 ?_
  case hy18 => (intro w hSw; (try dsimp only at hSw); go_simp; try with_reducible rfl)
  try simp only [Act.put, List.setIfInBounds_toArray, List.set_cons_zero, List.set_cons_succ]
  refine wpAnyH_done (by kernel_rfl) ?_ _

  have TWa := Lib.hid sA.2.2.2.2.2.2.2.2.2.2.2.2
  by_cases hw : T.win ≤ (n : Int) - x0
  · have tq : decide (T.win ≤ (n : Int) - x0) = true := decide_eq_true hw
    have FIN := Lib.hid (show RunsO 0 Wa (.slice none 0 0) (stepR T (L.map (pickE H)) a n L bl c ⟨et, ek, eaa, ebb, ec, ed2⟩) ∧ Turn (fun _ => False) w Wa from ⟨by
      unfold stepR
      rw [if_pos (by rw [HHD.out]; exact hw)]
      exact RunsO.nil _ _, TT.out.trans TWa.out⟩)
    clear sA sD LOOK FF CTX HHD
    go_wp2_with fail
    go_ret
    exact ⟨_, _, rfl, FIN.out⟩
  have tq : decide (T.win ≤ (n : Int) - x0) = false := decide_eq_false hw
  have HW := Lib.hid hw
  have y5 := sA.2.2.2.2.2.1
  have y7 := sA.2.2.2.2.2.2.2.1
  have LK := Lib.hid (LOOK.out Wa TWa.out)
  clear sA sD LOOK
  go_wp2_with fail
  with_reducible refine LK.out.mono ?_
  rintro en Wb ⟨lv, rfl, LE, T2⟩
  clear LK tq y5 y7 ed hw
  obtain ⟨lea, lm, lec, rfl⟩ : ∃ x m y, lv = .slice x m y := by obtain ⟨q, _, _, r, e, _⟩ := LE; exact ⟨q, _, r, e⟩
  obtain ⟨h, ok, hH, hs, hr, hrow, hc, he⟩ := CTX.out
  have Tb := TWa.out.trans T2
  have Tw := TT.out.trans Tb
  have sb2 := FF.out Wb Tb
  obtain ⟨rv9, nv, hcl, hrr9, hgd9⟩ := (h.turn Tw).at hc
  obtain ⟨cra, crc, rfl⟩ := hrr9.sl
  obtain ⟨gna, gnc, rfl⟩ := hgd9.sl
  clear hrr9 hgd9
  obtain ⟨eb, heb⟩ : ∃ eb, eb = Wb.heap.size := ⟨_, rfl⟩
  obtain ⟨qb, hqb⟩ : ∃ qb, qb = eb + 1 := ⟨_, rfl⟩
  obtain ⟨W5, hW5⟩ : ∃ W5, W5 = (Wb.alloc (.cells #[.slice lea lm lec] 72)).alloc (.cells #[.int .i64 c.typ, .bool c.plus, .slice cra c.rules.length crc, .slice gna c.nots.length gnc] 59) := ⟨_, rfl⟩
  have TW5 : Turn (fun _ => False) Wb W5 := by rw [hW5]; exact ((Turn.refl _ Wb).alloc _).alloc _
  have RE : W5.cell? ⟨eb, 0, none⟩ = some (.slice lea lm lec) := by
    rw [hW5, heb]
    exact range_turn (range_new Wb [.slice lea lm lec] 72) ((Turn.refl (fun _ => False) _).alloc _) id 0 _ rfl
  obtain ⟨cp, hcp⟩ : ∃ cp, cp = c.plus := ⟨_, rfl⟩
  obtain ⟨gd, hgd⟩ : ∃ gd, gd = gdB T (L.map (pickE H)) c ⟨et, ek, eaa, ebb, ec, ed2⟩ := ⟨_, rfl⟩
  obtain ⟨st, hst⟩ : ∃ st, st = (cp || decide (a < T.cells.length - 1)) := ⟨_, rfl⟩
  obtain ⟨aa, haa⟩ : ∃ aa, aa = a + 1 := ⟨_, rfl⟩
  have RQ : W5.cell? ⟨qb, 1, none⟩ = some (.bool cp) := by
    rw [hW5, hqb, heb, hcp]
    have := range_new (Wb.alloc (.cells #[.slice lea lm lec] 72)) [.int .i64 c.typ, .bool c.plus, .slice cra c.rules.length crc, .slice gna c.nots.length gnc] 59
    rw [World.size_alloc] at this
    exact this 1 _ rfl
  have T5 := Tb.trans TW5
  have w5 := TT.out.trans T5
  have ESK : ESOk (L.map (pickE H)) := esk ok hr hrow
  have hL12 := rows12 ok hr hrow
  have hal := hr.le
  have hLn := hr.len
  have h6 := ok.n6
  have F5 := Lib.hid (show ∀ U, Turn (fun _ => False) W5 U → (U.rangeAt tb 0 [.slice (some ⟨cb, co, none⟩) T.cells.length cc, .int .i64 T.win, .bool T.key] ∧ U.rangeAt rb 0 [.int .i64 (a : Int), .slice (some ⟨sb, so, none⟩) L.length sc, .bool bl] ∧ U.rangeAt hvb (hvo + n * 6) [.int .i64 et, .int .i64 ek, .int .i64 eaa, .int .i64 ebb, .int .i64 ec, .int .i64 ed2] ∧ U.cell? ⟨tb, 0, none⟩ = some (.slice (some ⟨cb, co, none⟩) T.cells.length cc) ∧ U.cell? ⟨tb, 1, none⟩ = some (.int .i64 T.win) ∧ U.cell? ⟨hb, 0, none⟩ = some (.slice (some ⟨hvb, hvo, none⟩) H.length hvc) ∧ U.cell? ⟨rb, 0, none⟩ = some (.int .i64 (a : Int)) ∧ U.cell? ⟨rb, 1, none⟩ = some (.slice (some ⟨sb, so, none⟩) L.length sc) ∧ U.cell? ⟨rb, 2, none⟩ = some (.bool bl) ∧ U.cell? ⟨nb, 0, none⟩ = some (.int .i64 (n : Int))) ∧ U.cell? ⟨eb, 0, none⟩ = some (.slice lea lm lec) ∧ U.cell? ⟨qb, 1, none⟩ = some (.bool cp) ∧ Turn (fun _ => False) W5 U from fun U TU => by
    obtain ⟨z1, z2, z3, z4, z5, z6, z7, z8, z9, z10, _⟩ := FF.out U (T5.trans TU)
    exact ⟨⟨z1, z2, z3, z4, z5, z6, z7, z8, z9, z10⟩, TU.cell id RE, TU.cell id RQ, TU⟩)
  have REF := Lib.hid (show ∀ U, Turn (fun _ => False) W5 U → Calls Try.prog 36 #[.agg #[.slice (some ⟨cb, co, none⟩) T.cells.length cc, .int .i64 T.win, .bool T.key], .agg #[.int .i64 et, .int .i64 ek, .int .i64 eaa, .int .i64 ebb, .int .i64 ec, .int .i64 ed2], .int .i64 (a : Int), (.slice lea lm lec)] U fun en w' => en = .returned (.bool gd) ∧ Turn (fun _ => False) U w' from fun U TU => by rw [hgd]; exact refused_is (e := ⟨et, ek, eaa, ebb, ec, ed2⟩) (P := orP a T.cells.length) (h.turn (w5.trans TU)) hc (fun g hg => ok.grd a c g hc hg) ⟨Nat.le_trans h6 (by decide), (ok.nots c (List.mem_of_getElem? hc)).1⟩ (LE.turn (TW5.trans TU)) ESK)
  have TK := Lib.hid (show ∀ (k : Nat) (ck : Cel), T.cells[k]? = some ck → ∀ U, Turn (fun _ => False) W5 U → Calls Try.prog 35 #[.int .i64 (k : Int), .pointer (some ⟨tb, 0, none⟩), .pointer (some ⟨hb, 0, none⟩), .pointer (some ⟨nb, 0, none⟩), .pointer (some ⟨eb, 0, none⟩)] U fun en w' => en = .returned (.bool (takesB (L.map (pickE H)) k ⟨et, ek, eaa, ebb, ec, ed2⟩ ck)) ∧ Turn (fun _ => False) U w' from fun k ck hck U TU =>
    takes_is (e := ⟨et, ek, eaa, ebb, ec, ed2⟩) (F5.out U TU).1.1 (F5.out U TU).1.2.2.2.2.2.1 (F5.out U TU).1.2.2.2.2.2.2.2.2.2 (F5.out U TU).2.1 (h.turn (w5.trans TU)) (hH.turn (w5.trans TU) (fun _ _ f => f)) (LE.turn (TW5.trans TU)) ESK hck (ok.rul k ck hck) (at100 ok hck) he)
  have CUT := Lib.hid (show ∀ U, Turn (fun _ => False) W5 U → _ from fun U TU => cut_is (hs.turn (w5.trans TU)) ⟨hL12.1, hr.small.1⟩ (fun x hx => (hL12.2 x hx).1))
  have PUT := Lib.hid (show ∀ (k : Nat), L.length = k + 1 ∨ L.length = k → ∀ U, Turn (fun _ => False) W5 U → Calls Try.prog 38 #[.slice (some ⟨sb, so, none⟩) L.length sc, .int .i64 (k : Int), .int .i64 (n : Int)] U fun en w' => ∃ v, en = .returned v ∧ (∀ W2, Turn (fun q => q < U.heap.size) w' W2 → RowsAt W2 v (putN L k (n : Int))) ∧ Turn (fun _ => False) U w' from fun k hk U TU => put_at (hs.turn (w5.trans TU)) ok hr hrow hk)
  have s5 := F5.out W5 (Turn.refl _ W5)
  have l0 := past (o := .cells #[.slice lea lm lec] 72) (hcl 0 _ rfl)
  have l1 := past (o := .cells #[.slice lea lm lec] 72) (hcl 1 _ rfl)
  have l2 := past (o := .cells #[.slice lea lm lec] 72) (hcl 2 _ rfl)
  have l3 := past (o := .cells #[.slice lea lm lec] 72) (hcl 3 _ rfl)
  rw [Nat.add_zero] at l0
  have z4 := past (o := .cells #[.slice lea lm lec] 72) sb2.2.2.2.1
  have z7 := past (o := .cells #[.slice lea lm lec] 72) sb2.2.2.2.2.2.2.1
  have c0 : (0 : Int) ≤ (a : Int) := Int.natCast_nonneg a
  have c1 : (a : Int) < (T.cells.length : Int) := Int.ofNat_lt.2 hal
  have el := wrapL h6 ok.n1
  have ek2 : wrap64 ((a : Int) + 1) = (aa : Int) := by rw [haa]; exact wrapK h6 hal
  have HK3 := Lib.hid (show IntKind.i64.wrap ((a : Int) + 1) = (aa : Int) by rw [haa]; exact wrapK2 h6 hal)
  have HE := Lib.hid (And.intro heb hqb)
  have HW5 := Lib.hid hW5
  have FINT := Lib.hid w5
  have LIM := Lib.hid (And.intro hal hLn)
  have HC := Lib.hid hc
  have HST := Lib.hid (And.intro hst (And.intro hgd (And.intro hcp haa)))
  clear hst hgd hcp haa h ok hH hs hr hrow hc he Tb Tw sb2 hcl heb hqb hW5 TW5 RE RQ T5 w5 ESK hL12 hal hLn h6 LE T2 CTX FF TWa TT
  go_upto_region 7 with fail
  rw [← HW5.out]
  obtain ⟨heb, hqb⟩ := HE.out
  rw [← heb, ← hqb]
  clear heb hqb HE HW5 l0 l1 l2 l3 z4 z7
  obtain ⟨⟨-, -, -, y4, -, -, y7, -, -, -⟩, -, yq, -⟩ := s5
  go_cut [11] from 46 (fun v11 wx => v11 = .bool st ∧ wx = W5)
  case first =>
    cases cp
    · go_wp2_with fail
      go_meet
      case rel => exact ⟨by rw [HST.out.1]; first | rfl | (simp; done), rfl⟩
    · go_wp2_with fail
      go_meet
      case rel => exact ⟨by rw [HST.out.1]; rfl, rfl⟩
  case rest =>
  obtain ⟨rfl, hwc⟩ := hcut
  rw [hwc]
  clear hwc wc y4 y7 yq el
  go_upto_region 8 with fail
  have sD8 := F5.out W5.drew ((Turn.refl _ W5).drewN 1)
  refine wp_region_held_drew (S := fun w' => (w'.rangeAt tb 0 [.slice (some ⟨cb, co, none⟩) T.cells.length cc, .int .i64 T.win, .bool T.key] ∧ w'.rangeAt rb 0 [.int .i64 (a : Int), .slice (some ⟨sb, so, none⟩) L.length sc, .bool bl] ∧ w'.rangeAt hvb (hvo + n * 6) [.int .i64 et, .int .i64 ek, .int .i64 eaa, .int .i64 ebb, .int .i64 ec, .int .i64 ed2] ∧ w'.cell? ⟨tb, 0, none⟩ = some (.slice (some ⟨cb, co, none⟩) T.cells.length cc) ∧ w'.cell? ⟨tb, 1, none⟩ = some (.int .i64 T.win) ∧ w'.cell? ⟨hb, 0, none⟩ = some (.slice (some ⟨hvb, hvo, none⟩) H.length hvc) ∧ w'.cell? ⟨rb, 0, none⟩ = some (.int .i64 (a : Int)) ∧ w'.cell? ⟨rb, 1, none⟩ = some (.slice (some ⟨sb, so, none⟩) L.length sc) ∧ w'.cell? ⟨rb, 2, none⟩ = some (.bool bl) ∧ w'.cell? ⟨nb, 0, none⟩ = some (.int .i64 (n : Int))) ∧ w'.cell? ⟨eb, 0, none⟩ = some (.slice lea lm lec) ∧ w'.cell? ⟨qb, 1, none⟩ = some (.bool cp) ∧ Turn (fun _ => False) W5 w') (by kernel_rfl) ?hs0 (fun hS0 => ?_)
  case hs0 => exact sD8
  refine wpAnyH_take (i := 0) (oi := { dst := some 57, op := Op.load 26 (Operand.tmp 3), type := 26, pos := "step.go:31", after := #[], guard := none }) (v := .agg #[.slice (some ⟨cb, co, none⟩) T.cells.length cc, .int .i64 T.win, .bool T.key]) rfl (by kernel_rfl) (by kernel_rfl) (by kernel_rfl) (fun _ _ _ h => h) (yieldsIf_load_mid rfl 26 _ rfl tb 0 rfl [.slice (some ⟨cb, co, none⟩) T.cells.length cc, .int .i64 T.win, .bool T.key] _ (fun _ hSw => hSw.1.1) Try.underlying26 rfl size26) hS0 ?_
  try simp only [Act.put, List.setIfInBounds_toArray, List.set_cons_zero, List.set_cons_succ]
  refine wpAnyH_take (i := 1) (oi := { dst := some 58, op := Op.load 36 (Operand.tmp 4), type := 36, pos := "step.go:31", after := #[], guard := none }) (v := ?_) rfl (by kernel_rfl) (by kernel_rfl) (by kernel_rfl) (fun _ _ _ h => h) (Or.inl ⟨by rfl, ?hy2⟩) hS0 ?_
  case hy2 => (intro w hSw; (try dsimp only at hSw); go_simp; try with_reducible rfl)
  try simp only [Act.put, List.setIfInBounds_toArray, List.set_cons_zero, List.set_cons_succ]
  refine wpAnyH_take (i := 2) (oi := { dst := some 59, op := Op.load 3 (Operand.tmp 7), type := 3, pos := "step.go:31", after := #[], guard := none }) (v := ?_) rfl (by kernel_rfl) (by kernel_rfl) (by kernel_rfl) (fun _ _ _ h => h) (Or.inl ⟨by rfl, ?hy3⟩) hS0 ?_
  case hy3 => (intro w hSw; (try dsimp only at hSw); go_simp; try with_reducible rfl)
  try simp only [Act.put, List.setIfInBounds_toArray, List.set_cons_zero, List.set_cons_succ]
  refine wpAnyH_take (i := 3) (oi := { dst := some 60, op := Op.indexAddr 36 (Operand.tmp 58) (Operand.tmp 59), type := 0, pos := "step.go:31", after := #[{ on := 1, ground := Ground.data }, { on := 2, ground := Ground.data }], guard := none }) (v := ?_) rfl (by kernel_rfl) (by kernel_rfl) (by kernel_rfl) (fun _ _ _ h => h) (Or.inl ⟨by rfl, ?hy4⟩) hS0 ?_
  case hy4 => (intro w hSw; (try dsimp only at hSw); go_simp; try with_reducible rfl)
  try simp only [Act.put, List.setIfInBounds_toArray, List.set_cons_zero, List.set_cons_succ]
  refine wpAnyH_take (i := 4) (oi := { dst := some 61, op := Op.load 62 (Operand.tmp 60), type := 62, pos := "step.go:31", after := #[{ on := 3, ground := Ground.data }], guard := none }) (v := .agg #[.int .i64 et, .int .i64 ek, .int .i64 eaa, .int .i64 ebb, .int .i64 ec, .int .i64 ed2]) rfl (by kernel_rfl) (by kernel_rfl) (by kernel_rfl) (fun _ _ _ h => h) (yieldsIf_load_mid rfl 62 _ rfl hvb (hvo + n * 6) rfl [.int .i64 et, .int .i64 ek, .int .i64 eaa, .int .i64 ebb, .int .i64 ec, .int .i64 ed2] _ (fun _ hSw => hSw.1.2.2.1) Try.underlying62 rfl size62) hS0 ?_
  try simp only [Act.put, List.setIfInBounds_toArray, List.set_cons_zero, List.set_cons_succ]
  refine wpAnyH_take (i := 5) (oi := { dst := some 62, op := Op.fieldAddr 40 (Operand.tmp 5) 0, type := 0, pos := "step.go:31", after := #[], guard := none }) (v := ?_) rfl (by kernel_rfl) (by kernel_rfl) (by kernel_rfl) (fun _ _ _ h => h) (Or.inl ⟨by rfl, ?hy6⟩) hS0 ?_
  case hy6 => (intro w hSw; (try dsimp only at hSw); go_simp; try with_reducible rfl)
  try simp only [Act.put, List.setIfInBounds_toArray, List.set_cons_zero, List.set_cons_succ]
  refine wpAnyH_take (i := 6) (oi := { dst := some 63, op := Op.load 3 (Operand.tmp 62), type := 3, pos := "step.go:31", after := #[{ on := 5, ground := Ground.data }], guard := none }) (v := ?_) rfl (by kernel_rfl) (by kernel_rfl) (by kernel_rfl) (fun _ _ _ h => h) (Or.inl ⟨by rfl, ?hy7⟩) hS0 ?_
  case hy7 => (intro w hSw; (try dsimp only at hSw); go_simp; try with_reducible rfl)
  try simp only [Act.put, List.setIfInBounds_toArray, List.set_cons_zero, List.set_cons_succ]
  refine wpAnyH_take (i := 7) (oi := { dst := some 64, op := Op.load 72 (Operand.tmp 8), type := 72, pos := "step.go:31", after := #[], guard := none }) (v := ?_) rfl (by kernel_rfl) (by kernel_rfl) (by kernel_rfl) (fun _ _ _ h => h) (Or.inl ⟨by rfl, ?hy8⟩) hS0 ?_
  case hy8 => (intro w hSw; (try dsimp only at hSw); go_simp; try with_reducible rfl)
  try simp only [Act.put, List.setIfInBounds_toArray, List.set_cons_zero, List.set_cons_succ]
  refine wpAnyH_ready (rs := [8]) (by kernel_rfl) (by simp) ?_
  refine AllReadyH.cons (o := { dst := some 65, op := Op.call { callee := Callee.value (Operand.func 36), args := #[Operand.tmp 57, Operand.tmp 61, Operand.tmp 63, Operand.tmp 64], argTypes := #[26, 62, 3, 72] }, type := 4, pos := "step.go:31", after := #[{ on := 0, ground := Ground.data }, { on := 4, ground := Ground.data }, { on := 6, ground := Ground.data }, { on := 7, ground := Ground.data }], guard := none }) rfl (fun K hK => ?_) AllReadyH.nil
  go_simp
  with_reducible refine (REF.out _ sD8.2.2.2).mono ?_
  rintro en Wr ⟨rfl, Tr⟩
  have sA8 := F5.out _ (sD8.2.2.2.trans Tr)
  go_simp
  refine hK.out _ _ ?hs9 (fun hS9 => ?_)
  case hs9 => exact sA8
  clear hK K hS0
  refine wpAnyH_take (i := 9) (oi := { dst := some 12, op := Op.assign (Operand.tmp 65), type := 4, pos := "step.go:31", after := #[{ on := 8, ground := Ground.data }, { on := 8, ground := Ground.chain }, { on := 0, ground := Ground.phase }, { on := 1, ground := Ground.phase }, { on := 2, ground := Ground.phase }, { on := 3, ground := Ground.phase }, { on := 4, ground := Ground.phase }, { on := 5, ground := Ground.phase }, { on := 6, ground := Ground.phase }, { on := 7, ground := Ground.phase }, { on := 8, ground := Ground.phase }], guard := none }) (v := ?_) rfl (by kernel_rfl) (by kernel_rfl) (by kernel_rfl) (fun _ _ _ h => h) (Or.inl ⟨by rfl, ?hy10⟩) hS9 ?_
  case hy10 => (intro w hSw; (try dsimp only at hSw); go_simp; try with_reducible rfl)
  try simp only [Act.put, List.setIfInBounds_toArray, List.set_cons_zero, List.set_cons_succ]
  refine wpAnyH_done (by kernel_rfl) ?_ _

  have TR8 := Lib.hid sA8.2.2.2
  have yq := sA8.2.2.1
  clear sA8 sD8 REF
  go_upto_region 10 with fail
  obtain ⟨t10, ht10⟩ : ∃ t10, t10 = (st && (cp || !gd)) := ⟨_, rfl⟩
  have HT10 := Lib.hid ht10
  clear ht10
  go_cut [74] from 66 (fun v74 wx => v74 = .bool t10 ∧ wx = Wr)
  case first =>
    cases st <;> cases cp <;> cases gd
    all_goals (go_wp2_with fail; go_meet; exact ⟨by rw [HT10.out]; rfl, rfl⟩)
  case rest =>
  obtain ⟨rfl, hwc⟩ := hcut
  rw [hwc]
  clear hwc wc yq
  go_upto_if 74 with fail
  go_cut [13] from 66 (fun v13 wx => RunsO W5.heap.size wx v13 (if t10 = true then [⟨a, L, bl || gd⟩] else []) ∧ Turn (fun _ => False) W5 wx)
  case first =>
    cases t10
    · go_wp2_with fail
      go_meet
      case rel => exact ⟨RunsO.nil _ _, TR8.out⟩
    · go_upto_region 11 with fail
      have sD1 := F5.out Wr.drew (TR8.out.drewN 1)
      cases bl
      · refine wp_region_held_drew (S := fun w' => (w'.rangeAt tb 0 [.slice (some ⟨cb, co, none⟩) T.cells.length cc, .int .i64 T.win, .bool T.key] ∧ w'.rangeAt rb 0 [.int .i64 (a : Int), .slice (some ⟨sb, so, none⟩) L.length sc, .bool false] ∧ w'.rangeAt hvb (hvo + n * 6) [.int .i64 et, .int .i64 ek, .int .i64 eaa, .int .i64 ebb, .int .i64 ec, .int .i64 ed2] ∧ w'.cell? ⟨tb, 0, none⟩ = some (.slice (some ⟨cb, co, none⟩) T.cells.length cc) ∧ w'.cell? ⟨tb, 1, none⟩ = some (.int .i64 T.win) ∧ w'.cell? ⟨hb, 0, none⟩ = some (.slice (some ⟨hvb, hvo, none⟩) H.length hvc) ∧ w'.cell? ⟨rb, 0, none⟩ = some (.int .i64 (a : Int)) ∧ w'.cell? ⟨rb, 1, none⟩ = some (.slice (some ⟨sb, so, none⟩) L.length sc) ∧ w'.cell? ⟨rb, 2, none⟩ = some (.bool false) ∧ w'.cell? ⟨nb, 0, none⟩ = some (.int .i64 (n : Int))) ∧ w'.cell? ⟨eb, 0, none⟩ = some (.slice lea lm lec) ∧ w'.cell? ⟨qb, 1, none⟩ = some (.bool cp) ∧ Turn (fun _ => False) W5 w') (by kernel_rfl) ?hs0 (fun hS0 => ?_)
        case hs0 => exact sD1
        refine wpAnyH_take (i := 0) (oi := { dst := some 75, op := Op.move (Operand.tmp 13), type := 47, pos := "step.go:34", after := #[], guard := none }) (v := ?_) rfl (by kernel_rfl) (by kernel_rfl) (by kernel_rfl) (fun _ _ _ h => h) (Or.inl ⟨by rfl, ?hy1⟩) hS0 ?_
        case hy1 => (intro w hSw; (try dsimp only at hSw); go_simp; try with_reducible rfl)
        try simp only [Act.put, List.setIfInBounds_toArray, List.set_cons_zero, List.set_cons_succ]
        refine wpAnyH_take (i := 1) (oi := { dst := some 76, op := Op.fieldAddr 40 (Operand.tmp 5) 0, type := 0, pos := "step.go:34", after := #[], guard := none }) (v := ?_) rfl (by kernel_rfl) (by kernel_rfl) (by kernel_rfl) (fun _ _ _ h => h) (Or.inl ⟨by rfl, ?hy2⟩) hS0 ?_
        case hy2 => (intro w hSw; (try dsimp only at hSw); go_simp; try with_reducible rfl)
        try simp only [Act.put, List.setIfInBounds_toArray, List.set_cons_zero, List.set_cons_succ]
        refine wpAnyH_take (i := 2) (oi := { dst := some 77, op := Op.load 3 (Operand.tmp 76), type := 3, pos := "step.go:34", after := #[{ on := 1, ground := Ground.data }], guard := none }) (v := ?_) rfl (by kernel_rfl) (by kernel_rfl) (by kernel_rfl) (fun _ _ _ h => h) (Or.inl ⟨by rfl, ?hy3⟩) hS0 ?_
        case hy3 => (intro w hSw; (try dsimp only at hSw); go_simp; try with_reducible rfl)
        try simp only [Act.put, List.setIfInBounds_toArray, List.set_cons_zero, List.set_cons_succ]
        refine wpAnyH_take (i := 3) (oi := { dst := some 78, op := Op.fieldAddr 40 (Operand.tmp 5) 1, type := 0, pos := "step.go:34", after := #[], guard := none }) (v := ?_) rfl (by kernel_rfl) (by kernel_rfl) (by kernel_rfl) (fun _ _ _ h => h) (Or.inl ⟨by rfl, ?hy4⟩) hS0 ?_
        case hy4 => (intro w hSw; (try dsimp only at hSw); go_simp; try with_reducible rfl)
        try simp only [Act.put, List.setIfInBounds_toArray, List.set_cons_zero, List.set_cons_succ]
        refine wpAnyH_take (i := 4) (oi := { dst := some 79, op := Op.load 38 (Operand.tmp 78), type := 38, pos := "step.go:34", after := #[{ on := 3, ground := Ground.data }], guard := none }) (v := ?_) rfl (by kernel_rfl) (by kernel_rfl) (by kernel_rfl) (fun _ _ _ h => h) (Or.inl ⟨by rfl, ?hy5⟩) hS0 ?_
        case hy5 => (intro w hSw; (try dsimp only at hSw); go_simp; try with_reducible rfl)
        try simp only [Act.put, List.setIfInBounds_toArray, List.set_cons_zero, List.set_cons_succ]
        refine wpAnyH_take (i := 6) (oi := { dst := some 81, op := Op.fieldAddr 40 (Operand.tmp 5) 2, type := 0, pos := "step.go:34", after := #[], guard := none }) (v := ?_) rfl (by kernel_rfl) (by kernel_rfl) (by kernel_rfl) (fun _ _ _ h => h) (Or.inl ⟨by rfl, ?hy6⟩) hS0 ?_
        case hy6 => (intro w hSw; (try dsimp only at hSw); go_simp; try with_reducible rfl)
        try simp only [Act.put, List.setIfInBounds_toArray, List.set_cons_zero, List.set_cons_succ]
        refine wpAnyH_take (i := 7) (oi := { dst := some 82, op := Op.load 4 (Operand.tmp 81), type := 4, pos := "step.go:34", after := #[{ on := 6, ground := Ground.data }], guard := none }) (v := ?_) rfl (by kernel_rfl) (by kernel_rfl) (by kernel_rfl) (fun _ _ _ h => h) (Or.inl ⟨by rfl, ?hy7⟩) hS0 ?_
        case hy7 => (intro w hSw; (try dsimp only at hSw); go_simp; try with_reducible rfl)
        try simp only [Act.put, List.setIfInBounds_toArray, List.set_cons_zero, List.set_cons_succ]
        refine wpAnyH_ready (rs := [5]) (by kernel_rfl) (by simp) ?_
        refine AllReadyH.cons (o := { dst := some 80, op := Op.call { callee := Callee.value (Operand.func 37), args := #[Operand.tmp 79], argTypes := #[38] }, type := 38, pos := "step.go:34", after := #[{ on := 4, ground := Ground.data }], guard := none }) rfl (fun K hK => ?_) AllReadyH.nil
        go_simp
        with_reducible refine (CUT.out _ sD1.2.2.2).mono ?_
        rintro en Wc ⟨cv2, rfl, FRc, Tc⟩
        obtain ⟨qa, qm, qc, rfl⟩ : ∃ x m y, cv2 = .slice x m y := by obtain ⟨q, _, _, r, e, _⟩ := FRc _ (Turn.refl _ _); exact ⟨q, _, r, e⟩
        have sC := F5.out _ (sD1.2.2.2.trans Tc)
        obtain ⟨v9, W9, RUNh, RO9, T9⟩ := app_fresh (r := ⟨a, L, gd⟩) (RunsO.nil W5.heap.size _) sD1.2.2.2.size Tc (by decide) FRc
        have TX9 := sC.2.2.2.comp T9 (fun q hq e => absurd hq (Nat.not_lt.2 e))
        have RUN9 := Lib.hid RUNh
        clear RUNh FRc
        go_simp
        refine hK.out _ _ ?hs8 (fun hS8 => ?_)
        case hs8 => exact sC
        clear hK K hS0
        refine wpAnyH_take (i := 8) (oi := { dst := some 83, op := Op.move (Operand.tmp 82), type := 4, pos := "step.go:34", after := #[{ on := 7, ground := Ground.data }, { on := 5, ground := Ground.chain }], guard := none }) (v := ?_) rfl (by kernel_rfl) (by kernel_rfl) (by kernel_rfl) (fun _ _ _ h => h) (Or.inl ⟨by rfl, ?hy9⟩) hS8 ?_
        case hy9 => (intro w hSw; (try dsimp only at hSw); go_simp; try with_reducible rfl)
        try simp only [Act.put, List.setIfInBounds_toArray, List.set_cons_zero, List.set_cons_succ]
        refine wpAnyH_take (i := 9) (oi := { dst := some 84, op := Op.move (Operand.tmp 12), type := 4, pos := "step.go:34", after := #[{ on := 8, ground := Ground.guard }], guard := some (8, false) }) (v := ?_) rfl (by kernel_rfl) (by kernel_rfl) (by kernel_rfl) (fun _ _ _ h => h) (Or.inl ⟨by rfl, ?hy10⟩) hS8 ?_
        case hy10 => (intro w hSw; (try dsimp only at hSw); go_simp; try with_reducible rfl)
        try simp only [Act.put, List.setIfInBounds_toArray, List.set_cons_zero, List.set_cons_succ]
        refine wpAnyH_take (i := 10) (oi := { dst := some 85, op := Op.pick (Operand.tmp 83) (Operand.const (Value.bool true)) (Operand.tmp 84), type := 4, pos := "step.go:34", after := #[{ on := 8, ground := Ground.data }, { on := 9, ground := Ground.data }], guard := none }) (v := ?_) rfl (by kernel_rfl) (by kernel_rfl) (by kernel_rfl) (fun _ _ _ h => h) (Or.inl ⟨by rfl, ?hy11⟩) hS8 ?_
        case hy11 => (intro w hSw; (try dsimp only at hSw); go_simp; try with_reducible rfl)
        try simp only [Act.put, List.setIfInBounds_toArray, List.set_cons_zero, List.set_cons_succ]
        refine wpAnyH_take (i := 11) (oi := { dst := some 86, op := Op.build 40 #[(0, Operand.tmp 77), (1, Operand.tmp 80), (2, Operand.tmp 85)], type := 40, pos := "step.go:34", after := #[{ on := 2, ground := Ground.data }, { on := 5, ground := Ground.data }, { on := 10, ground := Ground.data }], guard := none }) (v := ?_) rfl (by kernel_rfl) (by kernel_rfl) (by kernel_rfl) (fun _ _ _ h => h) (Or.inl ⟨by rfl, ?hy12⟩) hS8 ?_
        case hy12 => (intro w hSw; (try dsimp only at hSw); go_simp; try with_reducible rfl)
        try simp only [Act.put, List.setIfInBounds_toArray, List.set_cons_zero, List.set_cons_succ]
        refine wpAnyH_ready (rs := [12]) (by kernel_rfl) (by simp) ?_
        refine AllReadyH.cons (o := { dst := some 87, op := Op.buildSlice 47 1 #[(0, Operand.tmp 86)], type := 47, pos := "step.go:34", after := #[{ on := 11, ground := Ground.data }], guard := none }) rfl (fun K hK => ?_) AllReadyH.nil
        go_simp
        refine hK.out _ _ ?hs13 (fun hS13 => ?_)
        case hs13 => exact F5.out _ (sC.2.2.2.alloc _)
        clear hK K hS8
        refine wpAnyH_ready (rs := [13]) (by kernel_rfl) (by simp) ?_
        refine AllReadyH.cons (o := { dst := some 88, op := Op.call { callee := Callee.builtin Builtin.append, args := #[Operand.tmp 75, Operand.tmp 87], argTypes := #[47, 47] }, type := 47, pos := "step.go:34", after := #[{ on := 0, ground := Ground.data }, { on := 12, ground := Ground.data }, { on := 8, ground := Ground.chain }], guard := none }) rfl (fun K hK => ?_) AllReadyH.nil
        refine rs_append_run (by rfl) _ _ _ (by rfl) (by rfl) (by rfl) RUN9.out ?_
        refine hK.out _ _ ?hs14 (fun hS14 => ?_)
        case hs14 => exact F5.out _ TX9
        clear hK K hS13
        refine wpAnyH_take (i := 14) (oi := { dst := some 13, op := Op.assign (Operand.tmp 88), type := 47, pos := "step.go:34", after := #[{ on := 13, ground := Ground.data }, { on := 13, ground := Ground.chain }, { on := 0, ground := Ground.phase }, { on := 1, ground := Ground.phase }, { on := 2, ground := Ground.phase }, { on := 3, ground := Ground.phase }, { on := 4, ground := Ground.phase }, { on := 5, ground := Ground.phase }, { on := 6, ground := Ground.phase }, { on := 7, ground := Ground.phase }, { on := 8, ground := Ground.phase }, { on := 9, ground := Ground.phase }, { on := 10, ground := Ground.phase }, { on := 11, ground := Ground.phase }, { on := 12, ground := Ground.phase }, { on := 13, ground := Ground.phase }], guard := none }) (v := ?_) rfl (by kernel_rfl) (by kernel_rfl) (by kernel_rfl) (fun _ _ _ h => h) (Or.inl ⟨by rfl, ?hy15⟩) hS14 ?_
        case hy15 => (intro w hSw; (try dsimp only at hSw); go_simp; try with_reducible rfl)
        try simp only [Act.put, List.setIfInBounds_toArray, List.set_cons_zero, List.set_cons_succ]
        refine wpAnyH_done (by kernel_rfl) ?_ _
        go_wp2_with fail
        go_meet
        case rel => exact ⟨RO9, TX9⟩
      · refine wp_region_held_drew (S := fun w' => (w'.rangeAt tb 0 [.slice (some ⟨cb, co, none⟩) T.cells.length cc, .int .i64 T.win, .bool T.key] ∧ w'.rangeAt rb 0 [.int .i64 (a : Int), .slice (some ⟨sb, so, none⟩) L.length sc, .bool true] ∧ w'.rangeAt hvb (hvo + n * 6) [.int .i64 et, .int .i64 ek, .int .i64 eaa, .int .i64 ebb, .int .i64 ec, .int .i64 ed2] ∧ w'.cell? ⟨tb, 0, none⟩ = some (.slice (some ⟨cb, co, none⟩) T.cells.length cc) ∧ w'.cell? ⟨tb, 1, none⟩ = some (.int .i64 T.win) ∧ w'.cell? ⟨hb, 0, none⟩ = some (.slice (some ⟨hvb, hvo, none⟩) H.length hvc) ∧ w'.cell? ⟨rb, 0, none⟩ = some (.int .i64 (a : Int)) ∧ w'.cell? ⟨rb, 1, none⟩ = some (.slice (some ⟨sb, so, none⟩) L.length sc) ∧ w'.cell? ⟨rb, 2, none⟩ = some (.bool true) ∧ w'.cell? ⟨nb, 0, none⟩ = some (.int .i64 (n : Int))) ∧ w'.cell? ⟨eb, 0, none⟩ = some (.slice lea lm lec) ∧ w'.cell? ⟨qb, 1, none⟩ = some (.bool cp) ∧ Turn (fun _ => False) W5 w') (by kernel_rfl) ?hs0 (fun hS0 => ?_)
        case hs0 => exact sD1
        refine wpAnyH_take (i := 0) (oi := { dst := some 75, op := Op.move (Operand.tmp 13), type := 47, pos := "step.go:34", after := #[], guard := none }) (v := ?_) rfl (by kernel_rfl) (by kernel_rfl) (by kernel_rfl) (fun _ _ _ h => h) (Or.inl ⟨by rfl, ?hy1⟩) hS0 ?_
        case hy1 => (intro w hSw; (try dsimp only at hSw); go_simp; try with_reducible rfl)
        try simp only [Act.put, List.setIfInBounds_toArray, List.set_cons_zero, List.set_cons_succ]
        refine wpAnyH_take (i := 1) (oi := { dst := some 76, op := Op.fieldAddr 40 (Operand.tmp 5) 0, type := 0, pos := "step.go:34", after := #[], guard := none }) (v := ?_) rfl (by kernel_rfl) (by kernel_rfl) (by kernel_rfl) (fun _ _ _ h => h) (Or.inl ⟨by rfl, ?hy2⟩) hS0 ?_
        case hy2 => (intro w hSw; (try dsimp only at hSw); go_simp; try with_reducible rfl)
        try simp only [Act.put, List.setIfInBounds_toArray, List.set_cons_zero, List.set_cons_succ]
        refine wpAnyH_take (i := 2) (oi := { dst := some 77, op := Op.load 3 (Operand.tmp 76), type := 3, pos := "step.go:34", after := #[{ on := 1, ground := Ground.data }], guard := none }) (v := ?_) rfl (by kernel_rfl) (by kernel_rfl) (by kernel_rfl) (fun _ _ _ h => h) (Or.inl ⟨by rfl, ?hy3⟩) hS0 ?_
        case hy3 => (intro w hSw; (try dsimp only at hSw); go_simp; try with_reducible rfl)
        try simp only [Act.put, List.setIfInBounds_toArray, List.set_cons_zero, List.set_cons_succ]
        refine wpAnyH_take (i := 3) (oi := { dst := some 78, op := Op.fieldAddr 40 (Operand.tmp 5) 1, type := 0, pos := "step.go:34", after := #[], guard := none }) (v := ?_) rfl (by kernel_rfl) (by kernel_rfl) (by kernel_rfl) (fun _ _ _ h => h) (Or.inl ⟨by rfl, ?hy4⟩) hS0 ?_
        case hy4 => (intro w hSw; (try dsimp only at hSw); go_simp; try with_reducible rfl)
        try simp only [Act.put, List.setIfInBounds_toArray, List.set_cons_zero, List.set_cons_succ]
        refine wpAnyH_take (i := 4) (oi := { dst := some 79, op := Op.load 38 (Operand.tmp 78), type := 38, pos := "step.go:34", after := #[{ on := 3, ground := Ground.data }], guard := none }) (v := ?_) rfl (by kernel_rfl) (by kernel_rfl) (by kernel_rfl) (fun _ _ _ h => h) (Or.inl ⟨by rfl, ?hy5⟩) hS0 ?_
        case hy5 => (intro w hSw; (try dsimp only at hSw); go_simp; try with_reducible rfl)
        try simp only [Act.put, List.setIfInBounds_toArray, List.set_cons_zero, List.set_cons_succ]
        refine wpAnyH_take (i := 6) (oi := { dst := some 81, op := Op.fieldAddr 40 (Operand.tmp 5) 2, type := 0, pos := "step.go:34", after := #[], guard := none }) (v := ?_) rfl (by kernel_rfl) (by kernel_rfl) (by kernel_rfl) (fun _ _ _ h => h) (Or.inl ⟨by rfl, ?hy6⟩) hS0 ?_
        case hy6 => (intro w hSw; (try dsimp only at hSw); go_simp; try with_reducible rfl)
        try simp only [Act.put, List.setIfInBounds_toArray, List.set_cons_zero, List.set_cons_succ]
        refine wpAnyH_take (i := 7) (oi := { dst := some 82, op := Op.load 4 (Operand.tmp 81), type := 4, pos := "step.go:34", after := #[{ on := 6, ground := Ground.data }], guard := none }) (v := ?_) rfl (by kernel_rfl) (by kernel_rfl) (by kernel_rfl) (fun _ _ _ h => h) (Or.inl ⟨by rfl, ?hy7⟩) hS0 ?_
        case hy7 => (intro w hSw; (try dsimp only at hSw); go_simp; try with_reducible rfl)
        try simp only [Act.put, List.setIfInBounds_toArray, List.set_cons_zero, List.set_cons_succ]
        refine wpAnyH_ready (rs := [5]) (by kernel_rfl) (by simp) ?_
        refine AllReadyH.cons (o := { dst := some 80, op := Op.call { callee := Callee.value (Operand.func 37), args := #[Operand.tmp 79], argTypes := #[38] }, type := 38, pos := "step.go:34", after := #[{ on := 4, ground := Ground.data }], guard := none }) rfl (fun K hK => ?_) AllReadyH.nil
        go_simp
        with_reducible refine (CUT.out _ sD1.2.2.2).mono ?_
        rintro en Wc ⟨cv2, rfl, FRc, Tc⟩
        obtain ⟨qa, qm, qc, rfl⟩ : ∃ x m y, cv2 = .slice x m y := by obtain ⟨q, _, _, r, e, _⟩ := FRc _ (Turn.refl _ _); exact ⟨q, _, r, e⟩
        have sC := F5.out _ (sD1.2.2.2.trans Tc)
        obtain ⟨v9, W9, RUNh, RO9, T9⟩ := app_fresh (r := ⟨a, L, true⟩) (RunsO.nil W5.heap.size _) sD1.2.2.2.size Tc (by decide) FRc
        have TX9 := sC.2.2.2.comp T9 (fun q hq e => absurd hq (Nat.not_lt.2 e))
        have RUN9 := Lib.hid RUNh
        clear RUNh FRc
        go_simp
        refine hK.out _ _ ?hs8 (fun hS8 => ?_)
        case hs8 => exact sC
        clear hK K hS0
        refine wpAnyH_take (i := 8) (oi := { dst := some 83, op := Op.move (Operand.tmp 82), type := 4, pos := "step.go:34", after := #[{ on := 7, ground := Ground.data }, { on := 5, ground := Ground.chain }], guard := none }) (v := ?_) rfl (by kernel_rfl) (by kernel_rfl) (by kernel_rfl) (fun _ _ _ h => h) (Or.inl ⟨by rfl, ?hy9⟩) hS8 ?_
        case hy9 => (intro w hSw; (try dsimp only at hSw); go_simp; try with_reducible rfl)
        try simp only [Act.put, List.setIfInBounds_toArray, List.set_cons_zero, List.set_cons_succ]
        refine wpAnyH_take (i := 9) (oi := { dst := some 84, op := Op.move (Operand.tmp 12), type := 4, pos := "step.go:34", after := #[{ on := 8, ground := Ground.guard }], guard := some (8, false) }) (v := undef) rfl (by kernel_rfl) (by kernel_rfl) (by kernel_rfl) (fun _ _ _ h => h) (Or.inr ⟨by rfl, rfl⟩) hS8 ?_
        try simp only [Act.put, List.setIfInBounds_toArray, List.set_cons_zero, List.set_cons_succ]
        refine wpAnyH_take (i := 10) (oi := { dst := some 85, op := Op.pick (Operand.tmp 83) (Operand.const (Value.bool true)) (Operand.tmp 84), type := 4, pos := "step.go:34", after := #[{ on := 8, ground := Ground.data }, { on := 9, ground := Ground.data }], guard := none }) (v := ?_) rfl (by kernel_rfl) (by kernel_rfl) (by kernel_rfl) (fun _ _ _ h => h) (Or.inl ⟨by rfl, ?hy11⟩) hS8 ?_
        case hy11 => (intro w hSw; (try dsimp only at hSw); go_simp; try with_reducible rfl)
        try simp only [Act.put, List.setIfInBounds_toArray, List.set_cons_zero, List.set_cons_succ]
        refine wpAnyH_take (i := 11) (oi := { dst := some 86, op := Op.build 40 #[(0, Operand.tmp 77), (1, Operand.tmp 80), (2, Operand.tmp 85)], type := 40, pos := "step.go:34", after := #[{ on := 2, ground := Ground.data }, { on := 5, ground := Ground.data }, { on := 10, ground := Ground.data }], guard := none }) (v := ?_) rfl (by kernel_rfl) (by kernel_rfl) (by kernel_rfl) (fun _ _ _ h => h) (Or.inl ⟨by rfl, ?hy12⟩) hS8 ?_
        case hy12 => (intro w hSw; (try dsimp only at hSw); go_simp; try with_reducible rfl)
        try simp only [Act.put, List.setIfInBounds_toArray, List.set_cons_zero, List.set_cons_succ]
        refine wpAnyH_ready (rs := [12]) (by kernel_rfl) (by simp) ?_
        refine AllReadyH.cons (o := { dst := some 87, op := Op.buildSlice 47 1 #[(0, Operand.tmp 86)], type := 47, pos := "step.go:34", after := #[{ on := 11, ground := Ground.data }], guard := none }) rfl (fun K hK => ?_) AllReadyH.nil
        go_simp
        refine hK.out _ _ ?hs13 (fun hS13 => ?_)
        case hs13 => exact F5.out _ (sC.2.2.2.alloc _)
        clear hK K hS8
        refine wpAnyH_ready (rs := [13]) (by kernel_rfl) (by simp) ?_
        refine AllReadyH.cons (o := { dst := some 88, op := Op.call { callee := Callee.builtin Builtin.append, args := #[Operand.tmp 75, Operand.tmp 87], argTypes := #[47, 47] }, type := 47, pos := "step.go:34", after := #[{ on := 0, ground := Ground.data }, { on := 12, ground := Ground.data }, { on := 8, ground := Ground.chain }], guard := none }) rfl (fun K hK => ?_) AllReadyH.nil
        refine rs_append_run (by rfl) _ _ _ (by rfl) (by rfl) (by rfl) RUN9.out ?_
        refine hK.out _ _ ?hs14 (fun hS14 => ?_)
        case hs14 => exact F5.out _ TX9
        clear hK K hS13
        refine wpAnyH_take (i := 14) (oi := { dst := some 13, op := Op.assign (Operand.tmp 88), type := 47, pos := "step.go:34", after := #[{ on := 13, ground := Ground.data }, { on := 13, ground := Ground.chain }, { on := 0, ground := Ground.phase }, { on := 1, ground := Ground.phase }, { on := 2, ground := Ground.phase }, { on := 3, ground := Ground.phase }, { on := 4, ground := Ground.phase }, { on := 5, ground := Ground.phase }, { on := 6, ground := Ground.phase }, { on := 7, ground := Ground.phase }, { on := 8, ground := Ground.phase }, { on := 9, ground := Ground.phase }, { on := 10, ground := Ground.phase }, { on := 11, ground := Ground.phase }, { on := 12, ground := Ground.phase }, { on := 13, ground := Ground.phase }], guard := none }) (v := ?_) rfl (by kernel_rfl) (by kernel_rfl) (by kernel_rfl) (fun _ _ _ h => h) (Or.inl ⟨by rfl, ?hy15⟩) hS14 ?_
        case hy15 => (intro w hSw; (try dsimp only at hSw); go_simp; try with_reducible rfl)
        try simp only [Act.put, List.setIfInBounds_toArray, List.set_cons_zero, List.set_cons_succ]
        refine wpAnyH_done (by kernel_rfl) ?_ _
        go_wp2_with fail
        go_meet
        case rel => exact ⟨RO9, TX9⟩
  case rest =>
  obtain ⟨RO1, TC1⟩ := hcut
  rename World => Wx1
  obtain ⟨l1, hl1⟩ : ∃ l, l = (if t10 = true then [⟨a, L, bl || gd⟩] else ([] : List Rn)) := ⟨_, rfl⟩
  rw [← hl1] at RO1
  have N1 : l1.length ≤ 1 := by rw [hl1]; split <;> simp
  have HL1 := Lib.hid hl1
  obtain ⟨t12, ht12⟩ : ∃ t, t = (cp && takesB (L.map (pickE H)) a ⟨et, ek, eaa, ebb, ec, ed2⟩ c) := ⟨_, rfl⟩
  have HT12 := Lib.hid ht12
  have yq := (F5.out Wx1 TC1).2.2.1
  have y7 := (F5.out Wx1 TC1).1.2.2.2.2.2.2.1
  have HTC1 := Lib.hid TC1
  clear hl1 ht12
  go_upto_region 12 with fail
  go_cut [96] from 89 (fun v96 wx => v96 = .bool t12 ∧ Turn (fun _ => False) Wx1 wx)
  case first =>
    cases cp
    · go_wp2_with fail
      go_meet
      case rel => exact ⟨by rw [HT12.out]; rfl, Turn.refl _ _⟩
    · go_wp2_with fail
      with_reducible refine (TK.out a c HC.out _ HTC1.out).mono ?_
      rintro en Wk ⟨rfl, Tk⟩
      have HTk := Lib.hid Tk
      clear Tk
      go_wp2_with fail
      go_meet
      case rel => exact ⟨by rw [HT12.out]; rfl, HTk.out⟩
  case rest =>
  obtain ⟨rfl, TC2⟩ := hcut
  rename World => Wx2
  clear yq y7
  go_upto_if 96 with fail
  go_cut [13] from 89 (fun v13 wx => RunsO W5.heap.size wx v13 (l1 ++ if t12 = true then [⟨a, putN L a (n : Int), false⟩] else []) ∧ Turn (fun _ => False) W5 wx)
  case first =>
    cases t12
    · go_wp2_with fail
      go_meet
      case rel => exact ⟨by rw [if_neg (by simp), List.append_nil]; exact RO1.turn TC2, TC1.trans TC2⟩
    · go_upto_region 13 with fail
      have sD1 := F5.out Wx2.drew ((TC1.trans TC2).drewN 1)
      have RO0 := RO1.turn (TC2.drewN 1)
      refine wp_region_held_drew (S := fun w' => (w'.rangeAt tb 0 [.slice (some ⟨cb, co, none⟩) T.cells.length cc, .int .i64 T.win, .bool T.key] ∧ w'.rangeAt rb 0 [.int .i64 (a : Int), .slice (some ⟨sb, so, none⟩) L.length sc, .bool bl] ∧ w'.rangeAt hvb (hvo + n * 6) [.int .i64 et, .int .i64 ek, .int .i64 eaa, .int .i64 ebb, .int .i64 ec, .int .i64 ed2] ∧ w'.cell? ⟨tb, 0, none⟩ = some (.slice (some ⟨cb, co, none⟩) T.cells.length cc) ∧ w'.cell? ⟨tb, 1, none⟩ = some (.int .i64 T.win) ∧ w'.cell? ⟨hb, 0, none⟩ = some (.slice (some ⟨hvb, hvo, none⟩) H.length hvc) ∧ w'.cell? ⟨rb, 0, none⟩ = some (.int .i64 (a : Int)) ∧ w'.cell? ⟨rb, 1, none⟩ = some (.slice (some ⟨sb, so, none⟩) L.length sc) ∧ w'.cell? ⟨rb, 2, none⟩ = some (.bool bl) ∧ w'.cell? ⟨nb, 0, none⟩ = some (.int .i64 (n : Int))) ∧ w'.cell? ⟨eb, 0, none⟩ = some (.slice lea lm lec) ∧ w'.cell? ⟨qb, 1, none⟩ = some (.bool cp) ∧ Turn (fun _ => False) W5 w') (by kernel_rfl) ?hs0 (fun hS0 => ?_)
      case hs0 => exact sD1
      refine wpAnyH_take (i := 0) (oi := { dst := some 97, op := Op.move (Operand.tmp 13), type := 47, pos := "step.go:37", after := #[], guard := none }) (v := ?_) rfl (by kernel_rfl) (by kernel_rfl) (by kernel_rfl) (fun _ _ _ h => h) (Or.inl ⟨by rfl, ?hy1⟩) hS0 ?_
      case hy1 => (intro w hSw; (try dsimp only at hSw); go_simp; try with_reducible rfl)
      try simp only [Act.put, List.setIfInBounds_toArray, List.set_cons_zero, List.set_cons_succ]
      refine wpAnyH_take (i := 1) (oi := { dst := some 98, op := Op.fieldAddr 40 (Operand.tmp 5) 0, type := 0, pos := "step.go:37", after := #[], guard := none }) (v := ?_) rfl (by kernel_rfl) (by kernel_rfl) (by kernel_rfl) (fun _ _ _ h => h) (Or.inl ⟨by rfl, ?hy2⟩) hS0 ?_
      case hy2 => (intro w hSw; (try dsimp only at hSw); go_simp; try with_reducible rfl)
      try simp only [Act.put, List.setIfInBounds_toArray, List.set_cons_zero, List.set_cons_succ]
      refine wpAnyH_take (i := 2) (oi := { dst := some 99, op := Op.load 3 (Operand.tmp 98), type := 3, pos := "step.go:37", after := #[{ on := 1, ground := Ground.data }], guard := none }) (v := ?_) rfl (by kernel_rfl) (by kernel_rfl) (by kernel_rfl) (fun _ _ _ h => h) (Or.inl ⟨by rfl, ?hy3⟩) hS0 ?_
      case hy3 => (intro w hSw; (try dsimp only at hSw); go_simp; try with_reducible rfl)
      try simp only [Act.put, List.setIfInBounds_toArray, List.set_cons_zero, List.set_cons_succ]
      refine wpAnyH_take (i := 3) (oi := { dst := some 100, op := Op.fieldAddr 40 (Operand.tmp 5) 1, type := 0, pos := "step.go:37", after := #[], guard := none }) (v := ?_) rfl (by kernel_rfl) (by kernel_rfl) (by kernel_rfl) (fun _ _ _ h => h) (Or.inl ⟨by rfl, ?hy4⟩) hS0 ?_
      case hy4 => (intro w hSw; (try dsimp only at hSw); go_simp; try with_reducible rfl)
      try simp only [Act.put, List.setIfInBounds_toArray, List.set_cons_zero, List.set_cons_succ]
      refine wpAnyH_take (i := 4) (oi := { dst := some 101, op := Op.load 38 (Operand.tmp 100), type := 38, pos := "step.go:37", after := #[{ on := 3, ground := Ground.data }], guard := none }) (v := ?_) rfl (by kernel_rfl) (by kernel_rfl) (by kernel_rfl) (fun _ _ _ h => h) (Or.inl ⟨by rfl, ?hy5⟩) hS0 ?_
      case hy5 => (intro w hSw; (try dsimp only at hSw); go_simp; try with_reducible rfl)
      try simp only [Act.put, List.setIfInBounds_toArray, List.set_cons_zero, List.set_cons_succ]
      refine wpAnyH_take (i := 5) (oi := { dst := some 102, op := Op.fieldAddr 40 (Operand.tmp 5) 0, type := 0, pos := "step.go:37", after := #[], guard := none }) (v := ?_) rfl (by kernel_rfl) (by kernel_rfl) (by kernel_rfl) (fun _ _ _ h => h) (Or.inl ⟨by rfl, ?hy6⟩) hS0 ?_
      case hy6 => (intro w hSw; (try dsimp only at hSw); go_simp; try with_reducible rfl)
      try simp only [Act.put, List.setIfInBounds_toArray, List.set_cons_zero, List.set_cons_succ]
      refine wpAnyH_take (i := 6) (oi := { dst := some 103, op := Op.load 3 (Operand.tmp 102), type := 3, pos := "step.go:37", after := #[{ on := 5, ground := Ground.data }], guard := none }) (v := ?_) rfl (by kernel_rfl) (by kernel_rfl) (by kernel_rfl) (fun _ _ _ h => h) (Or.inl ⟨by rfl, ?hy7⟩) hS0 ?_
      case hy7 => (intro w hSw; (try dsimp only at hSw); go_simp; try with_reducible rfl)
      try simp only [Act.put, List.setIfInBounds_toArray, List.set_cons_zero, List.set_cons_succ]
      refine wpAnyH_take (i := 7) (oi := { dst := some 104, op := Op.load 3 (Operand.tmp 7), type := 3, pos := "step.go:37", after := #[], guard := none }) (v := ?_) rfl (by kernel_rfl) (by kernel_rfl) (by kernel_rfl) (fun _ _ _ h => h) (Or.inl ⟨by rfl, ?hy8⟩) hS0 ?_
      case hy8 => (intro w hSw; (try dsimp only at hSw); go_simp; try with_reducible rfl)
      try simp only [Act.put, List.setIfInBounds_toArray, List.set_cons_zero, List.set_cons_succ]
      refine wpAnyH_ready (rs := [8]) (by kernel_rfl) (by simp) ?_
      refine AllReadyH.cons (o := { dst := some 105, op := Op.call { callee := Callee.value (Operand.func 38), args := #[Operand.tmp 101, Operand.tmp 103, Operand.tmp 104], argTypes := #[38, 3, 3] }, type := 38, pos := "step.go:37", after := #[{ on := 4, ground := Ground.data }, { on := 6, ground := Ground.data }, { on := 7, ground := Ground.data }], guard := none }) rfl (fun K hK => ?_) AllReadyH.nil
      go_simp
      with_reducible refine (PUT.out a (Or.inl LIM.out.2) _ sD1.2.2.2).mono ?_
      rintro en Wc ⟨cv2, rfl, FRc, Tc⟩
      obtain ⟨qa, qm, qc, rfl⟩ : ∃ x m y, cv2 = .slice x m y := by obtain ⟨q, _, _, r, e, _⟩ := FRc _ (Turn.refl _ _); exact ⟨q, _, r, e⟩
      have sC := F5.out _ (sD1.2.2.2.trans Tc)
      obtain ⟨v9, W9, RUNh, RO9, T9⟩ := app_fresh (r := ⟨a, putN L a (n : Int), false⟩) RO0 sD1.2.2.2.size Tc (Nat.le_trans N1 (by decide)) FRc
      have TX9 := sC.2.2.2.comp T9 (fun q hq e => absurd hq (Nat.not_lt.2 e))
      have RUN9 := Lib.hid RUNh
      clear RUNh FRc
      go_simp
      refine hK.out _ _ ?hs9 (fun hS9 => ?_)
      case hs9 => exact sC
      clear hK K hS0
      refine wpAnyH_take (i := 9) (oi := { dst := some 106, op := Op.build 40 #[(0, Operand.tmp 99), (1, Operand.tmp 105)], type := 40, pos := "step.go:37", after := #[{ on := 2, ground := Ground.data }, { on := 8, ground := Ground.data }], guard := none }) (v := ?_) rfl (by kernel_rfl) (by kernel_rfl) (by kernel_rfl) (fun _ _ _ h => h) (Or.inl ⟨by rfl, ?hy10⟩) hS9 ?_
      case hy10 => (intro w hSw; (try dsimp only at hSw); go_simp; try with_reducible rfl)
      try simp only [Act.put, List.setIfInBounds_toArray, List.set_cons_zero, List.set_cons_succ]
      refine wpAnyH_ready (rs := [10]) (by kernel_rfl) (by simp) ?_
      refine AllReadyH.cons (o := { dst := some 107, op := Op.buildSlice 47 1 #[(0, Operand.tmp 106)], type := 47, pos := "step.go:37", after := #[{ on := 9, ground := Ground.data }], guard := none }) rfl (fun K hK => ?_) AllReadyH.nil
      go_simp
      refine hK.out _ _ ?hs11 (fun hS11 => ?_)
      case hs11 => exact F5.out _ (sC.2.2.2.alloc _)
      clear hK K hS9
      refine wpAnyH_ready (rs := [11]) (by kernel_rfl) (by simp) ?_
      refine AllReadyH.cons (o := { dst := some 108, op := Op.call { callee := Callee.builtin Builtin.append, args := #[Operand.tmp 97, Operand.tmp 107], argTypes := #[47, 47] }, type := 47, pos := "step.go:37", after := #[{ on := 0, ground := Ground.data }, { on := 10, ground := Ground.data }, { on := 8, ground := Ground.chain }], guard := none }) rfl (fun K hK => ?_) AllReadyH.nil
      refine rs_append_run (by rfl) _ _ _ (by rfl) (by rfl) (by rfl) RUN9.out ?_
      refine hK.out _ _ ?hs12 (fun hS12 => ?_)
      case hs12 => exact F5.out _ TX9
      clear hK K hS11
      refine wpAnyH_take (i := 12) (oi := { dst := some 13, op := Op.assign (Operand.tmp 108), type := 47, pos := "step.go:37", after := #[{ on := 11, ground := Ground.data }, { on := 11, ground := Ground.chain }, { on := 0, ground := Ground.phase }, { on := 1, ground := Ground.phase }, { on := 2, ground := Ground.phase }, { on := 3, ground := Ground.phase }, { on := 4, ground := Ground.phase }, { on := 5, ground := Ground.phase }, { on := 6, ground := Ground.phase }, { on := 7, ground := Ground.phase }, { on := 8, ground := Ground.phase }, { on := 9, ground := Ground.phase }, { on := 10, ground := Ground.phase }, { on := 11, ground := Ground.phase }], guard := none }) (v := ?_) rfl (by kernel_rfl) (by kernel_rfl) (by kernel_rfl) (fun _ _ _ h => h) (Or.inl ⟨by rfl, ?hy13⟩) hS12 ?_
      case hy13 => (intro w hSw; (try dsimp only at hSw); go_simp; try with_reducible rfl)
      try simp only [Act.put, List.setIfInBounds_toArray, List.set_cons_zero, List.set_cons_succ]
      refine wpAnyH_done (by kernel_rfl) ?_ _
      go_wp2_with fail
      go_meet
      case rel => exact ⟨RO9, TX9⟩
  case rest =>
  obtain ⟨RO2, TC3⟩ := hcut
  rename World => Wx3
  clear RO1 TC1 TC2 HTC1
  obtain ⟨l2, hl2⟩ : ∃ l, l = l1 ++ (if t12 = true then [⟨a, putN L a (n : Int), false⟩] else []) := ⟨_, rfl⟩
  rw [← hl2] at RO2
  have N2 : l2.length ≤ 2 := by
    rw [hl2, List.length_append]
    have : (if t12 = true then [(⟨a, putN L a (n : Int), false⟩ : Rn)] else []).length ≤ 1 := by split <;> simp
    omega
  have HL2 := Lib.hid hl2
  obtain ⟨t14, ht14⟩ : ∃ t, t = nextB T (L.map (pickE H)) a bl ⟨et, ek, eaa, ebb, ec, ed2⟩ := ⟨_, rfl⟩
  have HT14 := Lib.hid ht14
  have y4 := (F5.out Wx3 TC3).1.2.2.2.1
  have y7 := (F5.out Wx3 TC3).1.2.2.2.2.2.2.1
  have y9 := (F5.out Wx3 TC3).1.2.2.2.2.2.2.2.2.1
  clear hl2 ht14
  go_upto_region 14 with fail
  go_cut [127] from 109 (fun v127 wx => v127 = .bool t14 ∧ Turn (fun _ => False) Wx3 wx)
  case first =>
    by_cases hk : aa < T.cells.length
    · have u1 : decide ((aa : Int) < (T.cells.length : Int)) = true := decide_eq_true (Int.ofNat_lt.2 hk)
      have u2 : decide (aa < T.cells.length) = true := decide_eq_true hk
      obtain ⟨c2, hc2⟩ : ∃ c, T.cells[aa]? = some c := ⟨_, List.getElem?_eq_getElem hk⟩
      have HB := Lib.hid (show t14 = (!bl && takesB (L.map (pickE H)) aa ⟨et, ek, eaa, ebb, ec, ed2⟩ c2) by
        rw [HT14.out]
        unfold nextB
        rw [← HST.out.2.2.2, hc2])
      have TK2 := Lib.hid (TK.out aa c2 hc2 _ TC3)
      clear hc2
      cases bl
      · go_wp2_with fail
        with_reducible refine TK2.out.mono ?_
        rintro en Wk ⟨rfl, Tk⟩
        have HTk := Lib.hid Tk
        clear Tk TK2
        go_wp2_with fail
        go_meet
        case rel => exact ⟨by rw [HB.out]; rfl, HTk.out⟩
      · go_wp2_with fail
        go_meet
        case rel => exact ⟨by rw [HB.out]; rfl, Turn.refl _ _⟩
    · have u1 : decide ((aa : Int) < (T.cells.length : Int)) = false := decide_eq_false (fun h => hk (Int.ofNat_lt.1 h))
      have u2 : decide (aa < T.cells.length) = false := decide_eq_false hk
      have HB := Lib.hid (show t14 = false by
        rw [HT14.out]
        unfold nextB
        rw [← HST.out.2.2.2, List.getElem?_eq_none (Nat.not_lt.1 hk)])
      go_wp2_with fail
      go_meet
      case rel => exact ⟨by rw [HB.out], Turn.refl _ _⟩
  case rest =>
  obtain ⟨rfl, TC4⟩ := hcut
  rename World => Wx4
  clear y4 y7 y9
  go_upto_if 127 with fail
  go_cut [13] from 109 (fun v13 wx => RunsO W5.heap.size wx v13 (l2 ++ if t14 = true then [⟨aa, putN L aa (n : Int), false⟩] else []) ∧ Turn (fun _ => False) W5 wx)
  case first =>
    cases t14
    · go_wp2_with fail
      go_meet
      case rel => exact ⟨by rw [if_neg (by simp), List.append_nil]; exact RO2.turn TC4, TC3.trans TC4⟩
    · go_upto_region 15 with fail
      have sD1 := F5.out Wx4.drew ((TC3.trans TC4).drewN 1)
      have RO0 := RO2.turn (TC4.drewN 1)
      have ek3 := HK3.out
      have LAA := Lib.hid (show L.length = aa from LIM.out.2.trans HST.out.2.2.2.symm)
      refine wp_region_held_drew (S := fun w' => (w'.rangeAt tb 0 [.slice (some ⟨cb, co, none⟩) T.cells.length cc, .int .i64 T.win, .bool T.key] ∧ w'.rangeAt rb 0 [.int .i64 (a : Int), .slice (some ⟨sb, so, none⟩) L.length sc, .bool bl] ∧ w'.rangeAt hvb (hvo + n * 6) [.int .i64 et, .int .i64 ek, .int .i64 eaa, .int .i64 ebb, .int .i64 ec, .int .i64 ed2] ∧ w'.cell? ⟨tb, 0, none⟩ = some (.slice (some ⟨cb, co, none⟩) T.cells.length cc) ∧ w'.cell? ⟨tb, 1, none⟩ = some (.int .i64 T.win) ∧ w'.cell? ⟨hb, 0, none⟩ = some (.slice (some ⟨hvb, hvo, none⟩) H.length hvc) ∧ w'.cell? ⟨rb, 0, none⟩ = some (.int .i64 (a : Int)) ∧ w'.cell? ⟨rb, 1, none⟩ = some (.slice (some ⟨sb, so, none⟩) L.length sc) ∧ w'.cell? ⟨rb, 2, none⟩ = some (.bool bl) ∧ w'.cell? ⟨nb, 0, none⟩ = some (.int .i64 (n : Int))) ∧ w'.cell? ⟨eb, 0, none⟩ = some (.slice lea lm lec) ∧ w'.cell? ⟨qb, 1, none⟩ = some (.bool cp) ∧ Turn (fun _ => False) W5 w') (by kernel_rfl) ?hs0 (fun hS0 => ?_)
      case hs0 => exact sD1
      refine wpAnyH_take (i := 0) (oi := { dst := some 128, op := Op.move (Operand.tmp 13), type := 47, pos := "step.go:40", after := #[], guard := none }) (v := ?_) rfl (by kernel_rfl) (by kernel_rfl) (by kernel_rfl) (fun _ _ _ h => h) (Or.inl ⟨by rfl, ?hy1⟩) hS0 ?_
      case hy1 => (intro w hSw; (try dsimp only at hSw); go_simp; try with_reducible rfl)
      try simp only [Act.put, List.setIfInBounds_toArray, List.set_cons_zero, List.set_cons_succ]
      refine wpAnyH_take (i := 1) (oi := { dst := some 129, op := Op.fieldAddr 40 (Operand.tmp 5) 0, type := 0, pos := "step.go:40", after := #[], guard := none }) (v := ?_) rfl (by kernel_rfl) (by kernel_rfl) (by kernel_rfl) (fun _ _ _ h => h) (Or.inl ⟨by rfl, ?hy2⟩) hS0 ?_
      case hy2 => (intro w hSw; (try dsimp only at hSw); go_simp; try with_reducible rfl)
      try simp only [Act.put, List.setIfInBounds_toArray, List.set_cons_zero, List.set_cons_succ]
      refine wpAnyH_take (i := 2) (oi := { dst := some 130, op := Op.load 3 (Operand.tmp 129), type := 3, pos := "step.go:40", after := #[{ on := 1, ground := Ground.data }], guard := none }) (v := ?_) rfl (by kernel_rfl) (by kernel_rfl) (by kernel_rfl) (fun _ _ _ h => h) (Or.inl ⟨by rfl, ?hy3⟩) hS0 ?_
      case hy3 => (intro w hSw; (try dsimp only at hSw); go_simp; try with_reducible rfl)
      try simp only [Act.put, List.setIfInBounds_toArray, List.set_cons_zero, List.set_cons_succ]
      refine wpAnyH_take (i := 3) (oi := { dst := some 131, op := Op.binOp BinOp.add 3 (Operand.tmp 130) (Operand.const (Value.int IntKind.i64 1)) 3, type := 3, pos := "step.go:40", after := #[{ on := 2, ground := Ground.data }], guard := none }) (v := ?_) rfl (by kernel_rfl) (by kernel_rfl) (by kernel_rfl) (fun _ _ _ h => h) (Or.inl ⟨by rfl, ?hy4⟩) hS0 ?_
      case hy4 => (intro w hSw; (try dsimp only at hSw); go_simp; try with_reducible rfl)
      try simp only [Act.put, List.setIfInBounds_toArray, List.set_cons_zero, List.set_cons_succ]
      refine wpAnyH_take (i := 4) (oi := { dst := some 132, op := Op.fieldAddr 40 (Operand.tmp 5) 1, type := 0, pos := "step.go:40", after := #[], guard := none }) (v := ?_) rfl (by kernel_rfl) (by kernel_rfl) (by kernel_rfl) (fun _ _ _ h => h) (Or.inl ⟨by rfl, ?hy5⟩) hS0 ?_
      case hy5 => (intro w hSw; (try dsimp only at hSw); go_simp; try with_reducible rfl)
      try simp only [Act.put, List.setIfInBounds_toArray, List.set_cons_zero, List.set_cons_succ]
      refine wpAnyH_take (i := 5) (oi := { dst := some 133, op := Op.load 38 (Operand.tmp 132), type := 38, pos := "step.go:40", after := #[{ on := 4, ground := Ground.data }], guard := none }) (v := ?_) rfl (by kernel_rfl) (by kernel_rfl) (by kernel_rfl) (fun _ _ _ h => h) (Or.inl ⟨by rfl, ?hy6⟩) hS0 ?_
      case hy6 => (intro w hSw; (try dsimp only at hSw); go_simp; try with_reducible rfl)
      try simp only [Act.put, List.setIfInBounds_toArray, List.set_cons_zero, List.set_cons_succ]
      refine wpAnyH_take (i := 6) (oi := { dst := some 134, op := Op.fieldAddr 40 (Operand.tmp 5) 0, type := 0, pos := "step.go:40", after := #[], guard := none }) (v := ?_) rfl (by kernel_rfl) (by kernel_rfl) (by kernel_rfl) (fun _ _ _ h => h) (Or.inl ⟨by rfl, ?hy7⟩) hS0 ?_
      case hy7 => (intro w hSw; (try dsimp only at hSw); go_simp; try with_reducible rfl)
      try simp only [Act.put, List.setIfInBounds_toArray, List.set_cons_zero, List.set_cons_succ]
      refine wpAnyH_take (i := 7) (oi := { dst := some 135, op := Op.load 3 (Operand.tmp 134), type := 3, pos := "step.go:40", after := #[{ on := 6, ground := Ground.data }], guard := none }) (v := ?_) rfl (by kernel_rfl) (by kernel_rfl) (by kernel_rfl) (fun _ _ _ h => h) (Or.inl ⟨by rfl, ?hy8⟩) hS0 ?_
      case hy8 => (intro w hSw; (try dsimp only at hSw); go_simp; try with_reducible rfl)
      try simp only [Act.put, List.setIfInBounds_toArray, List.set_cons_zero, List.set_cons_succ]
      refine wpAnyH_take (i := 8) (oi := { dst := some 136, op := Op.binOp BinOp.add 3 (Operand.tmp 135) (Operand.const (Value.int IntKind.i64 1)) 3, type := 3, pos := "step.go:40", after := #[{ on := 7, ground := Ground.data }], guard := none }) (v := ?_) rfl (by kernel_rfl) (by kernel_rfl) (by kernel_rfl) (fun _ _ _ h => h) (Or.inl ⟨by rfl, ?hy9⟩) hS0 ?_
      case hy9 => (intro w hSw; (try dsimp only at hSw); go_simp; try with_reducible rfl)
      try simp only [Act.put, List.setIfInBounds_toArray, List.set_cons_zero, List.set_cons_succ]
      refine wpAnyH_take (i := 9) (oi := { dst := some 137, op := Op.load 3 (Operand.tmp 7), type := 3, pos := "step.go:40", after := #[], guard := none }) (v := ?_) rfl (by kernel_rfl) (by kernel_rfl) (by kernel_rfl) (fun _ _ _ h => h) (Or.inl ⟨by rfl, ?hy10⟩) hS0 ?_
      case hy10 => (intro w hSw; (try dsimp only at hSw); go_simp; try with_reducible rfl)
      try simp only [Act.put, List.setIfInBounds_toArray, List.set_cons_zero, List.set_cons_succ]
      refine wpAnyH_ready (rs := [10]) (by kernel_rfl) (by simp) ?_
      refine AllReadyH.cons (o := { dst := some 138, op := Op.call { callee := Callee.value (Operand.func 38), args := #[Operand.tmp 133, Operand.tmp 136, Operand.tmp 137], argTypes := #[38, 3, 3] }, type := 38, pos := "step.go:40", after := #[{ on := 5, ground := Ground.data }, { on := 8, ground := Ground.data }, { on := 9, ground := Ground.data }], guard := none }) rfl (fun K hK => ?_) AllReadyH.nil
      go_simp
      with_reducible refine (PUT.out aa (Or.inr LAA.out) _ sD1.2.2.2).mono ?_
      rintro en Wc ⟨cv2, rfl, FRc, Tc⟩
      obtain ⟨qa, qm, qc, rfl⟩ : ∃ x m y, cv2 = .slice x m y := by obtain ⟨q, _, _, r, e, _⟩ := FRc _ (Turn.refl _ _); exact ⟨q, _, r, e⟩
      have sC := F5.out _ (sD1.2.2.2.trans Tc)
      obtain ⟨v9, W9, RUNh, RO9, T9⟩ := app_fresh (r := ⟨aa, putN L aa (n : Int), false⟩) RO0 sD1.2.2.2.size Tc (Nat.le_trans N2 (by decide)) FRc
      have TX9 := sC.2.2.2.comp T9 (fun q hq e => absurd hq (Nat.not_lt.2 e))
      have RUN9 := Lib.hid RUNh
      clear RUNh FRc
      go_simp
      refine hK.out _ _ ?hs11 (fun hS11 => ?_)
      case hs11 => exact sC
      clear hK K hS0
      refine wpAnyH_take (i := 11) (oi := { dst := some 139, op := Op.build 40 #[(0, Operand.tmp 131), (1, Operand.tmp 138)], type := 40, pos := "step.go:40", after := #[{ on := 3, ground := Ground.data }, { on := 10, ground := Ground.data }], guard := none }) (v := ?_) rfl (by kernel_rfl) (by kernel_rfl) (by kernel_rfl) (fun _ _ _ h => h) (Or.inl ⟨by rfl, ?hy12⟩) hS11 ?_
      case hy12 => (intro w hSw; (try dsimp only at hSw); go_simp; try with_reducible rfl)
      try simp only [Act.put, List.setIfInBounds_toArray, List.set_cons_zero, List.set_cons_succ]
      refine wpAnyH_ready (rs := [12]) (by kernel_rfl) (by simp) ?_
      refine AllReadyH.cons (o := { dst := some 140, op := Op.buildSlice 47 1 #[(0, Operand.tmp 139)], type := 47, pos := "step.go:40", after := #[{ on := 11, ground := Ground.data }], guard := none }) rfl (fun K hK => ?_) AllReadyH.nil
      go_simp
      refine hK.out _ _ ?hs13 (fun hS13 => ?_)
      case hs13 => exact F5.out _ (sC.2.2.2.alloc _)
      clear hK K hS11
      refine wpAnyH_ready (rs := [13]) (by kernel_rfl) (by simp) ?_
      refine AllReadyH.cons (o := { dst := some 141, op := Op.call { callee := Callee.builtin Builtin.append, args := #[Operand.tmp 128, Operand.tmp 140], argTypes := #[47, 47] }, type := 47, pos := "step.go:40", after := #[{ on := 0, ground := Ground.data }, { on := 12, ground := Ground.data }, { on := 10, ground := Ground.chain }], guard := none }) rfl (fun K hK => ?_) AllReadyH.nil
      refine rs_append_run (by rfl) _ _ _ (by rfl) (by rfl) (by rfl) RUN9.out ?_
      refine hK.out _ _ ?hs14 (fun hS14 => ?_)
      case hs14 => exact F5.out _ TX9
      clear hK K hS13
      refine wpAnyH_take (i := 14) (oi := { dst := some 13, op := Op.assign (Operand.tmp 141), type := 47, pos := "step.go:40", after := #[{ on := 13, ground := Ground.data }, { on := 13, ground := Ground.chain }, { on := 0, ground := Ground.phase }, { on := 1, ground := Ground.phase }, { on := 2, ground := Ground.phase }, { on := 3, ground := Ground.phase }, { on := 4, ground := Ground.phase }, { on := 5, ground := Ground.phase }, { on := 6, ground := Ground.phase }, { on := 7, ground := Ground.phase }, { on := 8, ground := Ground.phase }, { on := 9, ground := Ground.phase }, { on := 10, ground := Ground.phase }, { on := 11, ground := Ground.phase }, { on := 12, ground := Ground.phase }, { on := 13, ground := Ground.phase }], guard := none }) (v := ?_) rfl (by kernel_rfl) (by kernel_rfl) (by kernel_rfl) (fun _ _ _ h => h) (Or.inl ⟨by rfl, ?hy15⟩) hS14 ?_
      case hy15 => (intro w hSw; (try dsimp only at hSw); go_simp; try with_reducible rfl)
      try simp only [Act.put, List.setIfInBounds_toArray, List.set_cons_zero, List.set_cons_succ]
      refine wpAnyH_done (by kernel_rfl) ?_ _
      go_wp2_with fail
      go_meet
      case rel => exact ⟨RO9, TX9⟩
  case rest =>
  obtain ⟨RO3, TC5⟩ := hcut
  have EQ : stepR T (L.map (pickE H)) a n L bl c ⟨et, ek, eaa, ebb, ec, ed2⟩ = l2 ++ (if t14 = true then [⟨aa, putN L aa (n : Int), false⟩] else []) := by
    obtain ⟨e1, e2, e3, e4⟩ := HST.out
    unfold stepR stayR sameR nextR
    rw [if_neg (by rw [HHD.out]; first | exact HW.out | exact Int.not_le.2 HW.out), HL2.out, HL1.out, HT12.out, HT10.out, HT14.out, e1, e2, e3, e4]
  have FIN := Lib.hid (show RunsO W5.heap.size _ _ (stepR T (L.map (pickE H)) a n L bl c ⟨et, ek, eaa, ebb, ec, ed2⟩) ∧ Turn (fun _ => False) w _ from ⟨by rw [EQ]; exact RO3, FINT.out.trans TC5⟩)
  clear RO3 TC5 EQ
  go_wp2_with fail
  go_ret
  exact ⟨_, _, rfl, FIN.out⟩
end Go.Proofs.Ytfidnahbhomomaa
