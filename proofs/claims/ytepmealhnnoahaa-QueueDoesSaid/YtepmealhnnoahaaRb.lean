/-
  Rows of matches, in order, that become one: the first row; rows copied.
-/
import Derived.WalkSpells
import Derived.Test.YtepmealhnnoahaaRa
namespace Go.Proofs.Ytepmealhnnoahaa
open Go.ChangeShapes Go.WideShapes Go.ChangeAt Go.RowKit
set_option linter.unusedVariables false

def full (L : List (List Ht)) (j : Nat) : Bool := match L[j]? with
  | some (_ :: _) => true
  | _ => false
def isFirst (lt : Ht → Ht → Bool) (L : List (List Ht)) (j : Nat) : Bool := match L[j]? with
  | some (y :: _) => leastB lt L j y
  | _ => false
def someAt (L : List (List Ht)) (k : Nat) : Int := match (List.range k).find? (full L) with
  | some j => (j : Int)
  | none => -1
/-- The place of the row whose next number no other one's is less than. -/
def firstAt (lt : Ht → Ht → Bool) (L : List (List Ht)) : Int := match (List.range L.length).find? (isFirst lt L) with
  | some j => (j : Int)
  | none => someAt L L.length
theorem find_succ (f : Nat → Bool) (k : Nat) : (List.range (k + 1)).find? f = ((List.range k).find? f).or (if f k then some k else none) := by
  rw [List.range_succ, List.find?_append]
  congr 1
  cases h : f k <;> simp [h]
theorem someAt_succ (L : List (List Ht)) (k : Nat) : someAt L (k + 1) = if someAt L k < 0 then (if full L k then (k : Int) else -1) else someAt L k := by
  unfold someAt
  rw [find_succ]
  cases h : (List.range k).find? (full L) with
  | none =>
    cases h2 : full L k <;> simp
  | some j => simp; omega
theorem someAt_or (L : List (List Ht)) (k : Nat) : someAt L k = -1 ∨ 0 ≤ someAt L k := by
  unfold someAt
  split
  · exact .inr (by omega)
  · exact .inl rfl
theorem firstAt_at {lt : Ht → Ht → Bool} {L : List (List Ht)} {k : Nat} (hk : k < L.length) (h : (List.range k).find? (isFirst lt L) = none) (hf : isFirst lt L k = true) : firstAt lt L = (k : Int) := by
  have e : (List.range L.length).find? (isFirst lt L) = some k := by
    have : ∀ m, k < m → (List.range m).find? (isFirst lt L) = some k := fun m hm => by
      induction m with
      | zero => omega
      | succ m ih =>
        rw [find_succ]
        by_cases e : m = k
        · subst e
          rw [h, hf]
          rfl
        · rw [ih (by omega)]
          rfl
    exact this _ hk
  unfold firstAt
  rw [e]
def FstRel (L : List (List Ht)) (w : World) (gh : Nat) (v5 v10 : Value) (wr : World) : Prop :=
  ∃ k : Nat, v10 = .int .i64 (k : Int) ∧ v5 = .int .i64 (someAt L k) ∧ k ≤ L.length ∧ gh = L.length - k ∧ (List.range k).find? (isFirst ltH L) = none ∧ Turn (fun _ => False) w wr
set_option maxRecDepth 100000 in
set_option maxHeartbeats 4000000 in
theorem first_is {w : World} {v : Value} {L : List (List Ht)} (h : RowsAt w v L) (hL : L.length ≤ 1000000) :
    Calls Try.prog 47 #[v, .func (.func 38) #[] #[]] w fun e w' => e = .returned (.int .i64 (firstAt ltH L)) ∧ Turn (fun _ => False) w w' := by
  have H := Lib.hid h
  obtain ⟨av, b, off, cap, rfl, e0, hx⟩ := h
  have HX := Lib.hid hx
  have R0 : FstRel L w L.length (.int .i64 (-1)) (.int .i64 0) w := ⟨0, rfl, rfl, Nat.zero_le _, rfl, rfl, Turn.refl _ _⟩
  clear hx
  go_enter Try.func47, Try.ntmps47
  go_wp2_with fail
  go_loopg [5, 10] L.length (fun gh v5 v10 wr => FstRel L w gh v5 v10 wr)
  case atStart => exact R0
  case round =>
    clear R0
    obtain ⟨k, rfl, rfl, hk, hg, hno, hw⟩ := hrel
    have so := someAt_or L k
    have ss := someAt_succ L k
    by_cases hkl : k < L.length
    · obtain rfl := e0.resolve_left (fun e => by rw [e] at hkl; simp at hkl)
      obtain ⟨l, hl⟩ : ∃ l, L[k]? = some l := ⟨_, List.getElem?_eq_getElem hkl⟩
      obtain ⟨r, y1, hr⟩ := HX.out k l hl
      obtain ⟨c1, cb, co, c4, rfl, _, f0, f1⟩ := hr
      have x1 : wr.cell? ⟨b, off + k, none⟩ = some (.slice c1 l.length c4) := hw.cell id y1
      have t1 : decide ((k : Int) < (L.length : Int)) = true := by simp; omega
      have hk1 : (k : Int) < (L.length : Int) := by omega
      have hk0 : (0 : Int) ≤ (k : Int) := by omega
      have fs := find_succ (isFirst ltH L) k
      rw [hno, Option.none_or] at fs
      cases l with
      | nil =>
        have hf : full L k = false := by unfold full; rw [hl]
        have hi : isFirst ltH L k = false := by unfold isFirst; rw [hl]
        rw [hf] at ss
        rw [hi] at fs
        have es : someAt L (k + 1) = someAt L k := by
          rw [ss]
          split
          · rcases so with e | e
            · rw [e]; rfl
            · omega
          · rfl
        have X := Lib.hid (And.intro hw (And.intro hg (And.intro fs es)))
        clear hw hg fs es ss hl y1 f0 f1 hno
        simp only [List.length_nil] at x1
        generalize someAt L k = so' at *
        go_wp2_with fail
        go_roundg (L.length - (k + 1))
        case measure => have := X.out.2.1; omega
        case rel => exact ⟨k + 1, by go_num, by rw [X.out.2.2.2], by omega, rfl, X.out.2.2.1, X.out.1⟩
      | cons y ly =>
        have hf : full L k = true := by unfold full; rw [hl]
        have hi : isFirst ltH L k = leastB ltH L k y := by unfold isFirst; rw [hl]
        rw [hf] at ss
        rw [hi] at fs
        have C := Lib.hid (least_is (w := wr) (H.out.turn hw) hL hl)
        have tz : (((ly.length : Int) + 1) == 0) = false := by simp; omega
        have tz2 : (((ly.length + 1 : Nat) : Int) == 0) = false := by simp; omega
        simp only [List.length_cons] at x1
        have AT := Lib.hid (fun h : leastB ltH L k y = true => firstAt_at hkl hno (hi.trans h))
        cases hlb : leastB ltH L k y with
        | true =>
          rw [hlb] at C
          have X := Lib.hid (And.intro hw (AT.out hlb))
          clear hw hg fs ss hl y1 f0 f1 hno hi hf AT hlb
          generalize someAt L k = so' at *
          go_wp2_with fail
          refine C.out.mono ?_
          rintro e w1 ⟨rfl, T1⟩
          go_wp2
          go_ret
          exact ⟨by rw [X.out.2]; rfl, X.out.1.trans T1⟩
        | false =>
          rw [hlb] at C fs
          by_cases hs : someAt L k < 0
          · rw [if_pos hs] at ss
            have X := Lib.hid (And.intro hw (And.intro hg (And.intro fs ss)))
            clear hw hg fs ss hl y1 f0 f1 hno hi hf AT hlb so
            have ts : decide (someAt L k < 0) = true := by simpa using hs
            generalize someAt L k = so' at *
            go_wp2_with fail
            refine C.out.mono ?_
            rintro e w1 ⟨rfl, T1⟩
            go_wp2_with fail
            go_roundg (L.length - (k + 1))
            case measure => have := X.out.2.1; omega
            case rel => exact ⟨k + 1, by go_num, by rw [X.out.2.2.2]; rfl, by omega, rfl, X.out.2.2.1, X.out.1.trans T1⟩
          · rw [if_neg hs] at ss
            have X := Lib.hid (And.intro hw (And.intro hg (And.intro fs ss)))
            clear hw hg fs ss hl y1 f0 f1 hno hi hf AT hlb so
            have ts : decide (someAt L k < 0) = false := by simpa using hs
            generalize someAt L k = so' at *
            go_wp2_with fail
            refine C.out.mono ?_
            rintro e w1 ⟨rfl, T1⟩
            go_wp2_with fail
            go_roundg (L.length - (k + 1))
            case measure => have := X.out.2.1; omega
            case rel => exact ⟨k + 1, by go_num, by rw [X.out.2.2.2], by omega, rfl, X.out.2.2.1, X.out.1.trans T1⟩
    · have t1 : decide ((k : Int) < (L.length : Int)) = false := by simp; omega
      have hkL : k = L.length := by omega
      have FB := Lib.hid (show firstAt ltH L = someAt L k ∧ Turn (fun _ => False) w wr from ⟨by
        unfold firstAt
        rw [← hkL, hno], hw⟩)
      clear hno hw hkL ss so
      generalize someAt L k = so' at *
      go_wp2
      go_ret
      exact ⟨by rw [FB.out.1]; rfl, FB.out.2⟩
def hcells : List Ht → List Value
  | [] => []
  | x :: l => .int .i64 x.id :: .slice x.sa x.sn x.sc :: .slice x.ra x.rn x.rc :: hcells l
theorem hcells_len : ∀ l : List Ht, (hcells l).length = l.length * 3
  | [] => rfl
  | x :: l => by simp only [hcells, List.length_cons]; rw [hcells_len l]; omega
theorem hcells_one : ∀ (l : List Ht), ∀ u ∈ hcells l, u.oneCell' = true
  | [], u, hu => by simp [hcells] at hu
  | x :: l, u, hu => by
    simp only [hcells, List.mem_cons] at hu
    rcases hu with rfl | rfl | rfl | hu
    · rfl
    · rfl
    · rfl
    · exact hcells_one l u hu
theorem hcells_at : ∀ (l : List Ht) (j : Nat) (x : Ht), l[j]? = some x → ∀ (k : Nat) (v : Value), x.cells[k]? = some v → (hcells l)[j * 3 + k]? = some v
  | [], j, x, h, _, _, _ => by simp at h
  | y :: l, 0, x, h, k, v, hv => by
    simp at h
    subst h
    match k, hv with
    | 0, hv => simpa [Ht.cells, hcells] using hv
    | 1, hv => simpa [Ht.cells, hcells] using hv
    | 2, hv => simpa [Ht.cells, hcells] using hv
    | k + 3, hv => simp [Ht.cells] at hv
  | y :: l, j + 1, x, h, k, v, hv => by
    have := hcells_at l j x (by simpa using h) k v hv
    rw [show (j + 1) * 3 + k = j * 3 + k + 1 + 1 + 1 from by omega]
    simpa [hcells] using this
/-- Of each cell of a row: whose it is. -/
theorem hcells_of : ∀ (l : List Ht) (i : Nat) (v : Value), (hcells l)[i]? = some v → ∃ x k, l[i / 3]? = some x ∧ k = i % 3 ∧ x.cells[k]? = some v
  | [], i, v, h => by simp [hcells] at h
  | y :: l, 0, v, h => ⟨y, 0, rfl, rfl, by simpa [Ht.cells, hcells] using h⟩
  | y :: l, 1, v, h => ⟨y, 1, rfl, rfl, by simpa [Ht.cells, hcells] using h⟩
  | y :: l, 2, v, h => ⟨y, 2, rfl, rfl, by simpa [Ht.cells, hcells] using h⟩
  | y :: l, i + 3, v, h => by
    obtain ⟨x, k, h1, h2, h3⟩ := hcells_of l i v (by simpa [hcells] using h)
    exact ⟨x, k, by rw [show (i + 3) / 3 = i / 3 + 1 from by omega]; simpa using h1, by omega, h3⟩
theorem rowAt_own {w : World} {base : Nat} {v : Value} {l : List Ht} (h : w.ownsRow base 73 3 v l.length (hcells l)) : RowAt w v l := by
  rcases h.2 with ⟨e, e2⟩ | ⟨g, cap, cur, e, hg, hgg, hc, _⟩
  · obtain rfl := List.eq_nil_of_length_eq_zero e2
    exact ⟨none, 0, 0, 0, e, Nat.le_refl _, .inl rfl, fun j x h => by simp at h⟩
  · subst e
    refine ⟨_, g, 0, cap, rfl, hc, .inr ⟨rfl, _, hgg⟩, fun j x hj k v hv => ?_⟩
    have hl := (List.getElem?_eq_some_iff.1 hj).1
    have hk := (List.getElem?_eq_some_iff.1 hv).1
    simp only [Ht.cells, List.length_cons, List.length_nil] at hk
    rw [Nat.zero_add]
    exact (h.cellAt (j * 3 + k) (by omega)).trans (hcells_at l j x hj k v hv)
theorem info73 : (Try.prog.info? 73).map (fun i => (i.zero, i.size, i.bytes)) = some (some (.agg #[.int .i64 0, .slice none 0 0, .slice none 0 0]), 3, 56) := by kernel_rfl
theorem one_app {W : World} {b off cap : Nat} {l : List Ht} {a : Option Addr} (ha : l = [] ∨ a = some ⟨b, off, none⟩) (hne : a ≠ none) (hl : l.length ≤ 1000000) (hx : ∀ (j : Nat) (x : Ht), l[j]? = some x → W.rangeAt b (off + j * 3) x.cells) :
    ∃ v' w', (Builtin.append_ #[66, 66] 66 #[.slice (some ⟨W.heap.size, 0, none⟩) 0 0, .slice a l.length cap]).run Try.prog (W.alloc (.cells #[] 73)) = .ok v' w' ∧ w'.ownsRow W.heap.size 73 3 v' l.length (hcells l) ∧ Turn (fun _ => False) W w' := by
  obtain ⟨i3, j1, j2, j3, j4⟩ := info_parts info73
  have h0 := World.ownsRow_lit (base := W.heap.size) (e := 73) (size := 3) W #[] 0 (Nat.le_refl _) (by decide) rfl
  obtain ⟨p, rfl⟩ : ∃ p, a = some p := by cases a with
    | none => exact absurd rfl hne
    | some p => exact ⟨p, rfl⟩
  obtain ⟨v', w', hr, ho, hg, _⟩ := run_append_own (W.alloc (.cells #[] 73)) W.heap.size 66 66 73 i3 _ 3 56 Try.underlying66 j1 j2 j3 j4 rfl (by decide) _ 0 [] h0 p l.length cap (hcells l) (hcells_len l) (fun j u hu => by
    obtain ⟨x, k, h1, h2, h3⟩ := hcells_of l j u hu
    have hp : p = ⟨b, off, none⟩ := by
      rcases ha with e | e
      · rw [e] at h1
        simp at h1
      · injection e
    subst hp
    rw [Go.WideShapes.add_plain]
    have := ((Turn.refl (fun _ => False) W).alloc (.cells #[] 73)).cell id (hx _ x h1 k u h3)
    rw [show off + j = off + j / 3 * 3 + k from by omega]
    exact this) (hcells_one l) (by unfold maxLen; omega) (by omega) (by simp)
  refine ⟨v', w', hr, by simpa using ho, ?_⟩
  have T1 : Turn (fun _ => False) W (W.alloc (.cells #[] 73)) := (Turn.refl _ W).alloc _
  exact turn_fresh T1 h0 ((Turn.refl _ _).grown hg (fun k hk => .inl hk))
set_option maxRecDepth 100000 in
set_option maxHeartbeats 2000000 in
theorem clone_row {w : World} {v : Value} {l : List Ht} (h : RowAt w v l) (hl : l.length ≤ 1000000) :
    Calls Try.prog 44 #[v] w fun e w' => ∃ v', e = .returned v' ∧ w'.ownsRow w.heap.size 73 3 v' l.length (hcells l) ∧ Turn (fun _ => False) w w' := by
  obtain ⟨a, b, off, cap, rfl, hc, ha, hx⟩ := h
  cases a with
  | none =>
    obtain rfl := ha.resolve_right (fun e => by cases e.1)
    clear hx ha
    have HE := fun w => Lib.run_eql_slice_nil (P := Try.prog) w 66 73 none 0 cap 0 0 Try.underlying66
    go_enter Try.func44, Try.ntmps44
    go_wp2
    go_ret
    exact ⟨_, rfl, World.ownsRow_nil _ _ _ _, Turn.refl _ _⟩
  | some p =>
    obtain ⟨v', w', hr, ho, T⟩ := one_app (cap := cap) (ha.imp id And.left) (by simp) hl hx
    have RUN := Lib.hid hr
    have F := Lib.hid (And.intro ho T)
    clear hx ha hr ho T
    have HE := fun w => Lib.run_eql_slice_nil (P := Try.prog) w 66 73 (some p) l.length cap 0 0 Try.underlying66
    go_enter Try.func44, Try.ntmps44
    go_wp2_with (refine rl_append_run (by rfl) _ _ _ (by rfl) (by rfl) (by rfl) RUN.out ?_)
    go_ret
    exact ⟨_, rfl, F.out.1, F.out.2⟩
theorem info66 : (Try.prog.info? 66).map (fun i => (i.zero, i.size, i.bytes)) = some (some (.slice none 0 0), 1, 24) := by kernel_rfl
theorem heads_app {W : World} {hb n cap : Nat} {f : Nat → Value} (hn : n ≤ 1000000) (hx : ∀ k, k < n → W.cell? ⟨hb, k, none⟩ = some (f k)) (h1 : ∀ k, k < n → (f k).oneCell' = true) :
    ∃ v' w', (Builtin.append_ #[107, 107] 107 #[.slice (some ⟨W.heap.size, 0, none⟩) 0 0, .slice (some ⟨hb, 0, none⟩) n cap]).run Try.prog (W.alloc (.cells #[] 66)) = .ok v' w' ∧ w'.ownsRow W.heap.size 66 1 v' n ((List.range n).map f) ∧ Turn (fun _ => False) W w' := by
  obtain ⟨i3, j1, j2, j3, j4⟩ := info_parts info66
  have h0 := World.ownsRow_lit (base := W.heap.size) (e := 66) (size := 1) W #[] 0 (Nat.le_refl _) (by decide) rfl
  obtain ⟨v', w', hr, ho, hg, _⟩ := run_append_own (W.alloc (.cells #[] 66)) W.heap.size 107 107 66 i3 _ 1 24 Try.underlying107 j1 j2 j3 j4 rfl (by decide) _ 0 [] h0 ⟨hb, 0, none⟩ n cap ((List.range n).map f) (by simp) (fun j u hu => by
    rw [List.getElem?_map] at hu
    obtain ⟨x, hx1, rfl⟩ := Option.map_eq_some_iff.1 hu
    obtain ⟨q1, q2⟩ := List.getElem?_eq_some_iff.1 hx1
    simp at q1 q2
    subst q2
    rw [Go.WideShapes.add_plain, Nat.zero_add]
    exact (((Turn.refl (fun _ => False) W).alloc _).cell id (hx j q1))) (fun u hu => by
      obtain ⟨k, hk, rfl⟩ := List.mem_map.1 hu
      exact h1 k (List.mem_range.1 hk)) (by unfold maxLen; omega) (by omega) (by simp)
  have T1 : Turn (fun _ => False) W (W.alloc (.cells #[] 66)) := (Turn.refl _ W).alloc _
  exact ⟨v', w', hr, by simpa using ho, turn_fresh T1 h0 ((Turn.refl _ _).grown hg (fun k hk => .inl hk))⟩
set_option maxRecDepth 100000 in
set_option maxHeartbeats 2000000 in
theorem clone_heads {w : World} {hb n cap : Nat} {f : Nat → Value} (hn : n ≤ 1000000) (hx : ∀ k, k < n → w.cell? ⟨hb, k, none⟩ = some (f k)) (h1 : ∀ k, k < n → (f k).oneCell' = true) :
    Calls Try.prog 46 #[.slice (some ⟨hb, 0, none⟩) n cap] w fun e w' => ∃ v', e = .returned v' ∧ w'.ownsRow w.heap.size 66 1 v' n ((List.range n).map f) ∧ Turn (fun _ => False) w w' := by
  obtain ⟨v', w', hr, ho, T⟩ := heads_app (cap := cap) hn hx h1
  have RUN := Lib.hid hr
  have F := Lib.hid (And.intro ho T)
  clear hx h1 hr ho T
  have HE := fun w => Lib.run_eql_slice_nil (P := Try.prog) w 107 66 (some ⟨hb, 0, none⟩) n cap 0 0 Try.underlying107
  go_enter Try.func46, Try.ntmps46
  go_wp2_with (refine rl_append_run (by rfl) _ _ _ (by rfl) (by rfl) (by rfl) RUN.out ?_)
  go_ret
  exact ⟨_, rfl, F.out.1, F.out.2⟩
def total (S : List (List Ht)) : Nat := (S.map List.length).sum
/-- What the first row's next number is, and what is left. -/
def stepM (lt : Ht → Ht → Bool) (S : List (List Ht)) : Option (Ht × List (List Ht)) :=
  match S[(firstAt lt S).toNat]? with
  | some (x :: l) => if firstAt lt S < 0 then none else some (x, S.set (firstAt lt S).toNat l)
  | _ => none
def mergeN (lt : Ht → Ht → Bool) : Nat → List (List Ht) → List Ht
  | 0, _ => []
  | n + 1, S => match stepM lt S with
    | none => []
    | some (x, S') => x :: mergeN lt n S'
theorem total_set {S : List (List Ht)} {i : Nat} {x : Ht} {l : List Ht} (h : S[i]? = some (x :: l)) : total (S.set i l) + 1 = total S := by
  unfold total
  induction S generalizing i with
  | nil => simp at h
  | cons a S ih =>
    cases i with
    | zero =>
      simp at h
      subst h
      simp
      omega
    | succ i =>
      have := ih (i := i) (by simpa using h)
      simp only [List.set_cons_succ, List.map_cons, List.sum_cons] at this ⊢
      omega
theorem firstAt_full {lt : Ht → Ht → Bool} {S : List (List Ht)} {i : Nat} (h : firstAt lt S = (i : Int)) : ∃ x l, S[i]? = some (x :: l) := by
  unfold firstAt at h
  cases e : (List.range S.length).find? (isFirst lt S) with
  | some j =>
    rw [e] at h
    have hj : j = i := by have : (j : Int) = (i : Int) := h; omega
    subst hj
    have := List.find?_some e
    unfold isFirst at this
    split at this
    · exact ⟨_, _, by assumption⟩
    · cases this
  | none =>
    rw [e] at h
    unfold someAt at h
    cases e2 : (List.range S.length).find? (full S) with
    | some j =>
      simp only [e2] at h
      have hj : j = i := by have : (j : Int) = (i : Int) := h; omega
      subst hj
      have := List.find?_some e2
      unfold full at this
      split at this
      · exact ⟨_, _, by assumption⟩
      · cases this
    | none =>
      simp only [e2] at h
      omega
theorem firstAt_or (lt : Ht → Ht → Bool) (S : List (List Ht)) : firstAt lt S = -1 ∨ ∃ i x l, firstAt lt S = ((i : Nat) : Int) ∧ S[i]? = some (x :: l) := by
  have : firstAt lt S = -1 ∨ ∃ i : Nat, firstAt lt S = (i : Int) := by
    unfold firstAt
    cases (List.range S.length).find? (isFirst lt S) with
    | some j => exact .inr ⟨j, rfl⟩
    | none =>
      unfold someAt
      cases (List.range S.length).find? (full S) with
      | some j => exact .inr ⟨j, rfl⟩
      | none => exact .inl rfl
  rcases this with h | ⟨i, h⟩
  · exact .inl h
  · obtain ⟨x, l, e⟩ := firstAt_full h
    exact .inr ⟨i, x, l, h, e⟩
theorem firstAt_none {lt : Ht → Ht → Bool} {S : List (List Ht)} (h : firstAt lt S = -1) : ∀ l ∈ S, l = [] := by
  unfold firstAt at h
  cases e : (List.range S.length).find? (isFirst lt S) with
  | some j =>
    rw [e] at h
    have : (j : Int) = -1 := h
    omega
  | none =>
    rw [e] at h
    unfold someAt at h
    cases e2 : (List.range S.length).find? (full S) with
    | some j =>
      simp only [e2] at h
      omega
    | none =>
      intro l hl
      obtain ⟨k, hk, rfl⟩ := List.mem_iff_getElem.1 hl
      have := List.find?_eq_none.1 e2 k (List.mem_range.2 hk)
      unfold full at this
      rw [List.getElem?_eq_getElem hk] at this
      cases hS : S[k] with
      | nil => rfl
      | cons a b => rw [hS] at this; simp at this
theorem stepM_some {lt : Ht → Ht → Bool} {S : List (List Ht)} {i : Nat} {x : Ht} {l : List Ht} (h : firstAt lt S = (i : Int)) (e : S[i]? = some (x :: l)) : stepM lt S = some (x, S.set i l) := by
  unfold stepM
  rw [h]
  simp only [Int.toNat_natCast, e]
  rw [if_neg (by omega)]
theorem stepM_none {lt : Ht → Ht → Bool} {S : List (List Ht)} (h : firstAt lt S = -1) : stepM lt S = none := by
  unfold stepM
  rw [h]
  split
  · rfl
  · rfl
theorem mergeN_step {lt : Ht → Ht → Bool} {S : List (List Ht)} {i n : Nat} {x : Ht} {l : List Ht} (h : firstAt lt S = (i : Int)) (e : S[i]? = some (x :: l)) : mergeN lt (n + 1) S = x :: mergeN lt n (S.set i l) := by
  rw [mergeN, stepM_some h e]
theorem mergeN_none {lt : Ht → Ht → Bool} {S : List (List Ht)} {n : Nat} (h : firstAt lt S = -1) : mergeN lt n S = [] := by
  cases n with
  | zero => rfl
  | succ n => rw [mergeN, stepM_none h]
end Go.Proofs.Ytepmealhnnoahaa
