/-
  DeleteFunc of a limbo, whole.
-/
import Derived.Test.YtgfobgabdafclaaGreatDel
namespace Go.Proofs.YtgfobgabdafclaaGreat
open Go.ChangeShapes Go.WideShapes Go.ChangeAt Go.RowKit
set_option linter.unusedVariables false

def kept (now : Int) (l : List (Int × Int × Int)) : List (Int × Int × Int) := l.filter (fun q => !rp now q)
def toldE (now : Int) (l : List (Int × Int × Int)) : List (Int × Int) := (l.filter (rp now)).map ref
theorem kept_snoc (now : Int) (l : List (Int × Int × Int)) (q : Int × Int × Int) : kept now (l ++ [q]) = kept now l ++ (if rp now q then [] else [q]) := by
  unfold kept
  rw [List.filter_append]
  cases h : rp now q <;> simp [h]
theorem toldE_snoc (now : Int) (l : List (Int × Int × Int)) (q : Int × Int × Int) : toldE now (l ++ [q]) = toldE now l ++ (if rp now q then [ref q] else []) := by
  unfold toldE
  rw [List.filter_append, List.map_append]
  cases h : rp now q <;> simp [h]
theorem kept_all (now : Int) : ∀ (l : List (Int × Int × Int)), (∀ (j : Nat) (q : Int × Int × Int), l[j]? = some q → rp now q = false) → kept now l = l ∧ toldE now l = []
  | [], _ => ⟨rfl, rfl⟩
  | y :: l, h => by
    have h0 := h 0 y rfl
    obtain ⟨a, b⟩ := kept_all now l (fun j q hq => h (j + 1) q (by simpa using hq))
    unfold kept toldE at *
    simp [h0, a, b]
theorem take_snoc {α : Type} (l : List α) (k : Nat) (q : α) (h : l[k]? = some q) : l.take (k + 1) = l.take k ++ [q] := by
  rw [List.take_add_one, h]
  rfl

theorem take_set_snoc {α : Type} (l : List α) (i : Nat) (q : α) (h : i < l.length) : (l.set i q).take (i + 1) = l.take i ++ [q] := by
  rw [take_snoc (l.set i q) i q (List.getElem?_set_self h), List.take_set, List.set_eq_of_length_le (by simp; omega)]

section
variable {wS w : World} {B g base m cap x bx : Nat} {now : Int} {cur : List (Int × Int × Int)} {out : List (Int × Int)}

def DelPost (wS : World) (B g base cap : Nat) (now : Int) (cur : List (Int × Int × Int)) (e : Ending) (w' : World) : Prop :=
  e = .returned (.slice (some ⟨g, 0, none⟩) (kept now cur).length cap) ∧ Left wS B g base (kept now cur).length cap (kept now cur) (toldE now cur) w'

def DelRel (wS : World) (B g base m cap : Nat) (now : Int) (cur : List (Int × Int × Int)) (gh : Nat) (v5 v6 : Value) (wr : World) : Prop :=
  ∃ (i j : Nat) (c : List (Int × Int × Int)), v5 = .int .i64 (i : Int) ∧ v6 = .int .i64 (j : Int) ∧ gh = m - j ∧ i < j ∧ j ≤ m ∧ c.take i = kept now (cur.take j) ∧ (kept now (cur.take j)).length = i ∧ (∀ k, j ≤ k → c[k]? = cur[k]?) ∧ Rip wS B g base m cap c (toldE now (cur.take j)) wr

set_option maxRecDepth 100000 in
set_option maxHeartbeats 4000000 in
theorem del_any (h : Rip wS B g base m cap cur [] w) (r : Reads wS B g x bx now) (hm : m ≤ 1000000) (hmc : m ≤ cap) :
    Calls Tryz.prog 291 #[.slice (some ⟨g, 0, none⟩) m cap, .func (.func 292) #[] #[.pointer (some ⟨bx, 0, none⟩), .pointer (some ⟨B, 0, none⟩)]] w (DelPost wS B g base cap now cur) := by
  have R := Lib.hid r
  have H0 := Lib.hid (index_any h r hm)
  have hl := Lib.hid h.len
  clear h r
  go_enter Tryz.func291, Tryz.ntmps291
  go_wp2_with fail
  refine H0.out.mono ?_
  rintro e w1 (⟨hno, rfl, hR⟩ | ⟨i0, q0, hq0, hr0, hno, rfl, hR⟩)
  · have E := Lib.hid (And.intro hno hR)
    clear hno hR H0
    go_wp2
    go_ret
    obtain ⟨a, b⟩ := kept_all now cur E.out.1
    unfold DelPost
    rw [a, b]
    refine ⟨?_, ?_⟩
    · rw [hl.out]
      rfl
    · have := E.out.2.left
      rw [← hl.out] at this
      exact this
  · have hi0 : i0 < m := by have := (List.getElem?_eq_some_iff.1 hq0).1; have := hl.out; omega
    have I0 : DelRel wS B g base m cap now cur (m - (i0 + 1)) (.int .i64 (i0 : Int)) (.int .i64 (i0 + 1 : Int)) w1 := by
      obtain ⟨a, b⟩ := kept_all now (cur.take i0) (fun j q hq => by
        have hj := (List.getElem?_eq_some_iff.1 hq).1
        rw [List.length_take] at hj
        exact hno j q (by omega) (by rw [List.getElem?_take_of_lt (by omega)] at hq; exact hq))
      have e1 : kept now (cur.take (i0 + 1)) = cur.take i0 := by rw [take_snoc _ _ _ hq0, kept_snoc, a]; simp [hr0]
      have e2 : toldE now (cur.take (i0 + 1)) = [ref q0] := by rw [take_snoc _ _ _ hq0, toldE_snoc, b]; simp [hr0]
      exact ⟨i0, i0 + 1, cur, rfl, by go_num, rfl, by omega, by omega, e1.symm, by rw [e1, List.length_take]; have := hl.out; omega, fun _ _ => rfl, by rw [e2]; exact hR⟩
    clear hno hR H0 hq0 hr0
    go_wp2_with fail
    go_loopg [5, 6] (m - (i0 + 1)) (fun gh v5 v6 wr => DelRel wS B g base m cap now cur gh v5 v6 wr)
    case atStart => exact I0
    case round =>
      clear I0
      obtain ⟨i, j, c, rfl, rfl, hg, hij, hjm, ht, hi, hc, hR⟩ := hrel
      by_cases hj : j < m
      · obtain ⟨⟨q0, q1, q2⟩, hq⟩ : ∃ q, cur[j]? = some q := ⟨_, List.getElem?_eq_getElem (by have := hl.out; omega)⟩
        have hcq : c[j]? = some (q0, q1, q2) := (hc j (Nat.le_refl _)).trans hq
        obtain ⟨z0, z1, z2⟩ := hR.at hcq
        simp only at z0 z1 z2
        have hol : (toldE now (cur.take j)).length ≤ 1000000 := by
          unfold toldE
          rw [List.length_map]
          have := List.length_filter_le (rp now) (cur.take j)
          rw [List.length_take] at this
          omega
        have him : i < m := by omega
        by_cases hr : q2 ≤ now - 2
        · have K := Lib.hid (ripe1_yes (hR.alloc (.cells #[.int .i64 q0, .int .i64 q1, .int .i64 q2] 374)) R.out q0 q1 q2 hr hol)
          have E := Lib.hid (And.intro hq (And.intro ht (And.intro hi (And.intro hc (And.intro hg (show rp now (q0, q1, q2) = true from by simpa [rp] using hr))))))
          clear hR hq hcq ht hi hc hg hr hol
          go_wp2_with fail
          refine K.out.mono ?_
          rintro e w2 ⟨rfl, h2⟩
          go_wp2_with fail
          go_roundg (m - (j + 1))
          case measure => have := E.out.2.2.2.2.1; omega
          case rel =>
            obtain ⟨hq, ht, hi, hc, _, hrp⟩ := E.out
            have e1 : kept now (cur.take (j + 1)) = kept now (cur.take j) := by rw [take_snoc _ _ _ hq, kept_snoc, hrp]; simp
            have e2 : toldE now (cur.take (j + 1)) = toldE now (cur.take j) ++ [(q0, q1)] := by rw [take_snoc _ _ _ hq, toldE_snoc, hrp]; rfl
            exact ⟨i, j + 1, c, rfl, by go_num, rfl, by omega, by omega, by rw [e1]; exact ht, by rw [e1]; exact hi, fun k hk => hc k (by omega), by rw [e2]; exact h2⟩
        · have K := Lib.hid (ripe1_no (hR.alloc (.cells #[.int .i64 q0, .int .i64 q1, .int .i64 q2] 374)) R.out q0 q1 q2 hr)
          have E := Lib.hid (And.intro hq (And.intro ht (And.intro hi (And.intro hc (And.intro hg (And.intro hR.len (show rp now (q0, q1, q2) = false from by simpa [rp] using hr)))))))
          clear hR hq hcq ht hi hc hg hr hol
          go_wp2_with fail
          refine K.out.mono ?_
          rintro e w2 ⟨rfl, h2, t2⟩
          have b0 : w2.cell? ⟨wr.heap.size, 0, none⟩ = some (.int .i64 q0) := t2.cell (fun e => e) (World.cell?_alloc_new wr #[.int .i64 q0, .int .i64 q1, .int .i64 q2] 374 0)
          have b1 : w2.cell? ⟨wr.heap.size, 1, none⟩ = some (.int .i64 q1) := t2.cell (fun e => e) (World.cell?_alloc_new wr #[.int .i64 q0, .int .i64 q1, .int .i64 q2] 374 1)
          have b2 : w2.cell? ⟨wr.heap.size, 2, none⟩ = some (.int .i64 q2) := t2.cell (fun e => e) (World.cell?_alloc_new wr #[.int .i64 q0, .int .i64 q1, .int .i64 q2] 374 2)
          obtain ⟨qi, hqi⟩ : ∃ q, c[i]? = some q := ⟨_, List.getElem?_eq_getElem (by have := h2.len; omega)⟩
          obtain ⟨y0, y1, y2⟩ := h2.at hqi
          have fg : ∀ o, w2.frozen? ⟨g, o, none⟩ = false := fun o => h2.row.frozenAt o
          have S2 := Lib.hid (h2.store him (q0, q1, q2))
          clear h2 t2 hqi
          go_wp2_with fail
          go_roundg (m - (j + 1))
          case measure => have := E.out.2.2.2.2.1; omega
          case rel =>
            obtain ⟨hq, ht, hi, hc, _, hlen, hrp⟩ := E.out
            have e1 : kept now (cur.take (j + 1)) = kept now (cur.take j) ++ [(q0, q1, q2)] := by rw [take_snoc _ _ _ hq, kept_snoc, hrp]; rfl
            have e2 : toldE now (cur.take (j + 1)) = toldE now (cur.take j) := by rw [take_snoc _ _ _ hq, toldE_snoc, hrp]; simp
            exact ⟨i + 1, j + 1, c.set i (q0, q1, q2), by go_num, by go_num, rfl, by omega, by omega, by rw [e1, take_set_snoc _ _ _ (by omega), ht], by rw [e1, List.length_append, hi]; rfl, fun k hk => by rw [List.getElem?_set_ne (by omega)]; exact hc k (by omega), by rw [e2]; exact S2.out⟩
      · have hjm' : j = m := by omega
        subst hjm'
        obtain ⟨w2, hcl, hL⟩ := hR.clear (i := i) hij hm
        have E := Lib.hid (And.intro ht (And.intro hi hL))
        have hne : ¬ cap = i := by omega
        have hic : (i : Int) ≤ (cap : Int) := by omega
        have him : (i : Int) ≤ (j : Int) := by omega
        clear ht hi hL hc hg hR
        go_wp2_with (simp only [hcl])
        go_ret
        obtain ⟨ht, hi, hL⟩ := E.out
        have e0 : cur.take j = cur := List.take_of_length_le (by rw [hl.out]; exact Nat.le_refl _)
        rw [e0] at ht hi hL
        unfold DelPost
        exact ⟨by rw [hi]; rfl, by rw [hi, ← ht]; exact hL⟩

theorem index_nil (w : World) (ad : Option Addr) (cap : Nat) (f : Value) : Calls Tryz.prog 295 #[.slice ad 0 cap, f] w fun e w' => e = .returned (.int .i64 (-1)) ∧ w = w' := by
  go_enter Tryz.func295, Tryz.ntmps295
  go_wp2_with fail
  refine wp_loop_rounds 1 ?_
  rw [rounds_succ]
  go_wp2
  go_ret
  exact ⟨rfl, rfl⟩
theorem del_nil (w : World) (ad : Option Addr) (cap : Nat) (f : Value) : Calls Tryz.prog 291 #[.slice ad 0 cap, f] w fun e w' => e = .returned (.slice ad 0 cap) ∧ w = w' := by
  have H := Lib.hid (index_nil w ad cap f)
  go_enter Tryz.func291, Tryz.ntmps291
  go_wp2_with fail
  refine H.out.mono ?_
  rintro e w1 ⟨rfl, rfl⟩
  go_wp2
  go_ret
  exact ⟨rfl, rfl⟩
end

section
variable {w w' : World} {x lb n base : Nat} {now : Int} {P : Nat → Int} {V : Nat → Value} {Q : Nat → List (Int × Int × Int)}

theorem Epo.row (h : Epo w x lb n base now P V Q) {a : Nat} (ha : a < n) {v' : Value} {q' : List (Int × Int × Int)} (ht : Turn (fun k => (V a).ownBlock = some k) w w') (ho : w'.ownsRow base 374 3 v' q'.length (cells3 q'))
    (hf : v'.ownBlock = (V a).ownBlock) : Epo (w'.setCell ⟨lb, a, none⟩ v') x lb n base now P (upd V a v') (upd Q a q') ∧ Turn (EpoOwn x lb n V) w (w'.setCell ⟨lb, a, none⟩ v') := by
  have lx : x < w.heap.size := Nat.lt_of_lt_of_le h.bx h.bw
  have ll : lb < w.heap.size := Nat.lt_of_lt_of_le h.bl h.bw
  have hbx := h.bx
  have hbl := h.bl
  have e1 := ht.block x lx (fun e => by have := h.rowx ha e; omega)
  have e2 := ht.block lb ll (fun e => by have := h.rowx ha e; omega)
  have ne := h.ne
  refine ⟨⟨h.ne, h.bx, h.bl, by simpa using Nat.le_trans h.bw ht.size, by rw [cell_far _ _ _ _ _ _ (Ne.symm ne)]; exact (World.cell?_of_block (w := w) e1).trans h.c0, fun k hk => by rw [cell_far _ _ _ _ _ _ (Ne.symm ne)]; exact (World.cell?_of_block (w := w) e1).trans (h.cp k hk), by rw [cell_far _ _ _ _ _ _ (Ne.symm ne)]; exact (World.cell?_of_block (w := w) e1).trans h.cl,
    fun b hb => ?_, fun i => by simpa using (World.frozen?_of_block (w := w) e1).trans (h.fx i), fun i => by simpa using (World.frozen?_of_block (w := w) e2).trans (h.fl i), fun b hb => ?_, fun b c hb hc hbc => ?_, h.n16, h.nn⟩, ?_⟩
  · by_cases e : b = a
    · subst e
      rw [upd_at]
      exact World.cell?_setCell_same _ _ _ ((World.cell?_of_block (w := w) e2).trans (h.cv b hb))
    · rw [cell_off _ _ _ _ _ (Ne.symm e), upd_off _ _ e]
      exact (World.cell?_of_block (w := w) e2).trans (h.cv b hb)
  · by_cases e : b = a
    · subst e
      rw [upd_at, upd_at]
      exact own_keep ho (fun k hk => Below.heap_setCell _ _ _ _ (by have := (ho.lt k hk).1; show k ≠ lb; omega))
    · rw [upd_off _ _ e, upd_off _ _ e]
      refine own_keep (own_keep (w' := w') (h.rows b hb) (fun k hk => ht.block k ((h.rows b hb).lt k hk).2 (fun e3 => ?_))) (fun k hk => Below.heap_setCell _ _ _ _ (by have := h.rowx hb hk; show k ≠ lb; omega))
      rcases h.apart b a hb ha e with q | q
      · rw [hk] at q
        exact absurd q (by simp)
      · exact q (by rw [hk, e3])
  · by_cases eb : b = a
    · subst eb
      rw [upd_at, upd_off _ _ (Ne.symm hbc), hf]
      exact h.apart b c hb hc hbc
    · by_cases ec : c = a
      · subst ec
        rw [upd_at, upd_off _ _ eb, hf]
        exact h.apart b c hb hc eb
      · rw [upd_off _ _ eb, upd_off _ _ ec]
        exact h.apart b c hb hc hbc
  · exact (ht.more (fun k _ hk => .inr (.inr ⟨a, ha, hk⟩))).setCell (p := ⟨lb, a, none⟩) (.inl (.inr (.inl rfl))) _
end
end Go.Proofs.YtgfobgabdafclaaGreat
