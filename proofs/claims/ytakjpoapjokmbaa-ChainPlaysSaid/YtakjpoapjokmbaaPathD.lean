/-
  The way back, on both sides; the document's Path.
-/
import Derived.Test.YtakjpoapjokmbaaJt
import Derived.Test.YtakjpoapjokmbaaApi
namespace Go.Proofs.Ytakjpoapjokmbaa
open Go.ChangeShapes Go.WideShapes Go.ChangeAt Go.RowKit
set_option linter.unusedVariables false

def pathB : Nat → List No → Int → List No
  | 0, _, _ => []
  | f + 1, l, i => if i < 0 then [] else match l[i.toNat]? with
    | none => []
    | some q => q :: pathB f l q.prev
def strip (q : Nd) : Nd := { q with count := 0 }
def toNd (q : No) : Nd := ⟨q.prev, q.cell, q.num, q.slot, q.gen, 0⟩
theorem pathB_neg (f : Nat) (l : List No) {i : Int} (h : i < 0) : pathB f l i = [] := by
  cases f with
  | zero => rfl
  | succ f => rw [pathB, if_pos h]
theorem pathB_some {f : Nat} {l : List No} {k : Nat} {q : No} (h : l[k]? = some q) : pathB (f + 1) l (k : Int) = q :: pathB f l q.prev := by
  rw [pathB, if_neg (by omega), Int.toNat_natCast, h]
section
variable {l : List No} {G : Int → Option Nd}
theorem InvX.prev (h : InvX (-1) l G) {k : Nat} {q : No} (hq : l[k]? = some q) (hg : q.gone = false) : q.prev = -1 ∨ ∃ (p : Nat) (r : No), q.prev = (p : Int) ∧ l[p]? = some r ∧ r.gone = false ∧ p < k := by
  have hw := h.wf k q hq
  by_cases e : q.prev = -1
  · exact .inl e
  · obtain ⟨p, hp⟩ : ∃ p : Nat, q.prev = (p : Int) := ⟨q.prev.toNat, by omega⟩
    have hkl := (List.getElem?_eq_some_iff.1 hq).1
    obtain ⟨r, hr⟩ : ∃ r, l[p]? = some r := ⟨_, List.getElem?_eq_getElem (by omega)⟩
    exact .inr ⟨p, r, hp, hr, h.up k q hq hg p r hr hp, by omega⟩
theorem path_same (h : InvX (-1) l G) (hl : l.length ≤ 100) : ∀ (f : Nat) (i : Int), (i = -1 ∨ ∃ (k : Nat) (q : No), i = (k : Int) ∧ l[k]? = some q ∧ q.gone = false) → i < (f : Int) →
    PathOk f G i ∧ (pathG f G i).map strip = (pathB f l i).map toNd ∧ ∀ q ∈ pathG f G i, 0 ≤ q.cell ∧ q.cell ≤ 5
  | 0, i, hi, hf => by
    have e : i = -1 := by
      rcases hi with e | ⟨k, q, rfl, _⟩
      · exact e
      · omega
    subst e
    exact ⟨h.out _ (.inl (by omega)), rfl, fun q hq => by simp [pathG] at hq⟩
  | f + 1, i, hi, hf => by
    rcases hi with rfl | ⟨k, q, rfl, hq, hg⟩
    · have h0 : G (-1) = none := h.out _ (.inl (by omega))
      refine ⟨fun q hq => ?_, ?_, ?_⟩
      · rw [h0] at hq
        cases hq
      · rw [pathG_none h0, pathB_neg _ _ (by omega)]
        rfl
      · rw [pathG_none h0]
        intro q hq
        simp at hq
    · have hG := h.node k q hq hg
      have hw := h.wf k q hq
      have hkl := (List.getElem?_eq_some_iff.1 hq).1
      have ih := path_same h hl f q.prev (by
        rcases h.prev hq hg with e | ⟨p, r, e, hr, hrg, _⟩
        · exact .inl e
        · exact .inr ⟨p, r, e, hr, hrg⟩) (by omega)
      have epv : (ndOf l (-1) k q).prev = q.prev := rfl
      refine ⟨fun q' hq' => ?_, ?_, ?_⟩
      · rw [hG] at hq'
        injection hq' with hq'
        subst hq'
        exact ⟨wf_small (by rw [epv]; omega) (by rw [epv]; omega), ih.1⟩
      · rw [pathG_some hG, pathB_some hq, epv, List.map_cons, List.map_cons, ih.2.1]
        rfl
      · rw [pathG_some hG, epv]
        intro q' hq'
        rcases List.mem_cons.1 hq' with e | e
        · subst e
          exact ⟨hw.2.2.1, hw.2.2.2.1⟩
        · exact ih.2.2 q' e
theorem pathB_len (h : InvX (-1) l G) : ∀ (f : Nat) (i : Int), (pathB f l i).length ≤ f
  | 0, i => Nat.le_refl _
  | f + 1, i => by
    rw [pathB]
    split
    · simp
    · split
      · simp
      · simp only [List.length_cons]
        have := pathB_len h f
        exact Nat.succ_le_succ (this _)
/-- What Sets makes of a row hangs on cells and numbers alone. -/
theorem addL_strip (L : List (List Int)) (q : Nd) : addL L (strip q) = addL L q := rfl
theorem setsL_strip (xs : List Nd) : setsL (xs.map strip) = setsL xs := by
  unfold setsL
  rw [List.foldl_map]
  rfl
end
section
variable {w wr : World} {base rc : Nat} {v : Value} {l : List No}
theorem path_app {W : World} {b : Nat} {v : Value} {pre : List No} (h : W.ownsRow b 41 7 v pre.length (ncells pre)) (hb : b ≤ W.heap.size) (hp : pre.length ≤ 1000) (q : No) :
    ∃ v' w', (Builtin.append_ #[27, 27] 27 #[.slice (some ⟨W.heap.size, 0, none⟩) 1 1, v]).run Try.prog (W.alloc (.cells (ncell q).toArray 41)) = .ok v' w' ∧ w'.ownsRow b 41 7 v' (q :: pre).length (ncells (q :: pre)) ∧ Below W.heap.size W w' := by
  obtain ⟨i3, j1, j2, j3, j4⟩ := info_parts info41
  have hrow : (W.alloc (.cells (ncell q).toArray 41)).ownsRow b 41 7 (.slice (some ⟨W.heap.size, 0, none⟩) 1 1) 1 (ncell q) :=
    ⟨rfl, .inr ⟨W.heap.size, 1, (ncell q).toArray, rfl, hb, World.alloc_heap_new _ _, Nat.le_refl _, by decide, rfl, rfl⟩⟩
  have b1 : Below W.heap.size W (W.alloc (.cells (ncell q).toArray 41)) := (Below.refl _ W).alloc (Nat.le_refl _) _
  have hv := h.alloc (.cells (ncell q).toArray 41)
  have hone : ∀ (l : List No), ∀ v ∈ ncells l, v.oneCell' = true := by
    intro l
    induction l with
    | nil => intro v hv; simp [ncells] at hv
    | cons r l ih =>
      intro v hv
      rcases List.mem_append.1 (show v ∈ ncell r ++ ncells l from hv) with h | h
      · exact ncell_one r v h
      · exact ih v h
  rcases h.2 with ⟨rfl, hn⟩ | ⟨g, cap, cur, rfl, hg, hgg, hc, hm, hcs, htk⟩
  · have hp0 : pre = [] := List.length_eq_zero_iff.1 hn
    subst hp0
    refine ⟨_, _, run_append_owned_none _ b 27 27 41 i3 7 Try.underlying27 j1 _ 1 (ncell q) hrow, ?_, b1⟩
    have : ncells [q] = ncell q := by show ncell q ++ [] = _; simp
    rw [this]
    exact hrow
  · obtain ⟨v', w', hr, ho, hg2, _⟩ := run_append_own (W.alloc (.cells (ncell q).toArray 41)) b 27 27 41 i3 _ 7 56 Try.underlying27 j1 j2 j3 j4 rfl (by decide) _ 1 (ncell q) hrow ⟨g, 0, none⟩ pre.length cap (ncells pre) (ncells_len pre) (hv.cells rfl) (hone pre) (by unfold maxLen; omega) (by omega) (by rw [World.size_alloc]; omega)
    refine ⟨v', w', hr, ?_, b1.trans ⟨hg2.os, hg2.tape, hg2.output, hg2.size, fun k hk => hg2.block k (by rw [World.size_alloc]; omega) (fun e => by injection e with e; simp at e; omega)⟩⟩
    rw [List.length_cons, Nat.add_comm pre.length 1]
    exact ho
def PdRel (w : World) (l : List No) (k : Nat) (gh : Nat) (v1 v6 : Value) (wr : World) : Prop :=
  ∃ (f' : Nat) (i' : Int) (pre : List No), gh = f' ∧ v1 = .int .i64 i' ∧ wr.ownsRow w.heap.size 41 7 v6 pre.length (ncells pre) ∧ pathB (k + 1) l (k : Int) = pre.reverse ++ pathB f' l i' ∧ (i' = -1 ∨ ∃ (p : Nat) (r : No), i' = (p : Int) ∧ l[p]? = some r ∧ r.gone = false) ∧ i' < (f' : Int) ∧ pre.length + f' ≤ k + 1 ∧ Below w.heap.size w wr
def PathPost (w : World) (L : List No) (e : Ending) (w' : World) : Prop := ∃ v, e = .returned v ∧ w'.ownsRow w.heap.size 41 7 v L.length (ncells L) ∧ Below w.heap.size w w'
set_option maxRecDepth 100000 in
set_option maxHeartbeats 2000000 in
theorem dpath_at {G : Int → Option Nd} (h : RefC w base rc v l) (hB : base ≤ w.heap.size) (hI : InvX (-1) l G) {k : Nat} {q : No} (hq : l[k]? = some q) (hg : q.gone = false) (hk : k ≤ 100) :
    Calls Try.prog 26 #[.pointer (some ⟨rc, 0, none⟩), .int .i64 (k : Int)] w (PathPost w (pathB (k + 1) l (k : Int)).reverse) := by
  have I := is_at h (k : Int)
  rw [isL_at hq, hg] at I
  have I := Lib.hid I
  obtain ⟨ad, cap, rfl⟩ := h.shape
  have H := Lib.hid (And.intro h hI)
  have R0 : PdRel w l k (k + 1) (.int .i64 (k : Int)) (.slice none 0 0) w := ⟨k + 1, k, [], rfl, rfl, World.ownsRow_nil _ _ _ _, rfl, .inr ⟨k, q, rfl, hq, hg⟩, by omega, by simp, Below.refl _ _⟩
  clear h hI hq hg
  go_enter Try.func26, Try.ntmps26
  go_wp2_with fail
  refine I.out.mono ?_
  rintro e w1 ⟨rfl, rfl⟩
  go_wp2_with fail
  go_loopg [1, 6] (k + 1) (fun gh v1 v6 wr => PdRel w l k gh v1 v6 wr)
  case atStart => exact R0
  case round =>
    clear R0
    obtain ⟨f', i', pre, hgh, rfl, hrow, hpath, hor, hif, hpf, hb⟩ := hrel
    by_cases hi0 : i' < 0
    · have t1 : decide (0 ≤ i') = false := by simp; omega
      rw [pathB_neg _ _ hi0, List.append_nil] at hpath
      have F := Lib.hid (show PathPost w (pathB (k + 1) l (k : Int)).reverse (.returned u6) wr from ⟨_, rfl, by rw [hpath, List.reverse_reverse]; exact hrow, hb⟩)
      clear hrow hpath hor hb
      go_wp2_with fail
      go_ret
      exact F.out
    · obtain ⟨p, r, rfl, hr, hrg⟩ := hor.resolve_left (by omega)
      have t1 : decide (0 ≤ (p : Int)) = true := by simp
      have hR := H.out.1.below0 hb hB
      have c0 := hR.c0
      obtain ⟨gb, rfl, _, hcc⟩ := hR.at hr
      have z0 : wr.cell? ⟨gb, p * 7, none⟩ = some (.int .i64 r.prev) := hcc 0 (by decide)
      have z1 : wr.cell? ⟨gb, p * 7 + 1, none⟩ = some (.int .i64 r.cell) := hcc 1 (by decide)
      have z2 : wr.cell? ⟨gb, p * 7 + 2, none⟩ = some (.int .i64 r.num) := hcc 2 (by decide)
      have z3 : wr.cell? ⟨gb, p * 7 + 3, none⟩ = some (.int .i64 r.slot) := hcc 3 (by decide)
      have z4 : wr.cell? ⟨gb, p * 7 + 4, none⟩ = some (.int .i64 r.gen) := hcc 4 (by decide)
      have z5 : wr.cell? ⟨gb, p * 7 + 5, none⟩ = some (.int .i64 r.kept) := hcc 5 (by decide)
      have z6 : wr.cell? ⟨gb, p * 7 + 6, none⟩ = some (.bool r.gone) := hcc 6 (by decide)
      have hpl : p < l.length := (List.getElem?_eq_some_iff.1 hr).1
      have hpn : (p : Int) < (l.length : Int) := by omega
      cases f' with
      | zero => omega
      | succ f' =>
        rw [pathB_some hr] at hpath
        obtain ⟨v', wa, hrun, hown, hbe⟩ := path_app hrow hb.size (by omega) r
        have hRa := hR.below0 hbe (Nat.le_trans hB hb.size)
        have ca := hRa.c0
        obtain ⟨gb2, eg, _, hcc2⟩ := hRa.at hr
        injection eg with eg
        injection eg with eg
        subst eg
        have y0 : wa.cell? ⟨gb, p * 7, none⟩ = some (.int .i64 r.prev) := hcc2 0 (by decide)
        have RUN := Lib.hid hrun
        have hw := H.out.2.wf p r hr
        have F := Lib.hid (show PdRel w l k f' (.int .i64 r.prev) v' wa from ⟨f', r.prev, r :: pre, rfl, rfl, hown, by rw [hpath]; simp, by
          rcases H.out.2.prev hr hrg with e | ⟨p', r', e, h1, h2, _⟩
          · exact .inl e
          · exact .inr ⟨p', r', e, h1, h2⟩, by omega, by simp; omega, hb.trans (hbe.mono hb.size)⟩)
        have HG := Lib.hid hgh
        clear hrow hpath hor hb hR hRa hcc hcc2 hr hrg hrun hown hbe hw hgh hi0 hif hpf
        simp only [ncell] at RUN
        generalize r.prev = r1 at *
        generalize r.cell = r2 at *
        generalize r.num = r3 at *
        generalize r.slot = r4 at *
        generalize r.gen = r5 at *
        generalize r.kept = r6 at *
        generalize r.gone = r7 at *
        go_wp2_with (refine wpList_append_runC (by rfl) _ _ _ (by rfl) (by rfl) (by rfl) RUN.out ?_)
        go_roundg f'
        case measure => have := HG.out; omega
        case rel => exact F.out
set_option maxRecDepth 100000 in
theorem dpath_no (h : RefC w base rc v l) {i : Int} (hi : isL l i = false) : Calls Try.prog 26 #[.pointer (some ⟨rc, 0, none⟩), .int .i64 i] w (PathPost w []) := by
  have I := is_at h i
  rw [hi] at I
  have I := Lib.hid I
  clear h hi
  go_enter Try.func26, Try.ntmps26
  go_wp2_with fail
  refine I.out.mono ?_
  rintro e w1 ⟨rfl, rfl⟩
  go_wp2_with fail
  go_ret
  exact ⟨_, rfl, World.ownsRow_nil _ _ _ _, Below.refl _ _⟩
end
end Go.Proofs.Ytakjpoapjokmbaa
