/-
  What StoreOwn goes by: each ref that was told has its own event, till it is gone.
-/
import Derived.Test.YtjfbjkgppnhaoaaNo
import Derived.Laws.AppendOwn
import Derived.Laws.OwnMore
namespace Go.Proofs.Ytjfbjkgppnhaoaa
open Go.ChangeShapes Go.WideShapes Go.ChangeAt Go.RowKit
set_option linter.unusedVariables false

theorem Near.grown {r pb : Nat} {a w w' : World} (h : Near r pb a w) {row : Option Nat} (hg : w.grownBy w' row) (hr : ∀ k, row = some k → a.heap.size ≤ k) : Near r pb a w' :=
  ⟨hg.os.trans h.os, hg.tape.trans h.tape, hg.output.trans h.output, Nat.le_trans h.size hg.size, fun k hk h1 h2 => (hg.block k (Nat.lt_of_lt_of_le hk h.size) (fun e => by have := hr k e.symm; omega)).trans (h.block k hk h1 h2)⟩

theorem own_near {w w' : World} {base : Nat} {e : TypeId} {size : Nat} {v : Value} {n : Nat} {xs : List Value} {sb : Nat} (h : w.ownsRow base e size v n xs) (hn : Near sb sb w w') (hb : sb < base) : w'.ownsRow base e size v n xs := by
  refine ⟨h.1, ?_⟩
  rcases h.2 with h0 | ⟨g, cap, cur, rfl, hg, hgg, rest⟩
  · exact .inl h0
  · exact .inr ⟨g, cap, cur, rfl, hg, (hn.block g (Array.getElem?_eq_some_iff.1 hgg).1 (by omega) (by omega)).trans hgg, rest⟩

theorem own_apart {w : World} {base base' : Nat} {e e' : TypeId} {size size' : Nat} {v v' : Value} {n n' : Nat} {xs xs' : List Value} (h : w.ownsRow base e size v n xs) (h' : w.ownsRow base' e' size' v' n' xs') (hne : e ≠ e') : v.ownBlock = none ∨ v.ownBlock ≠ v'.ownBlock := by
  rcases h.2 with ⟨rfl, _⟩ | ⟨g, cap, cur, rfl, hg, hgg, rest⟩
  · exact .inl rfl
  · refine .inr ?_
    rcases h'.2 with ⟨rfl, _⟩ | ⟨g', cap', cur', rfl, hg', hgg', rest'⟩
    · simp [Value.ownBlock]
    · intro e
      simp [Value.ownBlock] at e
      subst e
      rw [hgg] at hgg'
      injection hgg' with h1
      injection h1 with _ h2
      exact hne h2

def refCells : List (Nat × Int) → List Value
  | [] => []
  | x :: l => .int .i64 (x.1 : Int) :: .int .i64 x.2 :: refCells l
theorem refCells_at : ∀ (l : List (Nat × Int)) (j S : Nat) (G : Int), l[j]? = some (S, G) → (refCells l)[j * 2]? = some (.int .i64 (S : Int)) ∧ (refCells l)[j * 2 + 1]? = some (.int .i64 G)
  | [], j, S, G, h => by simp at h
  | x :: l, 0, S, G, h => by
    simp at h
    subst h
    exact ⟨rfl, rfl⟩
  | x :: l, j + 1, S, G, h => by
    have := refCells_at l j S G (by simpa using h)
    rw [show (j + 1) * 2 = j * 2 + 1 + 1 from by omega, show j * 2 + 1 + 1 + 1 = (j * 2 + 1) + 1 + 1 from by omega]
    exact this
theorem refCells_snoc : ∀ (l : List (Nat × Int)) (x : Nat × Int), refCells (l ++ [x]) = refCells l ++ [.int .i64 (x.1 : Int), .int .i64 x.2]
  | [], x => rfl
  | y :: l, x => by simp [refCells, refCells_snoc l x]

/-- What is so of the refs that were told, and of those that are gone. -/
structure OwnF (n : Nat) (ev : Nat → Nat → Int) (used : Nat → Bool) (count gen : Nat → Int) (R : List (Nat × Int)) (D : List Bool) (m : Int) : Prop where
  len : D.length = R.length
  cnt : ∀ k, 0 ≤ count k ∧ count k ≤ m
  gn : ∀ k, 0 ≤ gen k ∧ gen k ≤ m
  ref : ∀ (j S : Nat) (G : Int), R[j]? = some (S, G) → S < n ∧ G ≤ gen S ∧ (D[j]? = some true → G < gen S) ∧ (D[j]? = some false → used S = true ∧ gen S = G ∧ ev S 1 = (j : Int))

section
variable {n : Nat} {ev : Nat → Nat → Int} {used : Nat → Bool} {count gen : Nat → Int} {R : List (Nat × Int)} {D : List Bool} {m : Int}

theorem OwnF.up (h : OwnF n ev used count gen R D m) {m' : Int} (hm : m ≤ m') : OwnF n ev used count gen R D m' :=
  ⟨h.len, fun k => ⟨(h.cnt k).1, by have := (h.cnt k).2; omega⟩, fun k => ⟨(h.gn k).1, by have := (h.gn k).2; omega⟩, h.ref⟩

theorem OwnF.counts (h : OwnF n ev used count gen R D m) (S : Nat) (c : Int) (h0 : 0 ≤ c) (h1 : c ≤ m + 1) : OwnF n ev used (upd count S c) gen R D (m + 1) := by
  refine ⟨h.len, fun k => ?_, fun k => ⟨(h.gn k).1, by have := (h.gn k).2; omega⟩, h.ref⟩
  by_cases e : k = S
  · subst e
    rw [upd_at]
    omega
  · rw [upd_off _ _ e]
    have := h.cnt k
    omega

theorem OwnF.take (h : OwnF n ev used count gen R D m) {f : Nat} (hf : f < n) (hu : used f = false) (hm : 1 ≤ m) {ev2 : Nat → Nat → Int} (he : ∀ a b, a ≠ f → ev2 a b = ev a b) (h1 : ev2 f 1 = (R.length : Int)) :
    OwnF n ev2 (upd used f true) (upd count f 1) gen (R ++ [(f, gen f)]) (D ++ [false]) m := by
  have hl := h.len
  refine ⟨by simp [hl], fun k => ?_, h.gn, fun j S G hj => ?_⟩
  · by_cases e : k = f
    · subst e
      rw [upd_at]
      omega
    · rw [upd_off _ _ e]
      exact h.cnt k
  · by_cases hjl : j < R.length
    · rw [List.getElem?_append_left hjl] at hj
      rw [List.getElem?_append_left (by omega)]
      obtain ⟨a, b, c, d⟩ := h.ref j S G hj
      refine ⟨a, b, c, fun hd => ?_⟩
      obtain ⟨d1, d2, d3⟩ := d hd
      have hne : S ≠ f := fun e => by
        rw [e, hu] at d1
        exact absurd d1 (by decide)
      exact ⟨(upd_off _ _ hne).trans d1, d2, (he _ _ hne).trans d3⟩
    · have hjl' : j = R.length := by
        have := (List.getElem?_eq_some_iff.1 hj).1
        simp at this
        omega
      subst hjl'
      rw [List.getElem?_append_right (Nat.le_refl _)] at hj
      simp at hj
      obtain ⟨rfl, rfl⟩ := hj
      rw [← hl, List.getElem?_append_right (Nat.le_refl _)]
      simp only [Nat.sub_self, List.getElem?_cons_zero]
      exact ⟨hf, Int.le_refl _, fun e => absurd e (by decide), fun _ => ⟨upd_at _ _ _, by first | trivial | rfl, by rw [hl]; exact h1⟩⟩

theorem OwnF.free (h : OwnF n ev used count gen R D m) {j0 S : Nat} {G : Int} (hj : R[j0]? = some (S, G)) (hd : D[j0]? = some false) {ev2 : Nat → Nat → Int} (he : ∀ a b, a ≠ S → ev2 a b = ev a b) :
    OwnF n ev2 (upd used S false) (upd count S 0) (upd gen S (G + 1)) R (D.set j0 true) (m + 1) := by
  obtain ⟨a0, b0, _, d0⟩ := h.ref j0 S G hj
  obtain ⟨u0, g0, e0⟩ := d0 hd
  refine ⟨by simpa using h.len, fun k => ?_, fun k => ?_, fun j S' G' hj' => ?_⟩
  · by_cases e : k = S
    · subst e
      rw [upd_at]
      have := h.cnt k
      omega
    · rw [upd_off _ _ e]
      have := h.cnt k
      omega
  · by_cases e : k = S
    · subst e
      rw [upd_at]
      have := h.gn k
      omega
    · rw [upd_off _ _ e]
      have := h.gn k
      omega
  · obtain ⟨a, b, c, d⟩ := h.ref j S' G' hj'
    by_cases ej : j = j0
    · subst ej
      rw [hj] at hj'
      injection hj' with hj'
      injection hj' with h1 h2
      subst h1
      subst h2
      refine ⟨a, by rw [upd_at]; omega, fun _ => by rw [upd_at]; omega, fun hf => ?_⟩
      rw [List.getElem?_set_self (by exact (List.getElem?_eq_some_iff.1 hd).1)] at hf
      exact absurd hf (by decide)
    · rw [List.getElem?_set_ne (Ne.symm ej)]
      by_cases es : S' = S
      · subst es
        rw [upd_at]
        refine ⟨a, by omega, fun hf => ?_, fun hf => ?_⟩
        · have := c hf
          omega
        · obtain ⟨_, _, d3⟩ := d hf
          rw [e0] at d3
          exact absurd (by omega : j = j0) ej
      · rw [upd_off _ _ es]
        refine ⟨a, b, c, fun hf => ?_⟩
        obtain ⟨d1, d2, d3⟩ := d hf
        exact ⟨(upd_off _ _ es).trans d1, d2, (he _ _ es).trans d3⟩
end

/-- The store, the refs, and which of them are gone, in memory; the rows lag behind what is so by what was told last. -/
structure OwnSt (wL : World) (s sb n : Nat) (v8 v9 : Value) (R : List (Nat × Int)) (D : List Bool) (R8 : List (Nat × Int)) (D9 : List Bool) (m : Int) (wr : World) : Prop where
  st : ∃ ev used count gen, Storey wr s sb n ev used count gen ∧ OwnF n ev used count gen R D m
  near : Near sb sb wL wr
  r8 : wr.ownsRow wL.heap.size 87 2 v8 R8.length (refCells R8)
  r9 : wr.ownsRow wL.heap.size 4 1 v9 D9.length (D9.map Value.bool)
  ls : s < wL.heap.size
  lb : sb < wL.heap.size
  n6 : n ≤ 6

section
variable {wL wr : World} {s sb n : Nat} {v8 v9 : Value} {R R8 : List (Nat × Int)} {D D9 : List Bool} {m : Int}

theorem OwnSt.on (h : OwnSt wL s sb n v8 v9 R D R8 D9 m wr) {w' : World} (hn : Near sb sb wr w') {R' : List (Nat × Int)} {D' : List Bool} {m' : Int} (hs : ∃ ev used count gen, Storey w' s sb n ev used count gen ∧ OwnF n ev used count gen R' D' m') : OwnSt wL s sb n v8 v9 R' D' R8 D9 m' w' :=
  ⟨hs, h.near.trans hn, own_near h.r8 hn h.lb, own_near h.r9 hn h.lb, h.ls, h.lb, h.n6⟩
theorem OwnSt.alloc (h : OwnSt wL s sb n v8 v9 R D R8 D9 m wr) (o : Obj) : OwnSt wL s sb n v8 v9 R D R8 D9 m (wr.alloc o) := by
  obtain ⟨ev, used, count, gen, hs, hf⟩ := h.st
  exact h.on ((Near.refl sb sb wr).alloc o) ⟨ev, used, count, gen, hs.alloc o, hf⟩
theorem OwnSt.drewN (h : OwnSt wL s sb n v8 v9 R D R8 D9 m wr) (d : Nat) : OwnSt wL s sb n v8 v9 R D R8 D9 m (wr.drewN d) := by
  obtain ⟨ev, used, count, gen, hs, hf⟩ := h.st
  exact h.on (Near.drewN d) ⟨ev, used, count, gen, hs.drewN d, hf⟩
theorem OwnSt.up (h : OwnSt wL s sb n v8 v9 R D R8 D9 m wr) {m' : Int} (hm : m ≤ m') : OwnSt wL s sb n v8 v9 R D R8 D9 m' wr := by
  obtain ⟨ev, used, count, gen, hs, hf⟩ := h.st
  exact ⟨⟨ev, used, count, gen, hs, hf.up hm⟩, h.near, h.r8, h.r9, h.ls, h.lb, h.n6⟩

/-- A row has grown: the rest is as it was. -/
theorem OwnSt.grown (h : OwnSt wL s sb n v8 v9 R D R8 D9 m wr) {w' : World} {row : Option Nat} (hg : wr.grownBy w' row) (hr : ∀ k, row = some k → wL.heap.size ≤ k) :
    (∃ ev used count gen, Storey w' s sb n ev used count gen ∧ OwnF n ev used count gen R D m) ∧ Near sb sb wL w' := by
  obtain ⟨ev, used, count, gen, hs, hf⟩ := h.st
  have h1 := h.ls
  have h2 := h.lb
  refine ⟨⟨ev, used, count, gen, hs.keep (hg.block s hs.ls (fun e => ?_)) (hg.block sb hs.lb (fun e => ?_)) hg.size, hf⟩, h.near.grown hg hr⟩
  · have := hr _ e.symm
    omega
  · have := hr _ e.symm
    omega

theorem OwnSt.app8 (h : OwnSt wL s sb n v8 v9 R D R8 D9 m wr) {v8' : Value} {w' : World} {S : Nat} {G : Int} (ho : w'.ownsRow wL.heap.size 87 2 v8' (R8.length + 1) (refCells R8 ++ [.int .i64 (S : Int), .int .i64 G])) (hg : wr.grownBy w' v8.ownBlock) : OwnSt wL s sb n v8' v9 R D (R8 ++ [(S, G)]) D9 m w' := by
  obtain ⟨a, b⟩ := h.grown hg (fun k hk => (h.r8.lt k hk).1)
  refine ⟨a, b, ?_, h.r9.kept hg (own_apart h.r9 h.r8 (by decide)), h.ls, h.lb, h.n6⟩
  rw [refCells_snoc, List.length_append]
  exact ho
theorem OwnSt.app9 (h : OwnSt wL s sb n v8 v9 R D R8 D9 m wr) {v9' : Value} {w' : World} {x : Bool} (ho : w'.ownsRow wL.heap.size 4 1 v9' (D9.length + 1) (D9.map Value.bool ++ [.bool x])) (hg : wr.grownBy w' v9.ownBlock) : OwnSt wL s sb n v8 v9' R D R8 (D9 ++ [x]) m w' := by
  obtain ⟨a, b⟩ := h.grown hg (fun k hk => (h.r9.lt k hk).1)
  refine ⟨a, b, h.r8.kept hg (own_apart h.r8 h.r9 (by decide)), ?_, h.ls, h.lb, h.n6⟩
  rw [List.map_append, List.length_append]
  exact ho
theorem OwnSt.store9 {g9 cap9 : Nat} (h : OwnSt wL s sb n v8 (.slice (some ⟨g9, 0, none⟩) D9.length cap9) R D R8 D9 m wr) (j : Nat) (x : Bool) :
    OwnSt wL s sb n v8 (.slice (some ⟨g9, 0, none⟩) D9.length cap9) R D R8 (D9.set j x) m (wr.setCell ⟨g9, j, none⟩ (.bool x)) := by
  obtain ⟨ho, hg⟩ := h.r9.stored j (.bool x)
  obtain ⟨a, b⟩ := h.grown hg (fun k hk => (h.r9.lt k (by simpa [Value.ownBlock] using hk)).1)
  refine ⟨a, b, h.r8.kept hg ?_, ?_, h.ls, h.lb, h.n6⟩
  · rcases own_apart h.r8 h.r9 (by decide) with e | e
    · exact .inl e
    · exact .inr (by simpa [Value.ownBlock] using e)
  · rw [List.map_set, List.length_set]
    exact ho

def TakeP (wL : World) (s sb n : Nat) (v8 v9 : Value) (R : List (Nat × Int)) (D : List Bool) (R8 : List (Nat × Int)) (D9 : List Bool) (m : Int) (S : Nat) (G : Int) (ok : Bool) (w' : World) : Prop :=
  (ok = false → OwnSt wL s sb n v8 v9 R D R8 D9 m w') ∧ (ok = true → OwnSt wL s sb n v8 v9 (R ++ [(S, G)]) (D ++ [false]) R8 D9 m w')

theorem least (p : Nat → Bool) : ∀ n, (∀ k, k < n → p k = true) ∨ ∃ f, f < n ∧ p f = false ∧ ∀ k, k < f → p k = true
  | 0 => .inl fun k hk => absurd hk (Nat.not_lt_zero k)
  | n + 1 => by
    rcases least p n with h | ⟨f, a, b, c⟩
    · cases e : p n with
      | true =>
        refine .inl fun k hk => ?_
        by_cases ek : k = n
        · rw [ek]; exact e
        · exact h k (by omega)
      | false => exact .inr ⟨n, by omega, e, h⟩
    · exact .inr ⟨f, by omega, b, c⟩

theorem OwnSt.take (h : OwnSt wL s sb n v8 v9 R D R8 D9 m wr) (hm : 1 ≤ m) :
    Calls Try.prog 40 #[.pointer (some ⟨s, 0, none⟩), .agg #[.int .i64 0, .int .i64 (R.length : Int), .int .i64 0, .int .i64 0, .int .i64 0, .int .i64 0]] wr fun e w' => ∃ (S : Nat) (G : Int) (ok : Bool), e = .returned (.tuple #[.agg #[.int .i64 (S : Int), .int .i64 G], .bool ok]) ∧ TakeP wL s sb n v8 v9 R D R8 D9 m S G ok w' := by
  obtain ⟨ev, used, count, gen, hs, hf⟩ := h.st
  have n6 := h.n6
  rcases least used n with hall | ⟨f, f1, f2, f3⟩
  · exact (hs.take_full n rfl (by omega) hall 0 (R.length : Int) 0 0 0 0).mono fun e w' ⟨a, b, c⟩ => ⟨0, 0, false, a, fun _ => h.on c ⟨ev, used, count, gen, b, hf⟩, fun e => absurd e (by decide)⟩
  · refine (hs.take f f1 (by omega) f3 f2 0 (R.length : Int) 0 0 0 0).mono fun e w' ⟨a, ⟨ev2, t, b⟩, c⟩ => ⟨f, gen f, true, a, fun e => absurd e (by decide), fun _ => h.on c ⟨ev2, _, _, gen, b, hf.take f1 f2 hm t.1 t.2.2.1⟩⟩

section
variable {j S : Nat} {G : Int}

theorem OwnSt.get_live (h : OwnSt wL s sb n v8 v9 R D R8 D9 m wr) (hj : R[j]? = some (S, G)) (hd : D[j]? = some false) :
    Calls Try.prog 43 #[.pointer (some ⟨s, 0, none⟩), .agg #[.int .i64 (S : Int), .int .i64 G]] wr fun e w' => (∃ x0 x2 x3 x4 x5 : Int, e = .returned (.tuple #[.agg #[.int .i64 x0, .int .i64 (j : Int), .int .i64 x2, .int .i64 x3, .int .i64 x4, .int .i64 x5], .bool true])) ∧ OwnSt wL s sb n v8 v9 R D R8 D9 m w' := by
  obtain ⟨ev, used, count, gen, hs, hf⟩ := h.st
  have n6 := h.n6
  obtain ⟨a, b, _, d⟩ := hf.ref j S G hj
  obtain ⟨d1, d2, d3⟩ := d hd
  have K := hs.get_yes (S := S) (G := G) ⟨a, by omega, d1, d2⟩
  rw [d3] at K
  exact K.mono fun e w' ⟨q, r, t⟩ => ⟨⟨_, _, _, _, _, q⟩, h.on t ⟨ev, used, count, gen, r, hf⟩⟩

theorem OwnSt.no (h : OwnSt wL s sb n v8 v9 R D R8 D9 m wr) (hj : R[j]? = some (S, G)) (hd : D[j]? = some true) :
    (Calls Try.prog 43 #[.pointer (some ⟨s, 0, none⟩), .agg #[.int .i64 (S : Int), .int .i64 G]] wr fun e w' => e = .returned (.tuple #[.agg #[.int .i64 0, .int .i64 0, .int .i64 0, .int .i64 0, .int .i64 0, .int .i64 0], .bool false]) ∧ OwnSt wL s sb n v8 v9 R D R8 D9 m w') ∧
    (Calls Try.prog 44 #[.pointer (some ⟨s, 0, none⟩), .agg #[.int .i64 (S : Int), .int .i64 G]] wr fun e w' => e = .returned (.int .i64 0) ∧ OwnSt wL s sb n v8 v9 R D R8 D9 m w') ∧
    (Calls Try.prog 41 #[.pointer (some ⟨s, 0, none⟩), .agg #[.int .i64 (S : Int), .int .i64 G]] wr fun e w' => e = .returned (.bool false) ∧ OwnSt wL s sb n v8 v9 R D R8 D9 m w') ∧
    (∀ y : Int, Calls Try.prog 42 #[.pointer (some ⟨s, 0, none⟩), .agg #[.int .i64 (S : Int), .int .i64 G], .int .i64 y] wr fun e w' => e = .returned (.tuple #[.int .i64 0, .bool false]) ∧ OwnSt wL s sb n v8 v9 R D R8 D9 m w') := by
  obtain ⟨ev, used, count, gen, hs, hf⟩ := h.st
  have n6 := h.n6
  obtain ⟨a, b, c, _⟩ := hf.ref j S G hj
  have c1 := c hd
  have hno : used S = false ∨ used S = true ∧ gen S ≠ G := by
    cases used S with
    | false => exact .inl rfl
    | true => exact .inr ⟨rfl, by omega⟩
  exact ⟨(hs.get_no a (by omega) hno).mono fun e w' ⟨q, r, t⟩ => ⟨q, h.on t ⟨ev, used, count, gen, r, hf⟩⟩,
    (hs.count_no a (by omega) hno).mono fun e w' ⟨q, r, t⟩ => ⟨q, h.on t ⟨ev, used, count, gen, r, hf⟩⟩,
    (hs.free_no a (by omega) hno).mono fun e w' ⟨q, r, t⟩ => ⟨q, h.on t ⟨ev, used, count, gen, r, hf⟩⟩,
    fun y => (hs.add_no a (by omega) hno y).mono fun e w' ⟨q, r, t⟩ => ⟨q, h.on t ⟨ev, used, count, gen, r, hf⟩⟩⟩

def FreeP (wL : World) (s sb n : Nat) (v8 v9 : Value) (R : List (Nat × Int)) (D : List Bool) (m : Int) (j : Nat) (ok : Bool) (w' : World) : Prop :=
  OwnSt wL s sb n v8 v9 R (D.set j (D.getD j false || ok)) R D (m + 1) w'

theorem set_same {α : Type} (l : List α) (j : Nat) (x : α) (h : l[j]? = some x) : l.set j x = l := by
  apply List.ext_getElem?
  intro i
  by_cases e : i = j
  · subst e
    rw [List.getElem?_set_self (List.getElem?_eq_some_iff.1 h).1, h]
  · rw [List.getElem?_set_ne (Ne.symm e)]

theorem OwnSt.free_any (h : OwnSt wL s sb n v8 v9 R D R D m wr) (hj : R[j]? = some (S, G)) (hM : m ≤ 100000) :
    Calls Try.prog 41 #[.pointer (some ⟨s, 0, none⟩), .agg #[.int .i64 (S : Int), .int .i64 G]] wr fun e w' => ∃ ok, e = .returned (.bool ok) ∧ FreeP wL s sb n v8 v9 R D m j ok w' := by
  obtain ⟨ev, used, count, gen, hs, hf⟩ := h.st
  have n6 := h.n6
  have hjl : j < D.length := by rw [hf.len]; exact (List.getElem?_eq_some_iff.1 hj).1
  obtain ⟨d, hd⟩ : ∃ d, D[j]? = some d := ⟨_, List.getElem?_eq_getElem hjl⟩
  have hgd : D.getD j false = d := by simp [List.getD_eq_getElem?_getD, hd]
  cases d with
  | true =>
    refine (h.no hj hd).2.2.1.mono fun e w' ⟨q, r⟩ => ⟨false, q, ?_⟩
    unfold FreeP
    rw [hgd, show (true || false) = true from rfl, set_same _ _ _ hd]
    exact r.up (by omega)
  | false =>
    obtain ⟨a, b, _, d⟩ := hf.ref j S G hj
    obtain ⟨d1, d2, d3⟩ := d hd
    have hi : Is n used gen S G := ⟨a, by omega, d1, d2⟩
    by_cases hz : count S = 0
    · have g1 := hf.gn S
      refine (hs.free_dead hi hz (by omega)).mono fun e w' ⟨q, ⟨ev2, he, r⟩, t⟩ => ⟨true, q, ?_⟩
      unfold FreeP
      rw [hgd, show (false || true) = true from rfl]
      exact h.on t ⟨ev2, _, _, _, r, hf.free hj hd he⟩
    · refine (hs.free_live hi hz).mono fun e w' ⟨q, r, t⟩ => ⟨false, q, ?_⟩
      unfold FreeP
      rw [hgd, show (false || false) = false from rfl, set_same _ _ _ hd]
      exact (h.on t ⟨ev, used, count, gen, r, hf⟩).up (by omega)

theorem OwnSt.add (h : OwnSt wL s sb n v8 v9 R D R8 D9 m wr) (hj : R[j]? = some (S, G)) (hM : m ≤ 100000) (y : Int) (y0 : -1000 ≤ y) (y1 : y ≤ 1) :
    Calls Try.prog 42 #[.pointer (some ⟨s, 0, none⟩), .agg #[.int .i64 (S : Int), .int .i64 G], .int .i64 y] wr fun e w' => (∃ x b, e = .returned (.tuple #[.int .i64 x, .bool b])) ∧ OwnSt wL s sb n v8 v9 R D R8 D9 (m + 1) w' := by
  obtain ⟨ev, used, count, gen, hs, hf⟩ := h.st
  have n6 := h.n6
  have hjl : j < D.length := by rw [hf.len]; exact (List.getElem?_eq_some_iff.1 hj).1
  obtain ⟨d, hd⟩ : ∃ d, D[j]? = some d := ⟨_, List.getElem?_eq_getElem hjl⟩
  cases d with
  | true => exact ((h.no hj hd).2.2.2 y).mono fun e w' ⟨q, r⟩ => ⟨⟨_, _, q⟩, r.up (by omega)⟩
  | false =>
    obtain ⟨a, b, _, d⟩ := hf.ref j S G hj
    obtain ⟨d1, d2, d3⟩ := d hd
    have hi : Is n used gen S G := ⟨a, by omega, d1, d2⟩
    have hc := hf.cnt S
    exact (hs.add_any hi y m hc.1 hc.2 (by omega) (by omega) y1).mono fun e w' ⟨q, ⟨c, c0, c1, r⟩, t⟩ => ⟨q, h.on t ⟨ev, used, _, gen, r, hf.counts S c c0 c1⟩⟩
end
end
end Go.Proofs.Ytjfbjkgppnhaoaa
