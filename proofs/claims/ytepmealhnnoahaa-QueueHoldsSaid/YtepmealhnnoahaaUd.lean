/-
  Refs put behind refs; the state of QueueHolds.
-/
import Derived.Test.YtepmealhnnoahaaUa
import Derived.Test.YtepmealhnnoahaaUc
import Derived.Test.YtepmealhnnoahaaSh
namespace Go.Proofs.Ytepmealhnnoahaa
set_option linter.unusedSimpArgs false
open Go.ChangeShapes Go.WideShapes Go.ChangeAt Go.RowKit
set_option linter.unusedVariables false
/-- Refs that are read, wherever they lie. -/
def RefsIn (w : World) (v : Value) (l : List (Int × Int)) : Prop :=
  (v = .slice none 0 0 ∧ l = []) ∨ ∃ (b off c : Nat), v = .slice (some ⟨b, off, none⟩) l.length c ∧ w.rangeAt b off (rcells l)
theorem refsin_own {w : World} {base : Nat} {v : Value} {l : List (Int × Int)} (h : w.ownsRow base 38 2 v l.length (rcells l)) : RefsIn w v l := by
  obtain ⟨a, c, e, ha⟩ := own_slice h
  rcases h.2 with ⟨e1, e2⟩ | ⟨g, cap, cur, e1, _⟩
  · exact .inl ⟨e1, List.eq_nil_of_length_eq_zero e2⟩
  · subst e1
    refine .inr ⟨g, 0, cap, rfl, fun j u hu => ?_⟩
    have hj := (List.getElem?_eq_some_iff.1 hu).1
    rw [rcells_len] at hj
    rw [Nat.zero_add]
    exact (h.cellAt j hj).trans hu
theorem refsin_row {w : World} {v : Value} {l : List (Int × Int)} (h : RowV w 38 2 l.length v (rcells l)) : RefsIn w v l := by
  obtain ⟨b, cap, e, hb, hx, _⟩ := h
  exact .inr ⟨b, 0, cap, e, hx⟩
theorem app_refsI {W : World} {base : Nat} {v v2 : Value} {l m : List (Int × Int)} (ho : W.ownsRow base 38 2 v l.length (rcells l)) (h2 : RefsIn W v2 m) (hn : l.length + m.length ≤ 1000000) (hb : base ≤ W.heap.size) (ty : TypeId) :
    ∃ v' W', (Builtin.append_ #[54, 54] ty #[v, v2]).run Try.prog W = .ok v' W' ∧ W'.ownsRow base 38 2 v' (l ++ m).length (rcells (l ++ m)) ∧ Turn (fun q => v.ownBlock = some q) W W' ∧ (∀ q, v'.ownBlock = some q → v.ownBlock = some q ∨ W.heap.size ≤ q) := by
  obtain ⟨i3, j1, j2, j3, j4⟩ := info_parts info38c
  rcases h2 with ⟨rfl, rfl⟩ | ⟨b, off, c, rfl, hx⟩
  · refine ⟨v, W, ?_, by simpa using ho, Turn.refl _ _, fun q h => .inl h⟩
    rcases ho.2 with ⟨rfl, e⟩ | ⟨g, cap, cur, rfl, _, _, hnc, _⟩
    · simp [Builtin.append_, run_underlying Try.underlying54, sizeOf, typeInfo, j1, Builtin.lenOf, Builtin.firstCells]
    · simp [Builtin.append_, run_underlying Try.underlying54, sizeOf, typeInfo, j1, Builtin.lenOf, Builtin.firstCells, hnc, storeCells]
  · obtain ⟨v', w', hr, ho', hg, _, hbl⟩ := run_append_own_at W base 54 ty 38 i3 _ 2 16 Try.underlying54 j1 j2 j3 j4 rfl (by decide) _ _ _ ho ⟨b, off, none⟩ m.length c (rcells m) (rcells_len m) (fun j u hu => by
      rw [Go.WideShapes.add_plain]
      exact hx j u hu) (rcells_one m) (by unfold maxLen; omega) (by omega) hb
    refine ⟨v', w', hr, by rw [rcells_app, List.length_append]; exact ho', (Turn.refl _ _).grown hg (fun k hk => .inl hk), fun q hq => ?_⟩
    rcases hbl with e | e
    · exact .inl (e ▸ hq)
    · rw [e] at hq
      cases hq
      exact .inr (Nat.le_refl _)
theorem RefsIn.turn {Z : Nat → Prop} {w w' : World} {v : Value} {l : List (Int × Int)} (h : RefsIn w v l) (T : Turn Z w w') (hz : ∀ k, v.ownBlock = some k → ¬ Z k) : RefsIn w' v l := by
  rcases h with h | ⟨b, off, c, rfl, hx⟩
  · exact .inl h
  · exact .inr ⟨b, off, c, rfl, range_turn hx T (hz b rfl)⟩
def cfg7 (x y : Int) : List Value := [.int .i64 0, .int .i64 0, .int .i64 0, .int .i64 (quOf x), .int .i64 0, .int .i64 (ouOf y), .int .i64 0]
theorem cntR_wt (r : Int × Int) (l : List (Int × Int)) : cntR r l = wtR (fun p => if p.1 == r.1 && p.2 == r.2 then 1 else 0) l := by
  induction l with
  | nil => rfl
  | cons p l ih => simp only [cntR, wtR, List.map_cons, List.sum_cons] at ih ⊢; rw [ih]
theorem DomS.none : DomS noneS := fun i h => absurd rfl h
/-- Between two calls: what came, and what was let go, lie in rows of their own. -/
structure HS (w : World) (x y : Int) (d base i mb m : Nat) (S : DS) (P : Nat → Prop) (R G : List (Int × Int)) (vr vg : Value) (wr : World) : Prop where
  desk : DAt wr d mb base (quOf x) (ouOf y) (i * 30) m S P
  own : ∀ k, P k → w.heap.size ≤ k
  inv : InvS (ouOf y) S
  dom : DomS S
  mq : (m : Int) ≤ quOf x
  refs : wr.ownsRow w.heap.size 38 2 vr R.length (rcells R)
  gone : wr.ownsRow w.heap.size 38 2 vg G.length (rcells G)
  ra : ∀ k, vr.ownBlock = some k → ¬ P k
  ga : ∀ k, vg.ownBlock = some k → ¬ P k
  ap : ∀ k, vr.ownBlock = some k → vg.ownBlock ≠ some k
  sum : ∀ f, wtR f R = wtR f G + heldW f S
  len : R.length ≤ i * 50
  turn : Turn (fun _ => False) w wr
theorem HS.glen {w : World} {x y : Int} {d base i mb m : Nat} {S : DS} {P : Nat → Prop} {R G : List (Int × Int)} {vr vg : Value} {wr : World} (h : HS w x y d base i mb m S P R G vr vg wr) : R.length = G.length + heldW (fun _ => 1) S := by
  have := h.sum (fun _ => 1)
  rwa [wtR_one, wtR_one] at this
/-- The rounds. -/
def HoRel (w : World) (x y : Int) (d base : Nat) (L : List ActV) (gh : Nat) (v7 v8 v9 v10 : Value) (wr : World) : Prop :=
  ∃ (i mb m : Nat) (S : DS) (P : Nat → Prop) (R G : List (Int × Int)), v10 = .int .i64 (i : Int) ∧ i ≤ min L.length 40 ∧ gh = min L.length 40 - i ∧ v7 = .int .i64 ((R.length : Int) - (G.length : Int)) ∧ HS w x y d base i mb m S P R G v8 v9 wr
/-- While the refs of hits are put behind what came. -/
def PutRel (B : Nat) (R : List (Int × Int)) (vr : Value) (w5 : World) (K : List (Int × Int)) (v8 : Value) (wr : World) : Prop :=
  wr.ownsRow B 38 2 v8 (R ++ K).length (rcells (R ++ K)) ∧ (∀ q, v8.ownBlock = some q → vr.ownBlock = some q ∨ w5.heap.size ≤ q) ∧ Turn (fun q => vr.ownBlock = some q) w5 wr
def OutRel (B : Nat) (R : List (Int × Int)) (vr : Value) (w5 : World) (Os : List OutV) (gh : Nat) (v8 v15 : Value) (wr : World) : Prop :=
  ∃ k : Nat, v15 = .int .i64 (k : Int) ∧ k ≤ Os.length ∧ gh = Os.length - k ∧ PutRel B R vr w5 (hrefs (hitsL (Os.take k)).flatten) v8 wr
def HitRel (B : Nat) (R : List (Int × Int)) (vr : Value) (w5 : World) (K0 : List (Int × Int)) (H : List Ht) (gh : Nat) (v8 v16 : Value) (wr : World) : Prop :=
  ∃ j : Nat, v16 = .int .i64 (j : Int) ∧ j ≤ H.length ∧ gh = H.length - j ∧ PutRel B R vr w5 (K0 ++ hrefs (H.take j)) v8 wr
theorem hrefs_step {H : List Ht} {j : Nat} {x : Ht} (h : H[j]? = some x) : hrefs (H.take (j + 1)) = hrefs (H.take j) ++ x.f.refs := by
  rw [List.take_add_one, h, hrefs_app]
  simp [hrefs, frefs]
theorem outs_step {Os : List OutV} {k : Nat} {o : OutV} (h : Os[k]? = some o) : hrefs (hitsL (Os.take (k + 1))).flatten = hrefs (hitsL (Os.take k)).flatten ++ hrefs o.hits := by
  rw [List.take_add_one, h]
  unfold hitsL
  rw [List.map_append, List.flatten_append, hrefs_app]
  simp
end Go.Proofs.Ytepmealhnnoahaa
