/-
  What comes with an event, by numbers: hits put in order; what lies there while they are put.
-/
import Derived.Test.YtepmealhnnoahaaSi
namespace Go.Proofs.Ytepmealhnnoahaa
set_option linter.unusedSimpArgs false
open Go.ChangeShapes Go.WideShapes Go.ChangeAt Go.RowKit
set_option linter.unusedVariables false
section
variable {α β : Type}
/-- Behind which place one of key i belongs, of the first k. -/
def posK (key : α → Int) (l : List α) (i : Int) : Nat → Nat
  | 0 => 0
  | k + 1 => match l[k]? with
    | some y => if i < key y then posK key l i k else k + 1
    | none => k + 1
theorem posK_le (key : α → Int) (l : List α) (i : Int) : ∀ k, posK key l i k ≤ k
  | 0 => Nat.le_refl _
  | k + 1 => by
    unfold posK
    split
    · split
      · have := posK_le key l i k; omega
      · exact Nat.le_refl _
    · exact Nat.le_refl _
def insK (key : α → Int) (l : List α) (x : α) : List α := l.take (posK key l (key x) l.length) ++ x :: l.drop (posK key l (key x) l.length)
theorem posK_map (g : α → β) {key : α → Int} {key' : β → Int} (hg : ∀ x, key' (g x) = key x) (l : List α) (i : Int) : ∀ k, posK key' (l.map g) i k = posK key l i k
  | 0 => rfl
  | k + 1 => by
    unfold posK
    rw [List.getElem?_map]
    cases l[k]? with
    | none => rfl
    | some y =>
      show (if i < key' (g y) then _ else _) = _
      rw [hg, posK_map g hg l i k]
theorem insK_map (g : α → β) {key : α → Int} {key' : β → Int} (hg : ∀ x, key' (g x) = key x) (l : List α) (x : α) : (insK key l x).map g = insK key' (l.map g) (g x) := by
  unfold insK
  rw [List.map_append, List.map_cons, List.map_take, List.map_drop, hg, List.length_map, posK_map g hg]
theorem insK_len (key : α → Int) (l : List α) (x : α) : (insK key l x).length = l.length + 1 := by
  unfold insK
  have := posK_le key l (key x) l.length
  simp only [List.length_append, List.length_take, List.length_cons, List.length_drop]
  omega
theorem insK_mem {key : α → Int} {l : List α} {x y : α} (h : y ∈ insK key l x) : y = x ∨ y ∈ l := by
  unfold insK at h
  simp only [List.mem_append, List.mem_cons] at h
  rcases h with h | h | h
  · exact .inr (List.mem_of_mem_take h)
  · exact .inl h
  · exact .inr (List.mem_of_mem_drop h)
end
def Ht.abs (x : Ht) : Int × Fnd := (x.id, x.f)
def hitsA (a : ActV) (stamp : Int) (k : Nat) : Nat → List (Int × Fnd)
  | 0 => []
  | i + 1 => if restN (wrap64 (a.shard + (i : Int))) 3 = k then insK (·.1) (hitsA a stamp k i) ((restN (a.hits.getD i 0) 12 : Int), fndC stamp i) else hitsA a stamp k i
def lostA (a : ActV) (k n : Nat) : List Int := if k < n then [(restN (a.lost.getD k 0) 12 : Int)] else []
theorem hcells_app (l m : List Ht) : hcells (l ++ m) = hcells l ++ hcells m := by
  induction l with
  | nil => rfl
  | cons x l ih => simp only [List.cons_append, hcells, ih, List.append_assoc]
theorem hcells_take (l : List Ht) (k : Nat) (hk : k ≤ l.length) : (hcells l).take (k * 3) = hcells (l.take k) := by
  have h := congrArg hcells (List.take_append_drop k l)
  rw [hcells_app] at h
  rw [← h, List.take_append_of_le_length (by rw [hcells_len, List.length_take]; omega), List.take_of_length_le (by rw [hcells_len, List.length_take]; omega)]
theorem hcells_drop (l : List Ht) (k : Nat) (hk : k ≤ l.length) : (hcells l).drop (k * 3) = hcells (l.drop k) := by
  have h := congrArg hcells (List.take_append_drop k l)
  rw [hcells_app] at h
  have e : (hcells (l.take k)).length = k * 3 := by rw [hcells_len, List.length_take]; omega
  rw [← h, ← e, List.drop_left]
/-- While hits are put: i are, and j of those that are lost. -/
structure CI (w : World) (a : ActV) (stamp : Int) (hv lv : Value) (sb rb ob i j : Nat) (O : Nat → OutV) (W : World) : Prop where
  box : W.rangeAt sb 0 [.int .i64 a.kind, .int .i64 a.id, .int .i64 a.num, hv, lv, .int .i64 a.shard]
  bsb : Blk W sb 48
  brb : Blk W rb 43
  rrb : W.rangeAt rb 0 (cmdL 0 0 0 0 0)
  bob : Blk W ob 68
  hob : w.heap.size ≤ ob
  hrb : w.heap.size ≤ rb
  rows : ∀ k, k < 3 → ∃ vh vl, W.rangeAt ob (k * 4) [vh, vl, .slice none 0 0, .slice none 0 0] ∧ W.ownsRow w.heap.size 73 3 vh (O k).hits.length (hcells (O k).hits) ∧ W.ownsRow w.heap.size 3 1 vl (O k).lost.length (icells (O k).lost)
  found : ∀ k, k < 3 → ∀ x ∈ (O k).hits, FoundAt W (fun q => q < w.heap.size) (.slice x.sa x.sn x.sc) (.slice x.ra x.rn x.rc) x.f
  turn : Turn (fun _ => False) w W
  hits : ∀ k, k < 3 → (O k).hits.map Ht.abs = hitsA a stamp k i
  lost : ∀ k, k < 3 → (O k).lost = lostA a k j
  lnil : ∀ k, k < 3 → (O k).lost = [] → W.cell? ⟨ob, k * 4 + 1, none⟩ = some (.slice none 0 0)
section
variable {w W W' : World} {a : ActV} {stamp : Int} {hv lv : Value} {sb rb ob i j : Nat} {O : Nat → OutV}
theorem CI.turns (h : CI w a stamp hv lv sb rb ob i j O W) (T : Turn (fun _ => False) W W') : CI w a stamp hv lv sb rb ob i j O W' :=
  ⟨range_turn h.box T id, h.bsb.turn T id, h.brb.turn T id, range_turn h.rrb T id, h.bob.turn T id, h.hob, h.hrb, fun k hk => by
    obtain ⟨vh, vl, h1, h2, h3⟩ := h.rows k hk
    exact ⟨vh, vl, range_turn h1 T id, own_turn h2 T (fun _ _ f => f), own_turn h3 T (fun _ _ f => f)⟩, fun k hk x hx => (h.found k hk x hx).turn T (fun _ _ f => f.elim), h.turn.trans T, h.hits, h.lost, fun k hk e => T.cell id (h.lnil k hk e)⟩
theorem own_ty {w : World} {base b : Nat} {e t : TypeId} {size n : Nat} {v : Value} {xs : List Value} (h : w.ownsRow base e size v n xs) (hb : Blk w b t) (ht : e ≠ t) : ∀ k, v.ownBlock = some k → ¬ k = b := fun k hk q => by
  subst q
  rcases h.2 with ⟨rfl, _⟩ | ⟨g, cap, cu, rfl, _, hg, _⟩
  · simp [Value.ownBlock] at hk
  · have : g = k := by simpa [Value.ownBlock] using hk
    subst this
    exact Blk.ne (⟨cu, hg⟩ : Blk w g e) hb ht rfl
theorem found_ty {w W : World} {ob : Nat} {vs vr : Value} {f : Fnd} {N : Nat → Prop} (h : FoundAt W N vs vr f) (T : Turn (fun k => k = ob) W w) (hb : Blk W ob 68) : FoundAt w N vs vr f :=
  ((h.typed).turn T (fun k _ q => .inr (fun t => by
    subst q
    rcases t with t | t | t
    · exact Blk.ne hb t (by decide) rfl
    · exact Blk.ne hb t (by decide) rfl
    · exact Blk.ne hb t (by decide) rfl))).weak (fun k q => .inl q)
/-- A hit is put in. -/
theorem CI.put (h : CI w a stamp hv lv sb rb ob i j O W) {k : Nat} (hk : k < 3) {x : Ht} {v : Value} (he : restN (wrap64 (a.shard + (i : Int))) 3 = k) (hx : x.abs = ((restN (a.hits.getD i 0) 12 : Int), fndC stamp i))
    (hf : FoundAt W (fun q => q < w.heap.size) (.slice x.sa x.sn x.sc) (.slice x.ra x.rn x.rc) x.f) (ho : W.ownsRow w.heap.size 73 3 v (insK Ht.id (O k).hits x).length (hcells (insK Ht.id (O k).hits x))) :
    CI w a stamp hv lv sb rb ob (i + 1) j (upd O k ⟨insK Ht.id (O k).hits x, (O k).lost⟩) (W.setCell ⟨ob, k * 4, none⟩ v) := by
  have T : Turn (fun q => q = ob) W (W.setCell ⟨ob, k * 4, none⟩ v) := Turn.put _ _ _ _
  have ne1 : ∀ {b : Nat} {t : TypeId}, Blk W b t → t ≠ 68 → ¬ b = ob := fun hb ht => hb.ne h.bob ht
  refine ⟨range_turn h.box T (ne1 h.bsb (by decide)), h.bsb.set _ _, h.brb.set _ _, range_turn h.rrb T (ne1 h.brb (by decide)), h.bob.set _ _, h.hob, h.hrb, fun q hq => ?_, fun q hq y hy => ?_, h.turn.comp T (fun b hb e => by have := h.hob; omega), fun q hq => ?_, fun q hq => ?_, fun q hq en => ?_⟩
  · obtain ⟨vh, vl, h1, h2, h3⟩ := h.rows q hq
    by_cases e : q = k
    · subst e
      rw [upd_at]
      refine ⟨v, vl, fun p u hu => ?_, own_turn ho T (own_ty ho h.bob (by decide)), own_turn h3 T (own_ty h3 h.bob (by decide))⟩
      cases p with
      | zero =>
        simp at hu
        subst hu
        rw [Nat.add_zero]
        exact World.cell?_setCell_same _ _ _ (by have := h1 0 _ rfl; rw [Nat.add_zero] at this; exact this)
      | succ p =>
        rw [cell_off _ _ _ _ _ (by omega)]
        exact h1 (p + 1) u (by simpa using hu)
    · rw [upd_off _ _ e]
      refine ⟨vh, vl, fun p u hu => ?_, own_turn h2 T (own_ty h2 h.bob (by decide)), own_turn h3 T (own_ty h3 h.bob (by decide))⟩
      have hp : p < 4 := by have := (List.getElem?_eq_some_iff.1 hu).1; simpa using this
      rw [cell_off _ _ _ _ _ (by omega)]
      exact h1 p u hu
  · by_cases e : q = k
    · subst e
      rw [upd_at] at hy
      rcases insK_mem hy with rfl | hy
      · exact found_ty hf T h.bob
      · exact found_ty (h.found q hq y hy) T h.bob
    · rw [upd_off _ _ e] at hy
      exact found_ty (h.found q hq y hy) T h.bob
  · by_cases e : q = k
    · subst e
      rw [upd_at]
      show (insK Ht.id (O q).hits x).map Ht.abs = _
      refine (insK_map (key := Ht.id) (key' := fun p : Int × Fnd => p.1) Ht.abs (fun _ => rfl) _ _).trans ?_
      rw [hx, h.hits q hq, hitsA, if_pos he]
    · rw [upd_off _ _ e, h.hits q hq, hitsA, if_neg (fun f => e (f.symm.trans he))]
  · by_cases e : q = k
    · subst e
      rw [upd_at]
      exact h.lost q hq
    · rw [upd_off _ _ e]
      exact h.lost q hq
  · rw [cell_off _ _ _ _ _ (by omega)]
    refine h.lnil q hq ?_
    by_cases e : q = k
    · subst e
      rw [upd_at] at en
      exact en
    · rw [upd_off _ _ e] at en
      exact en
/-- A query that is lost is told. -/
theorem CI.lose (h : CI w a stamp hv lv sb rb ob i j O W) (hj : j < 3) {v : Value} (hl0 : (O j).lost = []) (ho : W.ownsRow w.heap.size 3 1 v 1 (icells [(restN (a.lost.getD j 0) 12 : Int)])) :
    CI w a stamp hv lv sb rb ob i (j + 1) (upd O j ⟨(O j).hits, [(restN (a.lost.getD j 0) 12 : Int)]⟩) (W.setCell ⟨ob, j * 4 + 1, none⟩ v) := by
  have T : Turn (fun q => q = ob) W (W.setCell ⟨ob, j * 4 + 1, none⟩ v) := Turn.put _ _ _ _
  have ne1 : ∀ {b : Nat} {t : TypeId}, Blk W b t → t ≠ 68 → ¬ b = ob := fun hb ht => hb.ne h.bob ht
  refine ⟨range_turn h.box T (ne1 h.bsb (by decide)), h.bsb.set _ _, h.brb.set _ _, range_turn h.rrb T (ne1 h.brb (by decide)), h.bob.set _ _, h.hob, h.hrb, fun q hq => ?_, fun q hq y hy => ?_, h.turn.comp T (fun b hb e => by have := h.hob; omega), fun q hq => ?_, fun q hq => ?_, fun q hq en => ?_⟩
  · obtain ⟨vh, vl, h1, h2, h3⟩ := h.rows q hq
    by_cases e : q = j
    · subst e
      rw [upd_at]
      refine ⟨vh, v, fun p u hu => ?_, own_turn h2 T (own_ty h2 h.bob (by decide)), own_turn ho T (own_ty ho h.bob (by decide))⟩
      by_cases e1 : p = 1
      · subst e1
        simp at hu
        subst hu
        exact World.cell?_setCell_same _ _ _ (h1 1 _ rfl)
      · rw [cell_off _ _ _ _ _ (by omega)]
        refine h1 p u ?_
        rcases p with _ | _ | p
        · simpa using hu
        · exact absurd rfl e1
        · simpa using hu
    · rw [upd_off _ _ e]
      refine ⟨vh, vl, fun p u hu => ?_, own_turn h2 T (own_ty h2 h.bob (by decide)), own_turn h3 T (own_ty h3 h.bob (by decide))⟩
      have hp : p < 4 := by have := (List.getElem?_eq_some_iff.1 hu).1; simpa using this
      rw [cell_off _ _ _ _ _ (by omega)]
      exact h1 p u hu
  · by_cases e : q = j
    · subst e
      rw [upd_at] at hy
      exact found_ty (h.found q hq y hy) T h.bob
    · rw [upd_off _ _ e] at hy
      exact found_ty (h.found q hq y hy) T h.bob
  · by_cases e : q = j
    · subst e
      rw [upd_at]
      exact h.hits q hq
    · rw [upd_off _ _ e]
      exact h.hits q hq
  · by_cases e : q = j
    · subst e
      rw [upd_at]
      unfold lostA
      rw [if_pos (by omega)]
    · rw [upd_off _ _ e, h.lost q hq]
      unfold lostA
      by_cases f : q < j
      · rw [if_pos f, if_pos (by omega)]
      · rw [if_neg f, if_neg (by omega)]
  · by_cases e : q = j
    · subst e
      rw [upd_at] at en
      simp at en
    · rw [upd_off _ _ e] at en
      rw [cell_off _ _ _ _ _ (by omega)]
      exact h.lnil q hq en
end
end Go.Proofs.Ytepmealhnnoahaa
