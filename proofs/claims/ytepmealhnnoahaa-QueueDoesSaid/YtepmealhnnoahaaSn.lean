/-
  Acts by numbers: what is asked, and what comes with it; what a desk then has.
-/
import Derived.Test.YtepmealhnnoahaaSl
namespace Go.Proofs.Ytepmealhnnoahaa
set_option linter.unusedSimpArgs false
open Go.ChangeShapes Go.WideShapes Go.ChangeAt Go.RowKit
set_option linter.unusedVariables false
/-- What comes with an act. -/
def OutsOf (a : ActV) (stamp : Int) (Os : List OutV) : Prop :=
  (restN a.kind 8 < 6 ∧ Os = []) ∨ (6 ≤ restN a.kind 8 ∧ ∃ O : Nat → OutV, Os = [O 0, O 1, O 2] ∧ ∀ k, k < 3 → (O k).hits.map Ht.abs = hitsA a stamp k (min a.hits.length 6) ∧ (O k).lost = lostA a k (min a.lost.length 2))
def CmdPost (w : World) (a : ActV) (stamp : Int) (e : Ending) (w' : World) : Prop :=
  ∃ (va : Option Addr) (vc : Nat) (Os : List OutV), e = .returned (.tuple #[.agg (cmdOf a stamp).cells.toArray, .slice va Os.length vc]) ∧ OutsAt w' (fun k => k < w.heap.size) (.slice va Os.length vc) Os ∧ HitsAt w' (fun k => k < w.heap.size) Os ∧ OutsOf a stamp Os ∧ Turn (fun _ => False) w w'
theorem cmd_is (w : World) (a : ActV) {ha : Option Addr} {hc : Nat} {la : Option Addr} {lc : Nat} (hh : NumsAt w ha a.hits) (hl : NumsAt w la a.lost) (stamp : Int) (hst : 1 ≤ stamp ∧ stamp ≤ 1000) :
    Calls Try.prog 12 #[.agg #[.int .i64 a.kind, .int .i64 a.id, .int .i64 a.num, .slice ha a.hits.length hc, .slice la a.lost.length lc, .int .i64 a.shard], .int .i64 stamp] w (CmdPost w a stamp) := by
  have small : ∀ {j : Nat}, restN a.kind 8 = j → j < 6 → ∀ e w', (e = .returned (.tuple #[.agg (cmdOf a stamp).cells.toArray, .slice none 0 0]) ∧ Turn (fun _ => False) w w') → CmdPost w a stamp e w' := fun hj h6 e w' ⟨he, T⟩ =>
    ⟨none, 0, [], he, ⟨none, 0, 0, 0, rfl, .inl rfl, fun k o h => by simp at h⟩, fun o h => by simp at h, .inl ⟨by omega, rfl⟩, T⟩
  by_cases h6 : 6 ≤ restN a.kind 8
  · refine (cmd_pub w a hh hl stamp hst h6).mono ?_
    rintro e w' ⟨v, O, rfl, ho, hf, hq, T⟩
    obtain ⟨va, b, off, vc, rfl, h1, h2⟩ := ho
    exact ⟨va, vc, [O 0, O 1, O 2], rfl, ⟨va, b, off, vc, rfl, h1, h2⟩, hf, .inr ⟨h6, O, rfl, hq⟩, T⟩
  · have : restN a.kind 8 = 0 ∨ restN a.kind 8 = 1 ∨ restN a.kind 8 = 2 ∨ restN a.kind 8 = 3 ∨ restN a.kind 8 = 4 ∨ restN a.kind 8 = 5 := by omega
    rcases this with h | h | h | h | h | h
    · exact (cmd_0 w a _ _ stamp h).mono (small h (by omega))
    · exact (cmd_1 w a _ _ stamp h).mono (small h (by omega))
    · exact (cmd_2 w a _ _ stamp h).mono (small h (by omega))
    · exact (cmd_3 w a _ _ stamp h).mono (small h (by omega))
    · exact (cmd_4 w a _ _ stamp h).mono (small h (by omega))
    · exact (cmd_5 w a _ _ stamp h).mono (small h (by omega))
/-! What an act may ask. -/
theorem cmd_wf (a : ActV) (stamp : Int) : 0 ≤ (cmdOf a stamp).i ∧ (cmdOf a stamp).i < 12 := by
  have h12 := restN_lt a.id (n := 12) (by decide)
  unfold cmdOf
  repeat' split
  all_goals (dsimp only; omega)
theorem wf_of {i : Int} (h0 : 0 ≤ i) (h1 : i < 1000000) : (Lit.int .i64 i).wf = true := by
  simp only [Lit.wf, Bool.and_eq_true, decide_eq_true_eq]
  have a1 : IntKind.i64.min = -9223372036854775808 := rfl
  have a2 : IntKind.i64.max = 9223372036854775807 := rfl
  omega
theorem hitsA_mem {a : ActV} {stamp : Int} {k : Nat} {p : Int × Fnd} : ∀ {i}, p ∈ hitsA a stamp k i → ∃ (q : Int) (j : Nat), p = ((restN q 12 : Int), fndC stamp j)
  | 0, h => by simp [hitsA] at h
  | i + 1, h => by
    unfold hitsA at h
    split at h
    · rcases insK_mem h with h | h
      · exact ⟨_, i, h⟩
      · exact hitsA_mem h
    · exact hitsA_mem h
theorem fndC_refs (stamp : Int) (j : Nat) : 1 ≤ (fndC stamp j).refs.length ∧ (fndC stamp j).refs.length ≤ 2 ∧ (fndC stamp j).sets.length ≤ 2 := by
  unfold fndC
  split
  · simp
  · simp [fndN]
theorem refSum_le {H : List Ht} (h : ∀ x ∈ H, x.f.refs.length ≤ 2) : refSum H ≤ 2 * H.length := by
  induction H with
  | nil => simp [refSum]
  | cons x H ih =>
    have h1 := h x (by simp)
    have h2 := ih (fun y hy => h y (by simp [hy]))
    simp only [refSum, List.map_cons, List.sum_cons, List.length_cons] at h2 ⊢
    omega
section
variable {a : ActV} {stamp : Int} {Os : List OutV}
theorem OutsOf.mem (h : OutsOf a stamp Os) : ∀ o ∈ Os, o.hits.length ≤ 6 ∧ o.lost.length ≤ 1 ∧ (∀ x ∈ o.hits, 0 ≤ x.id ∧ x.id < 12 ∧ ∃ j, x.f = fndC stamp j) ∧ ∀ i ∈ o.lost, 0 ≤ i ∧ i < 12 := fun o ho => by
  rcases h with ⟨_, rfl⟩ | ⟨_, O, rfl, hq⟩
  · simp at ho
  · obtain ⟨k, hk, rfl⟩ : ∃ k, k < 3 ∧ o = O k := by
      simp at ho
      rcases ho with h | h | h
      · exact ⟨0, by omega, h⟩
      · exact ⟨1, by omega, h⟩
      · exact ⟨2, by omega, h⟩
    obtain ⟨h1, h2⟩ := hq k hk
    refine ⟨?_, ?_, fun x hx => ?_, fun i hi => ?_⟩
    · have := hitsA_len a stamp k (min a.hits.length 6)
      rw [← h1, List.length_map] at this
      omega
    · rw [h2]
      unfold lostA
      split
      · simp
      · simp
    · obtain ⟨q, j, e⟩ := hitsA_mem (show x.abs ∈ hitsA a stamp k (min a.hits.length 6) from h1 ▸ List.mem_map_of_mem hx)
      unfold Ht.abs at e
      simp only [Prod.mk.injEq] at e
      have := restN_lt q (n := 12) (by decide)
      rw [e.1]
      exact ⟨by omega, by omega, j, e.2⟩
    · rw [h2] at hi
      unfold lostA at hi
      split at hi
      · simp at hi
        have := restN_lt (a.lost.getD k 0) (n := 12) (by decide)
        subst hi
        rw [List.getD_eq_getElem?_getD] at this
        omega
      · simp at hi
theorem OutsOf.len (h : OutsOf a stamp Os) : Os.length ≤ 3 := by
  rcases h with ⟨_, rfl⟩ | ⟨_, O, rfl, hq⟩
  · simp
  · simp
theorem OutsOf.mem2 (h : OutsOf a stamp Os) : ∀ x ∈ mergedH Os, 0 ≤ x.id ∧ x.id < 12 ∧ ∃ j, x.f = fndC stamp j := fun x hx => by
  obtain ⟨l, hl, hx⟩ := mergeN_mem _ _ _ _ hx
  unfold hitsL at hl
  obtain ⟨o, ho, rfl⟩ := List.mem_map.1 hl
  exact (h.mem o ho).2.2.1 x hx
theorem OutsOf.merged (h : OutsOf a stamp Os) : (mergedH Os).length ≤ 18 ∧ (lostL Os).length ≤ 3 := by
  have hm := h.mem
  have h1 := mergeN_len ltH (total (hitsL Os)) (hitsL Os)
  have : total (hitsL Os) ≤ 18 ∧ (lostL Os).length ≤ 3 := by
    rcases h with ⟨_, rfl⟩ | ⟨_, O, rfl, hq⟩
    · simp [total, hitsL, lostL]
    · have a0 := hm (O 0) (by simp)
      have a1 := hm (O 1) (by simp)
      have a2 := hm (O 2) (by simp)
      simp [total, hitsL, lostL]
      omega
  exact ⟨Nat.le_trans h1 this.1, this.2⟩
theorem OutsOf.ok (h : OutsOf a stamp Os) : OutsOk Os 1 := by
  have hm := h.mem
  refine ⟨by have := h.len; omega, fun o ho => by have := (hm o ho).1; omega, fun o ho => by have := (hm o ho).2.1; omega, fun o ho x hx => ?_, fun o ho i hi => ?_, ?_⟩
  · obtain ⟨q1, q2, _⟩ := (hm o ho).2.2.1 x hx
    exact wf_of q1 (by omega)
  · obtain ⟨q1, q2⟩ := (hm o ho).2.2.2 i hi
    exact wf_of q1 (by omega)
  · have h1 := refSum_le (H := mergedH Os) (fun x hx => by
      obtain ⟨_, _, j, e⟩ := h.mem2 x hx
      rw [e]
      exact (fndC_refs stamp j).2.1)
    have := h.merged.1
    omega
end
/-! What holds of a desk between two calls. -/
abbrev DS := Int → Option (List Fnd × Bool)
def lenS (S : DS) (i : Int) : Nat := ((S i).getD ([], false)).1.length
def lostS (S : DS) (i : Int) : Bool := ((S i).getD ([], false)).2
def InvS (ou : Int) (S : DS) : Prop := ∀ i l lo, S i = some (l, lo) → (l.length : Int) ≤ ou ∧ ∀ f ∈ l, f.refs.length ≤ 2 ∧ f.sets.length ≤ 2
section
variable {S : DS} {ou qu : Int}
theorem InvS.upd (h : InvS ou S) {i : Int} {l : List Fnd} {lo : Bool} (h1 : (l.length : Int) ≤ ou) (h2 : ∀ f ∈ l, f.refs.length ≤ 2 ∧ f.sets.length ≤ 2) : InvS ou (updI S i (some (l, lo))) := fun j l' lo' e => by
  by_cases q : j = i
  · subst q
    rw [updI_at] at e
    cases e
    exact ⟨h1, h2⟩
  · rw [updI_off _ _ q] at e
    exact h j l' lo' e
theorem InvS.put (h : InvS ou S) {x : Ht} (hx : x.f.refs.length ≤ 2 ∧ x.f.sets.length ≤ 2) : InvS ou (putD ou S x) := by
  unfold putD
  split
  · exact h
  · rename_i l lo e
    obtain ⟨h1, h2⟩ := h _ _ _ e
    split
    · exact h.upd h1 h2
    · rename_i hn
      refine h.upd (by rw [List.length_append]; simp; omega) (fun f hf => ?_)
      rcases List.mem_append.1 hf with q | q
      · exact h2 f q
      · simp at q; rw [q]; exact hx
theorem InvS.lose (h : InvS ou S) (i : Int) : InvS ou (loseD S i) := by
  unfold loseD
  split
  · exact h
  · rename_i l lo e
    obtain ⟨h1, h2⟩ := h _ _ _ e
    exact h.upd h1 h2
theorem InvS.puts (H : List Ht) : ∀ {S : DS}, InvS ou S → (∀ x ∈ H, x.f.refs.length ≤ 2 ∧ x.f.sets.length ≤ 2) → InvS ou (putsD ou S H) := by
  induction H with
  | nil => exact fun h _ => h
  | cons x H ih => exact fun h hx => ih (h.put (hx x (by simp))) (fun y hy => hx y (by simp [hy]))
theorem InvS.loses (l : List Int) : ∀ {S : DS}, InvS ou S → InvS ou (losesD S l) := by
  induction l with
  | nil => exact fun h => h
  | cons x l ih => exact fun h => ih (h.lose x)
theorem InvS.does (h : InvS ou S) (ho : 0 ≤ ou) {m : Nat} (hm : (m : Int) ≤ qu) {stamp k i n s g : Int} {a : ActV} {st : Int} {Os : List OutV} (hO : OutsOf a st Os) : InvS ou (doR qu ou S m stamp k i n s g Os).S ∧ ((doR qu ou S m stamp k i n s g Os).m : Int) ≤ qu := by
  have hP : InvS ou (pubD ou S Os) := InvS.loses _ (InvS.puts _ h (fun x hx => by
    obtain ⟨_, _, j, e⟩ := hO.mem2 x hx
    rw [e]
    exact ⟨(fndC_refs st j).2.1, (fndC_refs st j).2.2⟩))
  unfold doR
  split
  · unfold regR
    split
    · rename_i hlt
      refine ⟨?_, ?_⟩
      · cases e : S stamp with
        | none => exact h.upd (by simpa using ho) (fun f hf => by simp at hf)
        | some p =>
          obtain ⟨l, lo⟩ := p
          obtain ⟨h1, h2⟩ := h _ _ _ e
          exact h.upd h1 h2
      · show ((if (S stamp).isSome then m else m + 1 : Nat) : Int) ≤ qu
        split <;> omega
    · exact ⟨h, hm⟩
  · split
    · unfold unrR
      split
      · exact ⟨h, hm⟩
      · refine ⟨fun j l' lo' e => ?_, ?_⟩
        · have e : updI S i none j = some (l', lo') := e
          by_cases q : j = i
          · subst q
            rw [updI_at] at e
            cases e
          · rw [updI_off _ _ q] at e
            exact h j l' lo' e
        · show ((m - 1 : Nat) : Int) ≤ qu
          omega
    · split
      · exact ⟨hP, hm⟩
      · split
        · unfold polR
          split
          · exact ⟨h, hm⟩
          · split
            · exact ⟨h, hm⟩
            · rename_i l lo e
              obtain ⟨h1, h2⟩ := h _ _ _ e
              split
              · exact ⟨h, hm⟩
              · exact ⟨h.upd (by rw [List.length_drop]; omega) (fun f hf => h2 f (List.mem_of_mem_drop hf)), hm⟩
        · split
          · exact ⟨h, hm⟩
          · exact ⟨h, hm⟩
theorem lostS_upd {i j : Int} {l : List Fnd} {lo : Bool} (h : lostS S j = true) (hl : j = i → lo = true) : lostS (updI S i (some (l, lo))) j = true := by
  unfold lostS
  by_cases e : j = i
  · rw [e, updI_at]
    exact hl e
  · rw [updI_off _ _ e]
    exact h
theorem lostS_put {x : Ht} {j : Int} (h : lostS S j = true) : lostS (putD ou S x) j = true := by
  unfold putD
  split
  · exact h
  · rename_i l lo e
    split
    · exact lostS_upd h (fun _ => rfl)
    · rename_i hn
      refine lostS_upd h (fun q => ?_)
      subst q
      unfold lostS at h
      rw [e] at h
      exact absurd (.inl h) hn
theorem lostS_lose {i j : Int} (h : lostS S j = true) : lostS (loseD S i) j = true := by
  unfold loseD
  split
  · exact h
  · exact lostS_upd h (fun _ => rfl)
theorem lostS_puts (H : List Ht) {j : Int} : ∀ {S : DS}, lostS S j = true → lostS (putsD ou S H) j = true := by
  induction H with
  | nil => exact fun h => h
  | cons x H ih => exact fun h => ih (lostS_put h)
theorem lostS_loses (l : List Int) {j : Int} : ∀ {S : DS}, lostS S j = true → lostS (losesD S l) j = true := by
  induction l with
  | nil => exact fun h => h
  | cons x l ih => exact fun h => ih (lostS_lose h)
theorem lostS_does {m : Nat} {stamp k i n s g j : Int} {Os : List OutV} (h : lostS S j = true) (hn : ¬ (k = 3 ∧ i = j)) : lostS (doR qu ou S m stamp k i n s g Os).S j = true := by
  unfold doR
  split
  · unfold regR
    split
    · refine lostS_upd h (fun q => ?_)
      subst q
      exact h
    · exact h
  · split
    · rename_i h3
      unfold unrR
      split
      · exact h
      · show lostS (updI S i none) j = true
        unfold lostS
        rw [updI_off _ _ (fun e => hn ⟨h3, e.symm⟩)]
        exact h
    · split
      · exact lostS_loses _ (lostS_puts _ h)
      · split
        · unfold polR
          split
          · exact h
          · split
            · exact h
            · rename_i l lo e
              split
              · exact h
              · refine lostS_upd h (fun q => ?_)
                subst q
                unfold lostS at h
                rw [e] at h
                exact h
        · split
          · exact h
          · exact h
end
section
variable {w : World} {d mb base : Nat} {qu ou : Int} {cnt m : Nat} {S : DS} {P : Nat → Prop}
theorem DAt.live (h : DAt w d mb base qu ou cnt m S P) : Calls Try.prog 19 #[.pointer (some ⟨d, 0, none⟩)] w fun e w' => e = .returned (.int .i64 (m : Int)) ∧ w = w' := by
  obtain ⟨⟨Q, F, M, c, _, h2, _⟩, _, _⟩ := h
  exact h2.live_is
theorem DAt.waiting (h : DAt w d mb base qu ou cnt m S P) {i : Int} (hi : (Lit.int .i64 i).wf = true) : Calls Try.prog 20 #[.pointer (some ⟨d, 0, none⟩), .int .i64 i] w fun e w' => e = .returned (.int .i64 (lenS S i : Int)) ∧ w = w' := by
  obtain ⟨⟨Q, F, M, c, _, h2, h3, _, rfl, _⟩, _, _⟩ := h
  have e : ((Q i).getD Wt.zero).n = lenS (absS Q F) i := by
    unfold lenS absS
    cases hq : Q i with
    | none => rfl
    | some q => exact (h3.row i q hq).1
  rw [← e]
  exact h2.waiting_is hi
theorem DAt.lost (h : DAt w d mb base qu ou cnt m S P) {i : Int} (hi : (Lit.int .i64 i).wf = true) : Calls Try.prog 22 #[.pointer (some ⟨d, 0, none⟩), .int .i64 i] w fun e w' => e = .returned (.bool (lostS S i)) ∧ w = w' := by
  obtain ⟨⟨Q, F, M, c, _, h2, h3, _, rfl, _⟩, _, _⟩ := h
  have e : ((Q i).getD Wt.zero).lost = lostS (absS Q F) i := by
    unfold lostS absS
    cases hq : Q i with
    | none => rfl
    | some q => rfl
  rw [← e]
  exact h2.lost_is hi
end
end Go.Proofs.Ytepmealhnnoahaa
