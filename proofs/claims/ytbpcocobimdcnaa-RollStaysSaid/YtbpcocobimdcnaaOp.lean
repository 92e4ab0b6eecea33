/-
  What is done to a roll, and to the document's: contracts for the walks of RollPlays and RollStays.
-/
import Derived.Test.YtbpcocobimdcnaaTe
import Derived.Test.YtbpcocobimdcnaaRen
import Derived.Test.YtbpcocobimdcnaaRw
namespace Go.Proofs.Ytbpcocobimdcnaa
open Go.ChangeShapes Go.WideShapes Go.ChangeAt Go.RowKit
set_option linter.unusedVariables false

set_option maxRecDepth 100000 in
set_option maxHeartbeats 2000000 in
theorem numbers_is (w : World) (e n : Bool) (x a : Int) : Calls Try.prog 8 #[.agg #[.bool e, .bool n, .int .i64 x, .int .i64 a]] w fun en w' => ∃ i t : Int, en = .returned (.tuple #[.int .i64 i, .int .i64 t]) ∧ Turn (fun _ => False) w w' := by
  obtain ⟨W, hW⟩ : ∃ W, W = w.alloc (.cells #[.bool e, .bool n, .int .i64 x, .int .i64 a] 27) := ⟨_, rfl⟩
  have c := World.cell?_alloc_new w #[.bool e, .bool n, .int .i64 x, .int .i64 a] 27
  have T : Turn (fun _ => False) w W := by rw [hW]; exact (Turn.refl _ w).alloc _
  rw [← hW] at c
  have c1 : W.cell? ⟨w.heap.size, 1, none⟩ = some (.bool n) := c 1
  have c2 : W.cell? ⟨w.heap.size, 2, none⟩ = some (.int .i64 x) := c 2
  have c3 : W.cell? ⟨w.heap.size, 3, none⟩ = some (.int .i64 a) := c 3
  have F := Lib.hid (fun d => T.drewN d)
  clear c T
  go_enter Try.func8, Try.ntmps8
  go_upto_region 1 with fail
  rw [← hW]
  clear hW
  generalize w.heap.size = b at *
  cases n with
  | true =>
    go_wp2_with fail
    go_quiet (fail)
    go_wp2
    go_ret2
    exact ⟨_, _, rfl, F.out _⟩
  | false =>
    go_wp2_with fail
    go_quiet (fail)
    go_wp2
    go_ret2
    exact ⟨_, _, rfl, F.out _⟩
def EndSp (L : List EV) (x a : Int) (ok : Bool) (L' : List EV) : Prop :=
  (ok = true ∧ ∃ i e, L[i]? = some e ∧ e.id = x ∧ e.till = -1 ∧ x < a ∧ L' = L.set i (e.ended a)) ∨ (ok = false ∧ L' = L ∧ ((∀ e ∈ L, e.id ≠ x) ∨ ∃ e, e ∈ L ∧ e.id = x ∧ (e.till ≠ -1 ∨ a ≤ x)))
def AddSp (L : List EV) (x win : Int) (ok : Bool) (L' : List EV) : Prop :=
  (ok = true ∧ 0 ≤ x ∧ (∀ e ∈ L, e.id < x) ∧ ∃ cs, L' = L ++ [⟨x, -1, cs, win, some win⟩]) ∨ (ok = false ∧ L' = L ∧ (x < 0 ∨ ∃ k e, k + 1 = L.length ∧ L[k]? = some e ∧ x ≤ e.id))
theorem end_cases (L : List EV) (x a : Int) : (∃ (i : Nat) (e : EV), L[i]? = some e ∧ e.id = x ∧ e.till = -1 ∧ x < a) ∨ ((∀ e ∈ L, e.id ≠ x) ∨ ∃ e, e ∈ L ∧ e.id = x ∧ (e.till ≠ -1 ∨ a ≤ x)) := by
  by_cases h : ∀ e ∈ L, e.id ≠ x
  · exact .inr (.inl h)
  · obtain ⟨e, he⟩ := Classical.not_forall.1 h
    obtain ⟨hm, hx⟩ := Classical.not_imp.1 he
    have hx := Classical.not_not.1 hx
    by_cases ht : e.till = -1
    · by_cases ha : x < a
      · obtain ⟨i, hi⟩ := List.getElem?_of_mem hm
        exact .inl ⟨i, e, hi, hx, ht, ha⟩
      · exact .inr (.inr ⟨e, hm, hx, .inr (by omega)⟩)
    · exact .inr (.inr ⟨e, hm, hx, .inl ht⟩)
theorem add_cases {L : List EV} (hs : Sorted L) (x : Int) : (0 ≤ x ∧ ∀ e ∈ L, e.id < x) ∨ (x < 0 ∨ ∃ (k : Nat) (e : EV), k + 1 = L.length ∧ L[k]? = some e ∧ x ≤ e.id) := by
  by_cases h0 : x < 0
  · exact .inr (.inl h0)
  · rcases Nat.eq_zero_or_pos L.length with hl | hl
    · have : L = [] := List.eq_nil_of_length_eq_zero hl
      subst this
      exact .inl ⟨by omega, fun e he => by cases he⟩
    · obtain ⟨k, hk⟩ : ∃ k, k + 1 = L.length := ⟨L.length - 1, by omega⟩
      obtain ⟨e, he⟩ : ∃ e, L[k]? = some e := ⟨_, List.getElem?_eq_getElem (by omega)⟩
      by_cases hx : x ≤ e.id
      · exact .inr (.inr ⟨k, e, hk, he, hx⟩)
      · refine .inl ⟨by omega, fun q hq => ?_⟩
        obtain ⟨j, hj⟩ := List.getElem?_of_mem hq
        have hjl := (List.getElem?_eq_some_iff.1 hj).1
        by_cases hjk : j = k
        · subst hjk
          rw [he] at hj
          cases hj
          omega
        · have := hs.lt hj he (by omega)
          omega
theorem end_op {w : World} {p : Option Addr} {L : List EV} (h : RollS w p L) (hm : L.length ≤ 200) (x a : Int) :
    Calls Try.prog 9 #[.pointer p, .int .i64 x, .int .i64 a] w fun en w' => ∃ p' ok L', en = .returned (.tuple #[.pointer p', .bool ok]) ∧ RollS w' p' L' ∧ EndSp L x a ok L' ∧ (ok = false → p' = p) ∧ Turn (fun _ => False) w w' := by
  rcases end_cases L x a with ⟨i, e, he, rfl, ht, ha⟩ | hno
  · refine (end_yes h hm he ht ha).mono ?_
    rintro en w' ⟨r, rfl, S, T⟩
    exact ⟨_, _, _, rfl, S, .inl ⟨rfl, i, e, he, rfl, ht, ha, rfl⟩, (fun f => by cases f), T⟩
  · refine (end_no h hno).mono ?_
    rintro en w' ⟨rfl, T⟩
    exact ⟨_, _, _, rfl, h.turn T, .inr ⟨rfl, rfl, hno⟩, (fun f => rfl), T⟩
theorem add_op {w : World} {p : Option Addr} {L : List EV} {cs : Value} {win : Int} (h : RollS w p L) (hm : L.length ≤ 200) (x : Int) (hp : PlainTab 0 w cs (some win)) :
    Calls Try.prog 11 #[.pointer p, .int .i64 x, .agg #[cs, .int .i64 win, .bool false]] w fun en w' => ∃ p' ok L', en = .returned (.tuple #[.pointer p', .bool ok]) ∧ RollS w' p' L' ∧ AddSp L x win ok L' ∧ (ok = false → p' = p) ∧ Turn (fun _ => False) w w' := by
  rcases add_cases h.srt x with ⟨h0, hx⟩ | hno
  · refine (add_yes h hm h0 hx hp).mono ?_
    rintro en w' ⟨r, rfl, cs', S, T, _⟩
    exact ⟨_, _, _, rfl, S, .inl ⟨rfl, h0, hx, cs', rfl⟩, (fun f => by cases f), T⟩
  · refine (add_no h.at_ hp hno).mono ?_
    rintro en w' ⟨rfl, T⟩
    exact ⟨_, _, _, rfl, h.turn T, .inr ⟨rfl, rfl, hno⟩, (fun f => rfl), T⟩
theorem tabs_set {w : World} {l : List EV} {i : Nat} {e : EV} {a : Int} (h : TabsAt w l) (he : l[i]? = some e) : TabsAt w (l.set i (e.ended a)) := fun q hq => by
  rcases List.mem_or_eq_of_mem_set hq with hq | rfl
  · exact h q hq
  · exact h e (List.mem_of_getElem? he)
theorem rend_op {w : World} {v : Value} {l : List EV} (h : ERow w v l) (hs : Sorted l) (ht : TabsAt w l) (x a : Int) :
    Calls Try.prog 10 #[v, .int .i64 x, .int .i64 a] w fun en w' => ∃ v' ok l', en = .returned (.agg #[v', .bool ok]) ∧ ERow w' v' l' ∧ TabsAt w' l' ∧ EndSp l x a ok l' ∧ Turn (fun _ => False) w w' := by
  rcases end_cases l x a with ⟨i, e, he, rfl, hti, ha⟩ | hno
  · refine (rEnd_yes h hs ht he hti ha).mono ?_
    rintro en w' ⟨v', rfl, R, T⟩
    exact ⟨_, _, _, rfl, R, tabs_set (ht.turn T) he, .inl ⟨rfl, i, e, he, rfl, hti, ha, rfl⟩, T⟩
  · refine (rEnd_no h hs hno).mono ?_
    rintro en w' ⟨rfl, T⟩
    exact ⟨_, _, _, rfl, h.turn T, ht.turn T, .inr ⟨rfl, rfl, hno⟩, T⟩
theorem radd_op {w : World} {v : Value} {l : List EV} {cs : Value} {win : Int} (h : ERow w v l) (hs : Sorted l) (ht : TabsAt w l) (hm : l.length ≤ 200) (x : Int) (hp : PlainTab 0 w cs (some win)) :
    Calls Try.prog 13 #[v, .int .i64 x, .agg #[cs, .int .i64 win, .bool false]] w fun en w' => ∃ v' ok l', en = .returned (.agg #[v', .bool ok]) ∧ ERow w' v' l' ∧ TabsAt w' l' ∧ AddSp l x win ok l' ∧ Turn (fun _ => False) w w' := by
  rcases add_cases hs x with ⟨h0, hx⟩ | hno
  · refine (rAdd_yes h ht hm h0 hx hp).mono ?_
    rintro en w' ⟨v', rfl, R, T⟩
    refine ⟨_, _, _, rfl, R, fun q hq => ?_, .inl ⟨rfl, h0, hx, cs, rfl⟩, T⟩
    rcases List.mem_append.1 hq with hq | hq
    · exact (ht q hq).turn T
    · rw [List.mem_singleton.1 hq]
      exact hp.turn T
  · refine (rAdd_no h hp hno).mono ?_
    rintro en w' ⟨rfl, T⟩
    exact ⟨_, _, _, rfl, h.turn T, ht.turn T, .inr ⟨rfl, rfl, hno⟩, T⟩
theorem SameL.sorted {L l : List EV} (h : SameL L l) (hs : Sorted L) : Sorted l := by
  have h1 : L.map EV.id = l.map EV.id := by
    have := congrArg (List.map Prod.fst) h
    simpa [List.map_map, Function.comp_def, EV.key] using this
  unfold Sorted at hs ⊢
  rw [← List.pairwise_map (f := EV.id) (R := fun a b => a < b)] at hs ⊢
  rw [← h1]
  exact hs
theorem SameL.find {L l : List EV} (h : SameL L l) {i : Nat} {e : EV} (he : L[i]? = some e) : ∃ q, l[i]? = some q ∧ e.key = q.key := by
  have hl := h.len
  have hi := (List.getElem?_eq_some_iff.1 he).1
  obtain ⟨q, hq⟩ : ∃ q, l[i]? = some q := ⟨_, List.getElem?_eq_getElem (by omega)⟩
  have := h.at he hq
  exact ⟨q, hq, by simp [EV.key, this]⟩
theorem end_same {L l L' l' : List EV} {x a : Int} {ok ok' : Bool} (h : SameL L l) (hs : Sorted L) (h1 : EndSp L x a ok L') (h2 : EndSp l x a ok' l') : ok = ok' ∧ SameL L' l' ∧ L'.length = L.length := by
  rcases h1 with ⟨rfl, i, e, he, hx, ht, ha, rfl⟩ | ⟨rfl, rfl, hno⟩
  · obtain ⟨q, hq, hk⟩ := h.find he
    obtain ⟨k1, k2, k3, k4⟩ := key_id hk
    rcases h2 with ⟨rfl, j, f, hf, hfx, hft, hfa, rfl⟩ | ⟨rfl, rfl, hno⟩
    · have hij : i = j := by
        rcases Nat.lt_trichotomy i j with q2 | q2 | q2
        · have := (h.sorted hs).lt hq hf q2
          omega
        · exact q2
        · have := (h.sorted hs).lt hf hq q2
          omega
      subst hij
      rw [hq] at hf
      cases hf
      refine ⟨rfl, ?_, by simp⟩
      unfold SameL at h ⊢
      rw [List.map_set, List.map_set, h]
      congr 1
      simp [EV.key, EV.ended, k1, k3, k4]
    · exfalso
      rcases hno with hno | ⟨f, hf, hfx, hft⟩
      · exact hno q (List.mem_of_getElem? hq) (by omega)
      · have : f = q := (h.sorted hs).uniq hf (List.mem_of_getElem? hq) (by omega)
        subst this
        rcases hft with hft | hft
        · omega
        · omega
  · rcases h2 with ⟨rfl, j, f, hf, hfx, hft, hfa, rfl⟩ | ⟨rfl, rfl, _⟩
    · exfalso
      obtain ⟨q, hq, hk⟩ := h.symm.find hf
      obtain ⟨k1, k2, k3, k4⟩ := key_id hk
      rcases hno with hno | ⟨e, he, hex, het⟩
      · exact hno q (List.mem_of_getElem? hq) (by omega)
      · have : e = q := hs.uniq he (List.mem_of_getElem? hq) (by omega)
        subst this
        rcases het with het | het
        · omega
        · omega
    · exact ⟨rfl, h, rfl⟩
theorem add_same {L l L' l' : List EV} {x win : Int} {ok ok' : Bool} (h : SameL L l) (h1 : AddSp L x win ok L') (h2 : AddSp l x win ok' l') : ok = ok' ∧ SameL L' l' ∧ L'.length ≤ L.length + 1 := by
  rcases h1 with ⟨rfl, h0, hx, cs, rfl⟩ | ⟨rfl, rfl, hno⟩
  · rcases h2 with ⟨rfl, _, _, cs', rfl⟩ | ⟨rfl, rfl, hno⟩
    · refine ⟨rfl, ?_, by simp⟩
      unfold SameL at h ⊢
      simp [h, EV.key]
    · exfalso
      rcases hno with hno | ⟨k, e, hk, he, hle⟩
      · omega
      · obtain ⟨q, hq, hk⟩ := h.symm.find he
        have := hx q (List.mem_of_getElem? hq)
        have := (key_id hk).1
        omega
  · rcases h2 with ⟨rfl, h0, hx, cs', rfl⟩ | ⟨rfl, rfl, _⟩
    · exfalso
      rcases hno with hno | ⟨k, e, hk, he, hle⟩
      · omega
      · obtain ⟨q, hq, hk⟩ := h.find he
        have := hx q (List.mem_of_getElem? hq)
        have := (key_id hk).1
        omega
    · exact ⟨rfl, h, by omega⟩
end Go.Proofs.Ytbpcocobimdcnaa
