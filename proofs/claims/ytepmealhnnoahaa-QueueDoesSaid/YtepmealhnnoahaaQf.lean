/-
  What was found, in memory: copied.
-/
import Derived.Test.YtepmealhnnoahaaQe
namespace Go.Proofs.Ytepmealhnnoahaa
open Go.ChangeShapes Go.WideShapes Go.ChangeAt Go.RowKit
set_option linter.unusedVariables false
structure Fnd where
  sets : List (List Int)
  refs : List (Int × Int)
def rcells : List (Int × Int) → List Value
  | [] => []
  | p :: l => .int .i64 p.1 :: .int .i64 p.2 :: rcells l
theorem rcells_len : ∀ l : List (Int × Int), (rcells l).length = l.length * 2
  | [] => rfl
  | p :: l => by simp only [rcells, List.length_cons]; rw [rcells_len l]; omega
theorem rcells_one : ∀ (l : List (Int × Int)), ∀ u ∈ rcells l, u.oneCell' = true
  | [], u, hu => by simp [rcells] at hu
  | p :: l, u, hu => by
    simp only [rcells, List.mem_cons] at hu
    rcases hu with rfl | rfl | hu
    · rfl
    · rfl
    · exact rcells_one l u hu
/-- What was found, of which no block is one of N. -/
structure FoundAt (w : World) (N : Nat → Prop) (vs vr : Value) (f : Fnd) : Prop where
  sets : SetsAt w N vs f.sets
  refs : RowV w 38 2 f.refs.length vr (rcells f.refs)
  apart : ∀ k, vr.ownBlock = some k → ¬ N k
  s1 : 1 ≤ f.sets.length
  s2 : f.sets.length ≤ 1000
  r1 : 1 ≤ f.refs.length
  r2 : f.refs.length ≤ 1000
theorem FoundAt.turn {S N : Nat → Prop} {w w' : World} {vs vr : Value} {f : Fnd} (h : FoundAt w N vs vr f) (T : Turn S w w') (hs : ∀ k, k < w.heap.size → S k → N k) : FoundAt w' N vs vr f :=
  ⟨h.sets.turn T hs, h.refs.turn T (fun k hk hS => h.apart k hk (hs k (by
    obtain ⟨b, cap, e, hb, _⟩ := h.refs
    have : b = k := by rw [e] at hk; simpa [Value.ownBlock] using hk
    rw [← this]
    exact hb.lt) hS)), h.apart, h.s1, h.s2, h.r1, h.r2⟩
set_option maxRecDepth 100000 in
theorem match_sets {w : World} {N : Nat → Prop} {v : Value} {L : List (List Int)} (h : SetsAt w N v L) (hL : 1 ≤ L.length ∧ L.length ≤ 1000) :
    Calls Try.prog 50 #[v] w fun e w' => ∃ v', e = .returned v' ∧ SetsAt w' (fun k => k < w.heap.size) v' L ∧ Turn (fun _ => False) w w' := by
  have A := Lib.hid (each_sets h hL)
  have HI : ∀ (j : Nat) (l : List Int), L[j]? = some l → 1 ≤ l.length ∧ l.length ≤ 1000 := fun j l hl => by
    obtain ⟨b, cap, vs, _, _, _, _, hi⟩ := h
    obtain ⟨u, hu⟩ : ∃ u, vs[j]? = some u := ⟨_, List.getElem?_eq_getElem (by rw [hi.1]; exact (List.getElem?_eq_some_iff.1 hl).1)⟩
    obtain ⟨_, _, a, b⟩ := hi.2 j l u hl hu
    exact ⟨a, b⟩
  obtain ⟨b, cap, vs, rfl, _⟩ := h
  have HI := Lib.hid HI
  go_enter Try.func50, Try.ntmps50
  go_wp2_with fail
  with_reducible refine A.out.mono ?_
  rintro e w1 ⟨b5, us, rfl, h5, hB, hR, hl, hU, T⟩
  have F := Lib.hid (show SetsAt w1 (fun k => k < w.heap.size) (.slice (some ⟨b5, 0, none⟩) L.length L.length) L ∧ Turn (fun _ => False) w w1 from
    ⟨⟨b5, _, us, rfl, by omega, hB, hR, hl, fun j l u hj hu => ⟨(hU j l u hj hu).1, fun k hk q => by have := (hU j l u hj hu).2 k hk; omega, HI.out j l hj⟩⟩, T⟩)
  clear h5 hB hR hl hU T
  go_wp2
  go_ret
  exact ⟨_, rfl, F.out⟩
end Go.Proofs.Ytepmealhnnoahaa
