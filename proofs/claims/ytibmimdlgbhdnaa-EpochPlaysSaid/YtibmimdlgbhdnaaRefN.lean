/-
  The document's own epochs, in memory: new ones.
-/
import Derived.Test.YtibmimdlgbhdnaaRefP
namespace Go.Proofs.Ytibmimdlgbhdnaa
open Go.ChangeShapes Go.WideShapes Go.ChangeAt Go.RowKit
set_option linter.unusedVariables false
/-- The row of actors that is being made. -/
def actors (k : Nat) : List Value := (List.replicate k [Value.int .i64 (-1), .slice none 0 0]).flatten
theorem actors_succ (k : Nat) : actors (k + 1) = actors k ++ [.int .i64 (-1), .slice none 0 0] := by
  unfold actors
  rw [List.replicate_succ', List.flatten_append]
  rfl
theorem actors_len (k : Nat) : (actors k).length = k * 2 := by
  induction k with
  | zero => rfl
  | succ k ih => rw [actors_succ, List.length_append, ih]; simp; omega
theorem actors_at {k a : Nat} (h : a < k) : (actors k)[a * 2]? = some (.int .i64 (-1)) ∧ (actors k)[a * 2 + 1]? = some (.slice none 0 0) := by
  induction k with
  | zero => omega
  | succ k ih =>
    rw [actors_succ]
    by_cases e : a < k
    · obtain ⟨x, y⟩ := ih e
      rw [List.getElem?_append_left (by rw [actors_len]; omega), List.getElem?_append_left (by rw [actors_len]; omega)]
      exact ⟨x, y⟩
    · obtain rfl : a = k := by omega
      rw [List.getElem?_append_right (by rw [actors_len]; omega), List.getElem?_append_right (by rw [actors_len]; omega), actors_len, Nat.sub_self, show a * 2 + 1 - a * 2 = 1 by omega]
      exact ⟨rfl, rfl⟩
theorem actor_app {W WA : World} {base t k : Nat} {v : Value} (h : W.ownsRow base 100 2 v k (actors k)) (hB : base ≤ W.heap.size) (hl : k ≤ 1000) (hb : Below W.heap.size W WA)
    (hc : ∀ (j : Nat) u, [Value.int .i64 (-1), .slice none 0 0][j]? = some u → WA.cell? ⟨t, j, none⟩ = some u) :
    ∃ v' w', (Builtin.append_ #[58, 58] 58 #[v, .slice (some ⟨t, 0, none⟩) 1 1]).run Try.prog WA = .ok v' w' ∧ w'.ownsRow base 100 2 v' (k + 1) (actors (k + 1)) ∧ Turn (fun k => v.ownBlock = some k) W w' := by
  obtain ⟨i3, j1, j2, j3, j4⟩ := info_parts info100
  have hA := own_keep h (fun k hk => hb.block k (h.lt k hk).2)
  have hz := hb.size
  obtain ⟨v', w', hr, ho, hg, _⟩ := run_append_own_at (P := Try.prog) WA base 58 58 100 i3 _ 2 32 Try.underlying58 j1 j2 j3 j4 rfl (by decide) v k (actors k) hA ⟨t, 0, none⟩ 1 1 [.int .i64 (-1), .slice none 0 0] rfl (fun j u hu => by rw [Go.WideShapes.add_plain, Nat.zero_add]; exact hc j u hu) (fun u hu => by simp at hu; rcases hu with rfl | rfl <;> rfl) (by unfold maxLen; omega) (by omega) (by omega)
  refine ⟨v', w', hr, by rw [actors_succ]; exact ho, (Turn.of_below (S := fun k => v.ownBlock = some k) hb).trans ((Turn.refl _ WA).grown hg (fun k hk => .inl hk))⟩
def NRel (w : World) (rb n : Nat) (gh : Nat) (v4 : Value) (wr : World) : Prop :=
  ∃ (j : Nat) (v : Value), v4 = .int .i64 (j : Int) ∧ j ≤ n ∧ gh = n - j ∧ wr.cell? ⟨rb, 0, none⟩ = some (.int .i64 0) ∧ wr.cell? ⟨rb, 1, none⟩ = some v ∧ (∀ i, wr.frozen? ⟨rb, i, none⟩ = false) ∧ wr.ownsRow (rb + 1) 100 2 v j (actors j) ∧ Turn (fun _ => False) w wr ∧ rb + 1 ≤ wr.heap.size
set_option maxRecDepth 100000 in
set_option maxHeartbeats 2000000 in
theorem ref_new (n : Nat) (h1 : 1 ≤ n) (h5 : n ≤ 5) (w : World) : Calls Try.prog 32 #[.int .i64 (n : Int)] w fun e w' => ∃ ab cap, e = .returned (.pointer (some ⟨w.heap.size, 0, none⟩)) ∧ RefE w' w.heap.size ab n cap w'.heap.size 0 (fun _ => -1) (fun _ => .slice none 0 0) (fun _ => []) ∧ w.heap.size ≤ ab ∧ Turn (fun _ => False) w w' := by
  have R0 : NRel w w.heap.size n n (.int .i64 0) (w.alloc (.cells #[.int .i64 0, .slice none 0 0] 60)) := ⟨0, _, rfl, Nat.zero_le _, rfl, World.cell?_alloc_new w #[.int .i64 0, .slice none 0 0] 60 0, World.cell?_alloc_new w #[.int .i64 0, .slice none 0 0] 60 1, fun i => by
    rw [frozen?_alloc_cells]
    exact fz _ (Nat.le_refl _), World.ownsRow_nil _ _ _ _, (Turn.refl _ w).alloc _, by simp⟩
  go_enter Try.func32, Try.ntmps32
  go_wp2_with fail
  generalize w.alloc (.cells #[.int .i64 0, .slice none 0 0] 60) = w1 at *
  have HRB := Lib.hid (Nat.le_refl w.heap.size)
  generalize hrb : w.heap.size = rb at R0 HRB ⊢
  have HRB := Lib.hid hrb
  clear hrb
  go_loopg [4] n (fun gh v4 wr => NRel w rb n gh v4 wr)
  case atStart => exact R0
  case round =>
    clear R0
    obtain ⟨j, v, rfl, hj, hg, c0, c1, fr, hrow, T, hz⟩ := hrel
    obtain ⟨av, cv, ev, sav⟩ := own_slice hrow
    subst ev
    have fr1 := fr 1
    by_cases hjn : j < n
    · have t1 : decide ((j : Int) < (n : Int)) = true := by simp; omega
      obtain ⟨v', wa, hrun, hown, T2⟩ := actor_app (t := wr.heap.size) (WA := wr.alloc (.cells #[.int .i64 (-1), .slice none 0 0] 100)) hrow (by omega) (by omega) ((Below.refl _ wr).alloc (Nat.le_refl _) _) (fun i u hu => (World.cell?_alloc_new wr #[.int .i64 (-1), .slice none 0 0] 100 i).trans (by simpa using hu))
      obtain ⟨av2, cv2, ev2, _⟩ := own_slice hown
      subst ev2
      have hnr : ¬ (Value.slice av j cv).ownBlock = some rb := fun e => by have := (hrow.lt rb e).1; omega
      have eb := T2.block rb (by omega) hnr
      have d0 := (World.cell?_of_block (w := wr) (w' := wa) (a := ⟨rb, 0, none⟩) eb).trans c0
      have d1 := (World.cell?_of_block (w := wr) (w' := wa) (a := ⟨rb, 1, none⟩) eb).trans c1
      have F := Lib.hid (show NRel w rb n (n - (j + 1)) (.int .i64 ((j + 1 : Nat) : Int)) (wa.setCell ⟨rb, 1, none⟩ (.slice av2 (j + 1) cv2)) from
        ⟨j + 1, _, rfl, by omega, rfl, by rw [cell_off _ _ _ _ _ (by omega)]; exact d0, World.cell?_setCell_same _ _ _ d1, fun i => by simpa using (World.frozen?_of_block (w := wr) (w' := wa) (a := ⟨rb, i, none⟩) eb).trans (fr i), own_keep hown (fun k hk => Below.heap_setCell _ _ _ _ (by have := (hown.lt k hk).1; show k ≠ rb; omega)),
          (turn_new T (row_low hrow (by have := HRB.out; omega)) T2).setCell (p := ⟨rb, 1, none⟩) (.inr (by have := HRB.out; show w.heap.size ≤ rb; omega)) _, by have := T2.size; simp; omega⟩)
      have fa1 := (World.frozen?_of_block (w := wr) (w' := wa) (a := ⟨rb, 1, none⟩) eb).trans fr1
      have RUN := Lib.hid hrun
      have G := Lib.hid hg
      have hj0 : (0 : Int) ≤ (j : Int) := by omega
      have hjn2 : (j : Int) < (n : Int) := by omega
      have c1' := past (o := .cells #[.int .i64 (-1), .slice none 0 0] 100) c1
      clear hrow T hz fr hown T2 hrun hg eb
      go_wp2_with (refine rl_append_run (by rfl) _ _ _ (by rfl) (by rfl) (by rfl) RUN.out ?_)
      go_roundg (n - (j + 1))
      case measure => have := G.out; omega
      case rel => exact F.out
    · have t1 : decide ((j : Int) < (n : Int)) = false := by simp; omega
      obtain rfl : j = n := by omega
      obtain ⟨g, rfl⟩ := sav (by omega)
      have hb := (hrow.lt g rfl)
      have F := Lib.hid (show RefE wr rb g j cv wr.heap.size 0 (fun _ => -1) (fun _ => .slice none 0 0) (fun _ => []) from
        ⟨by omega, by omega, hb.2, Nat.le_refl _, c0, c1, fun a ha => (hrow.cellAt (a * 2) (by omega)).trans (actors_at ha).1, fun a ha => (hrow.cellAt (a * 2 + 1) (by omega)).trans (actors_at ha).2, fr, fun i => hrow.frozenAt i, fun a ha => World.ownsRow_nil _ _ _ _, fun a b _ _ _ => .inl rfl, h5, by decide⟩)
      have Z := Lib.hid (And.intro T (And.intro hb.1 HRB.out))
      clear hrow T hz fr hb c0
      go_wp2_with fail
      go_ret
      obtain ⟨T, hb, hw⟩ := Z.out
      rw [hw]
      exact ⟨g, cv, rfl, F.out, by omega, T⟩
end Go.Proofs.Ytibmimdlgbhdnaa
