/-
  The document's Live, of layer 15: a contract for the walks.
-/
import Derived.Test.YtbpcocobimdcnaaRs
import Derived.Test.YtbpcocobimdcnaaRe
import Derived.Test.YtbpcocobimdcnaaRn
namespace Go.Proofs.Ytbpcocobimdcnaa
open Go.ChangeShapes Go.WideShapes Go.ChangeAt Go.RowKit
set_option linter.unusedVariables false

theorem out_app {W : World} {b n t : Nat} {v : Value} {xs : List Value} {e : EV} (h1 : W.ownsRow b 48 5 v n xs) (hb : b ≤ W.heap.size) (hn : n ≤ 1000) (hs : e.cs.oneCell' = true) (hr : ∀ j u, e.cells[j]? = some u → W.cell? ⟨t, j, none⟩ = some u) :
    ∃ v' w', (Builtin.append_ #[25, 25] 25 #[v, .slice (some ⟨t, 0, none⟩) 1 1]).run Try.prog W = .ok v' w' ∧ w'.ownsRow b 48 5 v' (n + 1) (xs ++ e.cells) ∧ Turn (fun k => v.ownBlock = some k) W w' := by
  obtain ⟨i3, j1, j2, j3, j4⟩ := info_parts info48
  have one : ∀ u ∈ e.cells, u.oneCell' = true := fun u hu => by
    simp [EV.cells] at hu
    rcases hu with rfl | rfl | rfl | rfl | rfl
    · rfl
    · rfl
    · exact hs
    · rfl
    · rfl
  obtain ⟨v', w', hrun, hown, hg, _⟩ := run_append_own W b 25 25 48 i3 _ 5 56 Try.underlying25 j1 j2 j3 j4 rfl (by decide) v n xs h1 ⟨t, 0, none⟩ 1 1 e.cells rfl (fun j u hu => by
    rw [Go.WideShapes.add_plain, Nat.zero_add]
    exact hr j u hu) one (by unfold maxLen; omega) (by omega) hb
  exact ⟨v', w', hrun, hown, (Turn.refl _ W).grown hg (fun k hk => .inl hk)⟩
structure LSt (w : World) (at_ : Int) (l : List EV) (i : Nat) (v : Value) (wr : World) : Prop where
  own : wr.ownsRow w.heap.size 48 5 v ((l.take i).filter (livesAt at_)).length (ecells ((l.take i).filter (livesAt at_)))
  tn : Turn (fun _ => False) w wr
def LRel (w : World) (at_ : Int) (l : List EV) (gh : Nat) (v5 v6 : Value) (wr : World) : Prop :=
  ∃ i : Nat, v6 = .int .i64 (i : Int) ∧ i ≤ l.length ∧ gh = l.length - i ∧ LSt w at_ l i v5 wr
theorem LSt.no {w wr : World} {at_ : Int} {l : List EV} {i : Nat} {v : Value} {e : EV} (h : LSt w at_ l i v wr) (he : l[i]? = some e) (hl : livesAt at_ e = false) : LSt w at_ l (i + 1) v wr := by
  refine ⟨?_, h.tn⟩
  rw [take_no he hl]
  exact h.own
theorem LSt.yes {w wr : World} {at_ : Int} {l : List EV} {i : Nat} {v : Value} {e : EV} (h : LSt w at_ l i v wr) (he : l[i]? = some e) (hl : livesAt at_ e = true) (hn : l.length ≤ 1000) (hs : e.cs.oneCell' = true) :
    ∃ a c w', (Builtin.append_ #[25, 25] 25 #[v, .slice (some ⟨wr.heap.size, 0, none⟩) 1 1]).run Try.prog (wr.alloc (.cells #[.int .i64 e.id, .int .i64 e.till, e.cs, .int .i64 e.win, .bool false] 48)) = .ok (.slice a (((l.take i).filter (livesAt at_)).length + 1) c) w' ∧ LSt w at_ l (i + 1) (.slice a (((l.take i).filter (livesAt at_)).length + 1) c) w' := by
  have T1 : Turn (fun _ => False) wr (wr.alloc (.cells #[.int .i64 e.id, .int .i64 e.till, e.cs, .int .i64 e.win, .bool false] 48)) := (Turn.refl _ wr).alloc _
  have h1 := own_turn h.own T1 (fun _ _ f => f)
  have hz := h.tn.size
  have hl1 : ((l.take i).filter (livesAt at_)).length ≤ 1000 := Nat.le_trans (List.length_filter_le _ _) (by rw [List.length_take]; omega)
  obtain ⟨v', w', q1, q2, q3⟩ := out_app (e := e) (t := wr.heap.size) h1 (by simp; omega) hl1 hs (fun j u hu => (World.cell?_alloc_new wr _ 48 j).trans (by simpa [EV.cells] using hu))
  obtain ⟨a, c, rfl, _⟩ := own_slice q2
  refine ⟨a, c, w', q1, ?_, turn_fresh (h.tn.trans T1) h1 q3⟩
  rw [take_yes he hl, ecells_app, List.length_append]
  exact (by simpa [ecells] using q2)
set_option maxRecDepth 100000 in
set_option maxHeartbeats 2000000 in
theorem rLive_is {w : World} {v : Value} {l : List EV} (h : ERow w v l) (ht : TabsAt w l) (at_ : Int) :
    Calls Try.prog 22 #[v, .int .i64 at_] w fun en w' => ∃ v', en = .returned v' ∧ w'.ownsRow w.heap.size 48 5 v' (l.filter (livesAt at_)).length (ecells (l.filter (livesAt at_))) ∧ Turn (fun _ => False) w w' := by
  obtain ⟨a, c, rfl, hg⟩ := own_slice h.own
  have H := Lib.hid (And.intro h (And.intro ht hg))
  have hl := h.lt
  have R0 : LRel w at_ l l.length (.slice none 0 0) (.int .i64 0) w := ⟨0, rfl, Nat.zero_le _, by omega, by simp [ecells]; exact World.ownsRow_nil _ _ _ _, Turn.refl _ _⟩
  clear h hg ht
  go_enter Try.func22, Try.ntmps22
  go_wp2_with fail
  go_loopg [5, 6] l.length (fun gh v5 v6 wr => LRel w at_ l gh v5 v6 wr)
  case atStart => exact R0
  case round =>
    clear R0
    obtain ⟨i, rfl, hil, hgh, hst⟩ := hrel
    by_cases hlt : i < l.length
    · have t1 : decide ((i : Int) < (l.length : Int)) = true := by simp; omega
      obtain ⟨e, he⟩ : ∃ e, l[i]? = some e := ⟨_, List.getElem?_eq_getElem hlt⟩
      obtain ⟨g, rfl⟩ := H.out.2.2 (by omega)
      have ho := own_turn H.out.1.own hst.tn (fun _ _ f => f)
      obtain ⟨x0, x1, x2, x3, x4⟩ := ecells_at l i e he
      have y0 := (ho.cellAt (i * 5) (by omega)).trans x0
      have y1 := (ho.cellAt (i * 5 + 1) (by omega)).trans x1
      have y2 := (ho.cellAt (i * 5 + 2) (by omega)).trans x2
      have y3 := (ho.cellAt (i * 5 + 3) (by omega)).trans x3
      have y4 := (ho.cellAt (i * 5 + 4) (by omega)).trans x4
      have hi1 : (i : Int) < (l.length : Int) := by omega
      have hi0 : (0 : Int) ≤ (i : Int) := by omega
      have G := Lib.hid hgh
      obtain ⟨sa, sc, rfl, _⟩ := own_slice hst.own
      have NO := Lib.hid (fun hv => show LRel w at_ l (l.length - (i + 1)) _ (.int .i64 ((i + 1 : Nat) : Int)) wr from ⟨i + 1, rfl, by omega, rfl, hst.no he hv⟩)
      obtain ⟨na, nn, nc, hcs⟩ := plain_slice (H.out.2.1 e (List.mem_of_getElem? he))
      have YE := Lib.hid (fun hv => hst.yes he hv hl (by rw [hcs]; rfl))
      generalize (List.filter (livesAt at_) (List.take i l)).length = m at *
      clear ho x0 x1 x2 x3 x4 hst hgh he
      obtain ⟨eid, till, cs, win, o⟩ := e
      dsimp only at hcs y0 y1 y2 y3 y4
      subst hcs
      by_cases h1 : eid < at_
      · have u1 : decide (eid < at_) = true := by simpa using h1
        by_cases h2 : till = -1
        · have u2 : (till == -1) = true := by simpa using h2
          obtain ⟨ra, rc, w', hrun, hst'⟩ := YE.out (by simp [livesAt, h1, h2])
          have RUN := Lib.hid hrun
          have F := Lib.hid (show LRel w at_ l (l.length - (i + 1)) _ (.int .i64 ((i + 1 : Nat) : Int)) w' from ⟨i + 1, rfl, by omega, rfl, hst'⟩)
          clear hrun hst' NO YE h1 h2
          dsimp only at RUN
          go_wp2_with (refine rl_append_run (by rfl) _ _ _ (by rfl) (by rfl) (by rfl) RUN.out ?_)
          go_roundg (l.length - (i + 1))
          case measure => have := G.out; omega
          case rel => exact F.out
        · have u2 : (till == -1) = false := by simpa using h2
          by_cases h3 : at_ ≤ till
          · have u3 : decide (at_ ≤ till) = true := by simpa using h3
            obtain ⟨ra, rc, w', hrun, hst'⟩ := YE.out (by simp [livesAt, h1, h3])
            have RUN := Lib.hid hrun
            have F := Lib.hid (show LRel w at_ l (l.length - (i + 1)) _ (.int .i64 ((i + 1 : Nat) : Int)) w' from ⟨i + 1, rfl, by omega, rfl, hst'⟩)
            clear hrun hst' NO YE h1 h2 h3
            dsimp only at RUN
            go_wp2_with (refine rl_append_run (by rfl) _ _ _ (by rfl) (by rfl) (by rfl) RUN.out ?_)
            go_roundg (l.length - (i + 1))
            case measure => have := G.out; omega
            case rel => exact F.out
          · have u3 : decide (at_ ≤ till) = false := by simpa using h3
            have F := Lib.hid (NO.out (by simp [livesAt, h2]; omega))
            clear NO YE h1 h2 h3
            go_wp2_with fail
            go_roundg (l.length - (i + 1))
            case measure => have := G.out; omega
            case rel => exact F.out
      · have u1 : decide (eid < at_) = false := by simpa using h1
        have F := Lib.hid (NO.out (by simp [livesAt]; omega))
        clear NO YE h1
        go_wp2_with fail
        go_roundg (l.length - (i + 1))
        case measure => have := G.out; omega
        case rel => exact F.out
    · obtain rfl : i = l.length := by omega
      have t1 : decide ((l.length : Int) < (l.length : Int)) = false := by simp
      have hown := hst.own
      rw [List.take_length] at hown
      obtain ⟨sa, sc, rfl, _⟩ := own_slice hown
      have F := Lib.hid (And.intro hown hst.tn)
      clear hst hgh hown
      go_wp2
      go_ret
      exact ⟨_, rfl, F.out⟩
end Go.Proofs.Ytbpcocobimdcnaa
