/-
  Insertion among matches: the walk of Go's own sort.
-/
import Derived.Test.YtibmimdlgbhdnaaTupT
namespace Go.Proofs.Ytibmimdlgbhdnaa
open Go.ChangeShapes Go.WideShapes Go.ChangeAt Go.RowKit
set_option linter.unusedVariables false

def OutRel (B g cap : Nat) (w : World) (E0 : List (Value × Mat)) (gh : Nat) (v8 : Value) (wr : World) : Prop :=
  ∃ (i : Nat) (E : List (Value × Mat)), v8 = .int .i64 (i : Int) ∧ 1 ≤ i ∧ i ≤ E0.length + 1 ∧ gh = E0.length + 1 - i ∧ E.Perm E0 ∧ SortSt B g cap wr E ∧ (E.take i).Pairwise leE ∧ Turn (fun k => k = g) w wr
def InRel (B g cap : Nat) (w : World) (E0 : List (Value × Mat)) (i : Nat) (gh : Nat) (v9 : Value) (wr : World) : Prop :=
  ∃ (A : List (Value × Mat)) (x : Value × Mat) (Bs C : List (Value × Mat)), v9 = .int .i64 (A.length : Int) ∧ gh = A.length ∧ A.length + Bs.length = i ∧ (A ++ x :: (Bs ++ C)).Perm E0 ∧ SortSt B g cap wr (A ++ x :: (Bs ++ C)) ∧ (A ++ Bs).Pairwise leE ∧ (∀ b ∈ Bs, leE x b) ∧ Turn (fun k => k = g) w wr
theorem out_end {B g cap : Nat} {w wr : World} {E0 A Bs C : List (Value × Mat)} {x : Value × Mat} {i : Nat} (hi : A.length + Bs.length = i) (h1 : 1 ≤ i) (hp : (A ++ x :: (Bs ++ C)).Perm E0) (hs : SortSt B g cap wr (A ++ x :: (Bs ++ C))) (hb : (A ++ Bs).Pairwise leE) (hx : ∀ b ∈ Bs, leE x b) (ha : ∀ a ∈ A, leE a x) (T : Turn (fun k => k = g) w wr) (d : Nat) :
    OutRel B g cap w E0 (E0.length + 1 - (i + 1)) (.int .i64 ((i : Int) + 1)) (wr.drewN d) := by
  have hl := hp.length_eq
  simp at hl
  refine ⟨i + 1, _, by go_num, by omega, by omega, rfl, hp, hs.drewN d, ?_, T.drewN d⟩
  have e : (A ++ x :: (Bs ++ C)).take (i + 1) = A ++ x :: Bs := by
    rw [show A ++ x :: (Bs ++ C) = (A ++ x :: Bs) ++ C by simp]
    exact List.take_left' (by simp; omega)
  rw [e]
  exact pair_ins hb hx ha
set_option maxRecDepth 100000 in
set_option maxHeartbeats 4000000 in
theorem insert_is {B g cap : Nat} {w : World} {E0 : List (Value × Mat)} (hs : SortSt B g cap w E0) (hn : E0.length ≤ 1000) :
    Calls Try.prog 95 #[.slice (some ⟨g, 0, none⟩) E0.length cap, .int .i64 0, .int .i64 (E0.length : Int), .func (.func 20) #[] #[]] w fun e w' => e = .returned (.tuple #[]) ∧ ∃ E, E.Perm E0 ∧ SortSt B g cap w' E ∧ E.Pairwise leE ∧ Turn (fun k => k = g) w w' := by
  have R0 : OutRel B g cap w E0 E0.length (.int .i64 1) w := ⟨1, E0, rfl, Nat.le_refl _, by omega, by omega, List.Perm.refl _, hs, by
    cases E0 with
    | nil => exact List.Pairwise.nil
    | cons a l => simp, Turn.refl _ _⟩
  clear hs
  go_enter Try.func95, Try.ntmps95
  go_wp2_with fail
  go_loopg [8] E0.length (fun gh v8 wr => OutRel B g cap w E0 gh v8 wr)
  case atStart => exact R0
  case round =>
    clear R0
    obtain ⟨i, E, rfl, h1, hin, hg, hp, hs, hpw, T⟩ := hrel
    by_cases hil : i < E0.length
    · have hl := hp.length_eq
      have hil2 : i < E.length := by omega
      obtain ⟨A, x, C, rfl, hA⟩ : ∃ A x C, E = A ++ x :: C ∧ A.length = i := ⟨E.take i, E[i], E.drop (i + 1), by rw [← List.drop_eq_getElem_cons hil2, List.take_append_drop], by rw [List.length_take]; omega⟩
      have I0 : InRel B g cap w E0 i i (.int .i64 (i : Int)) wr := ⟨A, x, [], C, by rw [hA], hA.symm, by simp [hA], by simpa using hp, by simpa using hs, by
        rw [List.take_left' hA] at hpw
        simpa using hpw, fun b hb => by simp at hb, T⟩
      have ht1 : decide ((i : Int) < (E0.length : Int)) = true := by simp; omega
      have HG := Lib.hid hg
      clear hp hs hpw T hl hil2 hA hg
      go_wp2_with fail
      go_loopg [9] i (fun gh v9 wr => InRel B g cap w E0 i gh v9 wr)
      case atStart => exact I0
      case round =>
        clear I0
        obtain ⟨A, x, Bs, C, rfl, hga, hAB, hp, hs, hpw, hx, T⟩ := hrel
        rcases List.eq_nil_or_concat A with rfl | ⟨A', y, rfl⟩
        · have OE := Lib.hid (fun d => out_end hAB h1 hp hs hpw hx (fun a ha => by simp at ha) T d)
          clear hp hs hpw hx T hAB hga
          simp only [List.length_nil]
          go_wp2_with fail
          go_quiet (fail)
          go_wp2_with fail
          go_roundg (E0.length + 1 - (i + 1))
          case measure => have := HG.out; omega
          case rel => exact OE.out _
        · simp only [List.concat_eq_append] at *
          obtain ⟨vx, X⟩ := x
          obtain ⟨vy, Y⟩ := y
          obtain ⟨p, hpl⟩ : ∃ p, p = A'.length := ⟨_, rfl⟩
          have eA : (A' ++ [(vy, Y)]).length = p + 1 := by rw [hpl]; simp
          have eL : (A' ++ [(vy, Y)] ++ (vx, X) :: (Bs ++ C)) = A' ++ (vy, Y) :: (vx, X) :: (Bs ++ C) := by simp
          rw [eA] at hAB
          rw [eL] at hp hs
          have hlen := hp.length_eq
          simp only [List.length_append, List.length_cons] at hlen
          have ex := hs.el (vx, X) (by simp)
          have ey := hs.el (vy, Y) (by simp)
          obtain ⟨px, _, _, cx, e1, _⟩ := ex.rows
          obtain ⟨py, _, _, cy, e2, _⟩ := ey.rows
          have q1 := ex.rows.at
          have q2 := ey.rows.at
          dsimp only at e1 e2 q1 q2
          subst e1
          subst e2
          have CR := Lib.hid (fun dd => (show Calls Try.prog 20 #[.slice px X.length cx, .slice py Y.length cy] (wr.drewN dd) (fun e w' => e = Ending.returned (.int .i64 (cmpM X Y)) ∧ ∃ q, w' = wr.drewN q) from (cmp_is (w := wr.drewN dd) q1 q2 ex.len ey.len ex.lens ey.lens).mono fun e w' ⟨h1, d, h2⟩ => ⟨h1, dd + d, by rw [h2, World.drewN_drewN]⟩))
          have z1 : wr.cell? ⟨g, p + 1, none⟩ = some (.slice px X.length cx) := (hs.own.cellAt (p + 1) (by simp; omega)).trans (by simp [hpl])
          have z2 : wr.cell? ⟨g, p, none⟩ = some (.slice py Y.length cy) := (hs.own.cellAt p (by simp; omega)).trans (by simp [hpl])
          have f1 : wr.frozen? ⟨g, p + 1, none⟩ = false := hs.own.frozenAt _
          have f2 : wr.frozen? ⟨g, p, none⟩ = false := hs.own.frozenAt _
          have hs2 := Lib.hid hs.swap
          dsimp only at hs2
          rw [← hpl] at hs2
          have LE : p + 1 < E0.length := by omega
          by_cases hc : cmpM X Y < 0
          · have NX := Lib.hid (fun d2 => show InRel B g cap w E0 i p (.int .i64 (p : Int)) (((wr.setCell ⟨g, p + 1, none⟩ (.slice py Y.length cy)).setCell ⟨g, p, none⟩ (.slice px X.length cx)).drewN d2) from
              ⟨A', (.slice px X.length cx, X), (.slice py Y.length cy, Y) :: Bs, C, by rw [hpl], hpl, by simp; omega, by
                refine List.Perm.trans ?_ hp
                exact List.Perm.append_left _ (List.Perm.swap _ _ _), hs2.out.drewN d2, by simpa using hpw, fun b hb => by
                rcases List.mem_cons.1 hb with rfl | hb
                · exact Int.le_of_lt hc
                · exact hx b hb, ((T.setCell (.inl rfl) _).setCell (.inl rfl) _).drewN d2⟩)
            have ht1 : decide (cmpM X Y < 0) = true := by simpa using hc
            rw [eA] at hga
            have hgp := Lib.hid hga
            clear hp hs hs2 hpw hx T hAB hga ex ey q1 q2 hc hlen eL hpl
            simp only [eA]
            clear eA
            obtain ⟨q, hq⟩ : ∃ q, q = p + 1 := ⟨_, rfl⟩
            rw [← hq] at z1 f1 NX LE ⊢
            have es : (q : Int) - 1 = (p : Int) := by omega
            have tg : decide ((0 : Int) < (q : Int)) = true := by simp; omega
            have hq0 : 0 < q := by omega
            have lt1 : (q : Int) < (E0.length : Int) := by omega
            have lt2 : (p : Int) < (E0.length : Int) := by omega
            have ge1 : (0 : Int) ≤ (p : Int) := by omega
            have ge2 : (0 : Int) ≤ (q : Int) := by omega
            have hwp : IntKind.i64.wrap (p : Int) = (p : Int) := IntWalk.i64_in _ (by omega)
            clear hq
            go_wp2_with fail
            go_quiet ((go_at_call 20; exact CR.out _))
            go_wp2_with fail
            go_region
            all_goals go_wp2_with fail
            all_goals go_roundg p
            all_goals first
              | exact NX.out _
              | (have := hgp.out; omega)
          · have LY : leE (.slice py Y.length cy, Y) (.slice px X.length cx, X) := by
              have h := (show cmpM Y X = -(cmpM X Y) from ord_match.s X Y)
              show cmpM Y X ≤ 0
              omega
            have hall : ∀ a ∈ A' ++ [(.slice py Y.length cy, Y)], leE a (.slice px X.length cx, X) := fun a ha => by
              rcases List.mem_append.1 ha with ha | ha
              · have h := (List.pairwise_append.1 (List.pairwise_append.1 hpw).1).2.2 a ha _ (List.mem_singleton.2 rfl)
                exact h.trans LY
              · rw [List.mem_singleton.1 ha]
                exact LY
            rw [← eL] at hp hs
            have OE := Lib.hid (fun d => out_end (by rw [eA]; exact hAB) h1 hp hs hpw hx hall T d)
            have ht1 : decide (cmpM X Y < 0) = false := by simpa using hc
            clear hp hs hs2 hpw hx T hAB hga ex ey q1 q2 hc hlen eL hpl hall LY
            simp only [eA]
            clear eA
            obtain ⟨q, hq⟩ : ∃ q, q = p + 1 := ⟨_, rfl⟩
            rw [← hq] at z1 f1 LE ⊢
            have es : (q : Int) - 1 = (p : Int) := by omega
            have tg : decide ((0 : Int) < (q : Int)) = true := by simp; omega
            have hq0 : 0 < q := by omega
            have lt1 : (q : Int) < (E0.length : Int) := by omega
            have lt2 : (p : Int) < (E0.length : Int) := by omega
            have ge1 : (0 : Int) ≤ (p : Int) := by omega
            have ge2 : (0 : Int) ≤ (q : Int) := by omega
            have hwp : IntKind.i64.wrap (p : Int) = (p : Int) := IntWalk.i64_in _ (by omega)
            clear hq
            go_wp2_with fail
            go_quiet ((go_at_call 20; exact CR.out _))
            go_wp2_with fail
            go_roundg (E0.length + 1 - (i + 1))
            case measure => have := HG.out; omega
            case rel => exact OE.out _
    · have F := Lib.hid (show ∃ E, E.Perm E0 ∧ SortSt B g cap wr E ∧ E.Pairwise leE ∧ Turn (fun k => k = g) w wr from ⟨E, hp, hs, by rw [List.take_of_length_le (by have := hp.length_eq; omega)] at hpw; exact hpw, T⟩)
      have ht1 : decide ((i : Int) < (E0.length : Int)) = false := by simp; omega
      clear hp hs hpw T hg
      go_wp2
      go_end0
      exact ⟨rfl, F.out⟩
end Go.Proofs.Ytibmimdlgbhdnaa
