/-
  Where an id is among entries: the search.
-/
import Derived.Test.YtbpcocobimdcnaaRl
namespace Go.Proofs.Ytbpcocobimdcnaa
open Go.ChangeShapes Go.WideShapes Go.ChangeAt Go.RowKit
set_option linter.unusedVariables false

def Sorted (l : List EV) : Prop := l.Pairwise (fun a b => a.id < b.id)
theorem Sorted.lt {l : List EV} (h : Sorted l) {i k : Nat} {a b : EV} (hi : l[i]? = some a) (hk : l[k]? = some b) (hik : i < k) : a.id < b.id := by
  obtain ⟨h1, rfl⟩ := List.getElem?_eq_some_iff.1 hi
  obtain ⟨h2, rfl⟩ := List.getElem?_eq_some_iff.1 hk
  exact List.pairwise_iff_getElem.1 h i k h1 h2 hik
/-- The place of an id: what is ahead of it is less. -/
def IsPlace (l : List EV) (id : Int) (i : Nat) : Prop := i ≤ l.length ∧ (∀ (k : Nat) (e : EV), k < i → l[k]? = some e → e.id < id) ∧ ∀ (k : Nat) (e : EV), i ≤ k → l[k]? = some e → id ≤ e.id
def foundB (l : List EV) (id : Int) (i : Nat) : Bool := match l[i]? with
  | some e => e.id == id
  | none => false
def BsRel (w : World) (l : List EV) (id : Int) (gh : Nat) (v9 v10 : Value) (wr : World) : Prop :=
  ∃ i j : Nat, v9 = .int .i64 (i : Int) ∧ v10 = .int .i64 (j : Int) ∧ i ≤ j ∧ j ≤ l.length ∧ gh = j - i ∧ (∀ (k : Nat) (e : EV), k < i → l[k]? = some e → e.id < id) ∧ (∀ (k : Nat) (e : EV), j ≤ k → l[k]? = some e → id ≤ e.id) ∧ Turn (fun _ => False) w wr
set_option maxRecDepth 100000 in
set_option maxHeartbeats 2000000 in
theorem search_is {w : World} {v : Value} {l : List EV} (h : ERow w v l) (hs : Sorted l) (id : Int) :
    Calls Try.prog 29 #[v, .int .i64 id, .func (.func 30) #[] #[]] w fun e w' => ∃ i : Nat, e = .returned (.tuple #[.int .i64 (i : Int), .bool (foundB l id i)]) ∧ IsPlace l id i ∧ Turn (fun _ => False) w w' := by
  obtain ⟨a, c, rfl, hg⟩ := own_slice h.own
  have H := Lib.hid (And.intro h (And.intro hs hg))
  have hl := h.lt
  have R0 : BsRel w l id l.length (.int .i64 0) (.int .i64 (l.length : Int)) w := ⟨0, l.length, rfl, rfl, Nat.zero_le _, Nat.le_refl _, rfl, fun k e hk => absurd hk (Nat.not_lt_zero k), fun k e hk he => absurd (List.getElem?_eq_some_iff.1 he).1 (by omega), Turn.refl _ _⟩
  clear h hs hg
  go_enter Try.func29, Try.ntmps29
  go_wp2_with fail
  go_loopg [9, 10] l.length (fun gh v9 v10 wr => BsRel w l id gh v9 v10 wr)
  case atStart => exact R0
  case round =>
    clear R0
    obtain ⟨i, j, rfl, rfl, hij, hj, hgh, h1, h2, T⟩ := hrel
    by_cases hlt : i < j
    · obtain ⟨m, hm⟩ : ∃ m, m = (i + j) / 2 := ⟨_, rfl⟩
      have t1 : decide ((i : Int) < (j : Int)) = true := by simp; omega
      have e1 : IntKind.i64.wrap ((i : Int) + (j : Int)) = (i : Int) + (j : Int) := IntWalk.i64_in _ (by omega)
      have e2 : ((i : Int) + (j : Int)) / 2 = (m : Int) := by omega
      have hmi : i ≤ m := by omega
      have hmj : m < j := by omega
      obtain ⟨e, he⟩ : ∃ e, l[m]? = some e := ⟨_, List.getElem?_eq_getElem (by omega)⟩
      obtain ⟨g, rfl⟩ := H.out.2.2 (by omega)
      have ho := own_turn H.out.1.own T (fun _ _ h => h)
      obtain ⟨x0, x1, x2, x3, x4⟩ := ecells_at l m e he
      have y0 := (ho.cellAt (m * 5) (by omega)).trans x0
      have y1 := (ho.cellAt (m * 5 + 1) (by omega)).trans x1
      have y2 := (ho.cellAt (m * 5 + 2) (by omega)).trans x2
      have y3 := (ho.cellAt (m * 5 + 3) (by omega)).trans x3
      have y4 := (ho.cellAt (m * 5 + 4) (by omega)).trans x4
      have hm1 : (m : Int) < (l.length : Int) := by omega
      have hm0 : (0 : Int) ≤ (m : Int) := by omega
      have C := Lib.hid (cmp_ent e id wr)
      unfold EV.val at C
      have L1 := Lib.hid (show e.id < id → ∀ w', Below wr.heap.size wr w' → BsRel w l id (j - (m + 1)) (.int .i64 ((m + 1 : Nat) : Int)) (.int .i64 (j : Int)) w' from fun hid w' hb => ⟨m + 1, j, rfl, rfl, by omega, hj, rfl, fun k e' hk hke => by
        rcases Nat.lt_or_eq_of_le (Nat.le_of_lt_succ hk) with hk | rfl
        · exact Int.lt_trans (H.out.2.1.lt hke he hk) hid
        · rw [he] at hke
          cases hke
          exact hid, h2, T.trans (Turn.of_below hb)⟩)
      have L2 := Lib.hid (show ¬ e.id < id → ∀ w', Below wr.heap.size wr w' → BsRel w l id (m - i) (.int .i64 (i : Int)) (.int .i64 (m : Int)) w' from fun hid w' hb => ⟨i, m, rfl, rfl, hmi, by omega, rfl, h1, fun k e' hk hke => by
        rcases Nat.lt_or_eq_of_le hk with hk | rfl
        · have := H.out.2.1.lt he hke hk
          omega
        · rw [he] at hke
          cases hke
          omega, T.trans (Turn.of_below hb)⟩)
      have G := Lib.hid hgh
      clear hm h1 h2 T ho x0 x1 x2 x3 x4 he hgh
      go_wp2_with fail
      refine C.out.mono ?_
      rintro en w1 ⟨rfl, hb⟩
      have HB := Lib.hid hb
      clear hb C y0 y1 y2 y3 y4
      by_cases hid : e.id < id
      · have hc : cmpI e.id id = -1 := by unfold cmpI; rw [if_pos hid]
        have F := Lib.hid (L1.out hid _ HB.out)
        rw [hc]
        clear hc hid L1 L2
        go_wp2_with fail
        go_roundg (j - (m + 1))
        case measure => have := G.out; omega
        case rel => exact F.out
      · have hc : 0 ≤ cmpI e.id id := by unfold cmpI; rw [if_neg hid]; split <;> omega
        have F := Lib.hid (L2.out (Int.not_lt.1 hid) _ HB.out)
        have ht : decide (cmpI e.id id < 0) = false := by simp; omega
        clear hc hid L1 L2
        generalize cmpI e.id id = z at *
        go_wp2_with fail
        go_roundg (m - i)
        case measure => have := G.out; omega
        case rel => exact F.out
    · obtain rfl : i = j := by omega
      have t1 : decide ((i : Int) < (i : Int)) = false := by simp
      have PL := Lib.hid (show IsPlace l id i from ⟨hj, h1, h2⟩)
      have TT := Lib.hid T
      clear h1 h2
      by_cases hil : i < l.length
      · obtain ⟨e, he⟩ : ∃ e, l[i]? = some e := ⟨_, List.getElem?_eq_getElem hil⟩
        obtain ⟨g, rfl⟩ := H.out.2.2 (by omega)
        have ho := own_turn H.out.1.own T (fun _ _ h => h)
        obtain ⟨x0, x1, x2, x3, x4⟩ := ecells_at l i e he
        have y0 := (ho.cellAt (i * 5) (by omega)).trans x0
        have y1 := (ho.cellAt (i * 5 + 1) (by omega)).trans x1
        have y2 := (ho.cellAt (i * 5 + 2) (by omega)).trans x2
        have y3 := (ho.cellAt (i * 5 + 3) (by omega)).trans x3
        have y4 := (ho.cellAt (i * 5 + 4) (by omega)).trans x4
        have hm1 : (i : Int) < (l.length : Int) := by omega
        have hm0 : (0 : Int) ≤ (i : Int) := by omega
        have t2 : decide ((i : Int) < (l.length : Int)) = true := by simp; omega
        have C := Lib.hid (cmp_ent e id wr)
        unfold EV.val at C
        have FB := Lib.hid (show foundB l id i = (cmpI e.id id == 0) from by
          unfold foundB
          rw [he]
          simp only
          unfold cmpI
          by_cases h3 : e.id < id
          · rw [if_pos h3]
            simp
            omega
          · rw [if_neg h3]
            by_cases h4 : id < e.id
            · rw [if_pos h4]
              simp
              omega
            · rw [if_neg h4]
              simp
              omega)
        clear ho x0 x1 x2 x3 x4 he T
        go_wp2_with fail
        refine C.out.mono ?_
        rintro en w1 ⟨rfl, hb⟩
        have HB := Lib.hid (TT.out.trans (Turn.of_below hb))
        clear hb C
        generalize cmpI e.id id = z at *
        go_wp2
        go_ret2
        exact ⟨i, by rw [FB.out]; rfl, PL.out, HB.out⟩
      · have t2 : decide ((i : Int) < (l.length : Int)) = false := by simp; omega
        have FB := Lib.hid (show foundB l id i = false from by
          unfold foundB
          rw [List.getElem?_eq_none (by omega)])
        clear T
        go_wp2
        go_ret2
        exact ⟨i, by rw [FB.out]; rfl, PL.out, TT.out⟩
end Go.Proofs.Ytbpcocobimdcnaa
