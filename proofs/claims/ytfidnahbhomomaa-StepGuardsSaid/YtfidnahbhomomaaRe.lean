/-
  num.Test, pred.Holds and pred.All: what they answer.
-/
import Derived.Test.YtfidnahbhomomaaRd
namespace Go.Proofs.Ytfidnahbhomomaa
open Go.ChangeShapes Go.WideShapes Go.ChangeAt Go.RowKit
set_option linter.unusedVariables false
set_option linter.unusedSimpArgs false
def testB (op a b : Int) : Bool :=
  if op = 1 then a == b else if op = 2 then !(a == b) else if op = 3 then decide (a < b) else if op = 4 then decide (a ≤ b) else if op = 5 then decide (b < a) else decide (b ≤ a)
theorem test_any {op : Int} (h1 : 1 ≤ op) (h6 : op ≤ 6) (a b : Int) (w : World) : Calls Try.prog 77 #[.int .i64 op, .int .i64 a, .int .i64 b] w fun e w' => e = .returned (.bool (testB op a b)) ∧ w = w' := by
  have ho : op = 1 ∨ op = 2 ∨ op = 3 ∨ op = 4 ∨ op = 5 ∨ op = 6 := by omega
  rcases ho with rfl | rfl | rfl | rfl | rfl | rfl <;>
  · go_enter Try.func77, Try.ntmps77
    go_wp2
    go_ret
    exact ⟨rfl, rfl⟩
/-- What a rule of these codes tells. -/
def holdsR (X : List (List Ev)) (r : Rul) : Bool :=
  match evalCd (envE X) r.left, evalCd (envE X) r.right with
  | some x, some y => testB r.op x y
  | _, _ => false
def allR (X : List (List Ev)) (l : List Rul) : Bool := l.all (holdsR X)
def XOk (X : List (List Ev)) : Prop := X.length ≤ 1000 ∧ ∀ l ∈ X, l.length ≤ 100000
theorem ESetsAt.sl {w : World} {v : Value} {L : List (List Ev)} (h : ESetsAt w v L) : ∃ a cap, v = .slice a L.length cap := by
  obtain ⟨a, b, off, cap, e, _⟩ := h
  exact ⟨a, cap, e⟩
theorem eval_is {w : World} {lv sv : Value} {X : List (List Ev)} {l : List Cd} (hE : ESetsAt w sv X) (hX : XOk X) (hC : CodesAt w lv l) (hl : l.length ≤ 100) :
    ∃ x o, (x = (evalCd (envE X) l).getD 0 ∧ o = (evalCd (envE X) l).isSome) ∧ Calls Try.prog 76 #[lv, sv] w fun e w' => e = .returned (.tuple #[.int .i64 x, .bool o]) ∧ Turn (fun _ => False) w w' := by
  obtain ⟨la, lcap, rfl⟩ := hC.sl
  obtain ⟨sa, scap, rfl⟩ := hE.sl
  refine ⟨_, _, ⟨rfl, rfl⟩, (eval_any (v := envE X) ⟨X, hE, rfl, hX.1, hX.2⟩ hC.code hl).mono ?_⟩
  rintro e w' ⟨h1, h2⟩
  exact ⟨h1, Turn.of_below h2⟩
set_option maxRecDepth 100000 in
set_option maxHeartbeats 1000000 in
theorem holds_is {w : World} {lv rv sv : Value} {X : List (List Ev)} {r : Rul} (hE : ESetsAt w sv X) (hX : XOk X) (ho : 1 ≤ r.op ∧ r.op ≤ 6) (hl : CodesAt w lv r.left) (hr : CodesAt w rv r.right) (h100 : r.left.length ≤ 100 ∧ r.right.length ≤ 100) :
    Calls Try.prog 68 #[.agg #[.int .i64 r.op, lv, rv], sv] w fun e w' => e = .returned (.bool (holdsR X r)) ∧ Turn (fun _ => False) w w' := by
  obtain ⟨la, lcap, rfl⟩ := hl.sl
  obtain ⟨ra, rcap, rfl⟩ := hr.sl
  obtain ⟨sa, scap, rfl⟩ := hE.sl
  obtain ⟨W, hW⟩ : ∃ W, W = w.alloc (.cells #[.int .i64 r.op, .slice la r.left.length lcap, .slice ra r.right.length rcap] 68) := ⟨_, rfl⟩
  have TW : Turn (fun _ => False) w W := by rw [hW]; exact (Turn.refl _ w).alloc _
  have rg : W.rangeAt w.heap.size 0 [.int .i64 r.op, .slice la r.left.length lcap, .slice ra r.right.length rcap] := by rw [hW]; exact range_new w [.int .i64 r.op, .slice la r.left.length lcap, .slice ra r.right.length rcap] 68
  have FF := Lib.hid (show ∀ U, Turn (fun _ => False) W U → U.cell? ⟨w.heap.size, 0, none⟩ = some (.int .i64 r.op) ∧ U.cell? ⟨w.heap.size, 1, none⟩ = some (.slice la r.left.length lcap) ∧ U.cell? ⟨w.heap.size, 2, none⟩ = some (.slice ra r.right.length rcap) ∧ Turn (fun _ => False) w U from fun U TU => ⟨TU.cell id (rg 0 _ rfl), by have := TU.cell id (rg 1 _ rfl); rw [Nat.zero_add] at this; exact this, by have := TU.cell id (rg 2 _ rfl); rw [Nat.zero_add] at this; exact this, TW.trans TU⟩)
  obtain ⟨x0, x1, x2, -⟩ := FF.out W (Turn.refl _ W)
  obtain ⟨x, o, hx, k1⟩ := eval_is (hE.turn TW) hX (hl.turn TW) h100.1
  have X1 := Lib.hid hx
  have K1 := Lib.hid k1
  have K2 := Lib.hid (show ∀ U, Turn (fun _ => False) W U → ∃ x o, (x = (evalCd (envE X) r.right).getD 0 ∧ o = (evalCd (envE X) r.right).isSome) ∧ Calls Try.prog 76 #[.slice ra r.right.length rcap, .slice sa X.length scap] U fun e w' => e = .returned (.tuple #[.int .i64 x, .bool o]) ∧ Turn (fun _ => False) U w' from fun U TU => eval_is (hE.turn (TW.trans TU)) hX (hr.turn (TW.trans TU)) h100.2)
  have HW := Lib.hid hW
  have HO := Lib.hid ho
  clear hx k1 hE hl hr hW TW rg ho h100
  go_enter Try.func68, Try.ntmps68
  go_upto_region 1 with fail
  rw [← HW.out]
  clear HW
  generalize w.heap.size = tb at *
  go_wp2_with fail
  with_reducible refine K1.out.mono ?_
  rintro e w1 ⟨rfl, b1⟩
  obtain ⟨y0, y1, y2, t1⟩ := FF.out w1 b1
  obtain ⟨y, p, hy, k2⟩ := K2.out w1 b1
  have Y := Lib.hid hy
  have K3 := Lib.hid k2
  have B1 := Lib.hid b1
  have T1 := Lib.hid t1
  clear hy k2 b1 t1 K1 K2 x0 x1 x2
  cases o with
  | false =>
    go_wp2_with fail
    go_ret
    refine ⟨?_, T1.out⟩
    have h := X1.out.2
    unfold holdsR
    cases hq : evalCd (envE X) r.left with
    | none => rfl
    | some z => rw [hq] at h; simp at h
  | true =>
    go_wp2_with fail
    with_reducible refine K3.out.mono ?_
    rintro e w2 ⟨rfl, b2⟩
    obtain ⟨u0, -, -, t2⟩ := FF.out w2 (B1.out.trans b2)
    have T2 := Lib.hid t2
    have T := Lib.hid (fun w => test_any HO.out.1 HO.out.2 x y w)
    clear b2 t2 K3 y0 y1 y2
    obtain ⟨z, hz⟩ : ∃ z, evalCd (envE X) r.left = some z := by
      cases hq : evalCd (envE X) r.left with
      | none => have h := X1.out.2; rw [hq] at h; exact absurd h (by decide)
      | some z => exact ⟨z, rfl⟩
    have ex : x = z := by rw [X1.out.1, hz]; rfl
    have Z := Lib.hid (And.intro hz ex)
    clear hz ex
    cases p with
    | false =>
      go_wp2_with fail
      go_ret
      refine ⟨?_, T2.out⟩
      have h := Y.out.2
      unfold holdsR
      cases hq : evalCd (envE X) r.right with
      | none => rw [Z.out.1]; rfl
      | some z => rw [hq] at h; simp at h
    | true =>
      go_wp2_with fail
      with_reducible refine (T.out _).mono ?_
      rintro e w3 ⟨rfl, rfl⟩
      go_wp2_with fail
      go_ret
      refine ⟨?_, T2.out⟩
      obtain ⟨u, hu⟩ : ∃ u, evalCd (envE X) r.right = some u := by
        cases hq : evalCd (envE X) r.right with
        | none => have h := Y.out.2; rw [hq] at h; exact absurd h (by decide)
        | some u => exact ⟨u, rfl⟩
      have ey : y = u := by rw [Y.out.1, hu]; rfl
      unfold holdsR
      rw [Z.out.1, hu, Z.out.2, ey]
      rfl
def AlRel (w : World) (X : List (List Ev)) (l : List Rul) (gh : Nat) (v9 : Value) (wr : World) : Prop :=
  ∃ k : Nat, v9 = .int .i64 (k : Int) ∧ k ≤ l.length ∧ gh = l.length - k ∧ (l.take k).all (holdsR X) = true ∧ Turn (fun _ => False) w wr
theorem all_no {X : List (List Ev)} {l : List Rul} {k : Nat} {r : Rul} (hr : l[k]? = some r) (h : holdsR X r = false) : allR X l = false := by
  unfold allR
  rw [List.all_eq_false]
  exact ⟨r, List.mem_of_getElem? hr, by rw [h]; decide⟩
set_option maxRecDepth 100000 in
set_option maxHeartbeats 1000000 in
theorem all_is {w : World} {v sv : Value} {X : List (List Ev)} {l : List Rul} {P : Int → Prop} (hE : ESetsAt w sv X) (hX : XOk X) (h : RulesAt w v l) (ok : RulesOk P l) :
    Calls Try.prog 54 #[v, sv] w fun e w' => e = .returned (.bool (allR X l)) ∧ Turn (fun _ => False) w w' := by
  obtain ⟨a, b, off, cap, rfl, ha, hx⟩ := h
  obtain ⟨sa, scap, rfl⟩ := hE.sl
  have FF := Lib.hid (And.intro ha (And.intro hx (And.intro ok (And.intro hE hX))))
  have R0 : AlRel w X l l.length (.int .i64 0) w := ⟨0, rfl, Nat.zero_le _, rfl, rfl, Turn.refl _ _⟩
  clear ha hx ok hE hX
  go_enter Try.func54, Try.ntmps54
  go_wp2_with fail
  go_loopg [6, 9] l.length (fun gh v6 v9 wr => AlRel w X l gh v9 wr)
  case atStart => exact R0
  case round =>
    clear R0
    obtain ⟨k, rfl, hk, hgk, hall, TV⟩ := hrel
    obtain ⟨ha, hx, ok, hE, hX⟩ := FF.out
    by_cases hkl : k < l.length
    · obtain ⟨r, hr⟩ : ∃ r, l[k]? = some r := ⟨_, List.getElem?_eq_getElem hkl⟩
      obtain rfl := ha.resolve_left (fun e => by rw [e] at hkl; exact absurd hkl (Nat.not_lt_zero k))
      obtain ⟨lv, rv, hc, hlc, hrc⟩ := hx k r hr
      obtain ⟨hop, okl, okr⟩ := ok.2 r (List.mem_of_getElem? hr)
      have hc2 := range_turn hc TV id
      have y0 := hc2 0 _ rfl
      have y1 := hc2 1 _ rfl
      have y2 := hc2 2 _ rfl
      rw [Nat.add_zero] at y0
      obtain ⟨la, lcap, rfl⟩ := hlc.sl
      obtain ⟨ra, rcap, rfl⟩ := hrc.sl
      have u1 : decide ((k : Int) < (l.length : Int)) = true := decide_eq_true (Int.ofNat_lt.2 hkl)
      have u2 : decide (k < l.length) = true := decide_eq_true hkl
      have k0 : (0 : Int) ≤ (k : Int) := Int.natCast_nonneg k
      have k1 : (k : Int) < (l.length : Int) := Int.ofNat_lt.2 hkl
      have ek := wrapR hkl ok.1
      obtain ⟨W1, hW1⟩ : ∃ W1, W1 = wr.alloc (.cells #[.int .i64 r.op, .slice la r.left.length lcap, .slice ra r.right.length rcap] 68) := ⟨_, rfl⟩
      have T1 : Turn (fun _ => False) wr W1 := by rw [hW1]; exact (Turn.refl _ wr).alloc _
      have rg : W1.rangeAt wr.heap.size 0 [.int .i64 r.op, .slice la r.left.length lcap, .slice ra r.right.length rcap] := by rw [hW1]; exact range_new wr [.int .i64 r.op, .slice la r.left.length lcap, .slice ra r.right.length rcap] 68
      have c0 := rg 0 _ rfl
      have c1 := rg 1 _ rfl
      have c2 := rg 2 _ rfl
      rw [Nat.zero_add] at c1 c2
      have TW1 := TV.trans T1
      have HD := Lib.hid (holds_is (hE.turn TW1) hX hop (hlc.turn TW1) (hrc.turn TW1) ⟨okl.1, okr.1⟩)
      have STEP := Lib.hid (show holdsR X r = true → ∀ U, Turn (fun _ => False) W1 U → AlRel w X l (l.length - (k + 1)) (.int .i64 ((k : Int) + 1)) U from fun hh U TU => ⟨k + 1, congrArg (Value.int .i64) (Int.natCast_succ k).symm, hkl, rfl, by
        rw [List.take_add_one, hr, List.all_append, hall]
        simp [hh], TW1.trans TU⟩)
      have NO := Lib.hid (show holdsR X r = false → allR X l = false from all_no hr)
      have TT := Lib.hid TW1
      have G := Lib.hid (And.intro hgk hkl)
      have HW1 := Lib.hid hW1
      clear hk hgk TV ok hkl hr hx hc hlc hrc hop okl okr hc2 T1 rg TW1 hW1 ha hE hX hall
      go_upto_region 4 with fail
      rw [← HW1.out]
      clear y0 y1 y2 HW1
      generalize wr.heap.size = rb at *
      go_wp2_with fail
      with_reducible refine HD.out.mono ?_
      rintro en W2 ⟨rfl, T2⟩
      have HT2 := Lib.hid T2
      clear HD c0 c1 c2 T2
      cases hh : holdsR X r with
      | true =>
        have ST := Lib.hid (STEP.out hh _ HT2.out)
        clear hh
        go_wp2_with fail
        go_roundg (l.length - (k + 1))
        case measure => have := G.out.1; have := G.out.2; omega
        case rel => first | exact ST.out | (rw [ek]; exact ST.out)
      | false =>
        have N := Lib.hid (NO.out hh)
        clear hh
        go_wp2_with fail
        go_ret
        exact ⟨by rw [N.out]; rfl, TT.out.trans HT2.out⟩
    · obtain rfl : k = l.length := Nat.le_antisymm hk (Nat.not_lt.1 hkl)
      have u1 : decide ((l.length : Int) < (l.length : Int)) = false := decide_eq_false (Int.lt_irrefl _)
      have u2 : decide (l.length < l.length) = false := decide_eq_false (Nat.lt_irrefl _)
      have FIN := Lib.hid (show Turn (fun _ => False) w wr ∧ allR X l = true from ⟨TV, by rw [List.take_length] at hall; exact hall⟩)
      clear hk hgk hkl TV ha hx ok hE hX hall
      go_wp2
      go_ret
      exact ⟨by rw [FIN.out.2]; rfl, FIN.out.1⟩
end Go.Proofs.Ytfidnahbhomomaa
