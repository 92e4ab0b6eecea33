/-
  The document's own answer for rules: what sibylref05.Holds and All tell.
-/
import Derived.Test.YtfidnahbhomomaaRm
namespace Go.Proofs.Ytfidnahbhomomaa
open Go.ChangeShapes Go.WideShapes Go.ChangeAt Go.RowKit
set_option linter.unusedVariables false
set_option linter.unusedSimpArgs false
theorem rtest_any {op : Int} (h1 : 1 ≤ op) (h6 : op ≤ 6) (a b : Int) (w : World) : Calls Try.prog 60 #[.int .i64 op, .int .i64 a, .int .i64 b] w fun e w' => e = .returned (.bool (testB op a b)) ∧ w = w' := by
  have ho : op = 1 ∨ op = 2 ∨ op = 3 ∨ op = 4 ∨ op = 5 ∨ op = 6 := by omega
  rcases ho with rfl | rfl | rfl | rfl | rfl | rfl <;>
  · go_enter Try.func60, Try.ntmps60
    go_wp2
    go_ret
    exact ⟨rfl, rfl⟩
set_option maxRecDepth 100000 in
set_option maxHeartbeats 1000000 in
theorem rholds_is {w : World} {lv rv sv : Value} {X : List (List Ev)} {r : Rul} (hE : ESetsAt w sv X) (hX : XOk X) (ho : 1 ≤ r.op ∧ r.op ≤ 6) (hl : CodesAt w lv r.left) (hr : CodesAt w rv r.right) (h100 : r.left.length ≤ 100 ∧ r.right.length ≤ 100) :
    Calls Try.prog 42 #[.agg #[.int .i64 r.op, lv, rv], sv] w fun e w' => e = .returned (.bool (holdsR X r)) ∧ Turn (fun _ => False) w w' := by
  obtain ⟨la, lcap, rfl⟩ := hl.sl
  obtain ⟨ra, rcap, rfl⟩ := hr.sl
  obtain ⟨sa, scap, rfl⟩ := hE.sl
  obtain ⟨W, hW⟩ : ∃ W, W = w.alloc (.cells #[.int .i64 r.op, .slice la r.left.length lcap, .slice ra r.right.length rcap] 68) := ⟨_, rfl⟩
  have TW : Turn (fun _ => False) w W := by rw [hW]; exact (Turn.refl _ w).alloc _
  have rg : W.rangeAt w.heap.size 0 [.int .i64 r.op, .slice la r.left.length lcap, .slice ra r.right.length rcap] := by rw [hW]; exact range_new w [.int .i64 r.op, .slice la r.left.length lcap, .slice ra r.right.length rcap] 68
  have FF := Lib.hid (show ∀ U, Turn (fun _ => False) W U → U.cell? ⟨w.heap.size, 0, none⟩ = some (.int .i64 r.op) ∧ U.cell? ⟨w.heap.size, 1, none⟩ = some (.slice la r.left.length lcap) ∧ U.cell? ⟨w.heap.size, 2, none⟩ = some (.slice ra r.right.length rcap) ∧ Turn (fun _ => False) w U from fun U TU => ⟨TU.cell id (rg 0 _ rfl), by have := TU.cell id (rg 1 _ rfl); rw [Nat.zero_add] at this; exact this, by have := TU.cell id (rg 2 _ rfl); rw [Nat.zero_add] at this; exact this, TW.trans TU⟩)
  obtain ⟨x0, x1, x2, -⟩ := FF.out W (Turn.refl _ W)
  obtain ⟨x, hx⟩ : ∃ x, x = (evalCd (envE X) r.left).getD 0 := ⟨_, rfl⟩
  obtain ⟨o, ho1⟩ : ∃ o, o = (evalCd (envE X) r.left).isSome := ⟨_, rfl⟩
  obtain ⟨y, hy⟩ : ∃ y, y = (evalCd (envE X) r.right).getD 0 := ⟨_, rfl⟩
  obtain ⟨p, hp⟩ : ∃ p, p = (evalCd (envE X) r.right).isSome := ⟨_, rfl⟩
  have K1 := Lib.hid (ref_eval (hE.turn TW) hX (hl.turn TW) h100.1)
  have K2 := Lib.hid (show ∀ U, Turn (fun _ => False) W U → _ from fun U TU => ref_eval (hE.turn (TW.trans TU)) hX (hr.turn (TW.trans TU)) h100.2)
  rw [← hx, ← ho1] at K1
  rw [← hy, ← hp] at K2
  have HH := Lib.hid (And.intro hx (And.intro ho1 (And.intro hy hp)))
  have HW := Lib.hid hW
  have T := Lib.hid (fun w => rtest_any ho.1 ho.2 x y w)
  clear hE hl hr hW TW rg ho h100 hx ho1 hy hp
  go_enter Try.func42, Try.ntmps42
  go_upto_region 1 with fail
  rw [← HW.out]
  clear HW
  generalize w.heap.size = tb at *
  go_wp2_with fail
  with_reducible refine K1.out.mono ?_
  rintro e w1 ⟨rfl, b1⟩
  clear K1 x0 x1 x2
  obtain ⟨V1, hV1⟩ : ∃ V1, V1 = w1.alloc (.cells #[.int .i64 x, .bool o] 107) := ⟨_, rfl⟩
  have TV1 : Turn (fun _ => False) w1 V1 := by rw [hV1]; exact (Turn.refl _ w1).alloc _
  have g1 : V1.rangeAt w1.heap.size 0 [.int .i64 x, .bool o] := by rw [hV1]; exact range_new w1 [.int .i64 x, .bool o] 107
  obtain ⟨x0, x1, x2, -⟩ := FF.out V1 (b1.trans TV1)
  have K3 := Lib.hid (K2.out V1 (b1.trans TV1))
  have HV1 := Lib.hid hV1
  have BB := Lib.hid (And.intro (b1.trans TV1) g1)
  clear hV1 TV1 g1 K2 b1
  go_upto_region 2 with fail
  rw [← HV1.out]
  clear HV1
  generalize w1.heap.size = ab at *
  go_wp2_with fail
  with_reducible refine K3.out.mono ?_
  rintro e w2 ⟨rfl, b2⟩
  clear K3 x0 x1 x2
  obtain ⟨V2, hV2⟩ : ∃ V2, V2 = w2.alloc (.cells #[.int .i64 y, .bool p] 107) := ⟨_, rfl⟩
  have TV2 : Turn (fun _ => False) w2 V2 := by rw [hV2]; exact (Turn.refl _ w2).alloc _
  have g2 : V2.rangeAt w2.heap.size 0 [.int .i64 y, .bool p] := by rw [hV2]; exact range_new w2 [.int .i64 y, .bool p] 107
  have g1 := range_turn BB.out.2 (b2.trans TV2) id
  obtain ⟨x0, -, -, TF⟩ := FF.out V2 (BB.out.1.trans (b2.trans TV2))
  have a0 := g1 0 _ rfl
  have a1 := g1 1 _ rfl
  have c0 := g2 0 _ rfl
  have c1 := g2 1 _ rfl
  rw [Nat.zero_add] at a1 c1
  have HV2 := Lib.hid hV2
  have FIN := Lib.hid TF
  clear hV2 TV2 g1 g2 b2 FF TF BB
  go_upto_region 3 with fail
  rw [← HV2.out]
  clear HV2
  generalize w2.heap.size = cb at *
  cases o with
  | false =>
    have NN := Lib.hid (show holdsR X r = false by
      unfold holdsR
      cases hq : evalCd (envE X) r.left with
      | none => rfl
      | some z => have := HH.out.2.1; rw [hq] at this; simp at this)
    go_wp2_with fail
    go_ret
    exact ⟨by rw [NN.out]; rfl, FIN.out⟩
  | true =>
    cases p with
    | false =>
      have NN := Lib.hid (show holdsR X r = false by
        unfold holdsR
        cases hq : evalCd (envE X) r.right with
        | none => cases evalCd (envE X) r.left <;> rfl
        | some z => have := HH.out.2.2.2; rw [hq] at this; simp at this)
      go_wp2_with fail
      go_ret
      exact ⟨by rw [NN.out]; rfl, FIN.out⟩
    | true =>
      have NN := Lib.hid (show holdsR X r = testB r.op x y by
        unfold holdsR
        obtain ⟨h1, h2, h3, h4⟩ := HH.out
        cases hq : evalCd (envE X) r.left with
        | none => rw [hq] at h2; simp at h2
        | some z =>
          cases hq2 : evalCd (envE X) r.right with
          | none => rw [hq2] at h4; simp at h4
          | some u => rw [hq] at h1; rw [hq2] at h3; rw [h1, h3]; rfl)
      go_wp2_with fail
      with_reducible refine (T.out _).mono ?_
      rintro e w3 ⟨rfl, rfl⟩
      go_wp2_with fail
      go_ret
      exact ⟨by rw [NN.out]; rfl, FIN.out⟩
set_option maxRecDepth 100000 in
set_option maxHeartbeats 1000000 in
theorem rall_is {w : World} {v sv : Value} {X : List (List Ev)} {l : List Rul} {P : Int → Prop} (hE : ESetsAt w sv X) (hX : XOk X) (h : RulesAt w v l) (ok : RulesOk P l) :
    Calls Try.prog 24 #[v, sv] w fun e w' => e = .returned (.bool (allR X l)) ∧ Turn (fun _ => False) w w' := by
  obtain ⟨a, b, off, cap, rfl, ha, hx⟩ := h
  obtain ⟨sa, scap, rfl⟩ := hE.sl
  have FF := Lib.hid (And.intro ha (And.intro hx (And.intro ok (And.intro hE hX))))
  have R0 : AlRel w X l l.length (.int .i64 0) w := ⟨0, rfl, Nat.zero_le _, rfl, rfl, Turn.refl _ _⟩
  clear ha hx ok hE hX
  go_enter Try.func24, Try.ntmps24
  go_wp2_with fail
  go_loopg [5, 6] l.length (fun gh v5 v6 wr => AlRel w X l gh v5 wr)
  case atStart => exact R0
  case round =>
    clear R0
    obtain ⟨k, rfl, hk, hgk, hall, TV⟩ := hrel
    obtain ⟨ha, hx, ok, hE, hX⟩ := FF.out
    by_cases hkl : k < l.length
    · obtain ⟨r, hr⟩ : ∃ r, l[k]? = some r := ⟨_, List.getElem?_eq_getElem hkl⟩
      obtain rfl := ha.resolve_left (fun e => by rw [e] at hkl; exact absurd hkl (Nat.not_lt_zero k))
      obtain ⟨lv, rv, hc, hlc, hrc⟩ := hx k r hr
      obtain ⟨hop, okl, okr⟩ := ok.2 r (List.mem_of_getElem? hr)
      have hc2 := range_turn hc TV id
      have y0 := hc2 0 _ rfl
      have y1 := hc2 1 _ rfl
      have y2 := hc2 2 _ rfl
      rw [Nat.add_zero] at y0
      obtain ⟨la, lcap, rfl⟩ := hlc.sl
      obtain ⟨ra, rcap, rfl⟩ := hrc.sl
      have u1 : decide ((k : Int) < (l.length : Int)) = true := decide_eq_true (Int.ofNat_lt.2 hkl)
      have u2 : decide (k < l.length) = true := decide_eq_true hkl
      have k0 : (0 : Int) ≤ (k : Int) := Int.natCast_nonneg k
      have k1 : (k : Int) < (l.length : Int) := Int.ofNat_lt.2 hkl
      have ek := wrapR hkl ok.1
      have HD := Lib.hid (rholds_is (hE.turn TV) hX hop (hlc.turn TV) (hrc.turn TV) ⟨okl.1, okr.1⟩)
      have STEP := Lib.hid (show holdsR X r = true → ∀ U, Turn (fun _ => False) wr U → AlRel w X l (l.length - (k + 1)) (.int .i64 ((k : Int) + 1)) U from fun hh U TU => ⟨k + 1, congrArg (Value.int .i64) (Int.natCast_succ k).symm, hkl, rfl, by
        rw [List.take_add_one, hr, List.all_append, hall]
        simp [hh], TV.trans TU⟩)
      have NO := Lib.hid (show holdsR X r = false → allR X l = false from all_no hr)
      have TT := Lib.hid TV
      have G := Lib.hid (And.intro hgk hkl)
      clear hk hgk TV ok hkl hr hx hc hlc hrc hop okl okr hc2 ha hE hX hall
      go_wp2_with fail
      with_reducible refine HD.out.mono ?_
      rintro en W2 ⟨rfl, T2⟩
      have HT2 := Lib.hid T2
      clear HD T2 y0 y1 y2
      cases hh : holdsR X r with
      | true =>
        have ST := Lib.hid (STEP.out hh _ HT2.out)
        clear hh
        go_wp2_with fail
        go_roundg (l.length - (k + 1))
        case measure => have := G.out.1; have := G.out.2; omega
        case rel => first | exact ST.out | (rw [ek]; exact ST.out)
      | false =>
        have N := Lib.hid (NO.out hh)
        clear hh
        go_wp2_with fail
        go_ret
        exact ⟨by rw [N.out]; rfl, TT.out.trans HT2.out⟩
    · obtain rfl : k = l.length := Nat.le_antisymm hk (Nat.not_lt.1 hkl)
      have u1 : decide ((l.length : Int) < (l.length : Int)) = false := decide_eq_false (Int.lt_irrefl _)
      have u2 : decide (l.length < l.length) = false := decide_eq_false (Nat.lt_irrefl _)
      have FIN := Lib.hid (show Turn (fun _ => False) w wr ∧ allR X l = true from ⟨TV, by rw [List.take_length] at hall; exact hall⟩)
      clear hk hgk hkl TV ha hx ok hE hX hall
      go_wp2
      go_ret
      exact ⟨by rw [FIN.out.2]; rfl, FIN.out.1⟩
end Go.Proofs.Ytfidnahbhomomaa
