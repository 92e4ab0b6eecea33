/-
  How many refs all that waits has.
-/
import Derived.Maps.RangeWalk
import Derived.Test.YtepmealhnnoahaaUb
namespace Go.Proofs.Ytepmealhnnoahaa
set_option linter.unusedSimpArgs false
open Go.ChangeShapes Go.WideShapes Go.ChangeAt Go.RowKit Go.Maps
set_option linter.unusedVariables false
theorem invKey {key : Value} {kl : Lit} (h : keyOf Try.prog 3 key = some kl) : ∃ x, key = Value.int .i64 x := by
  obtain ⟨x, rfl, _⟩ := Maps.keyOf_int_inv Try.underlying3 h
  exact ⟨x, rfl⟩
theorem invWt {H : Type} {v : Value} {y : DataW H × List MemPlace} (h : wtElem v = some y) : ∃ q : Wt, v = q.val := by
  unfold wtElem at h
  split at h
  · rename_i hx; exact hx
  · cases h
theorem key3 : Keyed Try.prog 3 := int_keyed Try.underlying3
theorem wf_small {i : Int} (h0 : 0 ≤ i) (h1 : i < 1000000) : (Lit.int .i64 i).wf = true := by
  simp only [Lit.wf, Bool.and_eq_true, decide_eq_true_eq]
  have a1 : IntKind.i64.min = -9223372036854775808 := rfl
  have a2 : IntKind.i64.max = 9223372036854775807 := rfl
  omega
def refN (S : Int → Option (List Fnd × Bool)) (k : Int) : Nat := cellW (fun _ => 1) S k
def heldP (S : Int → Option (List Fnd × Bool)) (left : Lit → Bool) : Nat := sumN (fun k => if left (.int .i64 (k : Int)) then 0 else refN S (k : Int)) 41
theorem sumN_le {g : Nat → Nat} {B : Nat} : ∀ n, (∀ k, k < n → g k ≤ B) → sumN g n ≤ n * B
  | 0, _ => by simp [sumN]
  | n + 1, H => by
    have h1 := sumN_le n (fun k hk => H k (by omega))
    have h2 := H n (by omega)
    simp only [sumN]
    rw [Nat.succ_mul]
    omega
theorem heldP_step {S : Int → Option (List Fnd × Bool)} {left : Lit → Bool} {x : Int} (hx : 0 ≤ x ∧ x ≤ 40) (hl : left (.int .i64 x) = true) : heldP S (fun z => left z && !z.sameKey (.int .i64 x)) = heldP S left + refN S x := by
  obtain ⟨j, rfl⟩ : ∃ j : Nat, x = (j : Int) := ⟨x.toNat, by omega⟩
  have := sumN_upd (g := fun k => if (left (.int .i64 (k : Int)) && !(Lit.int .i64 (k : Int)).sameKey (.int .i64 (j : Int))) then 0 else refN S (k : Int)) (h := fun k => if left (.int .i64 (k : Int)) then 0 else refN S (k : Int)) (j := j) 41 (by omega) (fun k hk hne => by
    have e : (Lit.int .i64 (k : Int)).sameKey (.int .i64 (j : Int)) = false := by
      cases h : (Lit.int .i64 (k : Int)).sameKey (.int .i64 (j : Int)) with
      | false => rfl
      | true => exact absurd (WideAt.sameKey_eq h) (fun e => hne (by injection e with _ e; omega))
    rw [e]
    simp)
  have e : (Lit.int .i64 (j : Int)).sameKey (.int .i64 (j : Int)) = true := WideAt.sameKey_self (by trivial)
  rw [e, hl] at this
  simp only [Bool.not_true, Bool.and_false, if_true, Bool.false_eq_true, if_false, Nat.add_zero] at this
  unfold heldP
  exact this
def HdRel (D : DataW Unit) (w0 : World) (mb r cnt : Nat) (S : Int → Option (List Fnd × Bool)) (gh : Nat) (v3 : Value) (wr : World) : Prop :=
  ∃ left : Lit → Bool, wr.ranges Try.prog 3 wtElem mb r cnt D left gh ∧ v3 = .int .i64 (heldP S left : Int) ∧ Turn (fun k => k = r) w0 wr ∧ (∀ kl, left kl = true → Maps.has D kl = true)
def InRel (l : List Fnd) (s : Nat) (w4 : World) (gh : Nat) (v3 v22 : Value) (wr : World) : Prop :=
  ∃ k : Nat, v22 = .int .i64 (k : Int) ∧ v3 = .int .i64 ((s + (frefs (l.take k)).length : Nat) : Int) ∧ k ≤ l.length ∧ gh = l.length - k ∧ Turn (fun _ => False) w4 wr
section
variable {w w' : World} {d mb base : Nat} {qu ou : Int} {cnt m : Nat} {S : Int → Option (List Fnd × Bool)} {P : Nat → Prop}
set_option maxRecDepth 100000 in
set_option maxHeartbeats 8000000 in
theorem DAt.held (h : DAt w d mb base qu ou cnt m S P) (hD : DomS S) (hB : ∀ i l lo, S i = some (l, lo) → l.length ≤ 10000 ∧ (frefs l).length ≤ 20000) :
    Calls Try.prog 17 #[.pointer (some ⟨d, 0, none⟩)] w fun e w' => e = .returned (.int .i64 (heldW (fun _ => 1) S : Int)) ∧ Turn (fun _ => False) w w' := by
  obtain ⟨⟨Q, F, M, c, h1, h2, h3, h4, rfl, rfl⟩, hb, hc⟩ := h
  have c7 := h2.c7
  obtain ⟨D, hown, hsz, hat⟩ := h2.mp.ex
  have ATK : ∀ (kl : Lit), Maps.has D kl = true → keyOf Try.prog 3 (.int .i64 0) = keyOf Try.prog 3 (.int .i64 0) := fun _ _ => rfl
  clear ATK
  have bnd : ∀ k : Int, refN (absS Q F) k ≤ 20000 := fun k => by
    unfold refN cellW
    rw [wtR_one]
    cases e : absS Q F k with
    | none => simp [frefs]
    | some p => obtain ⟨l, lo⟩ := p; exact (hB k l lo e).2
  have bndP : ∀ left, heldP (absS Q F) left ≤ 41 * 20000 := fun left => sumN_le 41 (fun k _ => by
    split
    · exact Nat.zero_le _
    · exact bnd _)
  have H0 := Lib.hid (And.intro h2 (And.intro h3 (And.intro hD (And.intro hB (And.intro hat (And.intro bnd bndP))))))
  clear h1 h2 h3 h4 hb hc hat hsz bnd bndP hD hB
  go_enter Try.func17, Try.ntmps17
  go_wp2_with (at_range; refine wpList_range_own _ rfl _ 80 rfl 3 94 key3 Try.underlying80 wtElem mb c D rfl hown ?_; intro w0 hrg0 hg0 hs0)
  go_frame
  obtain ⟨h2, h3, hD, hB, hat, bnd, bndP⟩ := H0.out
  have R0 : HdRel D w0 mb w.heap.size c (absS Q F) (Maps.size D) (.int .i64 0) w0 := ⟨_, hrg0, by
    have : heldP (absS Q F) (Maps.has D) = 0 := by
      have := sumN_le (g := fun k => if Maps.has D (.int .i64 (k : Int)) then 0 else refN (absS Q F) (k : Int)) (B := 0) 41 (fun k hk => by
        have e := (hat (k : Int) (wf_small (by omega) (by omega))).1
        split
        · exact Nat.le_refl _
        · rename_i hn
          unfold refN cellW absS
          cases hq : Q (k : Int) with
          | none => simp [frefs, wtR]
          | some q => rw [hq] at e; exact absurd e hn)
      unfold heldP
      omega
    rw [this]; rfl, Turn.refl _ _, fun _ h => h⟩
  have TW : Turn (fun _ => False) w w0 := (Turn.refl _ w).grown hg0 (fun k hk => by cases hk)
  have HT := Lib.hid (show Turn (fun _ => False) w w0 ∧ w.heap.size ≤ w.heap.size from ⟨TW, Nat.le_refl _⟩)
  obtain ⟨wsz, hwsz⟩ : ∃ z, z = w.heap.size := ⟨_, rfl⟩
  clear hrg0 hg0 hs0 c7 hown h2 h3 hD hB hat bnd bndP TW
  have HT2 : Hid (Turn (fun _ => False) w w0 ∧ w.heap.size ≤ wsz) := Lib.hid ⟨HT.out.1, by omega⟩
  clear HT
  have HT := HT2
  clear HT2
  rw [← hwsz] at R0 ⊢
  clear hwsz
  generalize wsz = r at *
  go_loopg [3] (Maps.size D) (fun gh v3 wr => HdRel D w0 mb r c (absS Q F) gh v3 wr)
  case atStart => exact R0
  case round =>
    clear R0
    obtain ⟨left, hrg, rfl, T, hl⟩ := hrel
    go_wp2_with (at_next; refine wpList_next_ranges _ rfl _ rfl 3 key3 wtElem (Value.int .i64) Wt.val (fun _ _ h => invKey h) (fun _ _ h => invWt h) mb r c D left _ rfl hrg ?_ ?_)
    · intro hc0 hl0
      have e : heldP (absS Q F) left = heldW (fun _ => 1) (absS Q F) := by
        unfold heldP heldW
        exact sumN_congr 41 (fun k _ => by rw [hl0]; rfl)
      rw [e]
      have FIN := Lib.hid (show Turn (fun _ => False) w wr from HT.out.1.comp T (fun k hk e => by have := HT.out.2; omega))
      clear hrg T hl hc0 hl0 HT H0 e
      go_wp2_with fail
      go_ret
      exact ⟨rfl, FIN.out⟩
    · intro x q kl y1 y2 w2 cnt2 hkl hlx hRy haty hrg2 hlt hg2 hs2 hen
      obtain ⟨x', ex, rfl, hwx⟩ := Maps.keyOf_int_inv Try.underlying3 hkl
      obtain rfl : x = x' := by injection ex
      obtain ⟨h2, h3, hD, hB, hat, bnd, bndP⟩ := H0.out
      obtain ⟨a1, a2⟩ := hat x hwx
      have hhas := hl _ hlx
      rw [a1] at hhas
      obtain ⟨q', hq'⟩ := Option.isSome_iff_exists.1 hhas
      have eq : q = q' := by
        have z := a2 q' hq' .nil
        have z2 := Option.some.inj ((wtElem_val q).symm.trans hRy)
        rw [haty] at z
        have z3 : (q.dat : DataW Unit) = y1 := congrArg Prod.fst z2
        rw [← z3] at z
        exact Wt.dat_inj z
      subst eq
      have hS : absS Q F x = some (F x, q.lost) := by unfold absS; rw [hq']; rfl
      have hx := hD.at hS
      have hstep := heldP_step (S := absS Q F) hx hlx
      have hbnd := bndP (fun z => left z && !z.sameKey (.int .i64 x))
      obtain ⟨hBl, hBr⟩ := hB x _ _ hS
      have hrN : refN (absS Q F) x = (frefs (F x)).length := by unfold refN cellW; rw [wtR_one, hS]; rfl
      rw [hrN] at hstep
      obtain ⟨eqn, hrow⟩ := h3.row x q hq'
      have T2 : Turn (fun k => k = r) w0 w2 := T.trans ((Turn.refl _ wr).grown hg2 (fun k hk => .inl (by cases hk; rfl)))
      have TW2 : Turn (fun _ => False) w w2 := HT.out.1.comp T2 (fun k hk e => by have := HT.out.2; omega)
      have hrow2 := hrow.turn TW2 (fun _ _ f => f) (fun _ _ f => f)
      obtain ⟨bk, n, cap, lo⟩ := q
      dsimp only at eqn
      subst eqn
      obtain ⟨ad, had⟩ : ∃ ad : Option Addr, bk.map (fun b => (⟨b, 0, none⟩ : Addr)) = ad := ⟨_, rfl⟩
      unfold Wt.val Wt.sl at hen ⊢
      unfold Wt.sl at hrow2
      dsimp only at hen hrow2 ⊢
      rw [had] at hen hrow2 ⊢
      obtain ⟨s, hs⟩ : ∃ s, heldP (absS Q F) left = s := ⟨_, rfl⟩
      obtain ⟨s2, hs2'⟩ : ∃ s2, heldP (absS Q F) (fun z => left z && !z.sameKey (.int .i64 x)) = s2 := ⟨_, rfl⟩
      have FIN := Lib.hid (show ∀ W4 : World, Turn (fun _ => False) w2 W4 → HdRel D w0 mb r c (absS Q F) cnt2 (.int .i64 (s2 : Int)) W4 from fun W4 T4 => by
        have gg : w2.grownBy W4 none := ⟨T4.os, T4.tape, T4.output, T4.size, fun i hi _ => T4.block i hi (fun f => f)⟩
        exact ⟨_, hrg2.kept gg (by simp) (by simp), by rw [hs2'], T2.comp T4 (fun _ _ f => f.elim), fun kl h => hl kl (by simp only [Bool.and_eq_true] at h; exact h.1)⟩)
      rw [hs] at hstep ⊢
      rw [hs2'] at hstep hbnd
      generalize F x = l at *
      have G := Lib.hid (And.intro hrow2 (And.intro had (And.intro hstep (And.intro hbnd (And.intro hBl (And.intro hBr hlt))))))
      clear hrg hl T hkl hlx hRy haty hrg2 hlt hg2 hs2 a1 a2 hhas hq' hS hx hstep hbnd hBl hBr hrN hrow hrow2 T2 TW2 had hs hs2' ex hwx h2 h3 hD hB hat bnd bndP H0
      have R1 : Turn (fun _ => False) w2 (w2.alloc (.cells #[.slice ad l.length cap, .bool lo] 94)) := (Turn.refl _ w2).alloc _
      have z94 : (w2.alloc (.cells #[.slice ad l.length cap, .bool lo] 94)).cell? ⟨w2.heap.size, 0, none⟩ = some (.slice ad l.length cap) := range_new w2 [.slice ad l.length cap, .bool lo] 94 0 _ rfl
      have G2 := Lib.hid R1
      clear R1
      go_upto_region 6 with fail
      generalize (w2.alloc (.cells #[.slice ad l.length cap, .bool lo] 94)) = W4 at *
      generalize w2.heap.size = b5 at *
      have R0 : InRel l s W4 l.length (.int .i64 (s : Int)) (.int .i64 0) W4 := ⟨0, rfl, by simp [frefs], Nat.zero_le _, rfl, Turn.refl _ _⟩
      go_wp2_with fail
      clear z94
      go_loopg [3, 22] l.length (fun gh v3 v22 wr => InRel l s W4 gh v3 v22 wr)
      case atStart => exact R0
      case round =>
        clear R0
        obtain ⟨k, rfl, rfl, hk, hg, T⟩ := hrel
        obtain ⟨hrow2, had, hstep, hbnd, hBl, hBr, hlt⟩ := G.out
        by_cases hkl : k < l.length
        · have u1 : decide ((k : Int) < (l.length : Int)) = true := decide_eq_true (by omega)
          have u2 : decide (k < l.length) = true := decide_eq_true hkl
          have k0 : (0 : Int) ≤ (k : Int) := by omega
          have k1 : (k : Int) < (l.length : Int) := by omega
          obtain ⟨f, hf⟩ : ∃ f, l[k]? = some f := ⟨_, List.getElem?_eq_getElem hkl⟩
          have hr := (hrow2.turn G2.out (fun _ _ f => f) (fun _ _ f => f)).turn T (fun _ _ f => f) (fun _ _ f => f)
          obtain ⟨ps, hps, ho, hall⟩ := hr.ex
          obtain ⟨p, hp⟩ : ∃ p, ps[k]? = some p := ⟨_, List.getElem?_eq_getElem (by omega)⟩
          have hfa := hall k f p hf hp
          obtain ⟨g, rfl⟩ : ∃ g : Nat, ad = some ⟨g, 0, none⟩ := by
            obtain ⟨a, cc, e, hs⟩ := own_slice ho
            obtain ⟨g, hs⟩ := hs (by omega)
            exact ⟨g, by injection e with e1 e2 e3; rw [e1, hs]⟩
          obtain ⟨ra, rc, er⟩ : ∃ ra rc, p.2 = .slice ra f.refs.length rc := by
            obtain ⟨b, cap, e, _⟩ := hfa.refs
            exact ⟨_, _, e⟩
          obtain ⟨sa, sc, es⟩ : ∃ sa sc, p.1 = .slice sa f.sets.length sc := by
            obtain ⟨b, cap, e⟩ := hfa.sets.sl
            exact ⟨_, _, e⟩
          obtain ⟨f1, f2⟩ := fcells_at ps k p hp
          have hlk : k * 2 + 1 < l.length * 2 := by omega
          have x1 := (ho.cellAt (k * 2) (by omega)).trans f1
          have x2 := (ho.cellAt (k * 2 + 1) hlk).trans f2
          rw [es] at x1
          rw [er] at x2
          have hfs := frefs_step hf
          have hle : (frefs (l.take (k + 1))).length ≤ 20000 := Nat.le_trans (frefs_take l _) hBr
          have hle0 : (frefs (l.take k)).length ≤ 20000 := Nat.le_trans (frefs_take l _) hBr
          have hlen : (frefs (l.take (k + 1))).length = (frefs (l.take k)).length + f.refs.length := by rw [hfs, List.length_append]
          have hfr : f.refs.length ≤ 20000 := by omega
          have STEP := Lib.hid (show ∀ W, Turn (fun _ => False) wr W → InRel l s W4 (l.length - (k + 1)) (.int .i64 (((s + (frefs (l.take k)).length : Nat) : Int) + (f.refs.length : Int))) (.int .i64 ((k : Int) + 1)) W from fun W t => ⟨k + 1, congrArg (Value.int .i64) (Int.natCast_succ k).symm, congrArg (Value.int .i64) (by rw [hlen]; omega), by omega, rfl, T.trans t⟩)
          have hs1 : s ≤ 900000 := by omega
          have e1 : wrap64 ((k : Int) + 1) = (k : Int) + 1 := by unfold wrap64; omega
          have G3 := Lib.hid (And.intro hg hkl)
          have tA := Lib.hid (show Turn (fun _ => False) wr (wr.alloc (.cells #[.slice sa f.sets.length sc, .slice ra f.refs.length rc] 71)) from (Turn.refl _ wr).alloc _)
          have ht : s + (frefs (l.take k)).length ≤ 1000000 := by omega
          generalize s + (frefs (l.take k)).length = t at *
          have e2 : wrap64 ((t : Int) + (f.refs.length : Int)) = (t : Int) + (f.refs.length : Int) := by unfold wrap64; omega
          clear hr ho hall hp hfa er es f1 f2 hlk hfs hle hle0 hlen hf hkl hg hps T hrow2 had hstep hbnd hBl hlt hs1
          generalize f.refs.length = fr at *
          generalize f.sets.length = fs at *
          go_wp2_with fail
          go_roundg (l.length - (k + 1))
          case measure => have := G3.out.1; have := G3.out.2; omega
          case rel => first | exact STEP.out _ tA.out | (rw [e1]; exact STEP.out _ tA.out)
        · obtain rfl : k = l.length := by omega
          have FIN2 := Lib.hid (FIN.out wr (G2.out.trans T))
          have e1 : s + (frefs (l.take l.length)).length = s2 := by rw [List.take_length]; omega
          rw [e1]
          have G3 := Lib.hid hlt
          clear hg T hrow2 had hstep hbnd hBl hBr hlt hk FIN hkl e1
          go_wp2_with fail
          go_roundg cnt2
          case measure => exact G3.out
          case rel => exact FIN2.out
end
end Go.Proofs.Ytepmealhnnoahaa
