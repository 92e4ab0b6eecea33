/-
  The walk of TupleTurned.
-/
import Derived.Test.YtibmimdlgbhdnaaTupFl
namespace Go.Proofs.Ytibmimdlgbhdnaa
open Go.ChangeShapes Go.WideShapes Go.ChangeAt Go.RowKit
set_option linter.unusedVariables false

theorem sorted_one : ∀ (l m : List Mat), l.Perm m → l.Pairwise (fun a b => cmpM a b ≤ 0) → m.Pairwise (fun a b => cmpM a b ≤ 0) → l = m := fun l m hp h1 h2 =>
  hp.eq_of_pairwise (fun a b _ _ hab hba => by
    have := ord_match.s a b
    exact cmpM_zero.1 (by unfold cmpM at *; omega)) h1 h2
def BkRel (w : World) (MS : List Mat) (gh : Nat) (v5 v6 : Value) (wr : World) : Prop :=
  ∃ (j : Nat) (xs : List Value), v6 = .int .i64 ((MS.length : Int) - 1 - (j : Int)) ∧ j ≤ MS.length ∧ gh = MS.length - j ∧ wr.ownsRow w.heap.size 22 1 v5 j xs ∧ MCells (fun b => b < w.heap.size) wr (MS.reverse.take j) xs ∧ Turn (fun _ => False) w wr
theorem bk_next {w wr w5 : World} {MS : List Mat} {j k : Nat} {xs : List Value} {v v' r : Value} {M : Mat} (hj : j < MS.length) (hk : k + j + 1 = MS.length) (hM : MS[k]? = some M) (hr : RowsP (fun b => b < w.heap.size) wr r M)
    (ho : wr.ownsRow w.heap.size 22 1 v j xs) (hc : MCells (fun b => b < w.heap.size) wr (MS.reverse.take j) xs) (T : Turn (fun _ => False) w wr) (ho5 : w5.ownsRow w.heap.size 22 1 v' (j + 1) (xs ++ [r])) (T5 : Turn (fun k => v.ownBlock = some k) wr w5) :
    BkRel w MS (MS.length - (j + 1)) v' (.int .i64 ((MS.length : Int) - 1 - ((j + 1 : Nat) : Int))) w5 := by
  have keep : ∀ b, b < w.heap.size → w5.heap[b]? = wr.heap[b]? := fun b hb => T5.block b (by have := T.size; omega) (fun e => by have := (ho.lt b e).1; omega)
  have hx := ho.1
  refine ⟨j + 1, _, rfl, by omega, rfl, ho5, fun q M' hq => ?_, turn_fresh T ho T5⟩
  rw [List.getElem?_take] at hq
  split at hq
  case isFalse => cases hq
  case isTrue hqj =>
    by_cases e : q < j
    · obtain ⟨r', q1, q2⟩ := hc q M' (by rw [List.getElem?_take, if_pos e]; exact hq)
      exact ⟨r', by rw [List.getElem?_append_left (by omega)]; exact q1, q2.keep keep⟩
    · obtain rfl : q = j := by omega
      rw [List.getElem?_reverse hj, show MS.length - 1 - q = k by omega, hM] at hq
      cases hq
      exact ⟨r, by rw [List.getElem?_append_right (by omega)]; simp [hx], hr.keep keep⟩
/-- What was there, and what was put in order twice, behind all calls. -/
structure TuAll (w : World) (MS SS : List Mat) (m : Option Addr) (mb mo mc : Nat) (s : Option Addr) (sb so sc : Nat) (t : Option Addr) (tb tof tc : Nat) : Prop where
  m : MatsIn w m mb mo mc MS
  s : MatsIn w s sb so sc SS
  t : MatsIn w t tb tof tc SS
  len : MS.length ≤ 12
  sl : SS.length = MS.length
  sm : small MS
  sm2 : small SS
theorem sort_in {B g cap : Nat} {w : World} {E : List (Value × Mat)} (h : SortSt B g cap w E) : MatsIn w (some ⟨g, 0, none⟩) g 0 cap (E.map Prod.snd) := ⟨.inr rfl, fun k M hk => by
  obtain ⟨a, b, off, cap', e, q⟩ := mats_in (sort_mats h)
  injection e with e1 e2 e3
  subst e1
  subst e3
  have := q.ad.resolve_left (fun e => by rw [e] at hk; simp at hk)
  injection this with this
  injection this with e4 e5
  subst e4
  subst e5
  exact q.at_ k M hk⟩
def TuI (W : World) (n : Nat) (gh : Nat) (v : Value) (wr : World) : Prop := ∃ i : Nat, v = .int .i64 (i : Int) ∧ i ≤ n ∧ gh = n - i ∧ Turn (fun _ => False) W wr
def TuK (W : World) (M : Mat) (gh : Nat) (v10 v11 : Value) (wr : World) : Prop :=
  ∃ k : Nat, v11 = .int .i64 (k : Int) ∧ k ≤ M.length ∧ gh = M.length - k ∧ v10 = .int .i64 (((flatN (M.take k)).length : Nat) : Int) ∧ wr = W
set_option maxRecDepth 100000 in
set_option maxHeartbeats 4000000 in
theorem turned_walk {w : World} {v : Value} {L : Mat} (h : RowsAt w v L) (hL : L.length ≤ 9223372036854775807) (hR : ∀ x ∈ L, x.length ≤ 9223372036854775807) :
    Calls Try.prog 7 #[v] w fun e w' => e = .returned (.bool true) ∧ Below w.heap.size w w' := by
  have AW := Lib.hid (tuple_awake w)
  have IN := Lib.hid h
  have LEN := Lib.hid (And.intro hL hR)
  clear h hL hR
  go_enter Try.func7, Try.ntmps7
  go_wp2_with fail
  with_reducible refine AW.out.mono ?_
  rintro e w1 ⟨rfl, b1⟩
  have T1 := Lib.hid (Turn.of_below (S := fun _ => False) b1)
  clear b1 AW
  have F := Lib.hid (matches_is (IN.out.turn T1.out) LEN.out.1 LEN.out.2)
  go_wp2_with fail
  with_reducible refine F.out.mono ?_
  rintro e w2 ⟨v2, rfl, MS, xs, B, hm, h12, hsm, ho, hr, t2⟩
  have T2 := Lib.hid (T1.out.trans t2)
  clear t2 F T1 IN LEN ho hr
  obtain ⟨ma, mb, mo, mc, rfl, hm4⟩ := mats_in hm
  have MI := Lib.hid hm4
  have MT := Lib.hid hm
  have R0 : BkRel w2 MS MS.length (.slice none 0 0) (.int .i64 ((MS.length : Int) - 1)) w2 := ⟨0, [], by simp, Nat.zero_le _, rfl, World.ownsRow_nil _ _ _ _, fun k M hk => by simp at hk, Turn.refl _ _⟩
  have hwn : IntKind.i64.wrap ((MS.length : Int) - 1) = (MS.length : Int) - 1 := IntWalk.i64_in _ (by omega)
  clear hm hm4
  go_wp2_with fail
  go_loopg [5, 6] MS.length (fun gh v5 v6 wr => BkRel w2 MS gh v5 v6 wr)
  case atStart => exact R0
  case round =>
    clear R0 hwn
    obtain ⟨j, xs, rfl, hj, hg, ho, hc, T⟩ := hrel
    by_cases hjl : j < MS.length
    · obtain ⟨k, hk⟩ : ∃ k, k + j + 1 = MS.length := ⟨MS.length - 1 - j, by omega⟩
      have ek : (MS.length : Int) - 1 - (j : Int) = (k : Int) := by omega
      rw [ek]
      obtain ⟨M, hM⟩ : ∃ M, MS[k]? = some M := ⟨_, List.getElem?_eq_getElem (by omega)⟩
      obtain ⟨p, c, z, q⟩ := MI.out.at_ k M hM
      have had := MI.out.ad.resolve_left (fun e => by rw [e] at hM; simp at hM)
      subst had
      have y := T.cell id z
      obtain ⟨v', w5, hrun, ho5, T5⟩ := mat_app (t := wr.heap.size) (WA := wr.alloc (.cells #[.slice p M.length c] 22)) ho T.size (by omega) ((Below.refl _ wr).alloc (Nat.le_refl _) _) (World.cell?_alloc_new wr #[.slice p M.length c] 22 0) rfl
      have FIN := Lib.hid (bk_next hjl hk hM ((rowsP_at q).still fun b _ hb => T.block b hb id) ho hc T ho5 T5)
      obtain ⟨a5, c5, rfl, _⟩ := own_slice ho
      obtain ⟨a6, c6, rfl, _⟩ := own_slice ho5
      have RUN := Lib.hid hrun
      have G := Lib.hid hg
      have t1 : decide ((0 : Int) ≤ (k : Int)) = true := by simp
      have hk0 : (0 : Int) ≤ (k : Int) := by omega
      have hk1 : (k : Int) < (MS.length : Int) := by omega
      have hwk : IntKind.i64.wrap ((k : Int) - 1) = (k : Int) - 1 := IntWalk.i64_in _ (by omega)
      have en : (MS.length : Int) - 1 - ((j + 1 : Nat) : Int) = (k : Int) - 1 := by omega
      rw [en] at FIN
      clear hM z q hrun ho5 T5 ho hc T hg ek en hk
      go_wp2_with (refine rl_append_run (by rfl) _ _ _ (by rfl) (by rfl) (by rfl) RUN.out ?_)
      go_roundg (MS.length - (j + 1))
      case measure => have := G.out; omega
      case rel => exact FIN.out
    · have ej : (MS.length : Int) - 1 - (j : Int) = -1 := by omega
      rw [ej]
      obtain rfl : j = MS.length := by omega
      rw [List.take_of_length_le (by simp)] at hc
      obtain ⟨a5, c5, rfl, _⟩ := own_slice ho
      have ho' : wr.ownsRow w2.heap.size 22 1 (.slice a5 MS.length c5) MS.reverse.length xs := by rw [List.length_reverse]; exact ho
      have hb := mats_own ho' hc
      have hm3 := MT.out.turn T
      have len : MS.length ≤ 12 := h12
      have SR := Lib.hid (sort_any hm3 h12 (fun M hM => by have := (hsm M hM).1; omega) (fun M hM x hx => by have := (hsm M hM).2 x hx; omega))
      have SB := Lib.hid (fun (W : World) (t : Turn (fun _ => False) wr W) => sort_any (hb.turn t) (by rw [List.length_reverse]; exact h12) (fun M hM => by have := (hsm M (List.mem_reverse.1 hM)).1; omega) (fun M hM x hx => by have := (hsm M (List.mem_reverse.1 hM)).2 x hx; omega))
      have T3 := Lib.hid (T2.out.trans T)
      have MI3 := Lib.hid (MI.out.turn T)
      have HS := Lib.hid hsm
      clear hg ho hc T ho' hb hm3 ej MI MT T2 hsm
      go_wp2_with fail
      with_reducible refine SR.out.mono ?_
      rintro e w4 ⟨E, g, cap, rfl, hp, hs, hpw, t4⟩
      have S4 := Lib.hid (And.intro hp (And.intro hs (And.intro hpw t4)))
      have SB4 := Lib.hid (SB.out _ t4)
      clear hp hs hpw t4 SR SB
      go_wp2_with fail
      with_reducible refine SB4.out.mono ?_
      rintro e w5 ⟨E2, g2, cap2, rfl, hp2, hs2, hpw2, t5⟩
      have e1 : E.length = MS.length := by have := S4.out.1.length_eq; simpa using this
      have e2 : E2.length = MS.length := by have := hp2.length_eq; simpa using this
      have eSS : E2.map Prod.snd = E.map Prod.snd := sorted_one _ _ (hp2.trans ((List.reverse_perm MS).trans S4.out.1.symm)) (List.pairwise_map.2 hpw2) (List.pairwise_map.2 S4.out.2.2.1)
      have T5 := Lib.hid (T3.out.trans (S4.out.2.2.2.trans t5))
      have hin1 : MatsIn w5 (some ⟨g, 0, none⟩) g 0 cap (E.map Prod.snd) := (sort_in S4.out.2.1).turn t5
      have hin2 : MatsIn w5 (some ⟨g2, 0, none⟩) g2 0 cap2 (E.map Prod.snd) := eSS ▸ sort_in hs2
      have A := Lib.hid (show TuAll w5 MS (E.map Prod.snd) ma mb mo mc (some ⟨g, 0, none⟩) g 0 cap (some ⟨g2, 0, none⟩) g2 0 cap2 from
        ⟨MI3.out.turn (S4.out.2.2.2.trans t5), hin1, hin2, len, by rw [List.length_map]; exact e1, HS.out, fun M hM => HS.out M (S4.out.1.mem_iff.1 hM)⟩)
      rw [e1, e2]
      have R1 : TuI w5 MS.length MS.length (.int .i64 0) w5 := ⟨0, rfl, Nat.zero_le _, rfl, Turn.refl _ _⟩
      clear hp2 hs2 hpw2 t5 e1 e2 eSS hin1 hin2 S4 SB4 MI3 T3 HS
      generalize E.map Prod.snd = SS at *
      go_wp2_with fail
      go_loopg [9] MS.length (fun gh v9 wr => TuI w5 MS.length gh v9 wr)
      case atStart => exact R1
      case round =>
        clear R1
        obtain ⟨i, rfl, hi, hg, T⟩ := hrel
        by_cases hil : i < MS.length
        · obtain ⟨M, hM⟩ : ∃ M, MS[i]? = some M := ⟨_, List.getElem?_eq_getElem hil⟩
          obtain ⟨X, hX⟩ : ∃ X, SS[i]? = some X := ⟨_, List.getElem?_eq_getElem (by rw [A.out.sl]; exact hil)⟩
          have hMs := A.out.sm M (List.mem_of_getElem? hM)
          have hXs := A.out.sm2 X (List.mem_of_getElem? hX)
          obtain ⟨pm, cm, z1, q1⟩ := A.out.m.at_ i M hM
          obtain ⟨px, cx, z2, q2⟩ := A.out.s.at_ i X hX
          obtain ⟨py, cy, z3, q3⟩ := A.out.t.at_ i X hX
          rw [Nat.zero_add] at z2 z3
          have had := A.out.m.ad.resolve_left (fun e => by rw [e] at hil; simp at hil)
          subst had
          have y1 := T.cell id z1
          have y2 := T.cell id z2
          have y3 := T.cell id z3
          have t1 : decide ((i : Int) < (MS.length : Int)) = true := by simp; omega
          have hi1 : (i : Int) < (MS.length : Int) := by omega
          have hi0 : (0 : Int) ≤ (i : Int) := by omega
          have CX := Lib.hid (fun (W : World) (t : Turn (fun _ => False) wr W) => show Calls Try.prog 20 #[.slice px X.length cx, .slice py X.length cy] W (fun e w' => e = Ending.returned (.int .i64 0) ∧ Turn (fun _ => False) W w') from by
            rw [← (cmpM_zero (X := X) (Y := X)).2 rfl]
            exact cmp_t (q2.turn (T.trans t)) (q3.turn (T.trans t)) (by omega) (by omega) (fun x hx => by have := hXs.2 x hx; omega) (fun x hx => by have := hXs.2 x hx; omega))
          have FL := Lib.hid (fun (W : World) (t : Turn (fun _ => False) wr W) => flat_is (q1.turn (T.trans t)) hMs)
          have NX := Lib.hid (fun (W : World) (t : Turn (fun _ => False) wr W) => show TuI w5 MS.length (MS.length - (i + 1)) (.int .i64 ((i + 1 : Nat) : Int)) W from ⟨i + 1, rfl, by omega, rfl, T.trans t⟩)
          have RM := Lib.hid (q1.turn T)
          have G := Lib.hid hg
          have K0 : TuK wr M M.length (.int .i64 0) (.int .i64 0) wr := ⟨0, rfl, Nat.zero_le _, rfl, rfl, rfl⟩
          clear hM hX hXs z1 z2 z3 q1 q2 q3 T hg
          obtain ⟨W0, rfl⟩ : ∃ W0 : World, W0 = wr := ⟨_, rfl⟩
          go_wp2_with fail
          go_loopg [10, 11] M.length (fun gh v10 v11 wr' => TuK W0 M gh v10 v11 wr')
          case atStart => exact K0
          case round =>
            clear K0
            obtain ⟨k, rfl, hk, hgk, rfl, rfl⟩ := hrel
            have hfl := flat_len hMs k
            by_cases hkl : k < M.length
            · obtain ⟨a', pb, po, c', e, ha, hx⟩ := RM.out
              injection e with e4 _ e5
              subst e4
              subst e5
              obtain rfl := ha.resolve_left (fun e => by rw [e] at hkl; simp at hkl)
              obtain ⟨l, hl⟩ : ∃ l, M[k]? = some l := ⟨_, List.getElem?_eq_getElem hkl⟩
              obtain ⟨r, zr, pr, _, _, cr, rfl, _⟩ := hx k l hl
              have hl4 := hMs.2 l (List.mem_of_getElem? hl)
              have ht : decide ((k : Int) < (M.length : Int)) = true := by simp; omega
              have hk1 : (k : Int) < (M.length : Int) := by omega
              have hk0 : (0 : Int) ≤ (k : Int) := by omega
              have NK := Lib.hid (show TuK wr M (M.length - (k + 1)) (.int .i64 (((flatN (M.take k)).length : Int) + (l.length : Int))) (.int .i64 ((k + 1 : Nat) : Int)) wr from ⟨k + 1, rfl, by omega, rfl, by rw [flat_take hl, List.length_append]; rfl, rfl⟩)
              have GK := Lib.hid hgk
              clear hl hgk hx
              generalize (flatN (M.take k)).length = s at *
              go_wp2_with fail
              go_roundg (M.length - (k + 1))
              case measure => have := GK.out; omega
              case rel => exact NK.out
            · have e : M.take k = M := List.take_of_length_le (by omega)
              rw [e] at hfl ⊢
              have hk2 : decide ((k : Int) < (M.length : Int)) = false := by simp; omega
              clear e hgk RM
              unfold FlatPost at FL
              generalize hs : (flatN M).length = s at *
              go_wp2_with fail
              refine wp_region_held_drew (S := (fun w' => w'.cell? ⟨mb, mo + i, none⟩ = some (.slice pm M.length cm) ∧ w'.cell? ⟨g, i, none⟩ = some (.slice px X.length cx) ∧ w'.cell? ⟨g2, i, none⟩ = some (.slice py X.length cy))) (by kernel_rfl) ?hs0 (fun hS0 => ?_)
              case hs0 => ((try dsimp only); first | with_reducible exact ⟨y1, y2, y3⟩ | exact ⟨y1, y2, y3⟩ | exact ⟨u1, u2, u3⟩ | exact ⟨s1, s2, s3⟩)
              refine wpAnyH_take (i := 0) (oi := { dst := some 70, op := Op.move (Operand.tmp 7), type := 24, pos := "law.go:191", after := #[], guard := none }) (v := ?_) rfl (by kernel_rfl) (by kernel_rfl) (by kernel_rfl) (fun _ _ _ h => h) (Or.inl ⟨by rfl, ?hy1⟩) hS0 ?_
              case hy1 => (intro w hSw; (try dsimp only at hSw); go_simp; try with_reducible rfl)
              try simp only [Act.put, List.setIfInBounds_toArray, List.set_cons_zero, List.set_cons_succ]
              refine wpAnyH_take (i := 1) (oi := { dst := some 71, op := Op.move (Operand.tmp 9), type := 3, pos := "law.go:191", after := #[], guard := none }) (v := ?_) rfl (by kernel_rfl) (by kernel_rfl) (by kernel_rfl) (fun _ _ _ h => h) (Or.inl ⟨by rfl, ?hy2⟩) hS0 ?_
              case hy2 => (intro w hSw; (try dsimp only at hSw); go_simp; try with_reducible rfl)
              try simp only [Act.put, List.setIfInBounds_toArray, List.set_cons_zero, List.set_cons_succ]
              refine wpAnyH_take (i := 2) (oi := { dst := some 72, op := Op.indexAddr 24 (Operand.tmp 70) (Operand.tmp 71), type := 0, pos := "law.go:191", after := #[{ on := 0, ground := Ground.data }, { on := 1, ground := Ground.data }], guard := none }) (v := ?_) rfl (by kernel_rfl) (by kernel_rfl) (by kernel_rfl) (fun _ _ _ h => h) (Or.inl ⟨by rfl, ?hy3⟩) hS0 ?_
              case hy3 => (intro w hSw; (try dsimp only at hSw); go_simp; try with_reducible rfl)
              try simp only [Act.put, List.setIfInBounds_toArray, List.set_cons_zero, List.set_cons_succ]
              refine wpAnyH_take (i := 3) (oi := { dst := some 73, op := Op.load 22 (Operand.tmp 72), type := 22, pos := "law.go:191", after := #[{ on := 2, ground := Ground.data }], guard := none }) (v := ?_) rfl (by kernel_rfl) (by kernel_rfl) (by kernel_rfl) (fun _ _ _ h => h) (Or.inl ⟨by rfl, ?hy4⟩) hS0 ?_
              case hy4 => (intro w hSw; (try dsimp only at hSw); go_simp; try with_reducible rfl)
              try simp only [Act.put, List.setIfInBounds_toArray, List.set_cons_zero, List.set_cons_succ]
              refine wpAnyH_take (i := 4) (oi := { dst := some 74, op := Op.move (Operand.tmp 8), type := 24, pos := "law.go:191", after := #[], guard := none }) (v := ?_) rfl (by kernel_rfl) (by kernel_rfl) (by kernel_rfl) (fun _ _ _ h => h) (Or.inl ⟨by rfl, ?hy5⟩) hS0 ?_
              case hy5 => (intro w hSw; (try dsimp only at hSw); go_simp; try with_reducible rfl)
              try simp only [Act.put, List.setIfInBounds_toArray, List.set_cons_zero, List.set_cons_succ]
              refine wpAnyH_take (i := 5) (oi := { dst := some 75, op := Op.move (Operand.tmp 9), type := 3, pos := "law.go:191", after := #[], guard := none }) (v := ?_) rfl (by kernel_rfl) (by kernel_rfl) (by kernel_rfl) (fun _ _ _ h => h) (Or.inl ⟨by rfl, ?hy6⟩) hS0 ?_
              case hy6 => (intro w hSw; (try dsimp only at hSw); go_simp; try with_reducible rfl)
              try simp only [Act.put, List.setIfInBounds_toArray, List.set_cons_zero, List.set_cons_succ]
              refine wpAnyH_take (i := 6) (oi := { dst := some 76, op := Op.indexAddr 24 (Operand.tmp 74) (Operand.tmp 75), type := 0, pos := "law.go:191", after := #[{ on := 4, ground := Ground.data }, { on := 5, ground := Ground.data }], guard := none }) (v := ?_) rfl (by kernel_rfl) (by kernel_rfl) (by kernel_rfl) (fun _ _ _ h => h) (Or.inl ⟨by rfl, ?hy7⟩) hS0 ?_
              case hy7 => (intro w hSw; (try dsimp only at hSw); go_simp; try with_reducible rfl)
              try simp only [Act.put, List.setIfInBounds_toArray, List.set_cons_zero, List.set_cons_succ]
              refine wpAnyH_take (i := 7) (oi := { dst := some 77, op := Op.load 22 (Operand.tmp 76), type := 22, pos := "law.go:191", after := #[{ on := 6, ground := Ground.data }], guard := none }) (v := ?_) rfl (by kernel_rfl) (by kernel_rfl) (by kernel_rfl) (fun _ _ _ h => h) (Or.inl ⟨by rfl, ?hy8⟩) hS0 ?_
              case hy8 => (intro w hSw; (try dsimp only at hSw); go_simp; try with_reducible rfl)
              try simp only [Act.put, List.setIfInBounds_toArray, List.set_cons_zero, List.set_cons_succ]
              refine wpAnyH_ready (rs := [8]) (by kernel_rfl) (by simp) ?_
              refine AllReadyH.cons (o := { dst := some 78, op := Op.call { callee := Callee.value (Operand.func 20), args := #[Operand.tmp 73, Operand.tmp 77], argTypes := #[22, 22] }, type := 3, pos := "law.go:191", after := #[{ on := 3, ground := Ground.data }, { on := 7, ground := Ground.data }], guard := none }) rfl (fun K hK => ?_) ?_
              · go_simp; with_reducible refine (CX.out _ (show Turn (fun _ => False) wr wr.drew from (Turn.refl _ wr).drewN 1)).mono ?_; rintro e wx ⟨rfl, tx⟩; have tx := (show Turn (fun _ => False) wr wr.drew from (Turn.refl _ wr).drewN 1).trans tx; have u1 := tx.cell id y1; have u2 := tx.cell id y2; have u3 := tx.cell id y3; have TX := Lib.hid tx; have FLX := Lib.hid (FL.out _ tx); clear tx; go_simp
                refine hK.out _ _ ?hs9 (fun hS9 => ?_)
                case hs9 => ((try dsimp only); first | with_reducible exact ⟨y1, y2, y3⟩ | exact ⟨y1, y2, y3⟩ | exact ⟨u1, u2, u3⟩ | exact ⟨s1, s2, s3⟩)
                clear hK K hS0
                refine wpAnyH_take (i := 9) (oi := { dst := some 79, op := Op.binOp BinOp.neq 3 (Operand.tmp 78) (Operand.const (Value.int IntKind.i64 0)) 3, type := 4, pos := "law.go:191", after := #[{ on := 8, ground := Ground.data }], guard := none }) (v := ?_) rfl (by kernel_rfl) (by kernel_rfl) (by kernel_rfl) (fun _ _ _ h => h) (Or.inl ⟨by rfl, ?hy10⟩) hS9 ?_
                case hy10 => (intro w hSw; (try dsimp only at hSw); go_simp; try with_reducible rfl)
                try simp only [Act.put, List.setIfInBounds_toArray, List.set_cons_zero, List.set_cons_succ]
                refine wpAnyH_take (i := 10) (oi := { dst := some 80, op := Op.move (Operand.tmp 79), type := 4, pos := "law.go:191", after := #[{ on := 9, ground := Ground.data }, { on := 8, ground := Ground.chain }], guard := none }) (v := ?_) rfl (by kernel_rfl) (by kernel_rfl) (by kernel_rfl) (fun _ _ _ h => h) (Or.inl ⟨by rfl, ?hy11⟩) hS9 ?_
                case hy11 => (intro w hSw; (try dsimp only at hSw); go_simp; try with_reducible rfl)
                try simp only [Act.put, List.setIfInBounds_toArray, List.set_cons_zero, List.set_cons_succ]
                refine wpAnyH_take (i := 11) (oi := { dst := some 81, op := Op.move (Operand.tmp 4), type := 24, pos := "law.go:191", after := #[{ on := 10, ground := Ground.guard }], guard := some (10, false) }) (v := ?_) rfl (by kernel_rfl) (by kernel_rfl) (by kernel_rfl) (fun _ _ _ h => h) (Or.inl ⟨by rfl, ?hy12⟩) hS9 ?_
                case hy12 => (intro w hSw; (try dsimp only at hSw); go_simp; try with_reducible rfl)
                try simp only [Act.put, List.setIfInBounds_toArray, List.set_cons_zero, List.set_cons_succ]
                refine wpAnyH_take (i := 12) (oi := { dst := some 82, op := Op.move (Operand.tmp 9), type := 3, pos := "law.go:191", after := #[{ on := 10, ground := Ground.guard }], guard := some (10, false) }) (v := ?_) rfl (by kernel_rfl) (by kernel_rfl) (by kernel_rfl) (fun _ _ _ h => h) (Or.inl ⟨by rfl, ?hy13⟩) hS9 ?_
                case hy13 => (intro w hSw; (try dsimp only at hSw); go_simp; try with_reducible rfl)
                try simp only [Act.put, List.setIfInBounds_toArray, List.set_cons_zero, List.set_cons_succ]
                refine wpAnyH_take (i := 13) (oi := { dst := some 83, op := Op.indexAddr 24 (Operand.tmp 81) (Operand.tmp 82), type := 0, pos := "law.go:191", after := #[{ on := 11, ground := Ground.data }, { on := 12, ground := Ground.data }, { on := 10, ground := Ground.guard }], guard := some (10, false) }) (v := ?_) rfl (by kernel_rfl) (by kernel_rfl) (by kernel_rfl) (fun _ _ _ h => h) (Or.inl ⟨by rfl, ?hy14⟩) hS9 ?_
                case hy14 => (intro w hSw; (try dsimp only at hSw); go_simp; try with_reducible rfl)
                try simp only [Act.put, List.setIfInBounds_toArray, List.set_cons_zero, List.set_cons_succ]
                refine wpAnyH_take (i := 14) (oi := { dst := some 84, op := Op.load 22 (Operand.tmp 83), type := 22, pos := "law.go:191", after := #[{ on := 13, ground := Ground.data }, { on := 10, ground := Ground.guard }], guard := some (10, false) }) (v := ?_) rfl (by kernel_rfl) (by kernel_rfl) (by kernel_rfl) (fun _ _ _ h => h) (Or.inl ⟨by rfl, ?hy15⟩) hS9 ?_
                case hy15 => (intro w hSw; (try dsimp only at hSw); go_simp; try with_reducible rfl)
                try simp only [Act.put, List.setIfInBounds_toArray, List.set_cons_zero, List.set_cons_succ]
                refine wpAnyH_take (i := 17) (oi := { dst := some 87, op := Op.move (Operand.tmp 10), type := 3, pos := "law.go:191", after := #[{ on := 10, ground := Ground.guard }], guard := some (10, false) }) (v := ?_) rfl (by kernel_rfl) (by kernel_rfl) (by kernel_rfl) (fun _ _ _ h => h) (Or.inl ⟨by rfl, ?hy16⟩) hS9 ?_
                case hy16 => (intro w hSw; (try dsimp only at hSw); go_simp; try with_reducible rfl)
                try simp only [Act.put, List.setIfInBounds_toArray, List.set_cons_zero, List.set_cons_succ]
                refine wpAnyH_ready (rs := [15]) (by kernel_rfl) (by simp) ?_
                refine AllReadyH.cons (o := { dst := some 85, op := Op.call { callee := Callee.value (Operand.func 18), args := #[Operand.tmp 84], argTypes := #[22] }, type := 27, pos := "law.go:191", after := #[{ on := 14, ground := Ground.data }, { on := 10, ground := Ground.chain }, { on := 10, ground := Ground.guard }], guard := some (10, false) }) rfl (fun K hK => ?_) ?_
                · go_simp; with_reducible refine FLX.out.mono ?_; rintro e wz ⟨vf, rfl, ho, tz⟩; obtain ⟨pf, cf, rfl, _⟩ := own_slice ho; have s1 := tz.cell id u1; have s2 := tz.cell id u2; have s3 := tz.cell id u3; have NZ := Lib.hid (NX.out wz (TX.out.trans tz)); clear ho tz; go_simp
                  refine hK.out _ _ ?hs17 (fun hS17 => ?_)
                  case hs17 => ((try dsimp only); first | with_reducible exact ⟨y1, y2, y3⟩ | exact ⟨y1, y2, y3⟩ | exact ⟨u1, u2, u3⟩ | exact ⟨s1, s2, s3⟩)
                  clear hK K hS9
                  refine wpAnyH_take (i := 16) (oi := { dst := some 86, op := Op.call { callee := Callee.builtin Builtin.len, args := #[Operand.tmp 85], argTypes := #[27] }, type := 3, pos := "law.go:191", after := #[{ on := 15, ground := Ground.data }, { on := 10, ground := Ground.guard }], guard := some (10, false) }) (v := ?_) rfl (by kernel_rfl) (by kernel_rfl) (by kernel_rfl) (fun _ _ _ h => h) (Or.inl ⟨by rfl, ?hy18⟩) hS17 ?_
                  case hy18 => (intro w hSw; (try dsimp only at hSw); go_simp; try with_reducible rfl)
                  try simp only [Act.put, List.setIfInBounds_toArray, List.set_cons_zero, List.set_cons_succ]
                  refine wpAnyH_take (i := 18) (oi := { dst := some 88, op := Op.binOp BinOp.neq 3 (Operand.tmp 86) (Operand.tmp 87) 3, type := 4, pos := "law.go:191", after := #[{ on := 16, ground := Ground.data }, { on := 17, ground := Ground.data }, { on := 10, ground := Ground.guard }], guard := some (10, false) }) (v := ?_) rfl (by kernel_rfl) (by kernel_rfl) (by kernel_rfl) (fun _ _ _ h => h) (Or.inl ⟨by rfl, ?hy19⟩) hS17 ?_
                  case hy19 => (intro w hSw; (try dsimp only at hSw); go_simp; try with_reducible rfl)
                  try simp only [Act.put, List.setIfInBounds_toArray, List.set_cons_zero, List.set_cons_succ]
                  refine wpAnyH_take (i := 19) (oi := { dst := some 89, op := Op.pick (Operand.tmp 80) (Operand.const (Value.bool true)) (Operand.tmp 88), type := 4, pos := "law.go:191", after := #[{ on := 10, ground := Ground.data }, { on := 18, ground := Ground.data }], guard := none }) (v := ?_) rfl (by kernel_rfl) (by kernel_rfl) (by kernel_rfl) (fun _ _ _ h => h) (Or.inl ⟨by rfl, ?hy20⟩) hS17 ?_
                  case hy20 => (intro w hSw; (try dsimp only at hSw); go_simp; try with_reducible rfl)
                  try simp only [Act.put, List.setIfInBounds_toArray, List.set_cons_zero, List.set_cons_succ]
                  refine wpAnyH_done (by kernel_rfl) ?_ _
                  go_wp2_with fail
                  go_roundg (MS.length - (i + 1))
                  case measure => have := G.out; omega
                  case rel => exact NZ.out
                exact AllReadyH.nil
              exact AllReadyH.nil
        · have FN := Lib.hid ((T5.out.trans T).below (fun k hk => ⟨hk, id⟩))
          have t1 : decide ((i : Int) < (MS.length : Int)) = false := by simp; omega
          clear hg T
          go_wp2
          go_ret
          exact ⟨rfl, FN.out⟩
def InRowsT (W : World) (v : Value) : Prop := ∃ LL, RowsAt W v LL ∧ LL.length ≤ 9223372036854775807 ∧ ∀ x ∈ LL, x.length ≤ 9223372036854775807
theorem turned_any (a0 : Option Addr) (l0 c0 : Nat) (w : World) (h0 : InRowsT w (.slice a0 l0 c0)) :
    Calls Try.prog 7 #[.slice a0 l0 c0] w fun e w' => e = .returned (.bool true) ∧ Below w.heap.size w w' := by
  obtain ⟨A, ha, la, ra⟩ := h0
  exact turned_walk ha la ra
end Go.Proofs.Ytibmimdlgbhdnaa
