/-
  The walk of TupleOrdered: rows that rise are made, merged, and looked for.
-/
import Derived.Deep.RegionHeld3
import Derived.Test.YtibmimdlgbhdnaaTupQ
import Derived.Test.YtibmimdlgbhdnaaTupW
import Derived.Test.YtibmimdlgbhdnaaTupFl
namespace Go.Proofs.Ytibmimdlgbhdnaa
open Go.ChangeShapes Go.WideShapes Go.ChangeAt Go.RowKit
set_option linter.unusedVariables false

theorem and_bds (x : Int) (m : Nat) (hm : m < 1073741824) : 0 ≤ bits .and .i64 x (m : Int) ∧ bits .and .i64 x (m : Int) ≤ (m : Int) := by
  have h2 : (BitVec.ofInt 64 (m : Int)).toNat = m := by
    rw [BitVec.ofInt_natCast, BitVec.toNat_ofNat]
    exact Nat.mod_eq_of_lt (by omega)
  have e : bits .and .i64 x (m : Int) = IntKind.i64.wrap (((BitVec.ofInt 64 x).toNat &&& m : Nat) : Int) := by
    show IntKind.i64.wrap ((BitVec.ofInt 64 x &&& BitVec.ofInt 64 (m : Int)).toNat : Int) = _
    rw [BitVec.toNat_and, h2]
  have hl : (BitVec.ofInt 64 x).toNat &&& m ≤ m := Nat.and_le_right
  rw [e, IntKind.wrap_i64]
  omega
/-- Rows of numbers of their own, in a row. -/
def OCells (w : World) (RS : List (List Int)) (xs : List Value) : Prop := ∀ (k : Nat) (l : List Int), RS[k]? = some l → ∃ r, xs[k]? = some r ∧ w.ownsRow 0 3 1 r l.length (intsV l)
/-- The first i rows are made. -/
structure Bld (W1 : World) (n i : Nat) (v4 v5 : Value) (RS : List (List Int)) (xs : List Value) (wr : World) : Prop where
  len : RS.length = i
  own : wr.ownsRow W1.heap.size 27 1 v4 i xs
  oc : OCells wr RS xs
  rise : Rises RS
  four : ∀ l ∈ RS, l.length ≤ 4
  many : v5 = .int .i64 ((total RS : Nat) : Int)
  turn : Turn (fun _ => False) W1 wr
def BldRel (W1 : World) (n : Nat) (gh : Nat) (v4 v5 v6 : Value) (wr : World) : Prop :=
  ∃ (i : Nat) (RS : List (List Int)) (xs : List Value), v6 = .int .i64 (i : Int) ∧ i ≤ n ∧ gh = n - i ∧ Bld W1 n i v4 v5 RS xs wr
/-- The first k numbers of a row are made. -/
def RowRel (W0 : World) (n : Nat) (gh : Nat) (v7 v8 v9 : Value) (wr : World) : Prop :=
  ∃ (k : Nat) (R : List Int) (nI m : Int), v9 = .int .i64 (k : Int) ∧ k ≤ n ∧ gh = n - k ∧ R.length = k ∧ v8 = .int .i64 nI ∧ nI = 8 * m ∧ 0 ≤ m ∧ m ≤ 31 * (k : Int) ∧ (∀ y ∈ R, y / 8 ≤ m) ∧ R.Pairwise (fun a b => a / 8 ≤ b / 8) ∧ wr.ownsRow W0.heap.size 3 1 v7 k (intsV R) ∧ Turn (fun _ => False) W0 wr
theorem one_num {W0 wr : World} {k : Nat} {v7 : Value} {R : List Int} {x : Int} (ho : wr.ownsRow W0.heap.size 3 1 v7 k (intsV R)) (hk : k ≤ 1000) (T : Turn (fun _ => False) W0 wr) :
    ∃ v' w', (Builtin.append_ #[27, 27] 27 #[v7, .slice (some ⟨wr.heap.size, 0, none⟩) 1 1]).run Try.prog (wr.alloc (.cells #[.int .i64 x] 3)) = .ok v' w' ∧ w'.ownsRow W0.heap.size 3 1 v' (k + 1) (intsV (R ++ [x])) ∧ Turn (fun _ => False) W0 w' := by
  have h1 : RowAt (wr.alloc (.cells #[.int .i64 x] 3)) (.slice (some ⟨wr.heap.size, 0, none⟩) 1 1) [x] := lit_row wr [x] (by simp)
  have T1 := T.size
  obtain ⟨v', w', hr, hown, T2⟩ := nums_app (l := [x]) (ho.alloc (.cells #[.int .i64 x] 3)) (by simp; omega) (by simp; omega) h1
  exact ⟨v', w', hr, by rw [show intsV (R ++ [x]) = intsV R ++ intsV [x] by simp [intsV]]; exact hown, turn_fresh T ho (((Turn.refl (fun k => v7.ownBlock = some k) wr).alloc _).trans T2)⟩
theorem row_next {W0 w' : World} {n k : Nat} {v' : Value} {R : List Int} {nI m u c : Int} (hk : k < n) (hl : R.length = k) (hn : nI = 8 * m) (hm0 : 0 ≤ m) (hm : m ≤ 31 * (k : Int)) (hu : 0 ≤ u ∧ u ≤ 31) (hc : 0 ≤ c ∧ c ≤ 7) (hR : ∀ y ∈ R, y / 8 ≤ m) (hp : R.Pairwise (fun a b => a / 8 ≤ b / 8))
    (ho : w'.ownsRow W0.heap.size 3 1 v' (k + 1) (intsV (R ++ [nI + u * 8 + c]))) (T : Turn (fun _ => False) W0 w') :
    RowRel W0 n (n - (k + 1)) v' (.int .i64 (nI + u * 8)) (.int .i64 ((k + 1 : Nat) : Int)) w' := by
  have e : (nI + u * 8 + c) / 8 = m + u := by omega
  refine ⟨k + 1, R ++ [nI + u * 8 + c], _, m + u, rfl, by omega, rfl, by simp [hl], rfl, by omega, by omega, by omega, fun y hy => ?_, List.pairwise_append.2 ⟨hp, List.pairwise_singleton _ _, fun a ha b hb => ?_⟩, ho, T⟩
  · rcases List.mem_append.1 hy with h | h
    · have := hR y h
      omega
    · rw [List.mem_singleton.1 h, e]
      exact Int.le_refl _
  · rw [List.mem_singleton.1 hb, e]
    have := hR a ha
    omega
/-- A row is put behind the rows. -/
theorem bld_next {W1 wr w2 : World} {n i : Nat} {v4 v5 v7 : Value} {RS : List (List Int)} {xs : List Value} {R : List Int} (hb : Bld W1 n i v4 v5 RS xs wr) (hi : i < n) (h12 : n ≤ 12) (hR : R.Pairwise (fun a b => a / 8 ≤ b / 8)) (h4 : R.length ≤ 4) (ho : w2.ownsRow wr.heap.size 3 1 v7 R.length (intsV R)) (T : Turn (fun _ => False) wr w2) :
    ∃ v' w', (Builtin.append_ #[22, 22] 22 #[v4, .slice (some ⟨w2.heap.size, 0, none⟩) 1 1]).run Try.prog (w2.alloc (.cells #[v7] 27)) = .ok v' w' ∧ BldRel W1 n (n - (i + 1)) v' (.int .i64 ((total RS : Int) + (R.length : Int))) (.int .i64 ((i + 1 : Nat) : Int)) w' ∧ ∃ a c, v' = .slice a (i + 1) c := by
  have hone : v7.oneCell' = true := by
    obtain ⟨a, c, rfl, _⟩ := own_slice ho
    rfl
  have ow2 := own_turn hb.own T (fun _ _ => id)
  have hz := T.size
  have hz1 := hb.turn.size
  obtain ⟨v', w', hrun, hown, T2⟩ := row_app (t := w2.heap.size) (WA := w2.alloc (.cells #[v7] 27)) ow2 (by omega) (by omega) ((Below.refl _ w2).alloc (Nat.le_refl _) _) (World.cell?_alloc_new w2 #[v7] 27 0) hone
  obtain ⟨a, c, e, _⟩ := own_slice hown
  refine ⟨v', w', hrun, ⟨i + 1, RS ++ [R], _, rfl, by omega, rfl, by simp [hb.len], hown, fun k l hk => ?_, fun l hl => ?_, fun l hl => ?_, ?_, ?_⟩, a, c, e⟩
  · have hx := hb.own.1
    have keep : ∀ {r : Value} {l : List Int}, w2.ownsRow 0 3 1 r l.length (intsV l) → w'.ownsRow 0 3 1 r l.length (intsV l) := fun h => own_turn h T2 fun k hk e => by
      rcases own_apart h ow2 (by decide) with q | q
      · rw [q] at hk
        cases hk
      · exact q (hk.trans e.symm)
    by_cases h : k < RS.length
    · rw [List.getElem?_append_left h] at hk
      obtain ⟨r, q1, q2⟩ := hb.oc k l hk
      exact ⟨r, by rw [List.getElem?_append_left (by have := hb.len; omega)]; exact q1, keep (own_turn q2 T (fun _ _ => id))⟩
    · have h2 := (List.getElem?_eq_some_iff.1 hk).1
      simp at h2
      obtain rfl : k = RS.length := by omega
      simp at hk
      subst hk
      have := hb.len
      exact ⟨v7, by rw [List.getElem?_append_right (by omega)]; simp [show RS.length - xs.length = 0 by omega], keep (row_low3 ho (Nat.zero_le _))⟩
  · rcases List.mem_append.1 hl with h | h
    · exact hb.rise l h
    · rw [List.mem_singleton.1 h]
      exact hR
  · rcases List.mem_append.1 hl with h | h
    · exact hb.four l h
    · rw [List.mem_singleton.1 h]
      exact h4
  · unfold total
    simp
  · exact (hb.turn.trans T).comp T2 fun b hb1 e => by have := (ow2.lt b e).1; omega
/-- What is looked for: the places in all rows. -/
structure OSt (W3 : World) (gat nr : Nat) (RS S : List (List Int)) (f : Nat → Nat) (wr : World) : Prop where
  sl : S.length = nr
  rise : Rises S
  dr : ∀ (k : Nat) (r : List Int), RS[k]? = some r → f k ≤ r.length ∧ S[k]? = some (r.drop (f k))
  cell : ∀ k, k < nr → wr.cell? ⟨gat, k, none⟩ = some (.int .i64 ((f k : Nat) : Int))
  fr : ∀ k, wr.frozen? ⟨gat, k, none⟩ = false
  turn : Turn (fun b => b = gat) W3 wr
theorem OSt.drewN {W3 : World} {gat nr : Nat} {RS S : List (List Int)} {f : Nat → Nat} {wr : World} (h : OSt W3 gat nr RS S f wr) (d : Nat) : OSt W3 gat nr RS S f (wr.drewN d) := ⟨h.sl, h.rise, h.dr, h.cell, h.fr, h.turn.drewN d⟩
theorem OSt.next {W3 : World} {gat nr j : Nat} {RS S : List (List Int)} {f : Nat → Nat} {wr : World} {x : Int} {l : List Int} (h : OSt W3 gat nr RS S f wr) (hlen : RS.length = nr) (hj : S[j]? = some (x :: l)) (hr : Rises (S.set j l)) :
    OSt W3 gat nr RS (S.set j l) (upd f j (f j + 1)) (wr.setCell ⟨gat, j, none⟩ (.int .i64 ((f j : Int) + 1))) := by
  have hjl := (List.getElem?_eq_some_iff.1 hj).1
  have hsl := h.sl
  refine ⟨by rw [List.length_set]; exact h.sl, hr, fun k r hk => ?_, fun k hk => ?_, fun k => by simpa using h.fr k, h.turn.setCell (.inl rfl) _⟩
  · obtain ⟨h1, h2⟩ := h.dr k r hk
    by_cases e : k = j
    · subst e
      rw [hj] at h2
      injection h2 with h2
      have hlt : f k < r.length := by
        have := congrArg List.length h2
        simp at this
        omega
      rw [upd_at, List.getElem?_set_self hjl]
      refine ⟨by omega, ?_⟩
      have h3 := List.drop_eq_getElem_cons hlt
      rw [← h2] at h3
      injection h3 with _ h3
      rw [h3]
    · rw [upd_off _ _ e, List.getElem?_set_ne (Ne.symm e)]
      exact ⟨h1, h2⟩
  · by_cases e : k = j
    · subst e
      rw [upd_at]
      exact World.cell?_setCell_same _ _ _ (h.cell k hk)
    · rw [cell_off _ _ _ _ _ (Ne.symm e), upd_off _ _ e]
      exact h.cell k hk
def OrdI (W3 : World) (gat nr : Nat) (RS : List (List Int)) (all : List Int) (gh : Nat) (v : Value) (wr : World) : Prop :=
  ∃ (i : Nat) (S : List (List Int)) (f : Nat → Nat), v = .int .i64 (i : Int) ∧ i ≤ all.length ∧ gh = all.length - i ∧ all.drop i = mergeN lt8 (total S) S ∧ OSt W3 gat nr RS S f wr ∧
    ∀ (q : Nat) (a : Int), i = q + 1 → all[q]? = some a → ∀ (k : Nat) (z : Int) (m : List Int), S[k]? = some (z :: m) → a / 8 ≤ z / 8
def OrdK (Wi : World) (gat j : Nat) (fj : Nat) (gh : Nat) (v13 v14 : Value) (wr : World) : Prop :=
  ∃ (k d : Nat), v14 = .int .i64 (k : Int) ∧ ((v13 = .bool false ∧ k ≤ j ∧ wr = Wi.drewN d ∧ gh = j + 1 - k) ∨ (v13 = .bool true ∧ k = j + 1 ∧ wr = (Wi.drewN d).setCell ⟨gat, j, none⟩ (.int .i64 ((fj : Int) + 1)) ∧ gh = 0))
set_option maxRecDepth 100000 in
set_option maxHeartbeats 4000000 in
theorem ordered_walk {w : World} {v : Value} {L : Mat} (h : RowsAt w v L) (hL : L.length ≤ 9223372036854775807) (hR : ∀ x ∈ L, x.length ≤ 9223372036854775807) :
    Calls Try.prog 6 #[v] w fun e w' => e = .returned (.bool true) ∧ Below w.heap.size w w' := by
  have AW := Lib.hid (tuple_awake w)
  obtain ⟨av, ab, ao, ac, rfl, ha, hx⟩ := h
  have IN := Lib.hid hx
  have LEN := Lib.hid hR
  have and7 := and_bds
  have A7 := Lib.hid and7
  clear hx hR and7
  go_enter Try.func6, Try.ntmps6
  go_wp2_with fail
  with_reducible refine AW.out.mono ?_
  rintro e w1 ⟨rfl, b1⟩
  have T1 := Lib.hid (Turn.of_below (S := fun _ => False) b1)
  clear b1 AW
  obtain ⟨n, hn⟩ : ∃ n, n = min 12 L.length := ⟨_, rfl⟩
  have HN := Lib.hid hn
  have R0 : BldRel w1 n n (.slice none 0 0) (.int .i64 0) (.int .i64 0) w1 := ⟨0, [], [], rfl, Nat.zero_le _, rfl, rfl, World.ownsRow_nil _ _ _ _, fun k l h => by simp at h, fun l h => by simp at h, fun l h => by simp at h, rfl, Turn.refl _ _⟩
  clear hn
  go_wp2_with fail
  go_loopg [4, 5, 6] n (fun gh v4 v5 v6 wr => BldRel w1 n gh v4 v5 v6 wr)
  case atStart => exact R0
  case round =>
    clear R0
    obtain ⟨i, RS, xs, rfl, hi, hg, hb⟩ := hrel
    by_cases hin : i < n
    · have hil : i < L.length := by have := HN.out; omega
      have hi12 : i < 12 := by have := HN.out; omega
      have hn12 : n ≤ 12 := by have := HN.out; omega
      obtain rfl := ha.resolve_left (fun e => by rw [e] at hil; simp at hil)
      obtain ⟨l, hl⟩ : ∃ l, L[i]? = some l := ⟨_, List.getElem?_eq_getElem hil⟩
      obtain ⟨r, z, hra⟩ := IN.out i l hl
      have hll := LEN.out l (List.mem_of_getElem? hl)
      have TT := T1.out.trans hb.turn
      have y := TT.cell id z
      obtain ⟨pr, rb, ro, rc, rfl, hrc, hr0, hrx⟩ := hra
      have RX := Lib.hid hrx
      have t1 : decide ((i : Int) < (L.length : Int)) = true := by simp; omega
      have t2 : decide ((i : Int) < 12) = true := by simp; omega
      have hi1 : (i : Int) < (L.length : Int) := by omega
      have hi0 : (0 : Int) ≤ (i : Int) := by omega
      have hi2 : (i : Int) < 12 := by omega
      have ec := hb.many
      subst ec
      obtain ⟨a4, c4, e4, _⟩ := own_slice hb.own
      subst e4
      have BN := Lib.hid (fun (w2 : World) (v7 : Value) (R : List Int) (hR : R.Pairwise (fun a b => a / 8 ≤ b / 8)) (h4 : R.length ≤ 4) (ho : w2.ownsRow wr.heap.size 3 1 v7 R.length (intsV R)) (T : Turn (fun _ => False) wr w2) => bld_next hb hin hn12 hR h4 ho T)
      have G := Lib.hid hg
      have YT := Lib.hid (show ∀ (W : World), Turn (fun _ => False) wr W → W.cell? ⟨ab, ao + i, none⟩ = some (.slice pr l.length rc) ∧ ∀ (j : Nat) (x : Int), l[j]? = some x → W.cell? ⟨rb, ro + j, none⟩ = some (.int .i64 x) from fun W t => ⟨t.cell id y, fun j x hj => (TT.trans t).cell id (RX.out j x hj)⟩)
      have I0 : RowRel wr (min 4 l.length) (min 4 l.length) (.slice none 0 0) (.int .i64 0) (.int .i64 0) wr := ⟨0, [], 0, 0, rfl, Nat.zero_le _, rfl, rfl, rfl, rfl, Int.le_refl _, by omega, fun y h => by simp at h, List.Pairwise.nil, World.ownsRow_nil _ _ _ _, Turn.refl _ _⟩
      have htot : total RS ≤ 48 := by
        have h1 : ∀ (S : List (List Int)), (∀ l ∈ S, l.length ≤ 4) → total S ≤ 4 * S.length := fun S hS => by
          induction S with
          | nil => simp [total]
          | cons a S ih =>
            have := ih fun l hl => hS l (List.mem_cons_of_mem _ hl)
            have h2 := hS a (List.mem_cons_self ..)
            simp only [total, List.map_cons, List.sum_cons, List.length_cons] at this ⊢
            omega
        have := h1 RS hb.four
        have := hb.len
        omega
      obtain ⟨c, hc⟩ : ∃ c, bits .and .i64 (i : Int) 7 = c := ⟨_, rfl⟩
      have hc7 : 0 ≤ c ∧ c ≤ 7 := by
        have := A7.out (i : Int) 7 (by decide)
        rw [← hc]
        exact this
      have HC := Lib.hid hc7
      clear hb hg hl z hrx TT y
      generalize total RS = tot at *
      obtain ⟨W0, rfl⟩ : ∃ W0 : World, W0 = wr := ⟨_, rfl⟩
      go_wp2_with fail
      go_loopg [7, 8, 9] (min 4 l.length) (fun gh v7 v8 v9 wr' => RowRel W0 (min 4 l.length) gh v7 v8 v9 wr')
      case atStart => exact I0
      case round =>
        clear I0
        obtain ⟨k, R, nI, m, rfl, hk, hgk, hRl, rfl, hnI, hm0, hm, hRm, hRp, ho, T⟩ := hrel
        obtain ⟨y1, y2⟩ := YT.out wr T
        by_cases hkl : k < min 4 l.length
        · have hkl1 : k < l.length := by omega
          have hk4 : k < 4 := by omega
          obtain ⟨x, hx⟩ : ∃ x, l[k]? = some x := ⟨_, List.getElem?_eq_getElem hkl1⟩
          obtain rfl := hr0.resolve_left (fun e => by rw [e] at hx; simp at hx)
          have y3 := y2 k x hx
          obtain ⟨u, hu⟩ : ∃ u, bits .and .i64 x 31 = u := ⟨_, rfl⟩
          have hu31 : 0 ≤ u ∧ u ≤ 31 := by
            have := A7.out x 31 (by decide)
            rw [← hu]
            exact this
          have t3 : decide ((k : Int) < (l.length : Int)) = true := by simp; omega
          have t4 : decide ((k : Int) < 4) = true := by simp; omega
          have hk1 : (k : Int) < (l.length : Int) := by omega
          have hk0 : (0 : Int) ≤ (k : Int) := by omega
          have hk5 : (k : Int) < 4 := by omega
          obtain ⟨v', w', hrun, hown, T2⟩ := one_num (x := nI + u * 8 + c) ho (by omega) T
          have NX := Lib.hid (row_next hkl hRl hnI hm0 hm hu31 HC.out hRm hRp hown T2)
          obtain ⟨a7, c7, e7, _⟩ := own_slice ho
          obtain ⟨a8, c8, rfl, _⟩ := own_slice hown
          subst e7
          have RUN := Lib.hid hrun
          have GK := Lib.hid hgk
          have b1 : IntKind.i64.wrap (u * 8) = u * 8 := IntWalk.i64_in _ (by omega)
          have b2 : IntKind.i64.wrap (nI + u * 8) = nI + u * 8 := IntWalk.i64_in _ (by omega)
          have b3 : IntKind.i64.wrap (nI + u * 8 + c) = nI + u * 8 + c := IntWalk.i64_in _ (by omega)
          clear hx y2 hRl hnI hm0 hm hRm hRp ho T hgk hrun hown T2 hu31 hkl hkl1
          go_wp2_with (refine rl_append_run (by rfl) _ _ _ (by rfl) (by rfl) (by rfl) RUN.out ?_)
          go_roundg (min 4 l.length - (k + 1))
          case measure => have := GK.out; omega
          case rel => exact NX.out
        · have hk4 : k ≤ 4 := by omega
          obtain ⟨v', w', hrun, hnx, a9, c9, rfl⟩ := BN.out wr _ R hRp (by omega) (by rw [hRl]; exact ho) T
          rw [hRl] at hnx
          obtain ⟨a7, c7, e7, _⟩ := own_slice ho
          subst e7
          have RUN := Lib.hid hrun
          have FIN := Lib.hid hnx
          have b1 : IntKind.i64.wrap ((tot : Int) + (k : Int)) = (tot : Int) + (k : Int) := IntWalk.i64_in _ (by omega)
          have HK := Lib.hid hkl
          clear y2 hRl hnI hm0 hm hRm hRp ho T hgk hrun hnx hkl
          by_cases hkl : (k : Int) < (l.length : Int)
          · have t3 : decide ((k : Int) < (l.length : Int)) = true := by simp; omega
            have t4 : decide ((k : Int) < 4) = false := by have := HK.out; simp; omega
            go_wp2_with (refine rl_append_run (by rfl) _ _ _ (by rfl) (by rfl) (by rfl) RUN.out ?_)
            go_roundg (n - (i + 1))
            case measure => have := G.out; omega
            case rel => exact FIN.out
          · have t3 : decide ((k : Int) < (l.length : Int)) = false := by simp; omega
            go_wp2_with (refine rl_append_run (by rfl) _ _ _ (by rfl) (by rfl) (by rfl) RUN.out ?_)
            go_roundg (n - (i + 1))
            case measure => have := G.out; omega
            case rel => exact FIN.out
    · obtain rfl : i = n := by omega
      have hrows := rows_own (L := RS) (by rw [hb.len]; exact hb.own) (fun k l hl => by
        obtain ⟨r, q1, q2⟩ := hb.oc k l hl
        exact ⟨r, q1, rowAt_own q2⟩)
      have hn12 : i ≤ 12 := by have := HN.out; omega
      have hlen := hb.len
      have MG := Lib.hid (merge_is8 hrows (by omega) (fun l hl => by have := hb.four l hl; omega))
      have F4 := Lib.hid hb.four
      have PU := Lib.hid (And.intro hb.rise (T1.out.trans hb.turn))
      have htot : total RS ≤ 48 := by
        have h1 : ∀ (S : List (List Int)), (∀ l ∈ S, l.length ≤ 4) → total S ≤ 4 * S.length := fun S hS => by
          induction S with
          | nil => simp [total]
          | cons a S ih =>
            have := ih fun l hl => hS l (List.mem_cons_of_mem _ hl)
            have h2 := hS a (List.mem_cons_self ..)
            simp only [total, List.map_cons, List.sum_cons, List.length_cons] at this ⊢
            omega
        have := h1 RS hb.four
        omega
      have AL := Lib.hid (fun (W : World) (kb lb : Nat) (h : Mgd8 W kb lb RS) => all_any8 less_28 (by omega) (by omega) h)
      have OC := Lib.hid hb
      have em := hb.many
      subst em
      obtain ⟨a4, c4, e4, s4⟩ := own_slice hb.own
      subst e4
      have S4 := Lib.hid s4
      have HL := Lib.hid hlen
      rw [hlen] at MG
      clear hrows hb s4 hlen hg
      go_upto_region 5 with fail
      go_cut [23] (fun v23 wx => v23 = .bool false ∧ wx = wr)
      case first =>
        by_cases hkl : (i : Int) < (L.length : Int)
        · have t3 : decide ((i : Int) < (L.length : Int)) = true := by simp; omega
          have t4 : decide ((i : Int) < 12) = false := by have := HN.out; simp; omega
          go_wp2_with fail
          go_meet
          case rel => exact ⟨rfl, rfl⟩
        · have t3 : decide ((i : Int) < (L.length : Int)) = false := by simp; omega
          go_wp2_with fail
          go_meet
          case rel => exact ⟨rfl, rfl⟩
      case rest =>
      obtain ⟨rfl, rfl⟩ := hcut
      go_wp2_with fail
      with_reducible refine MG.out.mono ?_
      rintro e w2 ⟨rfl, hm⟩
      have T2 := Lib.hid (show Turn (fun _ => False) wc w2 by obtain ⟨i, f, _, _, _, _, _, _, _, _, T, _⟩ := hm; exact T)
      have A2 := Lib.hid (AL.out w2 _ _ (mgd_of8 (by rw [HL.out]; exact hm)))
      clear hm MG AL
      go_wp2_with fail
      with_reducible refine A2.out.mono ?_
      rintro e w3 ⟨va, rfl, hall, hbw⟩
      have T3 := Lib.hid (T2.out.trans (Turn.of_below hbw))
      have hml := merge_len lt8 (total RS) RS rfl
      obtain ⟨aa, ca, rfl, sa⟩ := own_slice hall
      have HA := Lib.hid (And.intro hall sa)
      have hmm : mergeN lt8 (total RS) RS = mergeN lt8 (total RS) RS := rfl
      obtain ⟨all, hAll⟩ : ∃ all, all = mergeN lt8 (total RS) RS := ⟨_, rfl⟩
      rw [← hAll] at HA hml ⊢
      have HALL := Lib.hid hAll
      have htl : total RS = all.length := hml.symm
      rw [htl] at htot ⊢
      obtain ⟨i3, ji, jz, js, jb⟩ := info_parts info3t
      have hmk : ∀ w, (Instr.makeSlice 27 (.int .i64 (i : Int)) (.int .i64 (i : Int))).run Try.prog w = .ok (.slice (some ⟨w.heap.size, 0, none⟩) i i) (w.alloc (.cells (madeCells #[.int .i64 0] i) 3)) := fun w => by
        have := run_make (P := Try.prog) w 27 3 i3 (.int .i64 0) Try.underlying27 ji jz .i64 .i64 (i : Int) (i : Int) (by omega) (by omega) (by rw [jb]; omega) (by omega)
        rw [js] at this
        simpa [Value.cells] using this
      clear hall sa hml hmm hAll htl hbw A2 T2 ji jz js jb
      go_wp2_with fail
      clear hmk
      obtain ⟨W3, hW3⟩ : ∃ W3, W3 = w3.alloc (.cells (madeCells #[.int .i64 0] i) 3) := ⟨_, rfl⟩
      rw [← hW3]
      have TW : Turn (fun _ => False) w3 W3 := by rw [hW3]; exact (Turn.refl _ _).alloc _
      have hz3 : W3.heap.size = w3.heap.size + 1 := by rw [hW3]; simp
      have O0 : OSt W3 w3.heap.size i RS RS (fun _ => 0) W3 := by
        refine ⟨HL.out, PU.out.1, fun k r hk => ⟨Nat.zero_le _, by simpa using hk⟩, fun k hk => ?_, fun k => ?_, Turn.refl _ _⟩
        · rw [hW3, World.cell?_alloc_new]
          simp [madeCells, hk, Nat.mod_one]
        · rw [hW3, frozen?_alloc_cells]
          exact fz _ (Nat.le_refl _)
      have RD := Lib.hid (show ∀ (W : World) (t : Turn (fun b => b = w3.heap.size) W3 W) (k : Nat) (r : List Int), RS[k]? = some r → ∃ (g : Nat) (p : Option Addr) (c : Nat), a4 = some ⟨g, 0, none⟩ ∧ W.cell? ⟨g, k, none⟩ = some (.slice p r.length c) ∧ ∀ (j : Nat) (x : Int), r[j]? = some x → ∃ b, p = some ⟨b, 0, none⟩ ∧ W.cell? ⟨b, j, none⟩ = some (.int .i64 x) from fun W t k r hk => by
        have hki : k < i := by rw [← HL.out]; exact (List.getElem?_eq_some_iff.1 hk).1
        obtain ⟨g, hg⟩ := S4.out (by omega)
        obtain ⟨rv, q1, q2⟩ := OC.out.oc k r hk
        obtain ⟨p, c, rfl, sp⟩ := own_slice q2
        have old : ∀ (b o : Nat) (v : Value), wc.cell? ⟨b, o, none⟩ = some v → W.cell? ⟨b, o, none⟩ = some v := fun b o v hc => t.cell (show ¬ b = w3.heap.size from fun e => by
          have := block_lt_of_cell hc
          have := T3.out.size
          have e2 : (⟨b, o, none⟩ : Addr).block = b := rfl
          omega) (TW.cell id (T3.out.cell id hc))
        refine ⟨g, p, c, hg, old _ _ _ ?_, fun j x hj => ?_⟩
        · have h1 := OC.out.own
          rw [hg] at h1
          exact (h1.cellAt k (by omega)).trans q1
        · have hjl := (List.getElem?_eq_some_iff.1 hj).1
          obtain ⟨b, hb⟩ := sp (by omega)
          refine ⟨b, hb, old _ _ _ ?_⟩
          have h2 := q2
          rw [hb] at h2
          refine (h2.cellAt j (by omega)).trans ?_
          unfold intsV
          rw [List.getElem?_map, hj]
          rfl)
      have AD := Lib.hid (show ∀ (W : World) (t : Turn (fun b => b = w3.heap.size) W3 W) (q : Nat) (x : Int), all[q]? = some x → ∃ g, aa = some ⟨g, 0, none⟩ ∧ W.cell? ⟨g, q, none⟩ = some (.int .i64 x) from fun W t q x hq => by
        have hql := (List.getElem?_eq_some_iff.1 hq).1
        obtain ⟨g, hg⟩ := HA.out.2 (by omega)
        have h1 := HA.out.1
        rw [hg] at h1
        have hc : w3.cell? ⟨g, q, none⟩ = some (.int .i64 x) := (h1.cellAt q (by omega)).trans (by unfold intsV; rw [List.getElem?_map, hq]; rfl)
        refine ⟨g, hg, t.cell (show ¬ g = w3.heap.size from fun e => ?_) (TW.cell id hc)⟩
        have := block_lt_of_cell hc
        have e2 : (⟨g, q, none⟩ : Addr).block = g := rfl
        omega)
      have FIN := Lib.hid (show ∀ W, Turn (fun b => b = w3.heap.size) W3 W → Below w.heap.size w W from fun W t => by
        have h1 := PU.out.2.trans (T3.out.trans TW)
        have h2 := T3.out.size
        have h3 := PU.out.2.size
        exact (h1.comp t (fun b hb e => by omega)).below (fun k hk => ⟨hk, id⟩))
      have R1 : OrdI W3 w3.heap.size i RS all all.length (.int .i64 0) W3 := ⟨0, RS, fun _ => 0, rfl, Nat.zero_le _, rfl, by rw [List.drop_zero]; exact HALL.out, O0, fun q a h => by omega⟩
      clear O0 TW hW3 T3 HA OC S4 PU hz3
      generalize w3.heap.size = gat at *
      go_wp2_with fail
      go_loopg [12] all.length (fun gh v12 wr => OrdI W3 gat i RS all gh v12 wr)
      case atStart => exact R1
      case round =>
        clear R1
        obtain ⟨q, S, f, rfl, hq, hg, hdrop, hO, hprev⟩ := hrel
        by_cases hql : q < all.length
        · obtain ⟨x, hx⟩ : ∃ x, all[q]? = some x := ⟨_, List.getElem?_eq_getElem hql⟩
          have hd2 : all.drop q = x :: all.drop (q + 1) := by
            obtain ⟨h1, h2⟩ := List.getElem?_eq_some_iff.1 hx
            rw [List.drop_eq_getElem_cons h1, h2]
          rw [hd2] at hdrop
          obtain ⟨j, l, hj, hrest, hrise, hfirst, hleast⟩ := merge_step hdrop.symm hO.rise
          obtain ⟨ga, ea, ya⟩ := AD.out wr hO.turn q x hx
          subst ea
          have hji : j < i := by rw [← hO.sl]; exact (List.getElem?_eq_some_iff.1 hj).1
          have t1 : decide ((q : Int) < (all.length : Int)) = true := by simp; omega
          have hq1 : (q : Int) < (all.length : Int) := by omega
          have hq0 : (0 : Int) ≤ (q : Int) := by omega
          have NX := Lib.hid (fun d => show OrdI W3 gat i RS all (all.length - (q + 1)) (.int .i64 ((q + 1 : Nat) : Int)) ((wr.drewN d).setCell ⟨gat, j, none⟩ (.int .i64 ((f j : Int) + 1))) from
            ⟨q + 1, S.set j l, upd f j (f j + 1), rfl, by omega, rfl, hrest, (hO.drewN d).next HL.out hj hrise, fun q' a e ha k z m hk => by
              obtain rfl : q' = q := by omega
              rw [hx] at ha
              injection ha with ha
              rw [← ha]
              exact hleast k z m hk⟩)
          have OO := Lib.hid (And.intro hO (And.intro hj (And.intro hfirst (And.intro hprev hx))))
          have G := Lib.hid hg
          clear hd2 hdrop hrest hrise hfirst hleast hprev hO hj hx hg
          go_upto_region 23 with fail
          go_cut [94] (fun v94 wx => v94 = .bool false ∧ ∃ d, wx = wr.drewN d)
          case first =>
            rcases Nat.eq_zero_or_pos q with rfl | hpos
            · go_wp2_with fail
              go_quiet (fail)
              go_wp2_with fail
              go_meet
              case rel => exact ⟨rfl, _, rfl⟩
            · obtain ⟨p, hp⟩ : ∃ p, p + 1 = q := ⟨q - 1, by omega⟩
              obtain ⟨a, hpa⟩ : ∃ a, all[p]? = some a := ⟨_, List.getElem?_eq_getElem (by omega)⟩
              obtain ⟨ga', ea', yp⟩ := AD.out wr OO.out.1.turn p a hpa
              injection ea' with ea'
              injection ea' with ea'
              subst ea'
              have hle := OO.out.2.2.2.1 p a hp.symm hpa j x l OO.out.2.1
              have C := Lib.hid (fun dd => show Calls Try.prog 28 #[.int .i64 x, .int .i64 a] (wr.drewN dd) (fun e w' => e = Ending.returned (.bool false) ∧ ∃ q, w' = wr.drewN q) from (less_28 x a _).mono fun e w' h => ⟨by
                rw [h.1]
                unfold lt8
                rw [decide_eq_false (by omega)], dd, h.2.symm⟩)
              have es : (q : Int) - 1 = (p : Int) := by omega
              have tg : decide ((0 : Int) < (q : Int)) = true := by simp; omega
              have hq2 : 0 < q := hpos
              have hp0 : (0 : Int) ≤ (p : Int) := by omega
              have hp1 : (p : Int) < (all.length : Int) := by omega
              have hwp : IntKind.i64.wrap (p : Int) = (p : Int) := IntWalk.i64_in _ (by omega)
              clear hpa hle hp
              go_wp2_with fail
              go_quiet ((go_at_call 28; exact C.out _))
              go_wp2_with fail
              go_meet
              case rel => exact ⟨rfl, _, rfl⟩
          case rest =>
          obtain ⟨rfl, d0, hw0⟩ := hcut
          have OW := Lib.hid (show OSt W3 gat i RS S f wc from by rw [hw0]; exact OO.out.1.drewN d0)
          have ya' : wc.cell? ⟨ga, q, none⟩ = some (.int .i64 x) := by rw [hw0]; exact ya
          have NX := Lib.hid (fun d => show OrdI W3 gat i RS all (all.length - (q + 1)) (.int .i64 ((q + 1 : Nat) : Int)) ((wc.drewN d).setCell ⟨gat, j, none⟩ (.int .i64 ((f j : Int) + 1))) from by
            rw [hw0, World.drewN_drewN]
            exact NX.out (d0 + d))
          have OO := Lib.hid (And.intro OO.out.2.1 OO.out.2.2.1)
          clear hw0 ya
          have K0 : OrdK wc gat j (f j) (j + 1) (.bool false) (.int .i64 0) wc := ⟨0, 0, rfl, .inl ⟨rfl, Nat.zero_le _, rfl, rfl⟩⟩
          go_wp2_with fail
          go_loopg [13, 14] (j + 1) (fun gh v13 v14 wr' => OrdK wc gat j (f j) gh v13 v14 wr')
          case atStart => exact K0
          case round =>
            clear K0
            obtain ⟨k, d, rfl, hk⟩ := hrel
            rcases hk with ⟨rfl, hkj, hw, hgk⟩ | ⟨rfl, hkj, hw, hgk⟩
            · have hki : k < i := by omega
              obtain ⟨r, hr⟩ : ∃ r, RS[k]? = some r := ⟨_, List.getElem?_eq_getElem (by rw [HL.out]; exact hki)⟩
              obtain ⟨hfr, hSk⟩ := OW.out.dr k r hr
              have OD : OSt W3 gat i RS S f wr := by rw [hw]; exact OW.out.drewN d
              obtain ⟨g, p, c, rfl, z1, z2⟩ := RD.out wr OD.turn k r hr
              have z3 := OD.cell k hki
              have z4 := OD.fr k
              have hr4 := F4.out r (List.mem_of_getElem? hr)
              have ya2 : wr.cell? ⟨ga, q, none⟩ = some (.int .i64 x) := by rw [hw]; exact ya'
              have t2 : decide ((k : Int) < (i : Int)) = true := by simp; omega
              have hk1 : (k : Int) < (i : Int) := by omega
              have hk0 : (0 : Int) ≤ (k : Int) := by omega
              have GK := Lib.hid hgk
              have HW := Lib.hid hw
              clear hr OD hw hgk
              by_cases hkj2 : k = j
              · subst hkj2
                rw [OO.out.1] at hSk
                injection hSk with hSk
                have hlt : f k < r.length := by
                  have := congrArg List.length hSk
                  simp at this
                  omega
                have hrx : r[f k]? = some x := by
                  have h3 := List.drop_eq_getElem_cons hlt
                  rw [← hSk] at h3
                  injection h3 with h3 _
                  rw [List.getElem?_eq_getElem hlt, ← h3]
                obtain ⟨b, rfl, z5⟩ := z2 (f k) x hrx
                have NK := Lib.hid (fun dd => show OrdK wc gat k (f k) 0 (.bool true) (.int .i64 ((k + 1 : Nat) : Int)) ((wr.drewN dd).setCell ⟨gat, k, none⟩ (.int .i64 ((f k : Int) + 1))) from ⟨k + 1, d + dd, rfl, .inr ⟨rfl, rfl, by rw [HW.out, World.drewN_drewN], rfl⟩⟩)
                have t3 : decide (((f k : Nat) : Int) < (r.length : Int)) = true := by simp; omega
                have hf1 : ((f k : Nat) : Int) < (r.length : Int) := by omega
                have hf0 : (0 : Int) ≤ ((f k : Nat) : Int) := by omega
                have hwf : IntKind.i64.wrap (((f k : Nat) : Int) + 1) = ((f k : Nat) : Int) + 1 := IntWalk.i64_in _ (by omega)
                clear hSk hrx z2 hkj
                generalize f k = fk at *
                go_wp2_with fail
                go_quiet (fail)
                go_wp2_with fail
                go_roundg 0
                case measure => have := GK.out; omega
                case rel => exact NK.out _
              · have NK := Lib.hid (fun dd => show OrdK wc gat j (f j) (j + 1 - (k + 1)) (.bool false) (.int .i64 ((k + 1 : Nat) : Int)) (wr.drewN dd) from ⟨k + 1, d + dd, rfl, .inl ⟨rfl, by omega, by rw [HW.out, World.drewN_drewN], rfl⟩⟩)
                cases hrd : r.drop (f k) with
                | nil =>
                  have hle : r.length ≤ f k := List.drop_eq_nil_iff.1 hrd
                  have t3 : decide (((f k : Nat) : Int) < (r.length : Int)) = false := by simp; omega
                  have hnl : ¬ (f k < r.length) := by omega
                  have hnl2 : ¬ (((f k : Nat) : Int) < (r.length : Int)) := by omega
                  clear hSk hrd z2 hfr
                  generalize f k = fk at *
                  go_wp2_with fail
                  go_quiet (fail)
                  go_wp2_with fail
                  go_roundg (j + 1 - (k + 1))
                  case measure => have := GK.out; omega
                  case rel => exact NK.out _
                | cons z m =>
                  have hzx := OO.out.2 k z m (by omega) (by rw [hSk, hrd])
                  have hlt : f k < r.length := by
                    have := congrArg List.length hrd
                    simp at this
                    omega
                  have hrx : r[f k]? = some z := by
                    have h3 := List.drop_eq_getElem_cons hlt
                    rw [hrd] at h3
                    injection h3 with h3 _
                    rw [List.getElem?_eq_getElem hlt, ← h3]
                  obtain ⟨b, rfl, z5⟩ := z2 (f k) z hrx
                  have t3 : decide (((f k : Nat) : Int) < (r.length : Int)) = true := by simp; omega
                  have hf1 : ((f k : Nat) : Int) < (r.length : Int) := by omega
                  have hf0 : (0 : Int) ≤ ((f k : Nat) : Int) := by omega
                  have tz : (z == x) = false := by simpa using hzx
                  clear hSk hrx z2 hrd hzx
                  generalize f k = fk at *
                  go_wp2_with fail
                  go_quiet (fail)
                  go_wp2_with fail
                  go_roundg (j + 1 - (k + 1))
                  case measure => have := GK.out; omega
                  case rel => exact NK.out _
            · have HW := Lib.hid hw
              clear hw hgk
              by_cases hki : (k : Int) < (i : Int)
              · have t2 : decide ((k : Int) < (i : Int)) = true := by simpa using hki
                go_wp2_with fail
                go_roundg (all.length - (q + 1))
                case measure => have := G.out; omega
                case rel => rw [HW.out]; exact NX.out _
              · have t2 : decide ((k : Int) < (i : Int)) = false := by simpa using hki
                go_wp2_with fail
                go_roundg (all.length - (q + 1))
                case measure => have := G.out; omega
                case rel => rw [HW.out]; exact NX.out _
        · have FN := Lib.hid (FIN.out wr hO.turn)
          have t1 : decide ((q : Int) < (all.length : Int)) = false := by simp; omega
          clear hg hdrop hO hprev
          go_wp2
          go_ret
          exact ⟨rfl, FN.out⟩
def InRowsB (W : World) (v : Value) : Prop := ∃ LL, RowsAt W v LL ∧ LL.length ≤ 9223372036854775807 ∧ ∀ x ∈ LL, x.length ≤ 9223372036854775807
theorem ordered_any (a0 : Option Addr) (l0 c0 : Nat) (w : World) (h0 : InRowsB w (.slice a0 l0 c0)) :
    Calls Try.prog 6 #[.slice a0 l0 c0] w fun e w' => e = .returned (.bool true) ∧ Below w.heap.size w w' := by
  obtain ⟨A, ha, la, ra⟩ := h0
  exact ordered_walk ha la ra
end Go.Proofs.Ytibmimdlgbhdnaa
