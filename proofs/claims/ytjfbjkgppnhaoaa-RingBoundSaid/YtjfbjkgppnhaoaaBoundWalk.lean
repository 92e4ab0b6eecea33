/-
  The walk of RingBound: never is more in a ring than its size, nor at a place that is none.
-/
import Derived.Test.YtjfbjkgppnhaoaaRingSt
import Derived.Test.YtjfbjkgppnhaoaaActR
import Derived.StillTailTactics

namespace Go.Proofs.Ytjfbjkgppnhaoaa
open Go.ChangeShapes Go.WideShapes Go.ChangeAt Go.RowKit
set_option linter.unusedVariables false

theorem wp_tail_anyR {P : Program} {id : Nat} {Q : Exit → Act → World → Prop} {a : Act} {w : World} {l : List Oper} (n : Nat) (hm : P.follows .mixedOrders = true) (hB : Region.lexTailB .any l.toArray n = true)
    (h : ∀ W, W = w.drew → wpStill P l.toArray W (fun a' => wpList P l.toArray Q (l.drop n) a' W) (l.take n) a) : (Code.region id l.toArray true).wp P Q a w :=
  wp_region_still_tail n hm hB (h _ rfl)
theorem Near.more {r pb : Nat} {a b c : World} (h : Near r pb a b) (k : Below b.heap.size b c) : Near r pb a c :=
  ⟨k.os.trans h.os, k.tape.trans h.tape, k.output.trans h.output, Nat.le_trans h.size k.size, fun i hi h1 h2 => (k.block i (Nat.lt_of_lt_of_le hi h.size)).trans (h.block i hi h1 h2)⟩
theorem same_rows {w : World} {b1 b2 n1 n2 : Nat} {v1 v2 : Value} {l l' : List (Int × Int)} (h1 : w.ownsRow b1 77 2 v1 n1 (icells l)) (h2 : w.ownsRow b2 77 2 v2 n2 (icells l')) (hl : l.length = n1) (hl' : l'.length = n2) (e : l' = l) (hs : n1 ≤ 1000) :
    Calls Try.prog 33 #[v1, v2] w fun e w' => e = .returned (.bool true) ∧ ∃ d, w' = w.drewN d := by
  subst e
  obtain rfl : n1 = n2 := hl.symm.trans hl'
  exact same_eq h1 h2 hl hs
/-- Between two acts. -/
def BRel (r pb N len : Nat) (w2 : World) (gh : Nat) (v : Value) (wr : World) : Prop :=
  ∃ (i L : Nat) (x : Nat → Int) (t : Nat → Bool), v = .int .i64 (i : Int) ∧ i ≤ len ∧ i ≤ 60 ∧ gh = 60 - i ∧ L ≤ i ∧ Lv wr r pb N L x t ∧ Near r pb w2 wr
/-- What the last act has left, beside the items of ahead. -/
structure Aft (W : World) (r pb N L : Nat) (x : Nat → Int) (t : Nat → Bool) (w2 : World) (i : Nat) (b1 n1 : Nat) (v1 : Value) (l : List (Int × Int)) (ok : Bool) : Prop where
  lv : Lv W r pb N L x t
  nr : Near r pb w2 W
  le : L ≤ i + 1
  row : W.ownsRow b1 77 2 v1 n1 (icells l)
  len : l.length = n1
  same : ok = true ∨ its N L x t N = l

set_option maxRecDepth 100000 in
set_option maxHeartbeats 16000000 in
theorem bound_walk (a0 : Int) (ad : Option Addr) (b off len cap : Nat) (had : len = 0 ∨ ad = some ⟨b, off, none⟩) (K A2 X2 : Nat → Int) (w : World) (hl : ActsR w b off len K A2 X2) (hb : 0 < len → b < w.heap.size) (hlen : len ≤ 9223372036854775807) :
    Calls Try.prog 10 #[.int .i64 a0, .slice ad len cap] w fun e w' => e = .returned (.bool true) ∧ Below w.heap.size w w' := by
  obtain ⟨R, r0, r9, HR⟩ := rest_any a0 9 (by decide) (by decide)
  obtain ⟨N, hN⟩ : ∃ N : Nat, 1 + R = (N : Int) := ⟨(1 + R).toNat, by omega⟩
  have N1 : 1 ≤ N := by omega
  have N9 : N ≤ 9 := by omega
  have H0 := Lib.hid (ring_awake w)
  have H1 := Lib.hid HR
  have HN := Lib.hid (new_ring N N1 N9)
  have en := Lib.hid hN
  have AD := Lib.hid had
  clear HR hN had
  go_enter Try.func10, Try.ntmps10
  go_wp2_with fail
  refine H0.out.mono ?_
  rintro e w1 ⟨rfl, b1⟩
  go_wp2_with fail
  refine (H1.out _).mono ?_
  rintro e w1' ⟨rfl, rfl⟩
  go_wp2_with fail
  rw [en.out]
  refine (HN.out _).mono ?_
  rintro e w2 ⟨rfl, ry, b2, s2⟩
  have LV : Lv w2 (w1.heap.size + 1) w1.heap.size N 0 (fun _ => 0) (fun _ => false) := by
    unfold Lv
    rw [show its N 0 (fun _ => 0) (fun _ => false) N = [] from List.filterMap_eq_nil_iff.2 (fun _ _ => rfl)]
    exact ry
  have R0 : BRel (w1.heap.size + 1) w1.heap.size N len w2 60 (.int .i64 0) w2 := ⟨0, 0, _, _, rfl, Nat.zero_le _, Nat.zero_le _, rfl, Nat.le_refl _, LV, Near.refl _ _ _⟩
  have z1 := b1.size
  have fin : ∀ wr, Near (w1.heap.size + 1) w1.heap.size w2 wr → Below w.heap.size w wr := fun wr hn => (b1.trans (b2.mono b1.size)).trans (hn.below (by omega) (by omega) (by omega))
  have HX := Lib.hid (fun wr (hn : Near (w1.heap.size + 1) w1.heap.size w2 wr) i (hi : i < len) => show wr.cell? ⟨b, off + i * 3, none⟩ = some (.int .i64 (K i)) ∧ wr.cell? ⟨b, off + i * 3 + 1, none⟩ = some (.int .i64 (A2 i)) ∧ wr.cell? ⟨b, off + i * 3 + 2, none⟩ = some (.int .i64 (X2 i)) from by
    have hbb := hb (by omega)
    have hB := (fin wr hn).block b hbb
    obtain ⟨q0, q1, q2⟩ := hl i hi
    exact ⟨(World.cell?_of_block (w := w) hB).trans q0, (World.cell?_of_block (w := w) hB).trans q1, (World.cell?_of_block (w := w) hB).trans q2⟩)
  have FIN := Lib.hid fin
  have rw2 : w1.heap.size + 1 < w2.heap.size := by omega
  have pw2 : w1.heap.size < w2.heap.size := by omega
  clear ry b1 b2 s2 LV z1 fin hl hb H0 H1 HN en
  go_wp2_with fail
  generalize w1.heap.size + 1 = r at *
  generalize w1.heap.size = pb at *
  go_loopg [8] 60 (fun gh v8 wr => BRel r pb N len w2 gh v8 wr)
  case atStart => exact R0
  case round =>
    clear R0
    obtain ⟨i, L, x, t, rfl, hi, hi60, hg, hL, hlv, hnr⟩ := hrel
    by_cases hil : i < len
    · by_cases hi6 : i < 60
      · obtain rfl := AD.out.resolve_left (by omega)
        have hi6' : (i : Int) < 60 := by omega
        obtain ⟨kk, k0, k4, HK⟩ := rest_any (K i) 4 (by decide) (by decide)
        have HK := Lib.hid HK
        obtain ⟨x0, x1, x2⟩ := HX.out wr hnr i hil
        have hrz : r < wr.heap.size := Nat.lt_of_lt_of_le rw2 hnr.size
        have hpz : pb < wr.heap.size := Nat.lt_of_lt_of_le pw2 hnr.size
        have hlv1 : Lv (wr.alloc (.cells #[.int .i64 (K i), .int .i64 (A2 i), .int .i64 (X2 i)] 66)) r pb N L x t := hlv.below ((Below.refl _ wr).alloc (Nat.le_refl _) _) hrz hpz
        have I1 := Lib.hid (hlv1.items (by omega) N1 N9)
        have cc0 := World.cell?_alloc_new wr #[.int .i64 (K i), .int .i64 (A2 i), .int .i64 (X2 i)] 66 0
        have cc1 := World.cell?_alloc_new wr #[.int .i64 (K i), .int .i64 (A2 i), .int .i64 (X2 i)] 66 1
        have cc2 := World.cell?_alloc_new wr #[.int .i64 (K i), .int .i64 (A2 i), .int .i64 (X2 i)] 66 2
        have E5 := Lib.hid (And.intro hlv1 (hnr.more ((Below.refl _ wr).alloc (Nat.le_refl _) (.cells #[.int .i64 (K i), .int .i64 (A2 i), .int .i64 (X2 i)] 66))))
        have zz : wr.heap.size < (wr.alloc (.cells #[.int .i64 (K i), .int .i64 (A2 i), .int .i64 (X2 i)] 66)).heap.size := by simp
        clear hlv hnr hlv1
        go_wp2_with fail
        refine I1.out.mono ?_
        rintro e W1 ⟨v1, rfl, hrow, bel1⟩
        obtain ⟨n1, hn1⟩ : ∃ n1, (its N L x t N).length = n1 := ⟨_, rfl⟩
        rw [hn1] at hrow
        obtain ⟨o1, p1, rfl, _⟩ := row_slice hrow
        have c0 := (bel1.cell (p := ⟨wr.heap.size, 0, none⟩) zz).trans cc0
        have c1 := (bel1.cell (p := ⟨wr.heap.size, 1, none⟩) zz).trans cc1
        have c2 := (bel1.cell (p := ⟨wr.heap.size, 2, none⟩) zz).trans cc2
        simp only [List.getElem?_toArray, List.getElem?_cons_zero, List.getElem?_cons_succ] at c0 c1 c2
        have hlv2 := E5.out.1.below bel1 (by omega) (by omega)
        have hnr2 := E5.out.2.more bel1
        have E6 := Lib.hid (And.intro hlv2 (And.intro hnr2 (And.intro hrow hn1)))
        have rlt : ∀ k, (Value.slice o1 n1 p1).ownBlock = some k → k ≠ r ∧ k ≠ pb ∧ k < W1.heap.size := fun k hk => by
          have := row_cells hrow hk
          simp only [World.size_alloc] at this
          omega
        have RLT := Lib.hid rlt
        clear x0 x1 x2 I1 cc0 cc1 cc2 E5 bel1 hrow hn1 hlv2 hnr2 rlt zz
        by_cases hk2 : kk = 2
        · subst hk2
          have C := Lib.hid (E6.out.1.drop_any (by omega) N1 N9)
          clear k0 k4
          go_wp2_with fail
          refine (HK.out _).mono ?_
          rintro e W1' ⟨rfl, rfl⟩
          go_wp2_with fail
          refine C.out.mono ?_
          rintro e W2 ⟨v, ok, rfl, L', x', t', q1, q2, q3, q4, q5⟩
          have AF := Lib.hid (show Aft W2 r pb N L' x' t' w2 i (wr.alloc (.cells #[.int .i64 (K i), .int .i64 (A2 i), .int .i64 (X2 i)] 66)).heap.size n1 (.slice o1 n1 p1) (its N L x t N) ok from ⟨q1, E6.out.2.1.trans q2, by omega, row_keep (e := 0) E6.out.2.2.1 (fun k hk => by
            obtain ⟨h1, h2, h3⟩ := RLT.out k hk
            exact q2.block k h3 h1 h2), E6.out.2.2.2, q5.imp id (fun q => by obtain ⟨rfl, rfl, rfl⟩ := q; rfl)⟩)
          clear q1 q2 q3 q4 q5 C c0 c1 c2
          have I2 := Lib.hid (AF.out.lv.items (by have := AF.out.le; omega) N1 N9)
          go_wp2_with fail
          refine I2.out.mono ?_
          rintro e W3 ⟨v3, rfl, hrow3, bel3⟩
          obtain ⟨m, hm⟩ : ∃ m, (its N L' x' t' N).length = m := ⟨_, rfl⟩
          rw [hm] at hrow3
          obtain ⟨o3, p3, rfl, _⟩ := row_slice hrow3
          have rz := AF.out.lv.blocks
          have lv3 : Lv W3 r pb N L' x' t' := AF.out.lv.below bel3 rz.1 (rz.2 (by omega))
          have nr3 := AF.out.nr.more bel3
          have row3 := row_keep (e := 0) AF.out.row (fun k hk => bel3.block k (row_cells AF.out.row hk).2.1)
          have mN : m ≤ N := by rw [← hm]; exact its_len
          have mNb : decide (N < m) = false := by simp; omega
          have LN := lv3.len_is
          rw [hm] at LN
          have LN := Lib.hid LN
          have F3 := Lib.hid (And.intro lv3 (And.intro nr3 (And.intro row3 (And.intro hrow3 hm))))
          clear rz lv3 nr3 row3 hrow3 hm bel3 I2
          cases ok with
          | true =>
            go_wp2_with fail
            refine LN.out.mono ?_
            rintro e W4 ⟨rfl, rfl⟩
            have FF := Lib.hid (And.intro F3.out.1 (And.intro F3.out.2.1 (And.intro F3.out.2.2.2.1 F3.out.2.2.2.2)))
            clear LN F3
            go_wp2_with fail
            have I0 : DrewRel W3 m m (.int .i64 0) W3 := ⟨0, rfl, Nat.zero_le _, rfl, 0, rfl⟩
            go_loopg [13] m (fun gh v wz => DrewRel W3 m gh v wz)
            case atStart => exact I0
            case round =>
              clear I0
              obtain ⟨j, rfl, hj, hg2, hd⟩ := hrel
              by_cases hjm : j < m
              · obtain ⟨q, hq⟩ : ∃ q, (its N L' x' t' N)[j]? = some q := ⟨_, List.getElem?_eq_getElem (by rw [FF.out.2.2.2]; exact hjm)⟩
                obtain ⟨i5, h5, _, hqe⟩ := its_mem (List.mem_of_getElem? hq)
                obtain ⟨g3, k3, e3, y0, y1⟩ := row77_at FF.out.2.2.1 FF.out.2.2.2 hq
                injection e3 with e3 _ e4
                subst e3
                have y0 := drew_cell hd y0
                have q1 : (L' : Int) ≤ q.1 := by rw [hqe]; simp only; omega
                have q2 : q.1 < (L' : Int) + (N : Int) := by rw [hqe]; simp only; omega
                have ll := AF.out.le
                have LQ := Lib.hid (fun d => show Calls Try.prog 35 #[.pointer (some ⟨r, 0, none⟩)] (wr.drewN d) (fun e w' => e = Ending.returned (.int .i64 (L' : Int)) ∧ ∃ m, w' = wr.drewN m) from by
                  obtain ⟨d0, e0⟩ := hd
                  rw [e0]
                  exact (((FF.out.1.drewN d0).drewN d).low_is).mono fun e w' ⟨a, b⟩ => ⟨a, d, b.symm⟩)
                have D := Lib.hid hd
                have t1 : decide (q.1 < (L' : Int)) = false := by simp; omega
                have t2 : decide ((L' : Int) + (N : Int) ≤ q.1) = false := by simp; omega
                have t3 : IntKind.i64.wrap ((L' : Int) + (N : Int)) = (L' : Int) + (N : Int) := IntWalk.i64_in _ (by omega)
                by_cases hj0 : j = 0
                · have t4 : decide ((0 : Int) < ((j : Nat) : Int)) = false := by simp; omega
                  have t5 : decide (0 < j) = false := by simp; omega
                  clear hq e4 hd hqe h5 y1 hj0
                  generalize q.1 = qa at y0 q1 q2 t1 t2
                  go_wp2_with fail
                  go_quiet ((go_at_call 35; exact LQ.out _))
                  go_wp2_with fail
                  go_roundg (m - (j + 1))
                  case measure => omega
                  case rel => exact ⟨j + 1, by go_num, by omega, rfl, drew_more D.out _⟩
                · obtain ⟨p, hp⟩ : ∃ p, (its N L' x' t' N)[j - 1]? = some p := ⟨_, List.getElem?_eq_getElem (by rw [FF.out.2.2.2]; omega)⟩
                  obtain ⟨g4, k4, e5, z0, z1⟩ := row77_at FF.out.2.2.1 FF.out.2.2.2 hp
                  injection e5 with e5 _ e6
                  injection e5 with e5
                  injection e5 with e5
                  subst e5
                  have z0 := drew_cell hd z0
                  have ord : p.1 < q.1 := by
                    obtain ⟨hp1, hp2⟩ := List.getElem?_eq_some_iff.1 hp
                    obtain ⟨hq1, hq2⟩ := List.getElem?_eq_some_iff.1 hq
                    have := List.pairwise_iff_getElem.1 (its_sorted (n := N) (L := L') (x := x') (t := t') N) (j - 1) j hp1 hq1 (by omega)
                    rw [hp2, hq2] at this
                    exact this
                  have t4 : decide ((0 : Int) < ((j : Nat) : Int)) = true := by simp; omega
                  have t5 : decide (0 < j) = true := by simp; omega
                  have t6 : decide (q.1 ≤ p.1) = false := by simp; omega
                  have t7 : IntKind.i64.wrap (((j : Nat) : Int) - 1) = ((j : Nat) : Int) - 1 := IntWalk.i64_in _ (by omega)
                  have t8 : (0 : Int) ≤ ((j : Nat) : Int) - 1 := by omega
                  have t9 : (((j : Nat) : Int) - 1).toNat = j - 1 := by omega
                  have t10 : ((j : Nat) : Int) - 1 < ((m : Nat) : Int) := by omega
                  clear hq e4 hd hqe h5 y1 hj0 hp e6 z1
                  generalize q.1 = qa at y0 q1 q2 t1 t2 ord t6
                  generalize p.1 = qp at z0 ord t6
                  go_wp2_with fail
                  go_quiet ((go_at_call 35; exact LQ.out _))
                  go_wp2_with fail
                  go_roundg (m - (j + 1))
                  case measure => omega
                  case rel => exact ⟨j + 1, by go_num, by omega, rfl, drew_more D.out _⟩
              · have D := Lib.hid hd
                clear hd
                go_wp2_with fail
                go_roundg (60 - (i + 1))
                case measure => omega
                case rel =>
                  obtain ⟨d, hd⟩ := D.out
                  exact ⟨i + 1, L', x', t', by go_num, by omega, by omega, rfl, AF.out.le, by rw [hd]; exact FF.out.1.drewN d, by rw [hd]; exact FF.out.2.1.trans (Near.drewN d)⟩
          | false =>
            have SM := Lib.hid (same_rows F3.out.2.2.1 F3.out.2.2.2.1 AF.out.len F3.out.2.2.2.2 (AF.out.same.resolve_left (by simp)) (by have e := AF.out.same.resolve_left (by simp); have h1 := AF.out.len; have h2 := F3.out.2.2.2.2; rw [e] at h2; omega))
            go_wp2_with fail
            refine LN.out.mono ?_
            rintro e W4 ⟨rfl, rfl⟩
            go_wp2_with fail
            refine SM.out.mono ?_
            rintro e W4 ⟨rfl, d4, rfl⟩
            have FF := Lib.hid (show Lv (W3.drewN d4) r pb N L' x' t' ∧ Near r pb w2 (W3.drewN d4) ∧ (W3.drewN d4).ownsRow W2.heap.size 77 2 (.slice o3 m p3) m (icells (its N L' x' t' N)) ∧ (its N L' x' t' N).length = m from ⟨F3.out.1.drewN d4, F3.out.2.1.trans (Near.drewN d4), row_keep (e := 0) F3.out.2.2.2.1 (fun _ _ => rfl), F3.out.2.2.2.2⟩)
            clear LN F3 SM
            generalize W3.drewN d4 = W3 at *
            go_wp2_with fail
            have I0 : DrewRel W3 m m (.int .i64 0) W3 := ⟨0, rfl, Nat.zero_le _, rfl, 0, rfl⟩
            go_loopg [13] m (fun gh v wz => DrewRel W3 m gh v wz)
            case atStart => exact I0
            case round =>
              clear I0
              obtain ⟨j, rfl, hj, hg2, hd⟩ := hrel
              by_cases hjm : j < m
              · obtain ⟨q, hq⟩ : ∃ q, (its N L' x' t' N)[j]? = some q := ⟨_, List.getElem?_eq_getElem (by rw [FF.out.2.2.2]; exact hjm)⟩
                obtain ⟨i5, h5, _, hqe⟩ := its_mem (List.mem_of_getElem? hq)
                obtain ⟨g3, k3, e3, y0, y1⟩ := row77_at FF.out.2.2.1 FF.out.2.2.2 hq
                injection e3 with e3 _ e4
                subst e3
                have y0 := drew_cell hd y0
                have q1 : (L' : Int) ≤ q.1 := by rw [hqe]; simp only; omega
                have q2 : q.1 < (L' : Int) + (N : Int) := by rw [hqe]; simp only; omega
                have ll := AF.out.le
                have LQ := Lib.hid (fun d => show Calls Try.prog 35 #[.pointer (some ⟨r, 0, none⟩)] (wr.drewN d) (fun e w' => e = Ending.returned (.int .i64 (L' : Int)) ∧ ∃ m, w' = wr.drewN m) from by
                  obtain ⟨d0, e0⟩ := hd
                  rw [e0]
                  exact (((FF.out.1.drewN d0).drewN d).low_is).mono fun e w' ⟨a, b⟩ => ⟨a, d, b.symm⟩)
                have D := Lib.hid hd
                have t1 : decide (q.1 < (L' : Int)) = false := by simp; omega
                have t2 : decide ((L' : Int) + (N : Int) ≤ q.1) = false := by simp; omega
                have t3 : IntKind.i64.wrap ((L' : Int) + (N : Int)) = (L' : Int) + (N : Int) := IntWalk.i64_in _ (by omega)
                by_cases hj0 : j = 0
                · have t4 : decide ((0 : Int) < ((j : Nat) : Int)) = false := by simp; omega
                  have t5 : decide (0 < j) = false := by simp; omega
                  clear hq e4 hd hqe h5 y1 hj0
                  generalize q.1 = qa at y0 q1 q2 t1 t2
                  go_wp2_with fail
                  go_quiet ((go_at_call 35; exact LQ.out _))
                  go_wp2_with fail
                  go_roundg (m - (j + 1))
                  case measure => omega
                  case rel => exact ⟨j + 1, by go_num, by omega, rfl, drew_more D.out _⟩
                · obtain ⟨p, hp⟩ : ∃ p, (its N L' x' t' N)[j - 1]? = some p := ⟨_, List.getElem?_eq_getElem (by rw [FF.out.2.2.2]; omega)⟩
                  obtain ⟨g4, k4, e5, z0, z1⟩ := row77_at FF.out.2.2.1 FF.out.2.2.2 hp
                  injection e5 with e5 _ e6
                  injection e5 with e5
                  injection e5 with e5
                  subst e5
                  have z0 := drew_cell hd z0
                  have ord : p.1 < q.1 := by
                    obtain ⟨hp1, hp2⟩ := List.getElem?_eq_some_iff.1 hp
                    obtain ⟨hq1, hq2⟩ := List.getElem?_eq_some_iff.1 hq
                    have := List.pairwise_iff_getElem.1 (its_sorted (n := N) (L := L') (x := x') (t := t') N) (j - 1) j hp1 hq1 (by omega)
                    rw [hp2, hq2] at this
                    exact this
                  have t4 : decide ((0 : Int) < ((j : Nat) : Int)) = true := by simp; omega
                  have t5 : decide (0 < j) = true := by simp; omega
                  have t6 : decide (q.1 ≤ p.1) = false := by simp; omega
                  have t7 : IntKind.i64.wrap (((j : Nat) : Int) - 1) = ((j : Nat) : Int) - 1 := IntWalk.i64_in _ (by omega)
                  have t8 : (0 : Int) ≤ ((j : Nat) : Int) - 1 := by omega
                  have t9 : (((j : Nat) : Int) - 1).toNat = j - 1 := by omega
                  have t10 : ((j : Nat) : Int) - 1 < ((m : Nat) : Int) := by omega
                  clear hq e4 hd hqe h5 y1 hj0 hp e6 z1
                  generalize q.1 = qa at y0 q1 q2 t1 t2 ord t6
                  generalize p.1 = qp at z0 ord t6
                  go_wp2_with fail
                  go_quiet ((go_at_call 35; exact LQ.out _))
                  go_wp2_with fail
                  go_roundg (m - (j + 1))
                  case measure => omega
                  case rel => exact ⟨j + 1, by go_num, by omega, rfl, drew_more D.out _⟩
              · have D := Lib.hid hd
                clear hd
                go_wp2_with fail
                go_roundg (60 - (i + 1))
                case measure => omega
                case rel =>
                  obtain ⟨d, hd⟩ := D.out
                  exact ⟨i + 1, L', x', t', by go_num, by omega, by omega, rfl, AF.out.le, by rw [hd]; exact FF.out.1.drewN d, by rw [hd]; exact FF.out.2.1.trans (Near.drewN d)⟩
        · have hk2b : (kk == 2) = false := by simpa using hk2
          obtain ⟨R4, e0, e1, HR4⟩ := rest_any (A2 i) 14 (by decide) (by decide)
          have HR4 := Lib.hid HR4
          have LW := Lib.hid (fun d => (E6.out.1.drewN d).low_is)
          have PT := Lib.hid (fun d => (E6.out.1.drewN d).put_any (by omega) N9 ((L : Int) + R4 - 3) (by omega) (X2 i))
          have s1 : IntKind.i64.wrap ((L : Int) + R4) = (L : Int) + R4 := IntWalk.i64_in _ (by omega)
          have s2 : IntKind.i64.wrap ((L : Int) + R4 - 3) = (L : Int) + R4 - 3 := IntWalk.i64_in _ (by omega)
          have S2 := Lib.hid (And.intro s1 s2)
          clear k0 k4 hk2 s1 s2
          go_wp2_with fail
          refine (HK.out _).mono ?_
          rintro e W1' ⟨rfl, rfl⟩
          go_wp2_with fail
          refine wp_tail_anyR 10 (by kernel_rfl) (by kernel_rfl) ?_
          intro W hW
          have F := Lib.hid (show Calls Try.prog 29 #[.pointer (some ⟨r, 0, none⟩), .int .i64 ((L : Int) + R4 - 3), .int .i64 (X2 i)] W fun e w' => ∃ ok, e = .returned (.bool ok) ∧ Done W r pb N L x t w' ok from by rw [hW]; exact PT.out 1)
          have G := Lib.hid (show Calls Try.prog 35 #[.pointer (some ⟨r, 0, none⟩)] W fun e w' => e = .returned (.int .i64 (L : Int)) ∧ w' = W from by rw [hW]; exact (LW.out 1).mono fun e w' ⟨a, b⟩ => ⟨a, b.symm⟩)
          have d1 : W.cell? ⟨wr.heap.size, 1, none⟩ = some (.int .i64 (A2 i)) := by rw [hW]; exact c1
          have d2 : W.cell? ⟨wr.heap.size, 2, none⟩ = some (.int .i64 (X2 i)) := by rw [hW]; exact c2
          have E6 := Lib.hid (show Lv W r pb N L x t ∧ Near r pb w2 W ∧ W.ownsRow (wr.alloc (.cells #[.int .i64 (K i), .int .i64 (A2 i), .int .i64 (X2 i)] 66)).heap.size 77 2 (.slice o1 n1 p1) n1 (icells (its N L x t N)) ∧ (its N L x t N).length = n1 from by
            rw [hW]
            exact ⟨E6.out.1.drewN 1, E6.out.2.1.trans (Near.drewN 1), row_keep (e := 0) E6.out.2.2.1 (fun _ _ => rfl), E6.out.2.2.2⟩)
          have RLT := Lib.hid (show ∀ k, (Value.slice o1 n1 p1).ownBlock = some k → k ≠ r ∧ k ≠ pb ∧ k < W.heap.size from by rw [hW]; exact RLT.out)
          clear hW PT LW c0 c1 c2
          simp only [List.take_succ_cons, List.take_zero, List.drop_succ_cons, List.drop_zero]
          repeat still_step
          still_call G.out
          repeat still_step
          still_call ((HR4.out _).mono fun e w' ⟨a, b⟩ => ⟨a, b.symm⟩)
          repeat still_step
          refine wpStill_nil ?_
          go_wp2_with fail
          refine F.out.mono ?_
          rintro e W2 ⟨ok, rfl, L', x', t', q1, q2, q3, q4, q5⟩
          have AF := Lib.hid (show Aft W2 r pb N L' x' t' w2 i (wr.alloc (.cells #[.int .i64 (K i), .int .i64 (A2 i), .int .i64 (X2 i)] 66)).heap.size n1 (.slice o1 n1 p1) (its N L x t N) ok from ⟨q1, E6.out.2.1.trans q2, by omega, row_keep (e := 0) E6.out.2.2.1 (fun k hk => by
            obtain ⟨h1, h2, h3⟩ := RLT.out k hk
            exact q2.block k h3 h1 h2), E6.out.2.2.2, q5.imp id (fun q => by obtain ⟨rfl, rfl, rfl⟩ := q; rfl)⟩)
          clear q1 q2 q3 q4 q5 F d1 d2
          have I2 := Lib.hid (AF.out.lv.items (by have := AF.out.le; omega) N1 N9)
          go_wp2_with fail
          refine I2.out.mono ?_
          rintro e W3 ⟨v3, rfl, hrow3, bel3⟩
          obtain ⟨m, hm⟩ : ∃ m, (its N L' x' t' N).length = m := ⟨_, rfl⟩
          rw [hm] at hrow3
          obtain ⟨o3, p3, rfl, _⟩ := row_slice hrow3
          have rz := AF.out.lv.blocks
          have lv3 : Lv W3 r pb N L' x' t' := AF.out.lv.below bel3 rz.1 (rz.2 (by omega))
          have nr3 := AF.out.nr.more bel3
          have row3 := row_keep (e := 0) AF.out.row (fun k hk => bel3.block k (row_cells AF.out.row hk).2.1)
          have mN : m ≤ N := by rw [← hm]; exact its_len
          have mNb : decide (N < m) = false := by simp; omega
          have LN := lv3.len_is
          rw [hm] at LN
          have LN := Lib.hid LN
          have F3 := Lib.hid (And.intro lv3 (And.intro nr3 (And.intro row3 (And.intro hrow3 hm))))
          clear rz lv3 nr3 row3 hrow3 hm bel3 I2
          cases ok with
          | true =>
            go_wp2_with fail
            refine LN.out.mono ?_
            rintro e W4 ⟨rfl, rfl⟩
            have FF := Lib.hid (And.intro F3.out.1 (And.intro F3.out.2.1 (And.intro F3.out.2.2.2.1 F3.out.2.2.2.2)))
            clear LN F3
            go_wp2_with fail
            have I0 : DrewRel W3 m m (.int .i64 0) W3 := ⟨0, rfl, Nat.zero_le _, rfl, 0, rfl⟩
            go_loopg [13] m (fun gh v wz => DrewRel W3 m gh v wz)
            case atStart => exact I0
            case round =>
              clear I0
              obtain ⟨j, rfl, hj, hg2, hd⟩ := hrel
              by_cases hjm : j < m
              · obtain ⟨q, hq⟩ : ∃ q, (its N L' x' t' N)[j]? = some q := ⟨_, List.getElem?_eq_getElem (by rw [FF.out.2.2.2]; exact hjm)⟩
                obtain ⟨i5, h5, _, hqe⟩ := its_mem (List.mem_of_getElem? hq)
                obtain ⟨g3, k3, e3, y0, y1⟩ := row77_at FF.out.2.2.1 FF.out.2.2.2 hq
                injection e3 with e3 _ e4
                subst e3
                have y0 := drew_cell hd y0
                have q1 : (L' : Int) ≤ q.1 := by rw [hqe]; simp only; omega
                have q2 : q.1 < (L' : Int) + (N : Int) := by rw [hqe]; simp only; omega
                have ll := AF.out.le
                have LQ := Lib.hid (fun d => show Calls Try.prog 35 #[.pointer (some ⟨r, 0, none⟩)] (wr.drewN d) (fun e w' => e = Ending.returned (.int .i64 (L' : Int)) ∧ ∃ m, w' = wr.drewN m) from by
                  obtain ⟨d0, e0⟩ := hd
                  rw [e0]
                  exact (((FF.out.1.drewN d0).drewN d).low_is).mono fun e w' ⟨a, b⟩ => ⟨a, d, b.symm⟩)
                have D := Lib.hid hd
                have t1 : decide (q.1 < (L' : Int)) = false := by simp; omega
                have t2 : decide ((L' : Int) + (N : Int) ≤ q.1) = false := by simp; omega
                have t3 : IntKind.i64.wrap ((L' : Int) + (N : Int)) = (L' : Int) + (N : Int) := IntWalk.i64_in _ (by omega)
                by_cases hj0 : j = 0
                · have t4 : decide ((0 : Int) < ((j : Nat) : Int)) = false := by simp; omega
                  have t5 : decide (0 < j) = false := by simp; omega
                  clear hq e4 hd hqe h5 y1 hj0
                  generalize q.1 = qa at y0 q1 q2 t1 t2
                  go_wp2_with fail
                  go_quiet ((go_at_call 35; exact LQ.out _))
                  go_wp2_with fail
                  go_roundg (m - (j + 1))
                  case measure => omega
                  case rel => exact ⟨j + 1, by go_num, by omega, rfl, drew_more D.out _⟩
                · obtain ⟨p, hp⟩ : ∃ p, (its N L' x' t' N)[j - 1]? = some p := ⟨_, List.getElem?_eq_getElem (by rw [FF.out.2.2.2]; omega)⟩
                  obtain ⟨g4, k4, e5, z0, z1⟩ := row77_at FF.out.2.2.1 FF.out.2.2.2 hp
                  injection e5 with e5 _ e6
                  injection e5 with e5
                  injection e5 with e5
                  subst e5
                  have z0 := drew_cell hd z0
                  have ord : p.1 < q.1 := by
                    obtain ⟨hp1, hp2⟩ := List.getElem?_eq_some_iff.1 hp
                    obtain ⟨hq1, hq2⟩ := List.getElem?_eq_some_iff.1 hq
                    have := List.pairwise_iff_getElem.1 (its_sorted (n := N) (L := L') (x := x') (t := t') N) (j - 1) j hp1 hq1 (by omega)
                    rw [hp2, hq2] at this
                    exact this
                  have t4 : decide ((0 : Int) < ((j : Nat) : Int)) = true := by simp; omega
                  have t5 : decide (0 < j) = true := by simp; omega
                  have t6 : decide (q.1 ≤ p.1) = false := by simp; omega
                  have t7 : IntKind.i64.wrap (((j : Nat) : Int) - 1) = ((j : Nat) : Int) - 1 := IntWalk.i64_in _ (by omega)
                  have t8 : (0 : Int) ≤ ((j : Nat) : Int) - 1 := by omega
                  have t9 : (((j : Nat) : Int) - 1).toNat = j - 1 := by omega
                  have t10 : ((j : Nat) : Int) - 1 < ((m : Nat) : Int) := by omega
                  clear hq e4 hd hqe h5 y1 hj0 hp e6 z1
                  generalize q.1 = qa at y0 q1 q2 t1 t2 ord t6
                  generalize p.1 = qp at z0 ord t6
                  go_wp2_with fail
                  go_quiet ((go_at_call 35; exact LQ.out _))
                  go_wp2_with fail
                  go_roundg (m - (j + 1))
                  case measure => omega
                  case rel => exact ⟨j + 1, by go_num, by omega, rfl, drew_more D.out _⟩
              · have D := Lib.hid hd
                clear hd
                go_wp2_with fail
                go_roundg (60 - (i + 1))
                case measure => omega
                case rel =>
                  obtain ⟨d, hd⟩ := D.out
                  exact ⟨i + 1, L', x', t', by go_num, by omega, by omega, rfl, AF.out.le, by rw [hd]; exact FF.out.1.drewN d, by rw [hd]; exact FF.out.2.1.trans (Near.drewN d)⟩
          | false =>
            have SM := Lib.hid (same_rows F3.out.2.2.1 F3.out.2.2.2.1 AF.out.len F3.out.2.2.2.2 (AF.out.same.resolve_left (by simp)) (by have e := AF.out.same.resolve_left (by simp); have h1 := AF.out.len; have h2 := F3.out.2.2.2.2; rw [e] at h2; omega))
            go_wp2_with fail
            refine LN.out.mono ?_
            rintro e W4 ⟨rfl, rfl⟩
            go_wp2_with fail
            refine SM.out.mono ?_
            rintro e W4 ⟨rfl, d4, rfl⟩
            have FF := Lib.hid (show Lv (W3.drewN d4) r pb N L' x' t' ∧ Near r pb w2 (W3.drewN d4) ∧ (W3.drewN d4).ownsRow W2.heap.size 77 2 (.slice o3 m p3) m (icells (its N L' x' t' N)) ∧ (its N L' x' t' N).length = m from ⟨F3.out.1.drewN d4, F3.out.2.1.trans (Near.drewN d4), row_keep (e := 0) F3.out.2.2.2.1 (fun _ _ => rfl), F3.out.2.2.2.2⟩)
            clear LN F3 SM
            generalize W3.drewN d4 = W3 at *
            go_wp2_with fail
            have I0 : DrewRel W3 m m (.int .i64 0) W3 := ⟨0, rfl, Nat.zero_le _, rfl, 0, rfl⟩
            go_loopg [13] m (fun gh v wz => DrewRel W3 m gh v wz)
            case atStart => exact I0
            case round =>
              clear I0
              obtain ⟨j, rfl, hj, hg2, hd⟩ := hrel
              by_cases hjm : j < m
              · obtain ⟨q, hq⟩ : ∃ q, (its N L' x' t' N)[j]? = some q := ⟨_, List.getElem?_eq_getElem (by rw [FF.out.2.2.2]; exact hjm)⟩
                obtain ⟨i5, h5, _, hqe⟩ := its_mem (List.mem_of_getElem? hq)
                obtain ⟨g3, k3, e3, y0, y1⟩ := row77_at FF.out.2.2.1 FF.out.2.2.2 hq
                injection e3 with e3 _ e4
                subst e3
                have y0 := drew_cell hd y0
                have q1 : (L' : Int) ≤ q.1 := by rw [hqe]; simp only; omega
                have q2 : q.1 < (L' : Int) + (N : Int) := by rw [hqe]; simp only; omega
                have ll := AF.out.le
                have LQ := Lib.hid (fun d => show Calls Try.prog 35 #[.pointer (some ⟨r, 0, none⟩)] (wr.drewN d) (fun e w' => e = Ending.returned (.int .i64 (L' : Int)) ∧ ∃ m, w' = wr.drewN m) from by
                  obtain ⟨d0, e0⟩ := hd
                  rw [e0]
                  exact (((FF.out.1.drewN d0).drewN d).low_is).mono fun e w' ⟨a, b⟩ => ⟨a, d, b.symm⟩)
                have D := Lib.hid hd
                have t1 : decide (q.1 < (L' : Int)) = false := by simp; omega
                have t2 : decide ((L' : Int) + (N : Int) ≤ q.1) = false := by simp; omega
                have t3 : IntKind.i64.wrap ((L' : Int) + (N : Int)) = (L' : Int) + (N : Int) := IntWalk.i64_in _ (by omega)
                by_cases hj0 : j = 0
                · have t4 : decide ((0 : Int) < ((j : Nat) : Int)) = false := by simp; omega
                  have t5 : decide (0 < j) = false := by simp; omega
                  clear hq e4 hd hqe h5 y1 hj0
                  generalize q.1 = qa at y0 q1 q2 t1 t2
                  go_wp2_with fail
                  go_quiet ((go_at_call 35; exact LQ.out _))
                  go_wp2_with fail
                  go_roundg (m - (j + 1))
                  case measure => omega
                  case rel => exact ⟨j + 1, by go_num, by omega, rfl, drew_more D.out _⟩
                · obtain ⟨p, hp⟩ : ∃ p, (its N L' x' t' N)[j - 1]? = some p := ⟨_, List.getElem?_eq_getElem (by rw [FF.out.2.2.2]; omega)⟩
                  obtain ⟨g4, k4, e5, z0, z1⟩ := row77_at FF.out.2.2.1 FF.out.2.2.2 hp
                  injection e5 with e5 _ e6
                  injection e5 with e5
                  injection e5 with e5
                  subst e5
                  have z0 := drew_cell hd z0
                  have ord : p.1 < q.1 := by
                    obtain ⟨hp1, hp2⟩ := List.getElem?_eq_some_iff.1 hp
                    obtain ⟨hq1, hq2⟩ := List.getElem?_eq_some_iff.1 hq
                    have := List.pairwise_iff_getElem.1 (its_sorted (n := N) (L := L') (x := x') (t := t') N) (j - 1) j hp1 hq1 (by omega)
                    rw [hp2, hq2] at this
                    exact this
                  have t4 : decide ((0 : Int) < ((j : Nat) : Int)) = true := by simp; omega
                  have t5 : decide (0 < j) = true := by simp; omega
                  have t6 : decide (q.1 ≤ p.1) = false := by simp; omega
                  have t7 : IntKind.i64.wrap (((j : Nat) : Int) - 1) = ((j : Nat) : Int) - 1 := IntWalk.i64_in _ (by omega)
                  have t8 : (0 : Int) ≤ ((j : Nat) : Int) - 1 := by omega
                  have t9 : (((j : Nat) : Int) - 1).toNat = j - 1 := by omega
                  have t10 : ((j : Nat) : Int) - 1 < ((m : Nat) : Int) := by omega
                  clear hq e4 hd hqe h5 y1 hj0 hp e6 z1
                  generalize q.1 = qa at y0 q1 q2 t1 t2 ord t6
                  generalize p.1 = qp at z0 ord t6
                  go_wp2_with fail
                  go_quiet ((go_at_call 35; exact LQ.out _))
                  go_wp2_with fail
                  go_roundg (m - (j + 1))
                  case measure => omega
                  case rel => exact ⟨j + 1, by go_num, by omega, rfl, drew_more D.out _⟩
              · have D := Lib.hid hd
                clear hd
                go_wp2_with fail
                go_roundg (60 - (i + 1))
                case measure => omega
                case rel =>
                  obtain ⟨d, hd⟩ := D.out
                  exact ⟨i + 1, L', x', t', by go_num, by omega, by omega, rfl, AF.out.le, by rw [hd]; exact FF.out.1.drewN d, by rw [hd]; exact FF.out.2.1.trans (Near.drewN d)⟩
      · have X := Lib.hid hnr
        clear hnr hlv
        go_wp2
        go_ret
        exact ⟨rfl, FIN.out _ X.out⟩
    · have X := Lib.hid hnr
      clear hnr hlv
      go_wp2
      go_ret
      exact ⟨rfl, FIN.out _ X.out⟩
theorem bound_any (a0 : Int) (a1 : Option Addr) (len cap : Nat) (w : World) (hI : IsActsR w a1 len) :
    Calls Try.prog 10 #[.int .i64 a0, .slice a1 len cap] w fun e w' => e = .returned (.bool true) ∧ Below w.heap.size w w' := by
  rcases hI with h0 | ⟨b, off, K, A, N, ha, hlen, hb, hacts⟩
  · exact bound_walk a0 a1 0 0 len cap (.inl h0) (fun _ => 0) (fun _ => 0) (fun _ => 0) w (fun i hi => absurd hi (by omega)) (fun h => absurd h (by omega)) (by omega)
  · exact bound_walk a0 a1 b off len cap (.inr ha) K A N w hacts (fun _ => hb) hlen
end Go.Proofs.Ytjfbjkgppnhaoaa
