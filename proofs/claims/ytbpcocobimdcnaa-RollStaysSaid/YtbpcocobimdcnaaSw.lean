/-
  The walk of RollStays, of layer 15.
-/
import Derived.Test.YtbpcocobimdcnaaSt
import Derived.Test.YtbpcocobimdcnaaPl
import Derived.Test.YtbpcocobimdcnaaIArg
import Derived.Lib.Builder
namespace Go.Proofs.Ytbpcocobimdcnaa
open Go.ChangeShapes Go.WideShapes Go.ChangeAt Go.RowKit
set_option linter.unusedVariables false

theorem EndSp.full {L L' : List EV} {x a : Int} {ok : Bool} {p p' : Option Addr} {n : Nat} (h : EndSp L x a ok L') (hl : L.length ≤ n) (hp : ok = false → p' = p) (hL : p = none ∨ L ≠ []) : (p' = none ∨ L' ≠ []) ∧ L'.length ≤ n := by
  rcases h with ⟨_, i, e, he, _, _, _, rfl⟩ | ⟨rfl, rfl, _⟩
  · refine ⟨.inr fun f => ?_, by simpa using hl⟩
    have h1 := congrArg List.length f
    have := (List.getElem?_eq_some_iff.1 he).1
    simp at h1
    subst h1
    simp at this
  · rw [hp rfl]
    exact ⟨hL, hl⟩
theorem AddSp.full {L L' : List EV} {x win : Int} {ok : Bool} {p p' : Option Addr} {n : Nat} (h : AddSp L x win ok L') (hl : L.length ≤ n) (hp : ok = false → p' = p) (hL : p = none ∨ L ≠ []) : (p' = none ∨ L' ≠ []) ∧ L'.length ≤ n + 1 := by
  rcases h with ⟨_, _, _, cs, rfl⟩ | ⟨rfl, rfl, _⟩
  · exact ⟨.inr (by simp), by simp; omega⟩
  · rw [hp rfl]
    exact ⟨hL, by omega⟩
theorem stays_rem (x : Int) (n : Nat) (hn : 1 ≤ n) (hb : n ≤ 1000) : ∃ (y : Int) (R : Nat), x.tmod (n : Int) = y ∧ wrap64 (y + (n : Int)) = y + (n : Int) ∧ (y + (n : Int)).tmod (n : Int) = (R : Int) ∧ R < n := by
  have t1 : -(n : Int) < x.tmod n := Int.lt_tmod_of_pos x (by omega)
  have t2 : x.tmod n < n := Int.tmod_lt_of_pos x (by omega)
  obtain ⟨y, hy⟩ : ∃ y, x.tmod n = y := ⟨_, rfl⟩
  rw [hy] at t1 t2
  have e2 : (y + n).tmod n = (y + n) % n := Int.tmod_eq_emod_of_nonneg (by omega)
  have e3 : 0 ≤ (y + n) % (n : Int) := Int.emod_nonneg _ (by omega)
  have e4 : (y + n) % (n : Int) < n := Int.emod_lt_of_pos _ (by omega)
  exact ⟨y, ((y + n) % (n : Int)).toNat, hy, by unfold wrap64; omega, by omega, by omega⟩
def StRel (w : World) (n : Nat) (gh : Nat) (v6 v7 v8 : Value) (wr : World) : Prop :=
  ∃ (i : Nat) (ps : List (Option Addr)) (vs : List Value), v8 = .int .i64 (i : Int) ∧ i ≤ n ∧ gh = n - i ∧ StSt w (i + 1) ps vs v6 v7 wr
def StPost (wr : World) (b14 : Nat) (n : Nat) (p : Option Addr) (wx : World) : Prop :=
  ∃ L l a m c, Pr wx p L (.slice a m c) l ∧ (p = none ∨ L ≠ []) ∧ L.length ≤ n ∧ wx.cell? ⟨b14, 0, none⟩ = some (.slice a m c) ∧ Turn (fun _ => False) wr wx
def StEnd (w : World) (n : Nat) (ps : List (Option Addr)) (vs : List Value) (v6 v7 : Value) (gh : Nat) (v15 : Value) (wr : World) : Prop :=
  ∃ k : Nat, v15 = .int .i64 (k : Int) ∧ k ≤ n ∧ gh = n - k ∧ StSt w n ps vs v6 v7 wr
set_option maxRecDepth 100000 in
set_option maxHeartbeats 4000000 in
theorem stays_walk (a : Option Addr) (len cap : Nat) (a1 : Option Addr) (len1 cap1 : Nat) (w : World) (hA : IsActs w a len) (hI : IntArg w a1 len1) : Calls Try.prog 4 #[.slice a len cap, .slice a1 len1 cap1] w fun e w' => e = .returned (.bool true) ∧ Below w.heap.size w w' := by
  have H0 := Lib.hid (roll_awake w)
  obtain ⟨n, hn⟩ : ∃ n : Nat, min len 30 = n := ⟨_, rfl⟩
  have hn30 : n ≤ 30 := by omega
  have hnl : n ≤ len := by omega
  have HN := Lib.hid hn
  have HA := Lib.hid hA
  have HI := Lib.hid hI
  clear hn hA hI
  go_enter Try.func4, Try.ntmps4
  go_wp2_with fail
  refine H0.out.mono ?_
  rintro e w1 ⟨rfl, b1⟩
  have T1 : Turn (fun _ => False) w w1 := Turn.of_below b1
  have R0 : StRel w n n (.slice (some ⟨w1.heap.size, 0, none⟩) 1 1) (.slice (some ⟨w1.heap.size + 1, 0, none⟩) 1 1) (.int .i64 0) ((w1.alloc (.cells #[.pointer none] 24)).alloc (.cells #[.slice none 0 0] 25)) :=
    ⟨0, _, _, rfl, Nat.zero_le _, rfl, StSt.init T1⟩
  clear b1 T1 H0
  go_wp2_with fail
  go_loopg [6, 7, 8] n (fun gh v6 v7 v8 wr => StRel w n gh v6 v7 v8 wr)
  case atStart => exact R0
  case round =>
    clear R0
    obtain ⟨i, ps, vs, rfl, hi, hg, hS⟩ := hrel
    obtain ⟨va6, vc6, rfl, hv6⟩ := own_slice hS.o6
    obtain ⟨va7, vc7, rfl, hv7⟩ := own_slice hS.o7
    obtain ⟨g6, rfl⟩ := hv6 (by omega)
    obtain ⟨g7, rfl⟩ := hv7 (by omega)
    clear hv6 hv7
    obtain ⟨N, hN⟩ : ∃ N, i + 1 = N := ⟨_, rfl⟩
    rw [hN] at hS ⊢
    have hN0 : 1 ≤ N := by omega
    have hN1 : N ≤ 31 := by omega
    have HNN := Lib.hid hN
    clear hN
    by_cases hin : i < n
    · have S := Lib.hid (And.intro hS hg)
      clear hS hg
      have t1 : decide ((i : Int) < (len : Int)) = true := decide_eq_true (by omega)
      have t2 : decide ((i : Int) < 30) = true := decide_eq_true (by omega)
      obtain ⟨b, off, E, M, X, A, rfl, _, hb, hacts⟩ := HA.out.resolve_left (by omega)
      obtain ⟨x0, x1, x2, x3⟩ := hacts i (by omega)
      have x0 := S.out.1.tn.cell (fun f => f) x0
      have x1 := S.out.1.tn.cell (fun f => f) x1
      have x2 := S.out.1.tn.cell (fun f => f) x2
      have x3 := S.out.1.tn.cell (fun f => f) x3
      generalize E i = ei at *
      generalize M i = ni at *
      generalize X i = xi at *
      generalize A i = ai at *
      have hi0 : (0 : Int) ≤ (i : Int) := by omega
      have hi1 : (i : Int) < (len : Int) := by omega
      clear hacts
      have TC : Turn (fun _ => False) wr (wr.alloc (.cells #[.bool ei, .bool ni, .int .i64 xi, .int .i64 ai] 27)) := (Turn.refl _ wr).alloc _
      have C := World.cell?_alloc_new wr #[.bool ei, .bool ni, .int .i64 xi, .int .i64 ai] 27
      obtain ⟨W7, hW7⟩ : ∃ W7, W7 = wr.alloc (.cells #[.bool ei, .bool ni, .int .i64 xi, .int .i64 ai] 27) := ⟨_, rfl⟩
      rw [← hW7] at C TC
      have C0 : W7.cell? ⟨wr.heap.size, 0, none⟩ = some (.bool ei) := C 0
      have C1 : W7.cell? ⟨wr.heap.size, 1, none⟩ = some (.bool ni) := C 1
      have C2 : W7.cell? ⟨wr.heap.size, 2, none⟩ = some (.int .i64 xi) := C 2
      have C3 : W7.cell? ⟨wr.heap.size, 3, none⟩ = some (.int .i64 ai) := C 3
      have NI := Lib.hid (numbers_is W7 ei ni xi ai)
      have S := Lib.hid (And.intro (S.out.1.turn TC) S.out.2)
      clear C TC
      go_upto_region 8 with fail
      rw [← hW7]
      clear hW7 x0 x1 x2 x3
      generalize wr.heap.size = b7 at *
      -- which state it is done to
      go_upto_if 40 with fail
      go_cut [10] (fun v10 wx => (∃ k : Nat, v10 = .int .i64 (k : Int) ∧ k < N) ∧ wx = W7)
      case first =>
        by_cases hm : i < len1
        · have u1 : decide (i < len1) = true := decide_eq_true hm
          obtain ⟨bI, offI, XI, hx, hc, _, _, _⟩ := HI.out
          obtain rfl := hx.resolve_left (by omega)
          have y0 := S.out.1.tn.cell (fun f => f) (hc i hm)
          generalize XI i = xI at *
          have hm1 : (i : Int) < (len1 : Int) := by omega
          obtain ⟨y, R, p1, p2, p3, p4⟩ := stays_rem xI N hN0 (by omega)
          have nz : ((N : Int) == 0) = false := by simp; omega
          have nn : ¬ (N : Int) = 0 := by omega
          have F := Lib.hid p4
          clear hx hc p4
          go_wp2_with fail
          go_meet
          case rel => exact ⟨⟨R, rfl, F.out⟩, rfl⟩
        · have u1 : decide (i < len1) = false := decide_eq_false hm
          go_wp2_with fail
          go_meet
          case rel => exact ⟨⟨N - 1, by rw [show ((N - 1 : Nat) : Int) = (N : Int) - 1 by omega], by omega⟩, rfl⟩
      case rest =>
      obtain ⟨⟨k, rfl, hk⟩, rfl⟩ := hcut
      go_wp2_with fail
      with_reducible refine NI.out.mono ?_
      rintro en w2 ⟨idn, tn, rfl, T2⟩
      have E9 := T2.cell (fun f => f) C0
      have S := Lib.hid (And.intro (S.out.1.turn T2) S.out.2)
      clear NI T2 C0 C1 C2 C3
      -- the two states
      obtain ⟨p, hp⟩ : ∃ p, ps[k]? = some p := ⟨_, List.getElem?_eq_getElem (by rw [S.out.1.lp]; exact hk)⟩
      obtain ⟨v, hv⟩ : ∃ v, vs[k]? = some v := ⟨_, List.getElem?_eq_getElem (by rw [S.out.1.lv]; exact hk)⟩
      obtain ⟨L, l, hP, hpL, hLN⟩ := S.out.1.pr k p v hp hv
      obtain ⟨va, vc, rfl, _⟩ := own_slice hP.row.own
      have y6 : w2.cell? ⟨g6, k, none⟩ = some (.pointer p) := (S.out.1.o6.cellAt k (by omega)).trans (by rw [List.getElem?_map, hp]; rfl)
      have y7 : w2.cell? ⟨g7, k, none⟩ = some (.slice va l.length vc) := (S.out.1.o7.cellAt k (by omega)).trans hv
      have hk0 : (0 : Int) ≤ (k : Int) := by omega
      have hk1 : (k : Int) < (N : Int) := by omega
      have PK := Lib.hid (And.intro hP (And.intro hpL hLN))
      have HK := Lib.hid (And.intro hp hv)
      clear hP hpL hLN hp hv
      have hll : l.length ≤ 1000 := PK.out.1.row.lt
      -- the document's answer lies in a box
      have TB : Turn (fun _ => False) w2 (w2.alloc (.cells #[.slice none 0 0, .bool false] 33)) := (Turn.refl _ w2).alloc _
      have B := World.cell?_alloc_new w2 #[.slice none 0 0, .bool false] 33
      have HB0 : (w2.alloc (.cells #[.slice none 0 0, .bool false] 33)).heap[w2.heap.size]? = some (.cells #[.slice none 0 0, .bool false] 33 (0, 0)) := by show (Array.push _ _)[_]? = _; simp
      obtain ⟨W3, hW3⟩ : ∃ W3, W3 = w2.alloc (.cells #[.slice none 0 0, .bool false] 33) := ⟨_, rfl⟩
      rw [← hW3] at TB B HB0
      have B0 : W3.cell? ⟨w2.heap.size, 0, none⟩ = some (.slice none 0 0) := B 0
      have B1 : W3.cell? ⟨w2.heap.size, 1, none⟩ = some (.bool false) := B 1
      have E9 := TB.cell (fun f => f) E9
      have y6 := TB.cell (fun f => f) y6
      have y7 := TB.cell (fun f => f) y7
      have hgb : w2.heap.size < W3.heap.size := block_lt_of_cell B0
      have SZ := Lib.hid (show (Value.slice (some ⟨g6, 0, none⟩) N vc6).ownBlock ≠ some w2.heap.size from fun e => by
        have := (S.out.1.o6.lt _ e).2
        omega)
      have h7b : g7 ≠ w2.heap.size := fun e => by
        have := (S.out.1.o7.lt g7 rfl).2
        omega
      have TBH := Lib.hid TB
      have PK := Lib.hid (And.intro (PK.out.1.turn TB) PK.out.2)
      clear B TB
      go_upto_region 14 with fail
      rw [← hW3]
      clear hW3
      generalize hb14 : w2.heap.size = b14 at *
      have HB2 := Lib.hid hb14
      clear hb14
      generalize hlm : l.length = lm at *
      clear hlm
      go_upto_if 60 with fail
      go_cut [13] (fun v13 wx => ∃ p', v13 = .pointer p' ∧ StPost w2 b14 (N + 1) p' wx)
      case first =>
       cases ei with
       | true =>
        have EO := Lib.hid (end_op (PK.out.1.rs) (by have := PK.out.2.2; omega) idn tn)
        go_wp2_with fail
        with_reducible refine EO.out.mono ?_
        rintro en w3 ⟨p3, ok, L3, rfl, RS3, sp3, hpp, T3⟩
        have y7 := T3.cell (fun f => f) y7
        have P3 := Lib.hid (And.intro RS3 (And.intro sp3 (And.intro T3 hpp)))
        have RO := Lib.hid (rend_op (PK.out.1.row.turn T3) (PK.out.1.same.sorted PK.out.1.rs.srt) (PK.out.1.tabs.turn T3) idn tn)
        clear EO RS3 sp3 T3 hpp E9 y6
        go_wp2_with fail
        with_reducible refine RO.out.mono ?_
        rintro en w4 ⟨v4, ok', l4, rfl, R4, tb4, sp4, T4⟩
        obtain ⟨rfl, SL4, hL4⟩ := end_same PK.out.1.same PK.out.1.rs.srt P3.out.2.1 sp4
        obtain ⟨hpL3, hL3⟩ := P3.out.2.1.full (n := N + 1) (by have := PK.out.2.2; omega) P3.out.2.2.2 PK.out.2.1
        clear sp4 hL4
        obtain ⟨va4, vc4, rfl, _⟩ := own_slice R4.own
        have T34 := P3.out.2.2.1.trans T4
        have HB4 := (T34.block b14 hgb (fun f => f)).trans HB0
        have B0 := T34.cell (fun f => f) B0
        have B1 := T34.cell (fun f => f) B1
        have hfz : w4.frozen? ⟨b14, 0, none⟩ = false ∧ w4.frozen? ⟨b14, 1, none⟩ = false := (by unfold World.frozen?; rw [HB4]; exact ⟨rfl, rfl⟩)
        obtain ⟨fz0, fz1⟩ := hfz
        have TS : Turn (fun b => b = b14) w4 ((w4.setCell ⟨b14, 0, none⟩ (.slice va4 l4.length vc4)).setCell ⟨b14, 1, none⟩ (.bool ok)) := ((show Turn (fun b => b = b14) w4 w4 from Turn.refl _ w4).setCell (p := ⟨b14, 0, none⟩) (.inl rfl) _).setCell (p := ⟨b14, 1, none⟩) (.inl rfl) _
        have hlen4 : l4.length ≤ 1000 := R4.lt
        have P4 : Pr w4 p3 L3 (.slice va4 l4.length vc4) l4 := ⟨P3.out.1.turn T4, R4, tb4, SL4⟩
        have P5 := P4.off hpL3 HB4 (by decide) (.inr B0) TS
        have T5 := (TBH.out.trans T34).comp TS (S := fun _ => False) (fun j hj e => by have := HB2.out; omega)
        have D0 : ((w4.setCell ⟨b14, 0, none⟩ (.slice va4 l4.length vc4)).setCell ⟨b14, 1, none⟩ (.bool ok)).cell? ⟨b14, 0, none⟩ = some (.slice va4 l4.length vc4) := (cell_off _ _ _ _ _ (by decide)).trans (World.cell?_setCell_same _ _ _ B0)
        have FF := Lib.hid (And.intro P5 (And.intro hpL3 (And.intro hL3 (And.intro D0 T5))))
        clear P4 P5 P3 RO R4 tb4 SL4 T4 HB4 T34 D0 T5
        clear TS y7
        generalize l4.length = m4 at *
        go_wp2_with fail
        go_meet
        case rel => exact ⟨_, rfl, _, _, _, _, _, FF.out⟩
       | false =>
        have KD := Lib.hid (kind_is W3.drew (i : Int))
        have y6 : W3.drew.cell? ⟨g6, k, none⟩ = some (.pointer p) := y6
        go_upto_region 17 with fail
        refine wp_region_held_drew (S := (fun w' => w'.cell? ⟨g6, k, none⟩ = some (.pointer p))) (by kernel_rfl) ?hs0 (fun hS0 => ?_)
        case hs0 => ((try dsimp only); first | with_reducible exact y6 | with_reducible exact y6a | with_reducible exact y6b | exact y6 | exact y6a | exact y6b)
        refine wpAnyH_take (i := 0) (oi := { dst := some 79, op := Op.move (Operand.tmp 6), type := 44, pos := "law.go:134", after := #[], guard := none }) (v := ?_) rfl (by kernel_rfl) (by kernel_rfl) (by kernel_rfl) (fun _ _ _ h => h) (Or.inl ⟨by rfl, ?hy1⟩) hS0 ?_
        case hy1 => (intro w hSw; (try dsimp only at hSw); go_simp; try with_reducible rfl)
        try simp only [Act.put, List.setIfInBounds_toArray, List.set_cons_zero, List.set_cons_succ]
        refine wpAnyH_take (i := 1) (oi := { dst := some 80, op := Op.move (Operand.tmp 10), type := 3, pos := "law.go:134", after := #[], guard := none }) (v := ?_) rfl (by kernel_rfl) (by kernel_rfl) (by kernel_rfl) (fun _ _ _ h => h) (Or.inl ⟨by rfl, ?hy2⟩) hS0 ?_
        case hy2 => (intro w hSw; (try dsimp only at hSw); go_simp; try with_reducible rfl)
        try simp only [Act.put, List.setIfInBounds_toArray, List.set_cons_zero, List.set_cons_succ]
        refine wpAnyH_take (i := 2) (oi := { dst := some 81, op := Op.indexAddr 44 (Operand.tmp 79) (Operand.tmp 80), type := 0, pos := "law.go:134", after := #[{ on := 0, ground := Ground.data }, { on := 1, ground := Ground.data }], guard := none }) (v := ?_) rfl (by kernel_rfl) (by kernel_rfl) (by kernel_rfl) (fun _ _ _ h => h) (Or.inl ⟨by rfl, ?hy3⟩) hS0 ?_
        case hy3 => (intro w hSw; (try dsimp only at hSw); go_simp; try with_reducible rfl)
        try simp only [Act.put, List.setIfInBounds_toArray, List.set_cons_zero, List.set_cons_succ]
        refine wpAnyH_take (i := 3) (oi := { dst := some 82, op := Op.load 24 (Operand.tmp 81), type := 24, pos := "law.go:134", after := #[{ on := 2, ground := Ground.data }], guard := none }) (v := ?_) rfl (by kernel_rfl) (by kernel_rfl) (by kernel_rfl) (fun _ _ _ h => h) (Or.inl ⟨by rfl, ?hy4⟩) hS0 ?_
        case hy4 => (intro w hSw; (try dsimp only at hSw); go_simp; try with_reducible rfl)
        try simp only [Act.put, List.setIfInBounds_toArray, List.set_cons_zero, List.set_cons_succ]
        refine wpAnyH_take (i := 4) (oi := { dst := some 83, op := Op.move (Operand.tmp 11), type := 3, pos := "law.go:134", after := #[], guard := none }) (v := ?_) rfl (by kernel_rfl) (by kernel_rfl) (by kernel_rfl) (fun _ _ _ h => h) (Or.inl ⟨by rfl, ?hy5⟩) hS0 ?_
        case hy5 => (intro w hSw; (try dsimp only at hSw); go_simp; try with_reducible rfl)
        try simp only [Act.put, List.setIfInBounds_toArray, List.set_cons_zero, List.set_cons_succ]
        refine wpAnyH_take (i := 5) (oi := { dst := some 84, op := Op.move (Operand.tmp 8), type := 3, pos := "law.go:134", after := #[], guard := none }) (v := ?_) rfl (by kernel_rfl) (by kernel_rfl) (by kernel_rfl) (fun _ _ _ h => h) (Or.inl ⟨by rfl, ?hy6⟩) hS0 ?_
        case hy6 => (intro w hSw; (try dsimp only at hSw); go_simp; try with_reducible rfl)
        try simp only [Act.put, List.setIfInBounds_toArray, List.set_cons_zero, List.set_cons_succ]
        refine wpAnyH_ready (rs := [6]) (by kernel_rfl) (by simp) ?_
        refine AllReadyH.cons (o := { dst := some 85, op := Op.call { callee := Callee.value (Operand.func 12), args := #[Operand.tmp 84], argTypes := #[3] }, type := 38, pos := "law.go:134", after := #[{ on := 5, ground := Ground.data }], guard := none }) rfl (fun K hK => ?_) ?_
        · go_simp; with_reducible refine KD.out.mono ?_; rintro en wa ⟨ca, rfl, hpa, Ta'⟩; have Ta : Turn (fun _ => False) W3 wa := (show Turn (fun _ => False) W3 W3.drew from (Turn.refl _ W3).drewN 1).trans Ta'; have hpa := hpa.low (Nat.zero_le _); obtain ⟨ca0, ca1, ca2, rfl⟩ := plain_slice hpa; have y6a := Ta'.cell (fun f => f) y6; have y7 := Ta.cell (fun f => f) y7; have PK := Lib.hid (And.intro (PK.out.1.turn Ta) PK.out.2); have TA := Lib.hid Ta; have EO := Lib.hid (add_op (PK.out.1.rs) (by have := PK.out.2.2; omega) idn hpa); clear KD hpa Ta Ta' E9; go_simp
          refine hK.out _ _ ?hs7 (fun hS7 => ?_)
          case hs7 => ((try dsimp only); first | with_reducible exact y6 | with_reducible exact y6a | with_reducible exact y6b | exact y6 | exact y6a | exact y6b)
          clear hK K hS0
          refine wpAnyH_ready (rs := [7]) (by kernel_rfl) (by simp) ?_
          refine AllReadyH.cons (o := { dst := some 86, op := Op.call { callee := Callee.value (Operand.func 11), args := #[Operand.tmp 82, Operand.tmp 83, Operand.tmp 85], argTypes := #[24, 3, 38] }, type := 30, pos := "law.go:134", after := #[{ on := 3, ground := Ground.data }, { on := 4, ground := Ground.data }, { on := 6, ground := Ground.data }, { on := 6, ground := Ground.chain }], guard := none }) rfl (fun K hK => ?_) ?_
          · go_simp; with_reducible refine EO.out.mono ?_; rintro en w3 ⟨p3, ok, L3, rfl, RS3, sp3, hpp, T3⟩; have y6b := T3.cell (fun f => f) y6a; have y7 := T3.cell (fun f => f) y7; have P3 := Lib.hid (And.intro RS3 (And.intro sp3 (And.intro T3 hpp))); have KD := Lib.hid (kind_is w3.drew (i : Int)); clear EO RS3 sp3 T3 hpp; go_simp
            refine hK.out _ _ ?hs8 (fun hS8 => ?_)
            case hs8 => ((try dsimp only); first | with_reducible exact y6 | with_reducible exact y6a | with_reducible exact y6b | exact y6 | exact y6a | exact y6b)
            clear hK K hS7
            refine wpAnyH_take (i := 8) (oi := { dst := some 78, op := Op.move (Operand.tmp 86), type := 30, pos := "law.go:134", after := #[{ on := 7, ground := Ground.data }], guard := none }) (v := ?_) rfl (by kernel_rfl) (by kernel_rfl) (by kernel_rfl) (fun _ _ _ h => h) (Or.inl ⟨by rfl, ?hy9⟩) hS8 ?_
            case hy9 => (intro w hSw; (try dsimp only at hSw); go_simp; try with_reducible rfl)
            try simp only [Act.put, List.setIfInBounds_toArray, List.set_cons_zero, List.set_cons_succ]
            refine wpAnyH_take (i := 9) (oi := { dst := some 87, op := Op.extract (Operand.tmp 78) 0, type := 24, pos := "law.go:134", after := #[{ on := 8, ground := Ground.data }], guard := none }) (v := ?_) rfl (by kernel_rfl) (by kernel_rfl) (by kernel_rfl) (fun _ _ _ h => h) (Or.inl ⟨by rfl, ?hy10⟩) hS8 ?_
            case hy10 => (intro w hSw; (try dsimp only at hSw); go_simp; try with_reducible rfl)
            try simp only [Act.put, List.setIfInBounds_toArray, List.set_cons_zero, List.set_cons_succ]
            refine wpAnyH_take (i := 11) (oi := { dst := some 13, op := Op.assign (Operand.tmp 87), type := 24, pos := "law.go:134", after := #[{ on := 9, ground := Ground.data }, { on := 7, ground := Ground.chain }, { on := 0, ground := Ground.phase }, { on := 1, ground := Ground.phase }, { on := 2, ground := Ground.phase }, { on := 3, ground := Ground.phase }, { on := 4, ground := Ground.phase }, { on := 5, ground := Ground.phase }, { on := 6, ground := Ground.phase }, { on := 7, ground := Ground.phase }, { on := 8, ground := Ground.phase }, { on := 9, ground := Ground.phase }, { on := 10, ground := Ground.textOnly Departure.lateStores }], guard := none }) (v := ?_) rfl (by kernel_rfl) (by kernel_rfl) (by kernel_rfl) (fun _ _ _ h => h) (Or.inl ⟨by rfl, ?hy11⟩) hS8 ?_
            case hy11 => (intro w hSw; (try dsimp only at hSw); go_simp; try with_reducible rfl)
            try simp only [Act.put, List.setIfInBounds_toArray, List.set_cons_zero, List.set_cons_succ]
            refine wpAnyH_take (i := 10) (oi := { dst := some 88, op := Op.extract (Operand.tmp 78) 1, type := 4, pos := "law.go:134", after := #[{ on := 8, ground := Ground.data }, { on := 11, ground := Ground.gcOnly Departure.lateStores }], guard := none }) (v := ?_) rfl (by kernel_rfl) (by kernel_rfl) (by kernel_rfl) (fun _ _ _ h => h) (Or.inl ⟨by rfl, ?hy12⟩) hS8 ?_
            case hy12 => (intro w hSw; (try dsimp only at hSw); go_simp; try with_reducible rfl)
            try simp only [Act.put, List.setIfInBounds_toArray, List.set_cons_zero, List.set_cons_succ]
            refine wpAnyH_done (by kernel_rfl) ?_ _
            go_upto_region 18 with fail
            refine wp_region_held_drew (S := (fun w' => w'.cell? ⟨g7, k, none⟩ = some (.slice va lm vc))) (by kernel_rfl) ?hs0 (fun hS0 => ?_)
            case hs0 => ((try dsimp only); first | with_reducible exact y7 | with_reducible exact y7a | with_reducible exact y7b | with_reducible exact y7c | exact y7 | exact y7a | exact y7b | exact y7c)
            refine wpAnyH_take (i := 0) (oi := { dst := some 89, op := Op.move (Operand.tmp 7), type := 45, pos := "law.go:135", after := #[], guard := none }) (v := ?_) rfl (by kernel_rfl) (by kernel_rfl) (by kernel_rfl) (fun _ _ _ h => h) (Or.inl ⟨by rfl, ?hy1⟩) hS0 ?_
            case hy1 => (intro w hSw; (try dsimp only at hSw); go_simp; try with_reducible rfl)
            try simp only [Act.put, List.setIfInBounds_toArray, List.set_cons_zero, List.set_cons_succ]
            refine wpAnyH_take (i := 1) (oi := { dst := some 90, op := Op.move (Operand.tmp 10), type := 3, pos := "law.go:135", after := #[], guard := none }) (v := ?_) rfl (by kernel_rfl) (by kernel_rfl) (by kernel_rfl) (fun _ _ _ h => h) (Or.inl ⟨by rfl, ?hy2⟩) hS0 ?_
            case hy2 => (intro w hSw; (try dsimp only at hSw); go_simp; try with_reducible rfl)
            try simp only [Act.put, List.setIfInBounds_toArray, List.set_cons_zero, List.set_cons_succ]
            refine wpAnyH_take (i := 2) (oi := { dst := some 91, op := Op.indexAddr 45 (Operand.tmp 89) (Operand.tmp 90), type := 0, pos := "law.go:135", after := #[{ on := 0, ground := Ground.data }, { on := 1, ground := Ground.data }], guard := none }) (v := ?_) rfl (by kernel_rfl) (by kernel_rfl) (by kernel_rfl) (fun _ _ _ h => h) (Or.inl ⟨by rfl, ?hy3⟩) hS0 ?_
            case hy3 => (intro w hSw; (try dsimp only at hSw); go_simp; try with_reducible rfl)
            try simp only [Act.put, List.setIfInBounds_toArray, List.set_cons_zero, List.set_cons_succ]
            refine wpAnyH_take (i := 3) (oi := { dst := some 92, op := Op.load 25 (Operand.tmp 91), type := 25, pos := "law.go:135", after := #[{ on := 2, ground := Ground.data }], guard := none }) (v := ?_) rfl (by kernel_rfl) (by kernel_rfl) (by kernel_rfl) (fun _ _ _ h => h) (Or.inl ⟨by rfl, ?hy4⟩) hS0 ?_
            case hy4 => (intro w hSw; (try dsimp only at hSw); go_simp; try with_reducible rfl)
            try simp only [Act.put, List.setIfInBounds_toArray, List.set_cons_zero, List.set_cons_succ]
            refine wpAnyH_take (i := 4) (oi := { dst := some 93, op := Op.move (Operand.tmp 11), type := 3, pos := "law.go:135", after := #[], guard := none }) (v := ?_) rfl (by kernel_rfl) (by kernel_rfl) (by kernel_rfl) (fun _ _ _ h => h) (Or.inl ⟨by rfl, ?hy5⟩) hS0 ?_
            case hy5 => (intro w hSw; (try dsimp only at hSw); go_simp; try with_reducible rfl)
            try simp only [Act.put, List.setIfInBounds_toArray, List.set_cons_zero, List.set_cons_succ]
            refine wpAnyH_take (i := 5) (oi := { dst := some 94, op := Op.move (Operand.tmp 8), type := 3, pos := "law.go:135", after := #[], guard := none }) (v := ?_) rfl (by kernel_rfl) (by kernel_rfl) (by kernel_rfl) (fun _ _ _ h => h) (Or.inl ⟨by rfl, ?hy6⟩) hS0 ?_
            case hy6 => (intro w hSw; (try dsimp only at hSw); go_simp; try with_reducible rfl)
            try simp only [Act.put, List.setIfInBounds_toArray, List.set_cons_zero, List.set_cons_succ]
            refine wpAnyH_ready (rs := [6]) (by kernel_rfl) (by simp) ?_
            refine AllReadyH.cons (o := { dst := some 95, op := Op.call { callee := Callee.value (Operand.func 12), args := #[Operand.tmp 94], argTypes := #[3] }, type := 38, pos := "law.go:135", after := #[{ on := 5, ground := Ground.data }], guard := none }) rfl (fun K hK => ?_) ?_
            · go_simp; with_reducible refine KD.out.mono ?_; rintro en wb ⟨cb, rfl, hpb, Tb'⟩; have Tb : Turn (fun _ => False) w3 wb := (show Turn (fun _ => False) w3 w3.drew from (Turn.refl _ w3).drewN 1).trans Tb'; have hpb := hpb.low (Nat.zero_le _); obtain ⟨cb0, cb1, cb2, rfl⟩ := plain_slice hpb; have y7a := Tb.cell (fun f => f) y7; have P3 := Lib.hid (And.intro (P3.out.1.turn Tb) (And.intro P3.out.2.1 (And.intro (P3.out.2.2.1.trans Tb) P3.out.2.2.2))); have RO := Lib.hid (radd_op (PK.out.1.row.turn P3.out.2.2.1) (PK.out.1.same.sorted PK.out.1.rs.srt) (PK.out.1.tabs.turn P3.out.2.2.1) (by have := PK.out.2.2; have := PK.out.1.same.len; omega) idn hpb); clear KD hpb Tb Tb'; go_simp
              refine hK.out _ _ ?hs7 (fun hS7 => ?_)
              case hs7 => ((try dsimp only); first | with_reducible exact y7 | with_reducible exact y7a | with_reducible exact y7b | with_reducible exact y7c | exact y7 | exact y7a | exact y7b | exact y7c)
              clear hK K hS0
              refine wpAnyH_ready (rs := [7]) (by kernel_rfl) (by simp) ?_
              refine AllReadyH.cons (o := { dst := some 96, op := Op.call { callee := Callee.value (Operand.func 13), args := #[Operand.tmp 92, Operand.tmp 93, Operand.tmp 95], argTypes := #[25, 3, 38] }, type := 33, pos := "law.go:135", after := #[{ on := 3, ground := Ground.data }, { on := 4, ground := Ground.data }, { on := 6, ground := Ground.data }, { on := 6, ground := Ground.chain }], guard := none }) rfl (fun K hK => ?_) ?_
              · go_simp; with_reducible refine RO.out.mono ?_; rintro en w4 ⟨v4, ok', l4, rfl, R4, tb4, sp4, T4⟩; have y7b := T4.cell (fun f => f) y7a; obtain ⟨rfl, SL4, hL4⟩ := add_same PK.out.1.same P3.out.2.1 sp4; obtain ⟨hpL3, hL3⟩ := P3.out.2.1.full PK.out.2.2 P3.out.2.2.2 PK.out.2.1; have P3 := Lib.hid (And.intro P3.out.1 (And.intro P3.out.2.1 (And.intro (TA.out.trans P3.out.2.2.1) P3.out.2.2.2))); clear sp4 hL4 TA; obtain ⟨va4, vc4, rfl, _⟩ := own_slice R4.own; have T34 := P3.out.2.2.1.trans T4; have HB4 := (T34.block b14 hgb (fun f => f)).trans HB0; have B0 := T34.cell (fun f => f) B0; have B1 := T34.cell (fun f => f) B1; have hfz : w4.frozen? ⟨b14, 0, none⟩ = false ∧ w4.frozen? ⟨b14, 1, none⟩ = false := (by unfold World.frozen?; rw [HB4]; exact ⟨rfl, rfl⟩); obtain ⟨fz0, fz1⟩ := hfz; have TS : Turn (fun b => b = b14) w4 ((w4.setCell ⟨b14, 0, none⟩ (.slice va4 l4.length vc4)).setCell ⟨b14, 1, none⟩ (.bool ok)) := ((show Turn (fun b => b = b14) w4 w4 from Turn.refl _ w4).setCell (p := ⟨b14, 0, none⟩) (.inl rfl) _).setCell (p := ⟨b14, 1, none⟩) (.inl rfl) _; have hlen4 : l4.length ≤ 1000 := R4.lt; have P4 : Pr w4 p3 L3 (.slice va4 l4.length vc4) l4 := ⟨P3.out.1.turn T4, R4, tb4, SL4⟩; have P5 := P4.off hpL3 HB4 (by decide) (.inr B0) TS; have T5 := (TBH.out.trans T34).comp TS (S := fun _ => False) (fun j hj e => by have := HB2.out; omega); have D0 : ((w4.setCell ⟨b14, 0, none⟩ (.slice va4 l4.length vc4)).setCell ⟨b14, 1, none⟩ (.bool ok)).cell? ⟨b14, 0, none⟩ = some (.slice va4 l4.length vc4) := (cell_off _ _ _ _ _ (by decide)).trans (World.cell?_setCell_same _ _ _ B0); have FF := Lib.hid (And.intro P5 (And.intro hpL3 (And.intro hL3 (And.intro D0 T5)))); clear P4 P5 P3 RO R4 tb4 SL4 T4 HB4 T34 D0 T5; have y7c := TS.cell (k := g7) h7b y7b; go_simp
                refine hK.out _ _ ?hs8 (fun hS8 => ?_)
                case hs8 => ((try dsimp only); first | with_reducible exact y7 | with_reducible exact y7a | with_reducible exact y7b | with_reducible exact y7c | exact y7 | exact y7a | exact y7b | exact y7c)
                clear hK K hS7
                refine wpAnyH_ready (rs := [8]) (by kernel_rfl) (by simp) ?_
                refine AllReadyH.cons (o := { dst := none, op := Op.store 33 (Operand.tmp 14) (Operand.tmp 96), type := 0, pos := "law.go:135", after := #[{ on := 7, ground := Ground.data }, { on := 7, ground := Ground.chain }, { on := 0, ground := Ground.phase }, { on := 1, ground := Ground.phase }, { on := 2, ground := Ground.phase }, { on := 3, ground := Ground.phase }, { on := 4, ground := Ground.phase }, { on := 5, ground := Ground.phase }, { on := 6, ground := Ground.phase }, { on := 7, ground := Ground.phase }], guard := none }) rfl (fun K hK => ?_) ?_
                · go_simp
                  refine hK.out _ _ ?hs9 (fun hS9 => ?_)
                  case hs9 => ((try dsimp only); first | with_reducible exact y7 | with_reducible exact y7a | with_reducible exact y7b | with_reducible exact y7c | exact y7 | exact y7a | exact y7b | exact y7c)
                  clear hK K hS8
                  refine wpAnyH_done (by kernel_rfl) ?_ _
                  go_wp2_with fail
                  go_meet
                  case rel => exact ⟨_, rfl, _, _, _, _, _, FF.out⟩
                exact AllReadyH.nil
              exact AllReadyH.nil
            exact AllReadyH.nil
          exact AllReadyH.nil
        exact AllReadyH.nil
      case rest =>
      obtain ⟨p', rfl, L', l', va', m', vc', hP', hpL', hL', hb', hT'⟩ := hcut
      obtain ⟨a6, c6, w6, hr6, hb6, a7, c7, w7, hr7, hst⟩ := (S.out.1.turn hT').more (by omega) hP' hpL' hL' hb' SZ.out
      have RUN6 := Lib.hid hr6
      have RUN7 := Lib.hid hr7
      have FIN := Lib.hid hst
      clear hP' hpL' hL' hb' hT' hr6 hr7 hst E9 y6 y7 B0 B1 HB0 hgb PK HK
      go_upto_region 20 with (refine rl_append_run (by rfl) _ _ _ (by rfl) (by rfl) (by rfl) RUN6.out ?_)
      go_wp2_with (refine rl_append_run (by rfl) _ _ _ (by rfl) (by rfl) (by rfl) RUN7.out ?_)
      go_roundg (n - (i + 1))
      case measure => have := S.out.2; omega
      case rel => exact ⟨i + 1, _, _, by go_num, by omega, rfl, by rw [HNN.out]; exact FIN.out⟩
    · obtain rfl : i = n := by omega
      have S := Lib.hid hS
      clear hS hg
      go_upto_region 5 with fail
      go_cut [27] (fun v27 wx => v27 = .bool false ∧ wx = wr)
      case first =>
        by_cases hc : i < len
        · have t1 : decide ((i : Int) < (len : Int)) = true := decide_eq_true (by omega)
          have t2 : decide ((i : Int) < 30) = false := decide_eq_false (by have := HN.out; omega)
          go_wp2_with fail
          go_meet
          case rel => exact ⟨rfl, rfl⟩
        · have t1 : decide ((i : Int) < (len : Int)) = false := decide_eq_false (by omega)
          go_wp2_with fail
          go_meet
          case rel => exact ⟨rfl, rfl⟩
      case rest =>
      obtain ⟨rfl, hwc⟩ := hcut
      subst hwc
      have R1 : StEnd w N ps vs (.slice (some ⟨g6, 0, none⟩) N vc6) (.slice (some ⟨g7, 0, none⟩) N vc7) N (.int .i64 0) wc := ⟨0, rfl, Nat.zero_le _, rfl, S.out⟩
      clear hin hi S
      go_wp2_with fail
      go_loopg [15] N (fun gh v15 wr => StEnd w N ps vs (.slice (some ⟨g6, 0, none⟩) N vc6) (.slice (some ⟨g7, 0, none⟩) N vc7) gh v15 wr)
      case atStart => exact R1
      case round =>
        clear R1
        obtain ⟨k, rfl, hk, hgk, hS⟩ := hrel
        by_cases hkN : k < N
        · have u3 : decide ((k : Int) < (N : Int)) = true := decide_eq_true (by omega)
          obtain ⟨p, hp⟩ : ∃ p, ps[k]? = some p := ⟨_, List.getElem?_eq_getElem (by rw [hS.lp]; exact hkN)⟩
          obtain ⟨v, hv⟩ : ∃ v, vs[k]? = some v := ⟨_, List.getElem?_eq_getElem (by rw [hS.lv]; exact hkN)⟩
          obtain ⟨L, l, hP, _, _⟩ := hS.pr k p v hp hv
          obtain ⟨va, vc, rfl, _⟩ := own_slice hP.row.own
          have y6 : wr.cell? ⟨g6, k, none⟩ = some (.pointer p) := (hS.o6.cellAt k (by omega)).trans (by rw [List.getElem?_map, hp]; rfl)
          have y7 : wr.cell? ⟨g7, k, none⟩ = some (.slice va l.length vc) := (hS.o7.cellAt k (by omega)).trans hv
          have hk0 : (0 : Int) ≤ (k : Int) := by omega
          have hk1 : (k : Int) < (N : Int) := by omega
          have TL := Lib.hid (fun (W : World) (T : Turn (fun _ => False) wr W) => tells_is (hP.turn T) 3)
          have S := Lib.hid (And.intro hS hgk)
          clear hS hgk hP hp hv
          generalize l.length = lm at *
          go_wp2_with fail
          refine wp_tail_any 8 (by kernel_rfl) (by kernel_rfl) ?_
          intro W hW
          have TW : Turn (fun _ => False) wr W := by rw [hW]; exact (Turn.refl _ wr).drewN 1
          have y6 := TW.cell (fun f => f) y6
          have y7 := TW.cell (fun f => f) y7
          have TL := Lib.hid (TL.out W TW)
          have S := Lib.hid (And.intro (S.out.1.turn TW) S.out.2)
          clear hW TW
          simp only [List.take_succ_cons, List.take_zero, List.drop_succ_cons, List.drop_zero]
          repeat still_step
          refine wpStill_nil ?_
          go_wp2_with fail
          with_reducible refine TL.out.mono ?_
          rintro en w5 ⟨rfl, T5⟩
          have F := Lib.hid (S.out.1.turn T5)
          clear T5 TL y6 y7
          go_wp2_with fail
          go_roundg (N - (k + 1))
          case measure => have := S.out.2; omega
          case rel => exact ⟨k + 1, by go_num, by omega, rfl, F.out⟩
        · obtain rfl : k = N := by omega
          have u3 : decide ((k : Int) < (k : Int)) = false := decide_eq_false (by omega)
          have S := Lib.hid hS
          clear hS hgk
          go_wp2_with fail
          go_ret
          exact ⟨rfl, S.out.tn.below fun k hk => ⟨hk, fun f => f⟩⟩
end Go.Proofs.Ytbpcocobimdcnaa
