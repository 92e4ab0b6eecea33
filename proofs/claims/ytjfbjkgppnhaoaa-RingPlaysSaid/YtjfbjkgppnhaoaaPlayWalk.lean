/-
  The walk of RingPlays: a ring goes on as the document's own does.
-/
import Derived.Test.YtjfbjkgppnhaoaaPlaySt
import Derived.Deep.RegionHeld3
import Derived.Deep.CutBlock
namespace Go.Proofs.Ytjfbjkgppnhaoaa
open Go.ChangeShapes Go.WideShapes Go.ChangeAt Go.RowKit
set_option linter.unusedVariables false

/-- Between two acts. -/
def PRel (r pb rr N len base : Nat) (w2 : World) (gh : Nat) (v : Value) (wr : World) : Prop :=
  ∃ (i L : Nat) (x : Nat → Int) (t : Nat → Bool), v = .int .i64 (i : Int) ∧ i ≤ len ∧ i ≤ 60 ∧ gh = 60 - i ∧ L ≤ i ∧ PSt wr r pb rr N L x t w2 base
set_option maxRecDepth 100000 in
set_option maxHeartbeats 16000000 in
theorem play_walk (a0 : Int) (ad : Option Addr) (b off len cap : Nat) (had : len = 0 ∨ ad = some ⟨b, off, none⟩) (K A2 X2 : Nat → Int) (ask : Int) (hask : ask ≤ 9223372036854775807) (w : World) (hl : ActsR w b off len K A2 X2) (htop : ∀ i, i < len → A2 i ≤ 9223372036854775807) (hb : 0 < len → b < w.heap.size) (hlen : len ≤ 9223372036854775807) :
    Calls Try.prog 8 #[.int .i64 a0, .slice ad len cap, .int .i64 ask] w fun e w' => e = .returned (.bool true) ∧ Below w.heap.size w w' := by
  obtain ⟨R, r0, r9, HR⟩ := rest_any a0 9 (by decide) (by decide)
  obtain ⟨N, hN⟩ : ∃ N : Nat, 1 + R = (N : Int) := ⟨(1 + R).toNat, by omega⟩
  have N1 : 1 ≤ N := by omega
  have N9 : N ≤ 9 := by omega
  have H0 := Lib.hid (ring_awake w)
  have H1 := Lib.hid HR
  have HN := Lib.hid (new_ring N N1 N9)
  have en := Lib.hid hN
  have AD := Lib.hid had
  have TOP := Lib.hid htop
  clear HR hN had htop
  go_enter Try.func8, Try.ntmps8
  go_wp2_with fail
  refine H0.out.mono ?_
  rintro e w1 ⟨rfl, b1⟩
  go_wp2_with fail
  refine (H1.out _).mono ?_
  rintro e w1' ⟨rfl, rfl⟩
  go_wp2_with fail
  rw [en.out]
  refine (HN.out _).mono ?_
  rintro e w2 ⟨rfl, ry, b2, s2⟩
  have its0 : its N 0 (fun _ => 0) (fun _ => false) N = [] := List.filterMap_eq_nil_iff.2 (fun _ _ => rfl)
  have LV : Lv w2 (w1.heap.size + 1) w1.heap.size N 0 (fun _ => 0) (fun _ => false) := by
    unfold Lv
    rw [its0]
    exact ry
  have bx := (Below.refl w2.heap.size w2).alloc (Nat.le_refl _) (.cells #[.int .i64 (N : Int), .int .i64 0, .slice none 0 0] 64)
  have f0 : ∀ i, (w2.alloc (.cells #[.int .i64 (N : Int), .int .i64 0, .slice none 0 0] 64)).frozen? ⟨w2.heap.size, i, none⟩ = false := fun i => by
    rw [frozen?_alloc_cells]
    unfold World.frozen?
    rw [Array.getElem?_eq_none (Nat.le_refl _)]
  have ST : PSt (w2.alloc (.cells #[.int .i64 (N : Int), .int .i64 0, .slice none 0 0] 64)) (w1.heap.size + 1) w1.heap.size w2.heap.size N 0 (fun _ => 0) (fun _ => false) w2 (w2.heap.size + 1) :=
    ⟨LV.below bx (by omega) (by omega), (Near.refl _ _ _).low bx, ⟨.slice none 0 0, World.cell?_alloc_new w2 #[.int .i64 (N : Int), .int .i64 0, .slice none 0 0] 64 0, World.cell?_alloc_new w2 #[.int .i64 (N : Int), .int .i64 0, .slice none 0 0] 64 1, World.cell?_alloc_new w2 #[.int .i64 (N : Int), .int .i64 0, .slice none 0 0] 64 2, f0 1, f0 2, by rw [its0]; exact World.ownsRow_nil _ _ _ _, rfl, by omega⟩, fun _ _ _ => rfl, by omega, by omega, Nat.le_refl _, by rw [World.size_alloc]; exact Nat.le_refl _⟩
  have z1 := b1.size
  have fin : ∀ wr, Near (w1.heap.size + 1) w1.heap.size w2 wr → Below w.heap.size w wr := fun wr hn => (b1.trans (b2.mono b1.size)).trans (hn.below (by omega) (by omega) (by omega))
  have HX := Lib.hid (fun wr (hn : Near (w1.heap.size + 1) w1.heap.size w2 wr) i (hi : i < len) => show wr.cell? ⟨b, off + i * 3, none⟩ = some (.int .i64 (K i)) ∧ wr.cell? ⟨b, off + i * 3 + 1, none⟩ = some (.int .i64 (A2 i)) ∧ wr.cell? ⟨b, off + i * 3 + 2, none⟩ = some (.int .i64 (X2 i)) from by
    have hbb := hb (by omega)
    have hB := (fin wr hn).block b hbb
    obtain ⟨q0, q1, q2⟩ := hl i hi
    exact ⟨(World.cell?_of_block (w := w) hB).trans q0, (World.cell?_of_block (w := w) hB).trans q1, (World.cell?_of_block (w := w) hB).trans q2⟩)
  have FIN := Lib.hid fin
  have SZ := Lib.hid (show w1.heap.size + 1 < w2.heap.size by omega)
  have R0 : PRel (w1.heap.size + 1) w1.heap.size w2.heap.size N len (w2.heap.size + 1) w2 60 (.int .i64 0) (w2.alloc (.cells #[.int .i64 (N : Int), .int .i64 0, .slice none 0 0] 64)) := ⟨0, 0, _, _, rfl, Nat.zero_le _, Nat.zero_le _, rfl, Nat.le_refl _, ST⟩
  clear ry b1 b2 s2 LV z1 fin hl hb H0 H1 HN en bx f0 its0 ST
  go_wp2_with fail
  generalize w1.heap.size + 1 = r at *
  generalize w1.heap.size = pb at *
  generalize w2.heap.size + 1 = base at *
  generalize w2.heap.size = rr at *
  go_loopg [11] 60 (fun gh v11 wr => PRel r pb rr N len base w2 gh v11 wr)
  case atStart => exact R0
  case round =>
    clear R0
    obtain ⟨i, L, x, t, rfl, hi, hi60, hg, hL, hst⟩ := hrel
    by_cases hil : i < len
    · by_cases hi6 : i < 60
      · obtain rfl := AD.out.resolve_left (by omega)
        have hi6' : (i : Int) < 60 := by omega
        obtain ⟨kk, k0, k4, HK⟩ := rest_any (K i) 4 (by decide) (by decide)
        have HK := Lib.hid HK
        obtain ⟨x0, x1, x2⟩ := HX.out wr hst.nr i hil
        have top := TOP.out i hil
        have hst1 := hst.below N1 ((Below.refl _ wr).alloc (Nat.le_refl _) (.cells #[.int .i64 (K i), .int .i64 (A2 i), .int .i64 (X2 i)] 66))
        have cc0 := World.cell?_alloc_new wr #[.int .i64 (K i), .int .i64 (A2 i), .int .i64 (X2 i)] 66 0
        have cc1 := World.cell?_alloc_new wr #[.int .i64 (K i), .int .i64 (A2 i), .int .i64 (X2 i)] 66 1
        have cc2 := World.cell?_alloc_new wr #[.int .i64 (K i), .int .i64 (A2 i), .int .i64 (X2 i)] 66 2
        simp only [List.getElem?_toArray, List.getElem?_cons_zero, List.getElem?_cons_succ] at cc0 cc1 cc2
        have BL := hst.lv.blocks
        have hrab : r < wr.heap.size := BL.1
        have hpab : pb < wr.heap.size := BL.2 (by omega)
        have hrrab : rr < wr.heap.size := by obtain ⟨v, hv⟩ := hst.ref; exact block_lt_of_cell hv.c0
        have S1 := Lib.hid hst1
        clear hst BL hst1
        go_wp2_with fail
        generalize K i = kI at *
        generalize A2 i = aI at *
        generalize X2 i = xI at *
        clear x0 x1 x2
        generalize wr.heap.size = ab at *
        generalize wr.alloc (.cells #[.int .i64 kI, .int .i64 aI, .int .i64 xI] 66) = W1 at *
        refine (HK.out _).mono ?_
        rintro e W1' ⟨rfl, rfl⟩
        have CC := Lib.hid (show C3 W1 ab kI aI xI from ⟨cc0, cc1, cc2⟩)
        go_upto_block 2 with fail
        go_cut [12] from 36 to 195 (fun v12 wc => v12 = .pointer (some ⟨ab, 0, none⟩) ∧ C3 wc ab kI aI xI ∧ ∃ L' x' t', L' ≤ i + 1 ∧ PSt wc r pb rr N L' x' t' w2 base)
        case first =>
          by_cases hk2 : kk = 2
          · subst hk2
            obtain ⟨y, ok, L', x', t', hL', hd⟩ := S1.out.drop (by omega) N1 N9
            have DR := Lib.hid hd
            clear hd k0 k4 S1
            go_wp2_with fail
            refine DR.out.mono ?_
            rintro e W2 ⟨rfl, n2, h2⟩
            have H2 := Lib.hid h2
            have CC2 := Lib.hid (CC.out.near n2 (by omega) (by omega))
            clear h2 n2 DR
            go_wp2_with fail
            refine H2.out.mono ?_
            rintro e W3 ⟨rfl, n3, st3⟩
            have FF := Lib.hid (And.intro (CC2.out.near n3 (by omega) (by omega)) st3)
            clear n3 st3 H2
            cases ok <;>
            · go_wp2_with fail
              go_meet
              case rel => exact ⟨rfl, FF.out.1, L', x', t', by omega, FF.out.2⟩
          · have hk2b : (kk == 2) = false := by simpa using hk2
            by_cases hk3 : kk = 3
            · subst hk3
              obtain ⟨ok, x', t', hp⟩ := S1.out.put (by omega) N1 N9 top xI
              have PT := Lib.hid hp
              clear hp k0 k4 S1 hk2
              go_wp2_with fail
              refine wp_region_held_drew (S := (fun w' => w'.cell? ⟨ab, 0, none⟩ = some (.int .i64 kI) ∧ w'.cell? ⟨ab, 1, none⟩ = some (.int .i64 aI) ∧ w'.cell? ⟨ab, 2, none⟩ = some (.int .i64 xI))) (by kernel_rfl) ?hs0 (fun hS0 => ?_)
              case hs0 => ((try dsimp only); first | with_reducible exact ⟨cc0, cc1, cc2⟩ | exact ⟨cc0, cc1, cc2⟩)
              refine wpAnyH_take (i := 0) (oi := { dst := some 95, op := Op.move (Operand.tmp 9), type := 59, pos := "law.go:68", after := #[], guard := none }) (v := ?_) rfl (by kernel_rfl) (by kernel_rfl) (by kernel_rfl) (fun _ _ _ h => h) (Or.inl ⟨by rfl, ?hy1⟩) hS0 ?_
              case hy1 => (intro w hSw; (try dsimp only at hSw); go_simp; try with_reducible rfl)
              try simp only [Act.put, List.setIfInBounds_toArray, List.set_cons_zero, List.set_cons_succ]
              refine wpAnyH_take (i := 1) (oi := { dst := some 96, op := Op.fieldAddr 66 (Operand.tmp 12) 1, type := 0, pos := "law.go:68", after := #[], guard := none }) (v := ?_) rfl (by kernel_rfl) (by kernel_rfl) (by kernel_rfl) (fun _ _ _ h => h) (Or.inl ⟨by rfl, ?hy2⟩) hS0 ?_
              case hy2 => (intro w hSw; (try dsimp only at hSw); go_simp; try with_reducible rfl)
              try simp only [Act.put, List.setIfInBounds_toArray, List.set_cons_zero, List.set_cons_succ]
              refine wpAnyH_take (i := 2) (oi := { dst := some 97, op := Op.load 3 (Operand.tmp 96), type := 3, pos := "law.go:68", after := #[{ on := 1, ground := Ground.data }], guard := none }) (v := ?_) rfl (by kernel_rfl) (by kernel_rfl) (by kernel_rfl) (fun _ _ _ h => h) (Or.inl ⟨by rfl, ?hy3⟩) hS0 ?_
              case hy3 => (intro w hSw; (try dsimp only at hSw); go_simp; try with_reducible rfl)
              try simp only [Act.put, List.setIfInBounds_toArray, List.set_cons_zero, List.set_cons_succ]
              refine wpAnyH_take (i := 3) (oi := { dst := some 98, op := Op.fieldAddr 66 (Operand.tmp 12) 2, type := 0, pos := "law.go:68", after := #[], guard := none }) (v := ?_) rfl (by kernel_rfl) (by kernel_rfl) (by kernel_rfl) (fun _ _ _ h => h) (Or.inl ⟨by rfl, ?hy4⟩) hS0 ?_
              case hy4 => (intro w hSw; (try dsimp only at hSw); go_simp; try with_reducible rfl)
              try simp only [Act.put, List.setIfInBounds_toArray, List.set_cons_zero, List.set_cons_succ]
              refine wpAnyH_take (i := 4) (oi := { dst := some 99, op := Op.load 3 (Operand.tmp 98), type := 3, pos := "law.go:68", after := #[{ on := 3, ground := Ground.data }], guard := none }) (v := ?_) rfl (by kernel_rfl) (by kernel_rfl) (by kernel_rfl) (fun _ _ _ h => h) (Or.inl ⟨by rfl, ?hy5⟩) hS0 ?_
              case hy5 => (intro w hSw; (try dsimp only at hSw); go_simp; try with_reducible rfl)
              try simp only [Act.put, List.setIfInBounds_toArray, List.set_cons_zero, List.set_cons_succ]
              refine wpAnyH_take (i := 6) (oi := { dst := some 101, op := Op.move (Operand.tmp 10), type := 61, pos := "law.go:68", after := #[], guard := none }) (v := ?_) rfl (by kernel_rfl) (by kernel_rfl) (by kernel_rfl) (fun _ _ _ h => h) (Or.inl ⟨by rfl, ?hy6⟩) hS0 ?_
              case hy6 => (intro w hSw; (try dsimp only at hSw); go_simp; try with_reducible rfl)
              try simp only [Act.put, List.setIfInBounds_toArray, List.set_cons_zero, List.set_cons_succ]
              refine wpAnyH_take (i := 7) (oi := { dst := some 102, op := Op.fieldAddr 66 (Operand.tmp 12) 1, type := 0, pos := "law.go:68", after := #[], guard := none }) (v := ?_) rfl (by kernel_rfl) (by kernel_rfl) (by kernel_rfl) (fun _ _ _ h => h) (Or.inl ⟨by rfl, ?hy7⟩) hS0 ?_
              case hy7 => (intro w hSw; (try dsimp only at hSw); go_simp; try with_reducible rfl)
              try simp only [Act.put, List.setIfInBounds_toArray, List.set_cons_zero, List.set_cons_succ]
              refine wpAnyH_take (i := 8) (oi := { dst := some 103, op := Op.load 3 (Operand.tmp 102), type := 3, pos := "law.go:68", after := #[{ on := 7, ground := Ground.data }], guard := none }) (v := ?_) rfl (by kernel_rfl) (by kernel_rfl) (by kernel_rfl) (fun _ _ _ h => h) (Or.inl ⟨by rfl, ?hy8⟩) hS0 ?_
              case hy8 => (intro w hSw; (try dsimp only at hSw); go_simp; try with_reducible rfl)
              try simp only [Act.put, List.setIfInBounds_toArray, List.set_cons_zero, List.set_cons_succ]
              refine wpAnyH_take (i := 9) (oi := { dst := some 104, op := Op.fieldAddr 66 (Operand.tmp 12) 2, type := 0, pos := "law.go:68", after := #[], guard := none }) (v := ?_) rfl (by kernel_rfl) (by kernel_rfl) (by kernel_rfl) (fun _ _ _ h => h) (Or.inl ⟨by rfl, ?hy9⟩) hS0 ?_
              case hy9 => (intro w hSw; (try dsimp only at hSw); go_simp; try with_reducible rfl)
              try simp only [Act.put, List.setIfInBounds_toArray, List.set_cons_zero, List.set_cons_succ]
              refine wpAnyH_take (i := 10) (oi := { dst := some 105, op := Op.load 3 (Operand.tmp 104), type := 3, pos := "law.go:68", after := #[{ on := 9, ground := Ground.data }], guard := none }) (v := ?_) rfl (by kernel_rfl) (by kernel_rfl) (by kernel_rfl) (fun _ _ _ h => h) (Or.inl ⟨by rfl, ?hy10⟩) hS0 ?_
              case hy10 => (intro w hSw; (try dsimp only at hSw); go_simp; try with_reducible rfl)
              try simp only [Act.put, List.setIfInBounds_toArray, List.set_cons_zero, List.set_cons_succ]
              refine wpAnyH_ready (rs := [5]) (by kernel_rfl) (by simp) ?_
              refine AllReadyH.cons (o := { dst := some 100, op := Op.call { callee := Callee.value (Operand.func 29), args := #[Operand.tmp 95, Operand.tmp 97, Operand.tmp 99], argTypes := #[59, 3, 3] }, type := 4, pos := "law.go:68", after := #[{ on := 0, ground := Ground.data }, { on := 2, ground := Ground.data }, { on := 4, ground := Ground.data }], guard := none }) rfl (fun K hK => ?_) ?_
              · go_simp; refine (show Calls Try.prog 29 _ W1.drew _ from PT.out 1).mono ?_; rintro e W3 ⟨rfl, n3, h3⟩; obtain ⟨cc0, cc1, cc2⟩ := (show C3 W1 ab kI aI xI from ⟨cc0, cc1, cc2⟩).near n3 (by omega) (by omega); have H3 := Lib.hid h3; clear h3; go_simp
                refine hK.out _ _ ?hs11 (fun hS11 => ?_)
                case hs11 => ((try dsimp only); first | with_reducible exact ⟨cc0, cc1, cc2⟩ | exact ⟨cc0, cc1, cc2⟩)
                clear hK K hS0
                refine wpAnyH_ready (rs := [11]) (by kernel_rfl) (by simp) ?_
                refine AllReadyH.cons (o := { dst := some 106, op := Op.call { callee := Callee.value (Operand.func 30), args := #[Operand.tmp 101, Operand.tmp 103, Operand.tmp 105], argTypes := #[61, 3, 3] }, type := 4, pos := "law.go:68", after := #[{ on := 6, ground := Ground.data }, { on := 8, ground := Ground.data }, { on := 10, ground := Ground.data }, { on := 5, ground := Ground.chain }], guard := none }) rfl (fun K hK => ?_) ?_
                · go_simp; refine (show Calls Try.prog 30 _ W3 _ from H3.out 0).mono ?_; rintro e W4 ⟨rfl, n4, st4⟩; obtain ⟨cc0, cc1, cc2⟩ := (show C3 W3 ab kI aI xI from ⟨cc0, cc1, cc2⟩).near n4 (by omega) (by omega); go_simp
                  refine hK.out _ _ ?hs12 (fun hS12 => ?_)
                  case hs12 => ((try dsimp only); first | with_reducible exact ⟨cc0, cc1, cc2⟩ | exact ⟨cc0, cc1, cc2⟩)
                  clear hK K hS11
                  refine wpAnyH_take (i := 12) (oi := { dst := some 107, op := Op.binOp BinOp.neq 4 (Operand.tmp 100) (Operand.tmp 106) 4, type := 4, pos := "law.go:68", after := #[{ on := 5, ground := Ground.data }, { on := 11, ground := Ground.data }], guard := none }) (v := ?_) rfl (by kernel_rfl) (by kernel_rfl) (by kernel_rfl) (fun _ _ _ h => h) (Or.inl ⟨by rfl, ?hy13⟩) hS12 ?_
                  case hy13 => (intro w hSw; (try dsimp only at hSw); go_simp; try with_reducible rfl)
                  try simp only [Act.put, List.setIfInBounds_toArray, List.set_cons_zero, List.set_cons_succ]
                  refine wpAnyH_done (by kernel_rfl) ?_ _
                  go_wp2_with fail
                  go_meet
                  case rel => exact ⟨rfl, ⟨cc0, cc1, cc2⟩, L, x', t', by omega, st4⟩
                exact AllReadyH.nil
              exact AllReadyH.nil

            · have hk3b : (kk == 3) = false := by simpa using hk3
              obtain ⟨vv, hv⟩ := S1.out.ref
              have rc1 := hv.c1
              obtain ⟨R4, e0, e1, HR4⟩ := rest_any aI 12 (by decide) (by decide)
              have RQ := Lib.hid (fun d => show Calls Try.prog 25 #[.int .i64 aI, .int .i64 12] (W1.drewN d) (fun e w' => e = Ending.returned (.int .i64 R4) ∧ ∃ m, w' = W1.drewN m) from (HR4 (W1.drewN d)).mono fun e w' ⟨h1, h2⟩ => ⟨h1, d, h2.symm⟩)
              have s1 : IntKind.i64.wrap ((L : Int) + R4) = (L : Int) + R4 := IntWalk.i64_in _ (by omega)
              have s2 : IntKind.i64.wrap ((L : Int) + R4 - 2) = (L : Int) + R4 - 2 := IntWalk.i64_in _ (by omega)
              clear hv HR4 k0 k4 hk2 hk3
              go_wp2_with fail
              go_quiet ((go_at_call 25; exact RQ.out _))
              have S2 := Lib.hid (S1.out.drewN nq)
              have cc0 : (W1.drewN nq).cell? ⟨ab, 0, none⟩ = _ := cc0
              have cc1 : (W1.drewN nq).cell? ⟨ab, 1, none⟩ = _ := cc1
              have cc2 : (W1.drewN nq).cell? ⟨ab, 2, none⟩ = _ := cc2
              clear S1 CC RQ rc1
              generalize W1.drewN nq = W1 at *
              obtain ⟨ok, x', t', hp⟩ := S2.out.put (a := (L : Int) + R4 - 2) (by omega) N1 N9 (by omega) xI
              have PT := Lib.hid hp
              clear hp S2
              go_wp2_with fail
              refine wp_region_held_drew (S := (fun w' => w'.cell? ⟨ab, 0, none⟩ = some (.int .i64 kI) ∧ w'.cell? ⟨ab, 1, none⟩ = some (.int .i64 aI) ∧ w'.cell? ⟨ab, 2, none⟩ = some (.int .i64 xI))) (by kernel_rfl) ?hs0 (fun hS0 => ?_)
              case hs0 => ((try dsimp only); first | with_reducible exact ⟨cc0, cc1, cc2⟩ | exact ⟨cc0, cc1, cc2⟩)
              refine wpAnyH_take (i := 0) (oi := { dst := some 62, op := Op.move (Operand.tmp 9), type := 59, pos := "law.go:73", after := #[], guard := none }) (v := ?_) rfl (by kernel_rfl) (by kernel_rfl) (by kernel_rfl) (fun _ _ _ h => h) (Or.inl ⟨by rfl, ?hy1⟩) hS0 ?_
              case hy1 => (intro w hSw; (try dsimp only at hSw); go_simp; try with_reducible rfl)
              try simp only [Act.put, List.setIfInBounds_toArray, List.set_cons_zero, List.set_cons_succ]
              refine wpAnyH_take (i := 1) (oi := { dst := some 63, op := Op.move (Operand.tmp 17), type := 3, pos := "law.go:73", after := #[], guard := none }) (v := ?_) rfl (by kernel_rfl) (by kernel_rfl) (by kernel_rfl) (fun _ _ _ h => h) (Or.inl ⟨by rfl, ?hy2⟩) hS0 ?_
              case hy2 => (intro w hSw; (try dsimp only at hSw); go_simp; try with_reducible rfl)
              try simp only [Act.put, List.setIfInBounds_toArray, List.set_cons_zero, List.set_cons_succ]
              refine wpAnyH_take (i := 2) (oi := { dst := some 64, op := Op.fieldAddr 66 (Operand.tmp 12) 2, type := 0, pos := "law.go:73", after := #[], guard := none }) (v := ?_) rfl (by kernel_rfl) (by kernel_rfl) (by kernel_rfl) (fun _ _ _ h => h) (Or.inl ⟨by rfl, ?hy3⟩) hS0 ?_
              case hy3 => (intro w hSw; (try dsimp only at hSw); go_simp; try with_reducible rfl)
              try simp only [Act.put, List.setIfInBounds_toArray, List.set_cons_zero, List.set_cons_succ]
              refine wpAnyH_take (i := 3) (oi := { dst := some 65, op := Op.load 3 (Operand.tmp 64), type := 3, pos := "law.go:73", after := #[{ on := 2, ground := Ground.data }], guard := none }) (v := ?_) rfl (by kernel_rfl) (by kernel_rfl) (by kernel_rfl) (fun _ _ _ h => h) (Or.inl ⟨by rfl, ?hy4⟩) hS0 ?_
              case hy4 => (intro w hSw; (try dsimp only at hSw); go_simp; try with_reducible rfl)
              try simp only [Act.put, List.setIfInBounds_toArray, List.set_cons_zero, List.set_cons_succ]
              refine wpAnyH_take (i := 5) (oi := { dst := some 67, op := Op.move (Operand.tmp 10), type := 61, pos := "law.go:73", after := #[], guard := none }) (v := ?_) rfl (by kernel_rfl) (by kernel_rfl) (by kernel_rfl) (fun _ _ _ h => h) (Or.inl ⟨by rfl, ?hy5⟩) hS0 ?_
              case hy5 => (intro w hSw; (try dsimp only at hSw); go_simp; try with_reducible rfl)
              try simp only [Act.put, List.setIfInBounds_toArray, List.set_cons_zero, List.set_cons_succ]
              refine wpAnyH_take (i := 6) (oi := { dst := some 68, op := Op.move (Operand.tmp 17), type := 3, pos := "law.go:73", after := #[], guard := none }) (v := ?_) rfl (by kernel_rfl) (by kernel_rfl) (by kernel_rfl) (fun _ _ _ h => h) (Or.inl ⟨by rfl, ?hy6⟩) hS0 ?_
              case hy6 => (intro w hSw; (try dsimp only at hSw); go_simp; try with_reducible rfl)
              try simp only [Act.put, List.setIfInBounds_toArray, List.set_cons_zero, List.set_cons_succ]
              refine wpAnyH_take (i := 7) (oi := { dst := some 69, op := Op.fieldAddr 66 (Operand.tmp 12) 2, type := 0, pos := "law.go:73", after := #[], guard := none }) (v := ?_) rfl (by kernel_rfl) (by kernel_rfl) (by kernel_rfl) (fun _ _ _ h => h) (Or.inl ⟨by rfl, ?hy7⟩) hS0 ?_
              case hy7 => (intro w hSw; (try dsimp only at hSw); go_simp; try with_reducible rfl)
              try simp only [Act.put, List.setIfInBounds_toArray, List.set_cons_zero, List.set_cons_succ]
              refine wpAnyH_take (i := 8) (oi := { dst := some 70, op := Op.load 3 (Operand.tmp 69), type := 3, pos := "law.go:73", after := #[{ on := 7, ground := Ground.data }], guard := none }) (v := ?_) rfl (by kernel_rfl) (by kernel_rfl) (by kernel_rfl) (fun _ _ _ h => h) (Or.inl ⟨by rfl, ?hy8⟩) hS0 ?_
              case hy8 => (intro w hSw; (try dsimp only at hSw); go_simp; try with_reducible rfl)
              try simp only [Act.put, List.setIfInBounds_toArray, List.set_cons_zero, List.set_cons_succ]
              refine wpAnyH_ready (rs := [4]) (by kernel_rfl) (by simp) ?_
              refine AllReadyH.cons (o := { dst := some 66, op := Op.call { callee := Callee.value (Operand.func 29), args := #[Operand.tmp 62, Operand.tmp 63, Operand.tmp 65], argTypes := #[59, 3, 3] }, type := 4, pos := "law.go:73", after := #[{ on := 0, ground := Ground.data }, { on := 1, ground := Ground.data }, { on := 3, ground := Ground.data }], guard := none }) rfl (fun K hK => ?_) ?_
              · go_simp; refine (show Calls Try.prog 29 _ W1.drew _ from PT.out 1).mono ?_; rintro e W3 ⟨rfl, n3, h3⟩; obtain ⟨cc0, cc1, cc2⟩ := (show C3 W1 ab kI aI xI from ⟨cc0, cc1, cc2⟩).near n3 (by omega) (by omega); have H3 := Lib.hid h3; clear h3; go_simp
                refine hK.out _ _ ?hs9 (fun hS9 => ?_)
                case hs9 => ((try dsimp only); first | with_reducible exact ⟨cc0, cc1, cc2⟩ | exact ⟨cc0, cc1, cc2⟩)
                clear hK K hS0
                refine wpAnyH_ready (rs := [9]) (by kernel_rfl) (by simp) ?_
                refine AllReadyH.cons (o := { dst := some 71, op := Op.call { callee := Callee.value (Operand.func 30), args := #[Operand.tmp 67, Operand.tmp 68, Operand.tmp 70], argTypes := #[61, 3, 3] }, type := 4, pos := "law.go:73", after := #[{ on := 5, ground := Ground.data }, { on := 6, ground := Ground.data }, { on := 8, ground := Ground.data }, { on := 4, ground := Ground.chain }], guard := none }) rfl (fun K hK => ?_) ?_
                · go_simp; refine (show Calls Try.prog 30 _ W3 _ from H3.out 0).mono ?_; rintro e W4 ⟨rfl, n4, st4⟩; obtain ⟨cc0, cc1, cc2⟩ := (show C3 W3 ab kI aI xI from ⟨cc0, cc1, cc2⟩).near n4 (by omega) (by omega); go_simp
                  refine hK.out _ _ ?hs10 (fun hS10 => ?_)
                  case hs10 => ((try dsimp only); first | with_reducible exact ⟨cc0, cc1, cc2⟩ | exact ⟨cc0, cc1, cc2⟩)
                  clear hK K hS9
                  refine wpAnyH_take (i := 10) (oi := { dst := some 72, op := Op.binOp BinOp.neq 4 (Operand.tmp 66) (Operand.tmp 71) 4, type := 4, pos := "law.go:73", after := #[{ on := 4, ground := Ground.data }, { on := 9, ground := Ground.data }], guard := none }) (v := ?_) rfl (by kernel_rfl) (by kernel_rfl) (by kernel_rfl) (fun _ _ _ h => h) (Or.inl ⟨by rfl, ?hy11⟩) hS10 ?_
                  case hy11 => (intro w hSw; (try dsimp only at hSw); go_simp; try with_reducible rfl)
                  try simp only [Act.put, List.setIfInBounds_toArray, List.set_cons_zero, List.set_cons_succ]
                  refine wpAnyH_done (by kernel_rfl) ?_ _
                  go_wp2_with fail
                  go_meet
                  case rel => exact ⟨rfl, ⟨cc0, cc1, cc2⟩, L, x', t', by omega, st4⟩
                exact AllReadyH.nil
              exact AllReadyH.nil

        case rest =>
          obtain ⟨rfl, hc3, L', x', t', hL', st⟩ := hcut
          obtain ⟨ya, oa, Ga1, Ga2⟩ := st.get (by omega) N9 hask
          obtain ⟨R4, e0, e1, HR4⟩ := rest_any aI 12 (by decide) (by decide)
          obtain ⟨yb, ob, Gb1, Gb2⟩ := st.get (a := (L' : Int) + R4 - 2) (by omega) N9 (by omega)
          have s1 : IntKind.i64.wrap ((L' : Int) + R4) = (L' : Int) + R4 := IntWalk.i64_in _ (by omega)
          have s2 : IntKind.i64.wrap ((L' : Int) + R4 - 2) = (L' : Int) + R4 - 2 := IntWalk.i64_in _ (by omega)
          have GA1 := Lib.hid Ga1
          have GA2 := Lib.hid Ga2
          have GB1 := Lib.hid Gb1
          have GB2 := Lib.hid Gb2
          have RQ := Lib.hid (fun d => show Calls Try.prog 25 #[.int .i64 aI, .int .i64 12] (wc.drewN d) (fun e w' => e = Ending.returned (.int .i64 R4) ∧ ∃ m, w' = (wc.drewN d).drewN m) from (HR4 (wc.drewN d)).mono fun e w' ⟨h1, h2⟩ => ⟨h1, 0, h2.symm⟩)
          have ST := Lib.hid st
          have C := Lib.hid hc3
          clear Ga1 Ga2 Gb1 Gb2 HR4 st hc3 S1 CC cc0 cc1 cc2 k0 k4
          go_wp2_with fail
          refine (quiet_on GA1.out ⟨0, rfl⟩).mono ?_
          rintro e V1 ⟨rfl, hV1⟩
          have HV1 := Lib.hid hV1
          clear hV1
          go_wp2_with fail
          refine (quiet_on GA2.out HV1.out).mono ?_
          rintro e V2 ⟨rfl, hV2⟩
          have HV2 := Lib.hid hV2
          have P2 : PSt V2 r pb rr N L' x' t' w2 base := by obtain ⟨k, rfl⟩ := hV2; exact ST.out.drewN k
          obtain ⟨cc0, cc1, cc2⟩ := show C3 V2 ab kI aI xI from by obtain ⟨k, rfl⟩ := hV2; exact C.out
          obtain ⟨vv, hv⟩ := P2.ref
          have rc1 := hv.c1
          have Q25 := Lib.hid (fun d => quiet_at RQ.out HV2.out d)
          have Q31 := Lib.hid (fun d => quiet_at GB1.out HV2.out d)
          clear hV2 hv P2 HV1 GA1 GA2 GB1
          go_wp2_with fail
          go_quiet (first | (go_at_call 25; exact Q25.out _) | (go_at_call 31; exact Q31.out _))
          have HV3 := Lib.hid (quiet_more HV2.out nq)
          have cc0 : (V2.drewN nq).cell? ⟨ab, 0, none⟩ = _ := cc0
          have cc1 : (V2.drewN nq).cell? ⟨ab, 1, none⟩ = _ := cc1
          have cc2 : (V2.drewN nq).cell? ⟨ab, 2, none⟩ = _ := cc2
          have rc1 : (V2.drewN nq).cell? ⟨rr, 1, none⟩ = _ := rc1
          clear Q25 Q31 HV2
          generalize V2.drewN nq = V3 at *
          clear nq
          have Q25 := Lib.hid (fun d => quiet_at RQ.out HV3.out d)
          have Q32 := Lib.hid (fun d => quiet_at GB2.out HV3.out d)
          go_wp2_with fail
          go_quiet (first | (go_at_call 25; exact Q25.out _) | (go_at_call 32; exact Q32.out _))
          have hV4 := quiet_more HV3.out nq
          clear Q25 Q32 HV3 rc1 RQ GB2 cc0 cc1 cc2
          generalize V3.drewN nq = V at *
          clear nq
          have P4 : PSt V r pb rr N L' x' t' w2 base := by obtain ⟨k, rfl⟩ := hV4; exact ST.out.drewN k
          obtain ⟨vv, hv⟩ := P4.ref
          obtain ⟨va, vc, rfl, _⟩ := row_slice hv.row
          have hc2 := hv.c2
          have rowV := hv.row
          have lenV := hv.len
          have hrV : rr < V.heap.size := block_lt_of_cell hc2
          have ml : (its N L' x' t' N).length ≤ 9 := Nat.le_trans its_len N9
          have IT := Lib.hid ((P4.lv.drewN 1).items (by omega) N1 N9)
          have P4 := Lib.hid P4
          clear hV4 hv ST C
          go_wp2_with fail
          refine wp_region_held_drew (S := (fun w' => w'.cell? ⟨rr, 2, none⟩ = some (.slice va (its N L' x' t' N).length vc))) (by kernel_rfl) ?hs0 (fun hS0 => ?_)
          case hs0 => ((try dsimp only); first | with_reducible exact hc2 | exact hc2)
          refine wpAnyH_take (i := 0) (oi := { dst := some 148, op := Op.move (Operand.tmp 9), type := 59, pos := "law.go:81", after := #[], guard := none }) (v := ?_) rfl (by kernel_rfl) (by kernel_rfl) (by kernel_rfl) (fun _ _ _ h => h) (Or.inl ⟨by rfl, ?hy1⟩) hS0 ?_
          case hy1 => (intro w hSw; (try dsimp only at hSw); go_simp; try with_reducible rfl)
          try simp only [Act.put, List.setIfInBounds_toArray, List.set_cons_zero, List.set_cons_succ]
          refine wpAnyH_take (i := 2) (oi := { dst := some 150, op := Op.move (Operand.tmp 10), type := 61, pos := "law.go:81", after := #[], guard := none }) (v := ?_) rfl (by kernel_rfl) (by kernel_rfl) (by kernel_rfl) (fun _ _ _ h => h) (Or.inl ⟨by rfl, ?hy2⟩) hS0 ?_
          case hy2 => (intro w hSw; (try dsimp only at hSw); go_simp; try with_reducible rfl)
          try simp only [Act.put, List.setIfInBounds_toArray, List.set_cons_zero, List.set_cons_succ]
          refine wpAnyH_take (i := 3) (oi := { dst := some 151, op := Op.nilCheck (Operand.tmp 150), type := 0, pos := "law.go:81", after := #[{ on := 2, ground := Ground.data }], guard := none }) (v := ?_) rfl (by kernel_rfl) (by kernel_rfl) (by kernel_rfl) (fun _ _ _ h => h) (Or.inl ⟨by rfl, ?hy3⟩) hS0 ?_
          case hy3 => (intro w hSw; (try dsimp only at hSw); go_simp; try with_reducible rfl)
          try simp only [Act.put, List.setIfInBounds_toArray, List.set_cons_zero, List.set_cons_succ]
          refine wpAnyH_take (i := 4) (oi := { dst := some 152, op := Op.fieldAddr 64 (Operand.tmp 151) 2, type := 0, pos := "law.go:81", after := #[{ on := 3, ground := Ground.data }], guard := none }) (v := ?_) rfl (by kernel_rfl) (by kernel_rfl) (by kernel_rfl) (fun _ _ _ h => h) (Or.inl ⟨by rfl, ?hy4⟩) hS0 ?_
          case hy4 => (intro w hSw; (try dsimp only at hSw); go_simp; try with_reducible rfl)
          try simp only [Act.put, List.setIfInBounds_toArray, List.set_cons_zero, List.set_cons_succ]
          refine wpAnyH_take (i := 5) (oi := { dst := some 153, op := Op.load 62 (Operand.tmp 152), type := 62, pos := "law.go:81", after := #[{ on := 4, ground := Ground.data }], guard := none }) (v := ?_) rfl (by kernel_rfl) (by kernel_rfl) (by kernel_rfl) (fun _ _ _ h => h) (Or.inl ⟨by rfl, ?hy5⟩) hS0 ?_
          case hy5 => (intro w hSw; (try dsimp only at hSw); go_simp; try with_reducible rfl)
          try simp only [Act.put, List.setIfInBounds_toArray, List.set_cons_zero, List.set_cons_succ]
          refine wpAnyH_ready (rs := [1]) (by kernel_rfl) (by simp) ?_
          refine AllReadyH.cons (o := { dst := some 149, op := Op.call { callee := Callee.value (Operand.func 34), args := #[Operand.tmp 148], argTypes := #[59] }, type := 62, pos := "law.go:81", after := #[{ on := 0, ground := Ground.data }], guard := none }) rfl (fun K hK => ?_) ?_
          · go_simp; refine (show Calls Try.prog 34 _ V.drew _ from IT.out).mono ?_; rintro e V5 ⟨v5, rfl, row5, bel5⟩; have hc2 := (bel5.cell (p := ⟨rr, 2, none⟩) hrV).trans hc2; obtain ⟨a5, k5, rfl, _⟩ := row_slice row5; have SM := Lib.hid (same_rowsP row5 (prow_keep (e := 0) rowV (fun q hq => bel5.block q (prow_lt rowV hq).2)) rfl rfl rfl (by omega)); go_simp
            refine hK.out _ _ ?hs6 (fun hS6 => ?_)
            case hs6 => ((try dsimp only); first | with_reducible exact hc2 | exact hc2)
            clear hK K hS0
            refine wpAnyH_ready (rs := [6]) (by kernel_rfl) (by simp) ?_
            refine AllReadyH.cons (o := { dst := some 154, op := Op.call { callee := Callee.value (Operand.func 33), args := #[Operand.tmp 149, Operand.tmp 153], argTypes := #[62, 62] }, type := 4, pos := "law.go:81", after := #[{ on := 1, ground := Ground.data }, { on := 5, ground := Ground.data }, { on := 1, ground := Ground.chain }], guard := none }) rfl (fun K hK => ?_) ?_
            · go_simp; refine (show Calls Try.prog 33 _ V5 _ from SM.out).mono ?_; rintro e V6 ⟨rfl, d6, rfl⟩; go_simp
              refine hK.out _ _ ?hs7 (fun hS7 => ?_)
              case hs7 => ((try dsimp only); first | with_reducible exact hc2 | exact hc2)
              clear hK K hS6
              refine wpAnyH_take (i := 7) (oi := { dst := some 26, op := Op.assign (Operand.tmp 154), type := 4, pos := "law.go:81", after := #[{ on := 6, ground := Ground.data }, { on := 6, ground := Ground.chain }, { on := 0, ground := Ground.phase }, { on := 1, ground := Ground.phase }, { on := 2, ground := Ground.phase }, { on := 3, ground := Ground.phase }, { on := 4, ground := Ground.phase }, { on := 5, ground := Ground.phase }, { on := 6, ground := Ground.phase }], guard := none }) (v := ?_) rfl (by kernel_rfl) (by kernel_rfl) (by kernel_rfl) (fun _ _ _ h => h) (Or.inl ⟨by rfl, ?hy8⟩) hS7 ?_
              case hy8 => (intro w hSw; (try dsimp only at hSw); go_simp; try with_reducible rfl)
              try simp only [Act.put, List.setIfInBounds_toArray, List.set_cons_zero, List.set_cons_succ]
              refine wpAnyH_done (by kernel_rfl) ?_ _
              have P5 := (P4.out.below N1 (((Below.refl V.heap.size V).drew).trans bel5)).drewN d6
              clear hc2 row5 rowV lenV bel5 SM IT P4
              generalize V5.drewN d6 = V7 at *
              obtain ⟨vv, hv⟩ := P5.ref
              obtain ⟨vb, vd, rfl, _⟩ := row_slice hv.row
              have rc1 := hv.c1
              have rc2 := hv.c2
              have LQ := Lib.hid (fun d => show Calls Try.prog 35 #[.pointer (some ⟨r, 0, none⟩)] (V7.drewN d) (fun e w' => e = Ending.returned (.int .i64 (L' : Int)) ∧ ∃ m, w' = V7.drewN m) from ((P5.lv.drewN d).low_is).mono fun e w' ⟨a, b⟩ => ⟨a, d, b.symm⟩)
              have NQ := Lib.hid (fun d => show Calls Try.prog 36 #[.pointer (some ⟨r, 0, none⟩)] (V7.drewN d) (fun e w' => e = Ending.returned (.int .i64 (((its N L' x' t' N).length : Nat) : Int)) ∧ ∃ m, w' = V7.drewN m) from ((P5.lv.drewN d).len_is).mono fun e w' ⟨a, b⟩ => ⟨a, d, b.symm⟩)
              have P5 := Lib.hid P5
              clear hv
              go_wp2_with fail
              go_quiet (first | (go_at_call 35; exact LQ.out _) | (go_at_call 36; exact NQ.out _))
              go_wp2_with fail
              go_roundg (60 - (i + 1))
              case measure => omega
              case rel => exact ⟨i + 1, L', x', t', by go_num, by omega, by omega, rfl, by omega, P5.out.drewN _⟩
            exact AllReadyH.nil
          exact AllReadyH.nil
      · have hi6' : decide ((i : Int) < 60) = false := by simp; omega
        have BZ := Lib.hid (FIN.out wr hst.nr)
        clear hst
        by_cases n1 : a0 < 1
        · have NW := Lib.hid (new_low a0 n1 wr)
          have t1 : decide (1 ≤ a0) = false := by simp; omega
          go_wp2_with fail
          refine NW.out.mono ?_
          rintro e wz ⟨rfl, bz⟩
          have BY := Lib.hid (BZ.out.trans (bz.mono BZ.out.size))
          clear bz NW
          go_wp2_with fail
          go_ret
          exact ⟨rfl, BY.out⟩
        · by_cases n2 : 4096 < a0
          · have NW := Lib.hid (new_high a0 n2 wr)
            have t1 : decide (1 ≤ a0) = true := by simp; omega
            have t2 : decide (a0 ≤ 4096) = false := by simp; omega
            go_wp2_with fail
            refine NW.out.mono ?_
            rintro e wz ⟨rfl, bz⟩
            have BY := Lib.hid (BZ.out.trans (bz.mono BZ.out.size))
            clear bz NW
            go_wp2_with fail
            go_ret
            exact ⟨rfl, BY.out⟩
          · have NW := Lib.hid (new_mid a0 (by omega) (by omega) wr)
            have t1 : decide (1 ≤ a0) = true := by simp; omega
            have t2 : decide (a0 ≤ 4096) = true := by simp; omega
            go_wp2_with fail
            refine NW.out.mono ?_
            rintro e wz ⟨rfl, bz⟩
            have BY := Lib.hid (BZ.out.trans (bz.mono BZ.out.size))
            clear bz NW
            go_wp2_with fail
            go_ret
            exact ⟨rfl, BY.out⟩
    · have hil' : decide ((i : Int) < (len : Int)) = false := by simp; omega
      have BZ := Lib.hid (FIN.out wr hst.nr)
      clear hst
      by_cases n1 : a0 < 1
      · have NW := Lib.hid (new_low a0 n1 wr)
        have t1 : decide (1 ≤ a0) = false := by simp; omega
        go_wp2_with fail
        refine NW.out.mono ?_
        rintro e wz ⟨rfl, bz⟩
        have BY := Lib.hid (BZ.out.trans (bz.mono BZ.out.size))
        clear bz NW
        go_wp2_with fail
        go_ret
        exact ⟨rfl, BY.out⟩
      · by_cases n2 : 4096 < a0
        · have NW := Lib.hid (new_high a0 n2 wr)
          have t1 : decide (1 ≤ a0) = true := by simp; omega
          have t2 : decide (a0 ≤ 4096) = false := by simp; omega
          go_wp2_with fail
          refine NW.out.mono ?_
          rintro e wz ⟨rfl, bz⟩
          have BY := Lib.hid (BZ.out.trans (bz.mono BZ.out.size))
          clear bz NW
          go_wp2_with fail
          go_ret
          exact ⟨rfl, BY.out⟩
        · have NW := Lib.hid (new_mid a0 (by omega) (by omega) wr)
          have t1 : decide (1 ≤ a0) = true := by simp; omega
          have t2 : decide (a0 ≤ 4096) = true := by simp; omega
          go_wp2_with fail
          refine NW.out.mono ?_
          rintro e wz ⟨rfl, bz⟩
          have BY := Lib.hid (BZ.out.trans (bz.mono BZ.out.size))
          clear bz NW
          go_wp2_with fail
          go_ret
          exact ⟨rfl, BY.out⟩
theorem play_any (a0 : Int) (ad : Option Addr) (len cap : Nat) (ask : Int) (hask : ask ≤ 9223372036854775807) (w : World) (h : IsActsR w ad len) (ht : ActsTop w ad len) :
    Calls Try.prog 8 #[.int .i64 a0, .slice ad len cap, .int .i64 ask] w fun e w' => e = .returned (.bool true) ∧ Below w.heap.size w w' := by
  rcases h with h0 | ⟨b, off, K, A, N, e, hl, hb, h⟩
  · subst h0
    exact play_walk a0 ad 0 0 0 cap (.inl rfl) (fun _ => 0) (fun _ => 0) (fun _ => 0) ask hask w (fun i hi => absurd hi (by omega)) (fun i hi => absurd hi (by omega)) (fun h => absurd h (by omega)) (by omega)
  · exact play_walk a0 ad b off len cap (.inr e) K A N ask hask w h (fun i hi => ht b off i _ e hi (h i hi).2.1) (fun _ => hb) hl
end Go.Proofs.Ytjfbjkgppnhaoaa
