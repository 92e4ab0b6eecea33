/-
  A log in memory: Collect.
-/
import Derived.Test.YtgfobgabdafclaaGreatLg7
namespace Go.Proofs.YtgfobgabdafclaaGreat
open Go.ChangeShapes Go.WideShapes Go.ChangeAt Go.RowKit
set_option linter.unusedVariables false
def outCells : List Value → List Value
  | [] => []
  | v :: l => [.slice none 0 0, v, .slice none 0 0, .slice none 0 0] ++ outCells l
theorem outCells_len : ∀ l : List Value, (outCells l).length = l.length * 4
  | [] => rfl
  | v :: l => by simp [outCells, outCells_len l]; omega
theorem outCells_app : ∀ (l m : List Value), outCells (l ++ m) = outCells l ++ outCells m
  | [], m => rfl
  | v :: l, m => by simp [outCells, outCells_app l m]
theorem info62 : (Tryz.prog.info? 57).map (fun i => (i.zero, i.size, i.bytes)) = some (some (.agg #[.slice none 0 0, .slice none 0 0, .slice none 0 0, .slice none 0 0]), 4, 96) := by kernel_rfl
theorem own_blk {w : World} {b n size : Nat} {e : TypeId} {v : Value} {xs : List Value} (h : w.ownsRow b e size v n xs) {k : Nat} (hk : v.ownBlock = some k) : Blk w k e := by
  rcases h.2 with ⟨e, _⟩ | ⟨g, cap, cur, e, _, hg, _⟩
  · rw [e] at hk
    cases hk
  · rw [e] at hk
    obtain rfl : g = k := by simpa [Value.ownBlock] using hk
    exact ⟨_, hg⟩
theorem own_low {w : World} {b b' n size : Nat} {e : TypeId} {v : Value} {xs : List Value} (h : w.ownsRow b e size v n xs) (hb : b' ≤ b) : w.ownsRow b' e size v n xs := by
  refine ⟨h.1, ?_⟩
  rcases h.2 with h0 | ⟨g, cap, cur, e, hg, rest⟩
  · exact .inl h0
  · exact .inr ⟨g, cap, cur, e, Nat.le_trans hb hg, rest⟩
theorem out_app {W : World} {base k : Nat} {v : Value} {xs : List Value} {a : Option Addr} {n c : Nat} (h : W.ownsRow base 57 4 v k xs) (hB : base ≤ W.heap.size) (hk : k ≤ 1000) :
    ∃ v' w', (Builtin.append_ #[115, 115] 115 #[v, .slice (some ⟨W.heap.size, 0, none⟩) 1 1]).run Tryz.prog (W.alloc (.cells #[.slice none 0 0, .slice a n c, .slice none 0 0, .slice none 0 0] 57)) = .ok v' w' ∧ w'.ownsRow base 57 4 v' (k + 1) (xs ++ [.slice none 0 0, .slice a n c, .slice none 0 0, .slice none 0 0]) ∧ Turn (fun b => v.ownBlock = some b) W w' := by
  obtain ⟨i3, j1, j2, j3, j4⟩ := info_parts info62
  have T1 : Turn (fun b => v.ownBlock = some b) W (W.alloc (.cells #[.slice none 0 0, .slice a n c, .slice none 0 0, .slice none 0 0] 57)) := (Turn.refl _ W).alloc _
  have hA : (W.alloc (.cells #[.slice none 0 0, .slice a n c, .slice none 0 0, .slice none 0 0] 57)).ownsRow base 57 4 v k xs := own_turn h ((Turn.refl (fun _ => False) W).alloc _) (fun _ _ f => f)
  have R := range_new W [.slice none 0 0, .slice a n c, .slice none 0 0, .slice none 0 0] 57
  obtain ⟨v', w', hr, ho, hg, _⟩ := run_append_own (W.alloc (.cells #[.slice none 0 0, .slice a n c, .slice none 0 0, .slice none 0 0] 57)) base 115 115 57 i3 _ 4 96 Tryz.underlying115 j1 j2 j3 j4 rfl (by decide) v k xs hA ⟨W.heap.size, 0, none⟩ 1 1 [.slice none 0 0, .slice a n c, .slice none 0 0, .slice none 0 0] rfl (fun j u hu => by
    rw [Go.WideShapes.add_plain]
    exact R j u hu) (fun u hu => by simp at hu; rcases hu with rfl | rfl | rfl | rfl <;> rfl) (by unfold maxLen; omega) (by omega) (by simp; omega)
  exact ⟨v', w', hr, ho, T1.trans ((Turn.refl _ _).grown hg (fun k hk => .inl hk))⟩
theorem outR_get {w : World} {x : Option (List Value)} {y : Option (Option Int)} (h : OutR w x y) : ∃ a n c, x.getD zo = [.slice none 0 0, .slice a n c, .slice none 0 0, .slice none 0 0] ∧ OutV w (.slice a n c) (y.getD none) := by
  cases x with
  | none => cases y with
    | none => exact ⟨none, 0, 0, rfl, rfl⟩
    | some o => exact h.elim
  | some cs => cases y with
    | none => exact h.elim
    | some o =>
      obtain ⟨a, n, c, e, hv⟩ := h
      exact ⟨a, n, c, e, hv⟩
theorem o1_isc (a : Option Addr) (n m : Nat) : IsOut [.slice none 0 0, .slice a n m, .slice none 0 0, .slice none 0 0] := ⟨rfl, by simp [Value.oneCell']⟩
section
variable {w w' : World} {B : LB} {c : Cf} {s : LSt}
/-- What is told of each worker: at low. -/
def outAt (s : LSt) (j : Nat) : Option Int := (s.Y j s.low).getD none
structure Told (w : World) (base k : Nat) (v : Value) (s : LSt) (VL : List Value) : Prop where
  len : VL.length = k
  own : w.ownsRow base 57 4 v k (outCells VL)
  val : ∀ (j : Nat) (x : Value), VL[j]? = some x → OutV w x (outAt s j)
def ColYes (w w' : World) (c : Cf) (s : LSt) (e : Ending) : Prop := ∃ v VL, e = .returned (.tuple #[v, .bool true]) ∧ Told w' w.heap.size c.sh v s VL ∧ Turn (fun _ => False) w w'
def ColRel (s : LSt) (n : Nat) (W : World) (gh : Nat) (v6 v23 : Value) (wr : World) : Prop :=
  ∃ (k : Nat) (VL : List Value), v23 = .int .i64 (k : Int) ∧ k ≤ n ∧ gh = n - k ∧ Told wr W.heap.size k v6 s VL ∧ Turn (fun _ => False) W wr
set_option maxRecDepth 100000 in
set_option maxHeartbeats 4000000 in
theorem LogAt.collect_is (h : LogAt w B c s) :
    Calls Tryz.prog 156 #[.pointer (some ⟨B.l, 0, none⟩)] w fun e w' =>
      (readyB c s = false ∧ e = .returned (.tuple #[.slice none 0 0, .bool false]) ∧ Turn (fun _ => False) w w') ∨ (readyB c s = true ∧ ColYes w w' c s e) := by
  have R := Lib.hid h.ready_is
  have hc := Lib.hid (cmdL_is ((s.X s.low).getD (0, 0)))
  have KX := Lib.hid h
  have HRD : ∃ rd, readyB c s = rd := ⟨_, rfl⟩
  obtain ⟨rd, hrd⟩ := HRD
  rw [hrd] at R
  rw [hrd]
  generalize cmdL ((s.X s.low).getD (0, 0)) = cs0 at *
  clear h hrd
  go_enter Tryz.func156, Tryz.ntmps156
  go_wp2_with fail
  with_reducible refine R.out.mono ?_
  rintro e W2 ⟨rfl, T2⟩
  dsimp only
  refine (‹∀ (a : Act) (w : World), wpList _ _ _ _ a w → _›) _ _ ?_
  refine rl_val rfl (v := .tuple #[.agg cs0.toArray, .bool rd]) rfl ?_
  try simp only [Act.put, List.setIfInBounds_toArray, List.set_cons_zero, List.set_cons_succ]
  refine rl_val rfl (v := .agg cs0.toArray) rfl ?_
  try simp only [Act.put, List.setIfInBounds_toArray, List.set_cons_zero, List.set_cons_succ]
  refine rl_val rfl (v := .bool rd) rfl ?_
  try simp only [Act.put, List.setIfInBounds_toArray, List.set_cons_zero, List.set_cons_succ]
  refine rl_val rfl (alloc51 _ _ rfl) ?_
  try simp only [Act.put, List.setIfInBounds_toArray, List.set_cons_zero, List.set_cons_succ]
  obtain ⟨W3, hW3⟩ : ∃ W, W = W2.alloc (.cells zc.toArray 60) := ⟨_, rfl⟩
  rw [← hW3]
  have T3 : Turn (fun _ => False) W2 W3 := by rw [hW3]; exact (Turn.refl _ W2).alloc _
  have B3 : Blk W3 W2.heap.size 60 := by rw [hW3]; exact Blk.new W2 zc 60
  have C3 : W3.there W2.heap.size 0 14 := range_there (by rw [hW3]; exact range_new W2 zc 60) rfl B3
  have hb4 : w.heap.size ≤ W2.heap.size := T2.size
  clear hW3
  generalize W2.heap.size = b4 at *
  refine wpList_store_mid rfl 60 _ _ rfl b4 0 cs0.toArray rfl rfl (by rw [List.size_toArray, hc.out.len]; exact C3) (by rw [List.size_toArray, hc.out.len]; exact size51) hc.out.one ?_
  try simp only [Act.put, List.setIfInBounds_toArray, List.set_cons_zero, List.set_cons_succ]
  change wpList _ _ _ _ _ (W3.setCells b4 0 cs0)
  have T4 : Turn (fun k => k = b4) W3 (W3.setCells b4 0 cs0) := Turn.setCells cs0 0 (Turn.refl _ W3) (.inl rfl)
  have T14 : Turn (fun _ => False) w (W3.setCells b4 0 cs0) := ((T2.trans T3).comp T4 (fun j hj e => by omega))
  generalize W3.setCells b4 0 cs0 = W4 at *
  have TT := Lib.hid T14
  have HL := Lib.hid (KX.out.keep T14)
  clear T3 B3 C3 T4 T14 T2 R hb4
  cases rd with
  | false =>
    go_wp2_with fail
    go_ret2
    exact ⟨rfl, TT.out⟩
  | true =>
    have RR0 : ColRel s c.sh W4 c.sh (.slice none 0 0) (.int .i64 0) W4 := ⟨0, [], rfl, Nat.zero_le _, rfl, ⟨rfl, World.ownsRow_nil _ _ _ _, fun j x hj => by simp at hj⟩, Turn.refl _ _⟩
    obtain ⟨cap, k12⟩ := HL.out.k12
    obtain ⟨V0, hV, hO⟩ := HL.out.outs
    have HV := Lib.hid (And.intro hV hO)
    obtain ⟨n, hnn⟩ : ∃ n, c.sh = n := ⟨_, rfl⟩
    have HN := Lib.hid hnn
    rw [hnn] at k12 RR0
    clear hnn hV hO
    go_wp2_with fail
    go_loopg [6, 23] n (fun gh v6 v23 wr => ColRel s n W4 gh v6 v23 wr)
    case atStart => exact RR0
    case round =>
      clear RR0
      obtain ⟨k, VL, rfl, hk, hg, hTo, T⟩ := hrel
      obtain ⟨ra, rcp, rfl, _⟩ := own_slice hTo.own
      by_cases hkn : k < n
      · have u1 : decide ((k : Int) < (n : Int)) = true := decide_eq_true (by omega)
        have hkc : k < c.sh := by rw [HN.out]; exact hkn
        have hL := HL.out.keep T
        have y0 := hL.w0 k hkc
        have y1 := hL.w1 k hkc
        have y2 := hL.w2 k hkc
        have hk0 : (0 : Int) ≤ (k : Int) := by omega
        have hk1 : (k : Int) < (n : Int) := by omega
        obtain ⟨oa, on, oc, hcs, hov⟩ := outR_get (HV.out.2 k hkc (s.low : Int))
        have hvk := HV.out.1 k hkc
        generalize s.cur k = cu at *
        generalize s.left k = lf at *
        have TA : Turn (fun _ => False) wr (wr.alloc (.cells #[.int .i64 (cu : Int), .bool lf, .pointer (some ⟨B.rw k, 0, none⟩)] 137)) := (Turn.refl _ wr).alloc _
        have CA := World.cell?_alloc_new wr #[.int .i64 (cu : Int), .bool lf, .pointer (some ⟨B.rw k, 0, none⟩)] 137
        obtain ⟨W9, hW9⟩ : ∃ W9, W9 = wr.alloc (.cells #[.int .i64 (cu : Int), .bool lf, .pointer (some ⟨B.rw k, 0, none⟩)] 137) := ⟨_, rfl⟩
        rw [← hW9] at TA CA
        have z2 : W9.cell? ⟨wr.heap.size, 2, none⟩ = some (.pointer (some ⟨B.rw k, 0, none⟩)) := CA 2
        have n15 : n ≤ 15 := by rw [← HN.out]; exact HL.out.sh2
        have hl2 := HL.out.com.l2
        have h9 := hL.keep TA
        have v9 := hvk.turn (T.trans TA) (fun f => f) (fun f => f)
        have LO := Lib.hid (fun W' (T' : Turn (fun _ => False) W9 W') => (h9.keep T').low_is)
        have GE : ∀ W', Turn (fun _ => False) W9 W' → Calls Tryz.prog 188 #[.pointer (some ⟨B.rw k, 0, none⟩), .int .i64 (s.low : Int)] W' fun e w' => ∃ t, e = .returned (.tuple #[.agg ((V0 k s.low).getD zo).toArray, .bool t]) ∧ Turn (fun _ => False) W' w' := fun W' T' =>
          ((v9.turn T' (fun f => f) (fun f => f)).get_any (at_ := (s.low : Int)) (by omega)).mono fun e w' ⟨a, b⟩ => ⟨_, a, b⟩
        obtain ⟨cs, hcsl⟩ : ∃ cs, (V0 k (s.low : Int)).getD zo = cs := ⟨_, rfl⟩
        rw [hcsl] at GE hcs
        have GE := Lib.hid GE
        have HCS := Lib.hid hcs
        have hc4 : Hid (IsOut cs) := Lib.hid (by rw [hcs]; exact o1_isc _ _ _)
        have F := Lib.hid (And.intro hTo (And.intro T (And.intro TA (And.intro hov (And.intro hkn n15)))))
        have GG := Lib.hid hg
        clear CA hTo T TA hov hkn hg hvk hL h9 v9 hcs hcsl hl2
        go_upto_region 8 with fail
        rw [← hW9]
        have F : Hid (Told wr W4.heap.size k (.slice ra k rcp) s VL ∧ Turn (fun _ => False) W4 wr ∧ Turn (fun _ => False) wr W9 ∧ OutV W4 (.slice oa on oc) ((s.Y k s.low).getD none) ∧ k < n ∧ n ≤ 15) := F
        clear hW9
        generalize wr.heap.size = b9 at *
        have TD : Turn (fun _ => False) W9 W9.drew := (Turn.refl _ W9).drewN 1
        have u2V : W9.drew.cell? ⟨b9, 2, none⟩ = some (.pointer (some ⟨B.rw k, 0, none⟩)) := z2
        go_cut [9, 10] from 27 to 40 (fun v9 v10 wx => ∃ bx, v9 = .pointer (some ⟨bx, 0, none⟩) ∧ wx.rangeAt bx 0 cs ∧ Turn (fun _ => False) W9 wx)
        case first =>
          refine wp_region_held_drew (S := (fun w' => w'.cell? ⟨b9, 2, none⟩ = some (.pointer (some ⟨B.rw k, 0, none⟩)))) (by kernel_rfl) ?hs0 (fun hS0 => ?_)
          case hs0 => ((try dsimp only); first | with_reducible exact u2V | with_reducible exact u2WA | with_reducible exact u2WB | with_reducible exact u2WC | with_reducible exact u2e | exact u2V | exact u2WA | exact u2WB | exact u2WC | exact u2e)
          generalize W9.drew = V at *
          refine wpAnyH_take (i := 0) (oi := { dst := some 28, op := Op.fieldAddr 137 (Operand.tmp 8) 2, type := 0, pos := "log.go:166", after := #[], guard := none }) (v := ?_) rfl (by kernel_rfl) (by kernel_rfl) (by kernel_rfl) (fun _ _ _ h => h) (Or.inl ⟨by rfl, ?hy1⟩) hS0 ?_
          case hy1 => (intro w hSw; (try dsimp only at hSw); go_simp; try with_reducible rfl)
          try simp only [Act.put, List.setIfInBounds_toArray, List.set_cons_zero, List.set_cons_succ]
          refine wpAnyH_take (i := 1) (oi := { dst := some 29, op := Op.load 134 (Operand.tmp 28), type := 134, pos := "log.go:166", after := #[{ on := 0, ground := Ground.data }], guard := none }) (v := ?_) rfl (by kernel_rfl) (by kernel_rfl) (by kernel_rfl) (fun _ _ _ h => h) (Or.inl ⟨by rfl, ?hy2⟩) hS0 ?_
          case hy2 => (intro w hSw; (try dsimp only at hSw); go_simp; try with_reducible rfl)
          try simp only [Act.put, List.setIfInBounds_toArray, List.set_cons_zero, List.set_cons_succ]
          refine wpAnyH_take (i := 2) (oi := { dst := some 30, op := Op.move (Operand.tmp 0), type := 65, pos := "log.go:166", after := #[], guard := none }) (v := ?_) rfl (by kernel_rfl) (by kernel_rfl) (by kernel_rfl) (fun _ _ _ h => h) (Or.inl ⟨by rfl, ?hy3⟩) hS0 ?_
          case hy3 => (intro w hSw; (try dsimp only at hSw); go_simp; try with_reducible rfl)
          try simp only [Act.put, List.setIfInBounds_toArray, List.set_cons_zero, List.set_cons_succ]
          refine wpAnyH_ready (rs := [3, 8]) (by kernel_rfl) (by simp) ?_
          refine AllReadyH.cons (o := { dst := some 31, op := Op.call { callee := Callee.value (Operand.func 66), args := #[Operand.tmp 30], argTypes := #[65] }, type := 3, pos := "log.go:166", after := #[{ on := 2, ground := Ground.data }], guard := none }) rfl (fun K hK => ?_) ?_
          · go_simp; with_reducible refine (LO.out V TD).mono ?_; rintro en WW ⟨rfl, hww⟩; subst hww; go_simp
            refine hK.out _ _ ?hs4 (fun hS4 => ?_)
            case hs4 => ((try dsimp only); first | with_reducible exact u2V | with_reducible exact u2WA | with_reducible exact u2WB | with_reducible exact u2WC | with_reducible exact u2e | exact u2V | exact u2WA | exact u2WB | exact u2WC | exact u2e)
            clear hK K hS0
            refine wpAnyH_ready (rs := [4, 8]) (by kernel_rfl) (by simp) ?_
            refine AllReadyH.cons (o := { dst := some 32, op := Op.call { callee := Callee.value (Operand.func 188), args := #[Operand.tmp 29, Operand.tmp 31], argTypes := #[134, 3] }, type := 304, pos := "log.go:166", after := #[{ on := 1, ground := Ground.data }, { on := 3, ground := Ground.data }, { on := 3, ground := Ground.chain }], guard := none }) rfl (fun K hK => ?_) ?_
            · go_simp; with_reducible refine (GE.out V TD).mono ?_; rintro en WA ⟨t4, rfl, T4'⟩; have TA := (TD).trans T4'; have u2WA := (TA).cell (fun f => f) z2; go_simp
              refine hK.out _ _ ?hs5 (fun hS5 => ?_)
              case hs5 => ((try dsimp only); first | with_reducible exact u2V | with_reducible exact u2WA | with_reducible exact u2WB | with_reducible exact u2WC | with_reducible exact u2e | exact u2V | exact u2WA | exact u2WB | exact u2WC | exact u2e)
              clear hK K hS4
              refine wpAnyH_take (i := 5) (oi := { dst := some 27, op := Op.move (Operand.tmp 32), type := 304, pos := "log.go:166", after := #[{ on := 4, ground := Ground.data }], guard := none }) (v := ?_) rfl (by kernel_rfl) (by kernel_rfl) (by kernel_rfl) (fun _ _ _ h => h) (Or.inl ⟨by rfl, ?hy6⟩) hS5 ?_
              case hy6 => (intro w hSw; (try dsimp only at hSw); go_simp; try with_reducible rfl)
              try simp only [Act.put, List.setIfInBounds_toArray, List.set_cons_zero, List.set_cons_succ]
              refine wpAnyH_take (i := 6) (oi := { dst := some 33, op := Op.extract (Operand.tmp 27) 0, type := 57, pos := "log.go:166", after := #[{ on := 5, ground := Ground.data }], guard := none }) (v := ?_) rfl (by kernel_rfl) (by kernel_rfl) (by kernel_rfl) (fun _ _ _ h => h) (Or.inl ⟨by rfl, ?hy7⟩) hS5 ?_
              case hy7 => (intro w hSw; (try dsimp only at hSw); go_simp; try with_reducible rfl)
              try simp only [Act.put, List.setIfInBounds_toArray, List.set_cons_zero, List.set_cons_succ]
              refine wpAnyH_take (i := 7) (oi := { dst := some 34, op := Op.extract (Operand.tmp 27) 1, type := 4, pos := "log.go:166", after := #[{ on := 5, ground := Ground.data }, { on := 9, ground := Ground.gcOnly Departure.lateStores }], guard := none }) (v := ?_) rfl (by kernel_rfl) (by kernel_rfl) (by kernel_rfl) (fun _ _ _ h => h) (Or.inl ⟨by rfl, ?hy8⟩) hS5 ?_
              case hy8 => (intro w hSw; (try dsimp only at hSw); go_simp; try with_reducible rfl)
              try simp only [Act.put, List.setIfInBounds_toArray, List.set_cons_zero, List.set_cons_succ]
              refine wpAnyH_ready (rs := [8]) (by kernel_rfl) (by simp) ?_
              refine AllReadyH.cons (o := { dst := some 9, op := Op.alloc 57, type := 0, pos := "log.go:166", after := #[], guard := none }) rfl (fun K hK => ?_) ?_
              · go_simp; have TH3 : (WA.alloc (.cells #[.slice none 0 0, .slice none 0 0, .slice none 0 0, .slice none 0 0] 57)).rangeAt WA.heap.size 0 zo := range_new WA zo 57; have B3 : Blk (WA.alloc (.cells #[.slice none 0 0, .slice none 0 0, .slice none 0 0, .slice none 0 0] 57)) WA.heap.size 57 := Blk.new WA zo 57; have TB : Turn (fun _ => False) W9 (WA.alloc (.cells #[.slice none 0 0, .slice none 0 0, .slice none 0 0, .slice none 0 0] 57)) := (TA).alloc _; have hbx : W9.heap.size ≤ WA.heap.size := (TA).size; generalize WA.heap.size = bx at *; generalize WA.alloc (.cells #[.slice none 0 0, .slice none 0 0, .slice none 0 0, .slice none 0 0] 57) = WB at *; have u2WB := TB.cell (fun f => f) z2; have TH := range_there TH3 rfl B3; have hbx2 := B3
                refine hK.out _ _ ?hs9 (fun hS9 => ?_)
                case hs9 => ((try dsimp only); first | with_reducible exact u2V | with_reducible exact u2WA | with_reducible exact u2WB | with_reducible exact u2WC | with_reducible exact u2e | exact u2V | exact u2WA | exact u2WB | exact u2WC | exact u2e)
                clear hK K hS5
                refine wpAnyH_ready (rs := [9]) (by kernel_rfl) (by simp) ?_
                refine AllReadyH.cons (o := { dst := none, op := Op.store 57 (Operand.tmp 9) (Operand.tmp 33), type := 0, pos := "log.go:166", after := #[{ on := 8, ground := Ground.data }, { on := 6, ground := Ground.data }, { on := 4, ground := Ground.chain }, { on := 0, ground := Ground.phase }, { on := 1, ground := Ground.phase }, { on := 2, ground := Ground.phase }, { on := 3, ground := Ground.phase }, { on := 4, ground := Ground.phase }, { on := 5, ground := Ground.phase }, { on := 6, ground := Ground.phase }, { on := 7, ground := Ground.textOnly Departure.lateStores }, { on := 8, ground := Ground.phase }], guard := none }) rfl (fun K hK => ?_) ?_
                · rw [if_pos (by rfl)]; refine wp_store_mid 57 _ _ rfl bx 0 cs.toArray rfl rfl (by rw [List.size_toArray, hc4.out.len]; exact TH) (by rw [List.size_toArray, hc4.out.len]; exact size62) hc4.out.one ?_; have T5 : Turn (fun _ => False) W9 (WB.setCells bx 0 cs) := TB.comp (Turn.setCells cs 0 (show Turn (fun k => k = bx) WB WB from Turn.refl _ WB) (.inl rfl)) (fun j hj e => by omega); have R5 : (WB.setCells bx 0 cs).rangeAt bx 0 cs := World.rangeAt_setCells_same _ _ _ _ (by rw [hc4.out.len]; exact TH); have u2e := T5.cell (fun f => f) z2
                  refine hK.out _ _ ?hs10 (fun hS10 => ?_)
                  case hs10 => ((try dsimp only); first | with_reducible exact u2V | with_reducible exact u2WA | with_reducible exact u2WB | with_reducible exact u2WC | with_reducible exact u2e | exact u2V | exact u2WA | exact u2WB | exact u2WC | exact u2e)
                  clear hK K hS9
                  refine wpAnyH_take (i := 10) (oi := { dst := some 10, op := Op.assign (Operand.tmp 34), type := 4, pos := "log.go:166", after := #[{ on := 7, ground := Ground.data }, { on := 9, ground := Ground.chain }, { on := 0, ground := Ground.phase }, { on := 1, ground := Ground.phase }, { on := 2, ground := Ground.phase }, { on := 3, ground := Ground.phase }, { on := 4, ground := Ground.phase }, { on := 5, ground := Ground.phase }, { on := 6, ground := Ground.phase }, { on := 7, ground := Ground.phase }, { on := 8, ground := Ground.phase }, { on := 9, ground := Ground.phase }], guard := none }) (v := ?_) rfl (by kernel_rfl) (by kernel_rfl) (by kernel_rfl) (fun _ _ _ h => h) (Or.inl ⟨by rfl, ?hy11⟩) hS10 ?_
                  case hy11 => (intro w hSw; (try dsimp only at hSw); go_simp; try with_reducible rfl)
                  try simp only [Act.put, List.setIfInBounds_toArray, List.set_cons_zero, List.set_cons_succ]
                  refine wpAnyH_done (by kernel_rfl) ?_ _
                  generalize WB.setCells bx 0 cs = W6 at *
                  go_wp2_with fail
                  go_meet
                  case rel => exact ⟨bx, rfl, R5, T5⟩
                exact AllReadyH.nil
              exact AllReadyH.nil
            refine AllReadyH.cons (o := { dst := some 9, op := Op.alloc 57, type := 0, pos := "log.go:166", after := #[], guard := none }) rfl (fun K hK => ?_) ?_
            · go_simp; have TH3 : (V.alloc (.cells #[.slice none 0 0, .slice none 0 0, .slice none 0 0, .slice none 0 0] 57)).rangeAt V.heap.size 0 zo := range_new V zo 57; have B3 : Blk (V.alloc (.cells #[.slice none 0 0, .slice none 0 0, .slice none 0 0, .slice none 0 0] 57)) V.heap.size 57 := Blk.new V zo 57; have TA : Turn (fun _ => False) W9 (V.alloc (.cells #[.slice none 0 0, .slice none 0 0, .slice none 0 0, .slice none 0 0] 57)) := (TD).alloc _; have hbx : W9.heap.size ≤ V.heap.size := (TD).size; generalize V.heap.size = bx at *; generalize V.alloc (.cells #[.slice none 0 0, .slice none 0 0, .slice none 0 0, .slice none 0 0] 57) = WA at *; have u2WA := TA.cell (fun f => f) z2
              refine hK.out _ _ ?hs12 (fun hS12 => ?_)
              case hs12 => ((try dsimp only); first | with_reducible exact u2V | with_reducible exact u2WA | with_reducible exact u2WB | with_reducible exact u2WC | with_reducible exact u2e | exact u2V | exact u2WA | exact u2WB | exact u2WC | exact u2e)
              clear hK K hS4
              refine wpAnyH_ready (rs := [4]) (by kernel_rfl) (by simp) ?_
              refine AllReadyH.cons (o := { dst := some 32, op := Op.call { callee := Callee.value (Operand.func 188), args := #[Operand.tmp 29, Operand.tmp 31], argTypes := #[134, 3] }, type := 304, pos := "log.go:166", after := #[{ on := 1, ground := Ground.data }, { on := 3, ground := Ground.data }, { on := 3, ground := Ground.chain }], guard := none }) rfl (fun K hK => ?_) ?_
              · go_simp; with_reducible refine (GE.out WA TA).mono ?_; rintro en WB ⟨t4, rfl, T4'⟩; have TB := (TA).trans T4'; have u2WB := (TB).cell (fun f => f) z2; have TH := range_there (range_turn TH3 T4' (fun f => f)) rfl (B3.turn T4' (fun f => f)); have hbx2 := B3.turn T4' (fun f => f); go_simp
                refine hK.out _ _ ?hs13 (fun hS13 => ?_)
                case hs13 => ((try dsimp only); first | with_reducible exact u2V | with_reducible exact u2WA | with_reducible exact u2WB | with_reducible exact u2WC | with_reducible exact u2e | exact u2V | exact u2WA | exact u2WB | exact u2WC | exact u2e)
                clear hK K hS12
                refine wpAnyH_take (i := 5) (oi := { dst := some 27, op := Op.move (Operand.tmp 32), type := 304, pos := "log.go:166", after := #[{ on := 4, ground := Ground.data }], guard := none }) (v := ?_) rfl (by kernel_rfl) (by kernel_rfl) (by kernel_rfl) (fun _ _ _ h => h) (Or.inl ⟨by rfl, ?hy14⟩) hS13 ?_
                case hy14 => (intro w hSw; (try dsimp only at hSw); go_simp; try with_reducible rfl)
                try simp only [Act.put, List.setIfInBounds_toArray, List.set_cons_zero, List.set_cons_succ]
                refine wpAnyH_take (i := 6) (oi := { dst := some 33, op := Op.extract (Operand.tmp 27) 0, type := 57, pos := "log.go:166", after := #[{ on := 5, ground := Ground.data }], guard := none }) (v := ?_) rfl (by kernel_rfl) (by kernel_rfl) (by kernel_rfl) (fun _ _ _ h => h) (Or.inl ⟨by rfl, ?hy15⟩) hS13 ?_
                case hy15 => (intro w hSw; (try dsimp only at hSw); go_simp; try with_reducible rfl)
                try simp only [Act.put, List.setIfInBounds_toArray, List.set_cons_zero, List.set_cons_succ]
                refine wpAnyH_take (i := 7) (oi := { dst := some 34, op := Op.extract (Operand.tmp 27) 1, type := 4, pos := "log.go:166", after := #[{ on := 5, ground := Ground.data }, { on := 9, ground := Ground.gcOnly Departure.lateStores }], guard := none }) (v := ?_) rfl (by kernel_rfl) (by kernel_rfl) (by kernel_rfl) (fun _ _ _ h => h) (Or.inl ⟨by rfl, ?hy16⟩) hS13 ?_
                case hy16 => (intro w hSw; (try dsimp only at hSw); go_simp; try with_reducible rfl)
                try simp only [Act.put, List.setIfInBounds_toArray, List.set_cons_zero, List.set_cons_succ]
                refine wpAnyH_ready (rs := [9]) (by kernel_rfl) (by simp) ?_
                refine AllReadyH.cons (o := { dst := none, op := Op.store 57 (Operand.tmp 9) (Operand.tmp 33), type := 0, pos := "log.go:166", after := #[{ on := 8, ground := Ground.data }, { on := 6, ground := Ground.data }, { on := 4, ground := Ground.chain }, { on := 0, ground := Ground.phase }, { on := 1, ground := Ground.phase }, { on := 2, ground := Ground.phase }, { on := 3, ground := Ground.phase }, { on := 4, ground := Ground.phase }, { on := 5, ground := Ground.phase }, { on := 6, ground := Ground.phase }, { on := 7, ground := Ground.textOnly Departure.lateStores }, { on := 8, ground := Ground.phase }], guard := none }) rfl (fun K hK => ?_) ?_
                · rw [if_pos (by rfl)]; refine wp_store_mid 57 _ _ rfl bx 0 cs.toArray rfl rfl (by rw [List.size_toArray, hc4.out.len]; exact TH) (by rw [List.size_toArray, hc4.out.len]; exact size62) hc4.out.one ?_; have T5 : Turn (fun _ => False) W9 (WB.setCells bx 0 cs) := TB.comp (Turn.setCells cs 0 (show Turn (fun k => k = bx) WB WB from Turn.refl _ WB) (.inl rfl)) (fun j hj e => by omega); have R5 : (WB.setCells bx 0 cs).rangeAt bx 0 cs := World.rangeAt_setCells_same _ _ _ _ (by rw [hc4.out.len]; exact TH); have u2e := T5.cell (fun f => f) z2
                  refine hK.out _ _ ?hs17 (fun hS17 => ?_)
                  case hs17 => ((try dsimp only); first | with_reducible exact u2V | with_reducible exact u2WA | with_reducible exact u2WB | with_reducible exact u2WC | with_reducible exact u2e | exact u2V | exact u2WA | exact u2WB | exact u2WC | exact u2e)
                  clear hK K hS13
                  refine wpAnyH_take (i := 10) (oi := { dst := some 10, op := Op.assign (Operand.tmp 34), type := 4, pos := "log.go:166", after := #[{ on := 7, ground := Ground.data }, { on := 9, ground := Ground.chain }, { on := 0, ground := Ground.phase }, { on := 1, ground := Ground.phase }, { on := 2, ground := Ground.phase }, { on := 3, ground := Ground.phase }, { on := 4, ground := Ground.phase }, { on := 5, ground := Ground.phase }, { on := 6, ground := Ground.phase }, { on := 7, ground := Ground.phase }, { on := 8, ground := Ground.phase }, { on := 9, ground := Ground.phase }], guard := none }) (v := ?_) rfl (by kernel_rfl) (by kernel_rfl) (by kernel_rfl) (fun _ _ _ h => h) (Or.inl ⟨by rfl, ?hy18⟩) hS17 ?_
                  case hy18 => (intro w hSw; (try dsimp only at hSw); go_simp; try with_reducible rfl)
                  try simp only [Act.put, List.setIfInBounds_toArray, List.set_cons_zero, List.set_cons_succ]
                  refine wpAnyH_done (by kernel_rfl) ?_ _
                  generalize WB.setCells bx 0 cs = W6 at *
                  go_wp2_with fail
                  go_meet
                  case rel => exact ⟨bx, rfl, R5, T5⟩
                exact AllReadyH.nil
              exact AllReadyH.nil
            exact AllReadyH.nil
          refine AllReadyH.cons (o := { dst := some 9, op := Op.alloc 57, type := 0, pos := "log.go:166", after := #[], guard := none }) rfl (fun K hK => ?_) ?_
          · go_simp; have TH3 : (V.alloc (.cells #[.slice none 0 0, .slice none 0 0, .slice none 0 0, .slice none 0 0] 57)).rangeAt V.heap.size 0 zo := range_new V zo 57; have B3 : Blk (V.alloc (.cells #[.slice none 0 0, .slice none 0 0, .slice none 0 0, .slice none 0 0] 57)) V.heap.size 57 := Blk.new V zo 57; have TA : Turn (fun _ => False) W9 (V.alloc (.cells #[.slice none 0 0, .slice none 0 0, .slice none 0 0, .slice none 0 0] 57)) := (TD).alloc _; have hbx : W9.heap.size ≤ V.heap.size := (TD).size; generalize V.heap.size = bx at *; generalize V.alloc (.cells #[.slice none 0 0, .slice none 0 0, .slice none 0 0, .slice none 0 0] 57) = WA at *; have u2WA := TA.cell (fun f => f) z2
            refine hK.out _ _ ?hs19 (fun hS19 => ?_)
            case hs19 => ((try dsimp only); first | with_reducible exact u2V | with_reducible exact u2WA | with_reducible exact u2WB | with_reducible exact u2WC | with_reducible exact u2e | exact u2V | exact u2WA | exact u2WB | exact u2WC | exact u2e)
            clear hK K hS0
            refine wpAnyH_ready (rs := [3]) (by kernel_rfl) (by simp) ?_
            refine AllReadyH.cons (o := { dst := some 31, op := Op.call { callee := Callee.value (Operand.func 66), args := #[Operand.tmp 30], argTypes := #[65] }, type := 3, pos := "log.go:166", after := #[{ on := 2, ground := Ground.data }], guard := none }) rfl (fun K hK => ?_) ?_
            · go_simp; with_reducible refine (LO.out WA TA).mono ?_; rintro en WW ⟨rfl, hww⟩; subst hww; go_simp
              refine hK.out _ _ ?hs20 (fun hS20 => ?_)
              case hs20 => ((try dsimp only); first | with_reducible exact u2V | with_reducible exact u2WA | with_reducible exact u2WB | with_reducible exact u2WC | with_reducible exact u2e | exact u2V | exact u2WA | exact u2WB | exact u2WC | exact u2e)
              clear hK K hS19
              refine wpAnyH_ready (rs := [4]) (by kernel_rfl) (by simp) ?_
              refine AllReadyH.cons (o := { dst := some 32, op := Op.call { callee := Callee.value (Operand.func 188), args := #[Operand.tmp 29, Operand.tmp 31], argTypes := #[134, 3] }, type := 304, pos := "log.go:166", after := #[{ on := 1, ground := Ground.data }, { on := 3, ground := Ground.data }, { on := 3, ground := Ground.chain }], guard := none }) rfl (fun K hK => ?_) ?_
              · go_simp; with_reducible refine (GE.out WA TA).mono ?_; rintro en WB ⟨t4, rfl, T4'⟩; have TB := (TA).trans T4'; have u2WB := (TB).cell (fun f => f) z2; have TH := range_there (range_turn TH3 T4' (fun f => f)) rfl (B3.turn T4' (fun f => f)); have hbx2 := B3.turn T4' (fun f => f); go_simp
                refine hK.out _ _ ?hs21 (fun hS21 => ?_)
                case hs21 => ((try dsimp only); first | with_reducible exact u2V | with_reducible exact u2WA | with_reducible exact u2WB | with_reducible exact u2WC | with_reducible exact u2e | exact u2V | exact u2WA | exact u2WB | exact u2WC | exact u2e)
                clear hK K hS20
                refine wpAnyH_take (i := 5) (oi := { dst := some 27, op := Op.move (Operand.tmp 32), type := 304, pos := "log.go:166", after := #[{ on := 4, ground := Ground.data }], guard := none }) (v := ?_) rfl (by kernel_rfl) (by kernel_rfl) (by kernel_rfl) (fun _ _ _ h => h) (Or.inl ⟨by rfl, ?hy22⟩) hS21 ?_
                case hy22 => (intro w hSw; (try dsimp only at hSw); go_simp; try with_reducible rfl)
                try simp only [Act.put, List.setIfInBounds_toArray, List.set_cons_zero, List.set_cons_succ]
                refine wpAnyH_take (i := 6) (oi := { dst := some 33, op := Op.extract (Operand.tmp 27) 0, type := 57, pos := "log.go:166", after := #[{ on := 5, ground := Ground.data }], guard := none }) (v := ?_) rfl (by kernel_rfl) (by kernel_rfl) (by kernel_rfl) (fun _ _ _ h => h) (Or.inl ⟨by rfl, ?hy23⟩) hS21 ?_
                case hy23 => (intro w hSw; (try dsimp only at hSw); go_simp; try with_reducible rfl)
                try simp only [Act.put, List.setIfInBounds_toArray, List.set_cons_zero, List.set_cons_succ]
                refine wpAnyH_take (i := 7) (oi := { dst := some 34, op := Op.extract (Operand.tmp 27) 1, type := 4, pos := "log.go:166", after := #[{ on := 5, ground := Ground.data }, { on := 9, ground := Ground.gcOnly Departure.lateStores }], guard := none }) (v := ?_) rfl (by kernel_rfl) (by kernel_rfl) (by kernel_rfl) (fun _ _ _ h => h) (Or.inl ⟨by rfl, ?hy24⟩) hS21 ?_
                case hy24 => (intro w hSw; (try dsimp only at hSw); go_simp; try with_reducible rfl)
                try simp only [Act.put, List.setIfInBounds_toArray, List.set_cons_zero, List.set_cons_succ]
                refine wpAnyH_ready (rs := [9]) (by kernel_rfl) (by simp) ?_
                refine AllReadyH.cons (o := { dst := none, op := Op.store 57 (Operand.tmp 9) (Operand.tmp 33), type := 0, pos := "log.go:166", after := #[{ on := 8, ground := Ground.data }, { on := 6, ground := Ground.data }, { on := 4, ground := Ground.chain }, { on := 0, ground := Ground.phase }, { on := 1, ground := Ground.phase }, { on := 2, ground := Ground.phase }, { on := 3, ground := Ground.phase }, { on := 4, ground := Ground.phase }, { on := 5, ground := Ground.phase }, { on := 6, ground := Ground.phase }, { on := 7, ground := Ground.textOnly Departure.lateStores }, { on := 8, ground := Ground.phase }], guard := none }) rfl (fun K hK => ?_) ?_
                · rw [if_pos (by rfl)]; refine wp_store_mid 57 _ _ rfl bx 0 cs.toArray rfl rfl (by rw [List.size_toArray, hc4.out.len]; exact TH) (by rw [List.size_toArray, hc4.out.len]; exact size62) hc4.out.one ?_; have T5 : Turn (fun _ => False) W9 (WB.setCells bx 0 cs) := TB.comp (Turn.setCells cs 0 (show Turn (fun k => k = bx) WB WB from Turn.refl _ WB) (.inl rfl)) (fun j hj e => by omega); have R5 : (WB.setCells bx 0 cs).rangeAt bx 0 cs := World.rangeAt_setCells_same _ _ _ _ (by rw [hc4.out.len]; exact TH); have u2e := T5.cell (fun f => f) z2
                  refine hK.out _ _ ?hs25 (fun hS25 => ?_)
                  case hs25 => ((try dsimp only); first | with_reducible exact u2V | with_reducible exact u2WA | with_reducible exact u2WB | with_reducible exact u2WC | with_reducible exact u2e | exact u2V | exact u2WA | exact u2WB | exact u2WC | exact u2e)
                  clear hK K hS21
                  refine wpAnyH_take (i := 10) (oi := { dst := some 10, op := Op.assign (Operand.tmp 34), type := 4, pos := "log.go:166", after := #[{ on := 7, ground := Ground.data }, { on := 9, ground := Ground.chain }, { on := 0, ground := Ground.phase }, { on := 1, ground := Ground.phase }, { on := 2, ground := Ground.phase }, { on := 3, ground := Ground.phase }, { on := 4, ground := Ground.phase }, { on := 5, ground := Ground.phase }, { on := 6, ground := Ground.phase }, { on := 7, ground := Ground.phase }, { on := 8, ground := Ground.phase }, { on := 9, ground := Ground.phase }], guard := none }) (v := ?_) rfl (by kernel_rfl) (by kernel_rfl) (by kernel_rfl) (fun _ _ _ h => h) (Or.inl ⟨by rfl, ?hy26⟩) hS25 ?_
                  case hy26 => (intro w hSw; (try dsimp only at hSw); go_simp; try with_reducible rfl)
                  try simp only [Act.put, List.setIfInBounds_toArray, List.set_cons_zero, List.set_cons_succ]
                  refine wpAnyH_done (by kernel_rfl) ?_ _
                  generalize WB.setCells bx 0 cs = W6 at *
                  go_wp2_with fail
                  go_meet
                  case rel => exact ⟨bx, rfl, R5, T5⟩
                exact AllReadyH.nil
              exact AllReadyH.nil
            exact AllReadyH.nil
          exact AllReadyH.nil
        case rest =>
        obtain ⟨bx, rfl, R5, T5⟩ := hcut
        rw [HCS.out] at R5
        have T49 := ((F.out.2.1.trans F.out.2.2.1).trans T5)
        have OO := Lib.hid (own_out (F.out.2.2.2.1.turn T49 (fun _ _ f => f)))
        have TX := Lib.hid (And.intro T49 (F.out.2.2.1.trans T5))
        clear z2 u2V TD GE LO T5 T49 y0 y1 y2
        go_upto_region 9 with fail
        refine wp_region_lit ?_
        refine rl_val rfl (v := .slice ra k rcp) rfl ?_
        try simp only [Act.put, List.setIfInBounds_toArray, List.set_cons_zero, List.set_cons_succ]
        refine wpList_load_mid rfl 57 _ rfl bx 0 rfl [.slice none 0 0, .slice oa on oc, .slice none 0 0, .slice none 0 0] _ R5 Tryz.underlying57 rfl size62 ?_
        try simp only [Act.put, List.setIfInBounds_toArray, List.set_cons_zero, List.set_cons_succ]
        clear R5
        go_wp2_with fail
        with_reducible refine OO.out.mono ?_
        rintro en W12 ⟨a', n', c', rfl, hov12, T12⟩
        have T4c := TX.out.1.trans T12
        have own12 := own_turn F.out.1.own (TX.out.2.trans T12) (fun _ _ f => f)
        obtain ⟨v14, W14, hrun, ho14, T14⟩ := out_app (a := a') (n := n') (c := c') own12 T4c.size (by have := F.out.2.2.2.2; omega)
        obtain ⟨a14, c14, rfl, _⟩ := own_slice ho14
        have hval : ∀ (j : Nat) (x : Value), (VL ++ [.slice a' n' c'])[j]? = some x → OutV W14 x (outAt s j) := fun j x hj => by
          have hlen := F.out.1.len
          have hs : ∀ b, Blk W12 b 3 → ¬ (Value.slice ra k rcp).ownBlock = some b := fun b hb e => hb.ne (own_blk own12 e) (by decide) rfl
          by_cases hjk : j < VL.length
          · rw [List.getElem?_append_left hjk] at hj
            exact ((F.out.1.val j x hj).turn (TX.out.2.trans T12) (fun _ _ f => f)).turn T14 hs
          · rw [List.getElem?_append_right (by omega)] at hj
            have hj0 : j - VL.length = 0 := by
              have := (List.getElem?_eq_some_iff.1 hj).1
              simp at this
              omega
            rw [hj0] at hj
            simp at hj
            subst hj
            obtain rfl : j = k := by omega
            exact hov12.turn T14 hs
        have FF := Lib.hid (show Told W14 W4.heap.size (k + 1) (.slice a14 (k + 1) c14) s (VL ++ [.slice a' n' c']) ∧ Turn (fun _ => False) W4 W14 from ⟨⟨by simp [F.out.1.len], by rw [outCells_app]; exact ho14, hval⟩, turn_fresh T4c own12 T14⟩)
        have RUN := Lib.hid hrun
        clear hrun ho14 T14 hval own12 T4c hov12 T12 OO
        go_wp2_with (refine rl_append_run (by rfl) _ _ _ (by rfl) (by rfl) (by rfl) RUN.out ?_)
        go_roundg (n - (k + 1))
        case measure => have := GG.out; have := F.out.2.2.2.2.1; omega
        case rel => exact ⟨k + 1, _, by go_num, by have := F.out.2.2.2.2.1; omega, rfl, FF.out⟩
      · obtain rfl : k = n := by omega
        have u1 : decide ((k : Int) < (k : Int)) = false := decide_eq_false (by omega)
        have FF := Lib.hid (And.intro hTo T)
        clear hTo T hg k12
        go_wp2_with fail
        go_ret2
        refine ⟨_, VL, rfl, ?_, TT.out.trans FF.out.2⟩
        rw [HN.out]
        exact ⟨FF.out.1.len, own_low FF.out.1.own TT.out.size, FF.out.1.val⟩
end
end Go.Proofs.YtgfobgabdafclaaGreat
