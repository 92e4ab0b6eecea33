/-
  A log in memory: is the command at Low ready?
-/
import Derived.Test.YtgfobgabdafclaaGreatLg5
namespace Go.Proofs.YtgfobgabdafclaaGreat
open Go.ChangeShapes Go.WideShapes Go.ChangeAt Go.RowKit
set_option linter.unusedVariables false
section
variable {w w' : World} {B : LB} {c : Cf} {s : LSt}
/-- A worker has told what it will of the command at low, of that kind. -/
def told (s : LSt) (kind : Int) (i : Nat) : Bool := s.left i || (kind != 5 && decide (s.low < s.cur i))
def allTold (s : LSt) (kind : Int) : Nat → Bool
  | 0 => (s.X s.low).isSome
  | k + 1 => allTold s kind k && told s kind k
def readyB (c : Cf) (s : LSt) : Bool := allTold s ((s.X s.low).getD (0, 0)).1 c.sh
set_option maxRecDepth 100000 in
set_option maxHeartbeats 1000000 in
theorem told_is (w : World) {b5 b4 : Nat} {kind low cu : Int} {lf : Bool} {p : Option Addr} (h5 : w.cell? ⟨b5, 0, none⟩ = some (.int .i64 kind)) (h4 : w.cell? ⟨b4, 0, none⟩ = some (.int .i64 low)) :
    Calls Tryz.prog 222 #[.agg #[.int .i64 cu, .bool lf, .pointer p], .pointer (some ⟨b5, 0, none⟩), .pointer (some ⟨b4, 0, none⟩)] w fun e w' => e = .returned (.bool (lf || (kind != 5 && decide (low < cu)))) ∧ Turn (fun _ => False) w w' := by
  have T : Turn (fun _ => False) w (w.alloc (.cells #[.int .i64 cu, .bool lf, .pointer p] 137)) := (Turn.refl _ w).alloc _
  have x5 := T.cell (fun f => f) h5
  have x4 := T.cell (fun f => f) h4
  have K := Lib.hid T
  clear T h5 h4
  cases lf with
  | true =>
    go_enter Tryz.func222, Tryz.ntmps222
    go_wp2
    go_ret
    exact ⟨rfl, K.out⟩
  | false =>
    by_cases hk : kind = 5
    · have k1 : (kind != 5) = false := by simpa using hk
      rw [k1]
      clear hk
      go_enter Tryz.func222, Tryz.ntmps222
      go_wp2
      go_ret
      exact ⟨rfl, K.out⟩
    · have k1 : (kind != 5) = true := by simpa using hk
      rw [k1]
      clear hk
      go_enter Tryz.func222, Tryz.ntmps222
      go_wp2
      go_ret
      exact ⟨by simp, K.out⟩
def RRel (s : LSt) (kind : Int) (n : Nat) (W : World) (gh : Nat) (v6 v30 : Value) (wr : World) : Prop :=
  ∃ k : Nat, v30 = .int .i64 (k : Int) ∧ k ≤ n ∧ gh = n - k ∧ v6 = .bool (allTold s kind k) ∧ Turn (fun _ => False) W wr
set_option maxRecDepth 100000 in
set_option maxHeartbeats 4000000 in
theorem LogAt.ready_is (h : LogAt w B c s) :
    Calls Tryz.prog 187 #[.pointer (some ⟨B.l, 0, none⟩)] w fun e w' => e = .returned (.tuple #[.agg (cmdL ((s.X s.low).getD (0, 0))).toArray, .bool (readyB c s)]) ∧ Turn (fun _ => False) w w' := by
  obtain ⟨W, hW⟩ : ∃ W, W = w.alloc (.cells #[.int .i64 0, .int .i64 0, .int .i64 0, .int .i64 0, .int .i64 0, .int .i64 0, .int .i64 0, .int .i64 0, .int .i64 0, .int .i64 0, .int .i64 0, .slice none 0 0, .int .i64 0, .bool false] 60) := ⟨_, rfl⟩
  have T : Turn (fun _ => False) w W := by rw [hW]; exact (Turn.refl _ w).alloc _
  have Bk : Blk W w.heap.size 60 := by rw [hW]; exact Blk.new w zc 60
  have C : W.rangeAt w.heap.size 0 zc := by rw [hW]; exact range_new w zc 60
  have hh := h.keep T
  have L := Lib.hid hh.low_is
  have hl2 := h.com.l2
  have G : ∀ W', Turn (fun _ => False) W W' → Calls Tryz.prog 184 #[.pointer (some ⟨B.rc, 0, none⟩), .int .i64 (s.low : Int)] W' fun e w' => e = .returned (.tuple #[.agg (cmdL ((s.X s.low).getD (0, 0))).toArray, .bool (s.X s.low).isSome]) ∧ Turn (fun _ => False) W' w' := fun W' T' => by
    have G := (hh.keep T').com.get_any (at_ := (s.low : Int)) (by omega)
    rw [cmd_get, Option.isSome_map] at G
    exact G
  have GW := Lib.hid G
  have KX := Lib.hid (And.intro T (And.intro Bk (And.intro C hh)))
  have hc := Lib.hid (cmdL_is ((s.X s.low).getD (0, 0)))
  have HK : (cmdL ((s.X s.low).getD (0, 0)))[0]? = some (.int .i64 ((s.X s.low).getD (0, 0)).1) := rfl
  unfold readyB
  generalize hkd : ((s.X s.low).getD (0, 0)).1 = kind at *
  have HK := Lib.hid HK
  have AT0 : allTold s kind 0 = (s.X s.low).isSome := rfl
  have A0 := Lib.hid AT0
  clear hkd
  generalize cmdL ((s.X s.low).getD (0, 0)) = cs at *
  generalize (s.X s.low).isSome = t at *
  clear T Bk C hh h G AT0
  go_enter Tryz.func187, Tryz.ntmps187
  go_upto_region 1 with fail
  rw [← hW]
  clear hW
  generalize hb2 : w.heap.size = b2 at *
  have HB := Lib.hid hb2
  clear hb2
  go_wp2_with fail
  with_reducible refine L.out.mono ?_
  rintro e w1 ⟨rfl, rfl⟩
  go_upto_region 4 with fail
  obtain ⟨W4, hW4⟩ : ∃ W4, W4 = W.alloc (.cells #[.int .i64 (s.low : Int)] 3) := ⟨_, rfl⟩
  rw [← hW4]
  have TW4 : Turn (fun _ => False) W W4 := by rw [hW4]; exact (Turn.refl _ W).alloc _
  have z0 : W4.cell? ⟨W.heap.size, 0, none⟩ = some (.int .i64 (s.low : Int)) := by rw [hW4]; exact World.cell?_alloc_new W #[.int .i64 (s.low : Int)] 3 0
  clear hW4
  generalize W.heap.size = b4 at *
  have z11 := TW4.cell (fun f => f) KX.out.2.2.2.k11
  have G := Lib.hid (fun W' (T' : Turn (fun _ => False) W4 W') => GW.out W' (TW4.trans T'))
  have TD : Turn (fun _ => False) W4 W4.drew := (Turn.refl _ W4).drewN 1
  have y11 : W4.drew.cell? ⟨B.l, 11, none⟩ = some (.pointer (some ⟨B.rc, 0, none⟩)) := z11
  have v0 : W4.drew.cell? ⟨b4, 0, none⟩ = some (.int .i64 (s.low : Int)) := z0
  have TW := Lib.hid TW4
  clear TW4 GW L
  go_cut [5, 6] from 10 (fun v5 v6 wx => ∃ bx, v5 = .pointer (some ⟨bx, 0, none⟩) ∧ v6 = .bool t ∧ wx.rangeAt bx 0 cs ∧ Turn (fun _ => False) W4 wx)
  case first =>
    refine wp_region_held_drew (S := (fun w' => w'.cell? ⟨B.l, 11, none⟩ = some (.pointer (some ⟨B.rc, 0, none⟩)) ∧ w'.cell? ⟨b4, 0, none⟩ = some (.int .i64 (s.low : Int)))) (by kernel_rfl) ?hs0 (fun hS0 => ?_)
    case hs0 => ((try dsimp only); first | with_reducible exact ⟨y11, v0⟩ | with_reducible exact ⟨y11b, v0b⟩ | with_reducible exact ⟨y11c, v0c⟩ | with_reducible exact ⟨y11d, v0d⟩ | exact ⟨y11, v0⟩ | exact ⟨y11b, v0b⟩ | exact ⟨y11c, v0c⟩ | exact ⟨y11d, v0d⟩)
    generalize W4.drew = V at *
    refine wpAnyH_take (i := 0) (oi := { dst := some 16, op := Op.move (Operand.tmp 0), type := 65, pos := "log.go:151", after := #[], guard := none }) (v := ?_) rfl (by kernel_rfl) (by kernel_rfl) (by kernel_rfl) (fun _ _ _ h => h) (Or.inl ⟨by rfl, ?hy1⟩) hS0 ?_
    case hy1 => (intro w hSw; (try dsimp only at hSw); go_simp; try with_reducible rfl)
    try simp only [Act.put, List.setIfInBounds_toArray, List.set_cons_zero, List.set_cons_succ]
    refine wpAnyH_take (i := 1) (oi := { dst := some 17, op := Op.nilCheck (Operand.tmp 16), type := 0, pos := "log.go:151", after := #[{ on := 0, ground := Ground.data }], guard := none }) (v := ?_) rfl (by kernel_rfl) (by kernel_rfl) (by kernel_rfl) (fun _ _ _ h => h) (Or.inl ⟨by rfl, ?hy2⟩) hS0 ?_
    case hy2 => (intro w hSw; (try dsimp only at hSw); go_simp; try with_reducible rfl)
    try simp only [Act.put, List.setIfInBounds_toArray, List.set_cons_zero, List.set_cons_succ]
    refine wpAnyH_take (i := 2) (oi := { dst := some 18, op := Op.fieldAddr 133 (Operand.tmp 17) 5, type := 0, pos := "log.go:151", after := #[{ on := 1, ground := Ground.data }], guard := none }) (v := ?_) rfl (by kernel_rfl) (by kernel_rfl) (by kernel_rfl) (fun _ _ _ h => h) (Or.inl ⟨by rfl, ?hy3⟩) hS0 ?_
    case hy3 => (intro w hSw; (try dsimp only at hSw); go_simp; try with_reducible rfl)
    try simp only [Act.put, List.setIfInBounds_toArray, List.set_cons_zero, List.set_cons_succ]
    refine wpAnyH_take (i := 3) (oi := { dst := some 19, op := Op.load 128 (Operand.tmp 18), type := 128, pos := "log.go:151", after := #[{ on := 2, ground := Ground.data }], guard := none }) (v := ?_) rfl (by kernel_rfl) (by kernel_rfl) (by kernel_rfl) (fun _ _ _ h => h) (Or.inl ⟨by rfl, ?hy4⟩) hS0 ?_
    case hy4 => (intro w hSw; (try dsimp only at hSw); go_simp; try with_reducible rfl)
    try simp only [Act.put, List.setIfInBounds_toArray, List.set_cons_zero, List.set_cons_succ]
    refine wpAnyH_take (i := 4) (oi := { dst := some 20, op := Op.load 3 (Operand.tmp 4), type := 3, pos := "log.go:151", after := #[], guard := none }) (v := ?_) rfl (by kernel_rfl) (by kernel_rfl) (by kernel_rfl) (fun _ _ _ h => h) (Or.inl ⟨by rfl, ?hy5⟩) hS0 ?_
    case hy5 => (intro w hSw; (try dsimp only at hSw); go_simp; try with_reducible rfl)
    try simp only [Act.put, List.setIfInBounds_toArray, List.set_cons_zero, List.set_cons_succ]
    refine wpAnyH_ready (rs := [5, 9]) (by kernel_rfl) (by simp) ?_
    refine AllReadyH.cons (o := { dst := some 21, op := Op.call { callee := Callee.value (Operand.func 184), args := #[Operand.tmp 19, Operand.tmp 20], argTypes := #[128, 3] }, type := 271, pos := "log.go:151", after := #[{ on := 3, ground := Ground.data }, { on := 4, ground := Ground.data }], guard := none }) rfl (fun K hK => ?_) ?_
    · go_simp; with_reducible refine (G.out V TD).mono ?_; rintro en W3 ⟨rfl, T3⟩; have T3 := TD.trans T3; have y11b := T3.cell (fun f => f) z11; have v0b := T3.cell (fun f => f) z0; go_simp
      refine hK.out _ _ ?hs6 (fun hS6 => ?_)
      case hs6 => ((try dsimp only); first | with_reducible exact ⟨y11, v0⟩ | with_reducible exact ⟨y11b, v0b⟩ | with_reducible exact ⟨y11c, v0c⟩ | with_reducible exact ⟨y11d, v0d⟩ | exact ⟨y11, v0⟩ | exact ⟨y11b, v0b⟩ | exact ⟨y11c, v0c⟩ | exact ⟨y11d, v0d⟩)
      clear hK K hS0
      refine wpAnyH_take (i := 6) (oi := { dst := some 15, op := Op.move (Operand.tmp 21), type := 271, pos := "log.go:151", after := #[{ on := 5, ground := Ground.data }], guard := none }) (v := ?_) rfl (by kernel_rfl) (by kernel_rfl) (by kernel_rfl) (fun _ _ _ h => h) (Or.inl ⟨by rfl, ?hy7⟩) hS6 ?_
      case hy7 => (intro w hSw; (try dsimp only at hSw); go_simp; try with_reducible rfl)
      try simp only [Act.put, List.setIfInBounds_toArray, List.set_cons_zero, List.set_cons_succ]
      refine wpAnyH_take (i := 7) (oi := { dst := some 22, op := Op.extract (Operand.tmp 15) 0, type := 60, pos := "log.go:151", after := #[{ on := 6, ground := Ground.data }], guard := none }) (v := ?_) rfl (by kernel_rfl) (by kernel_rfl) (by kernel_rfl) (fun _ _ _ h => h) (Or.inl ⟨by rfl, ?hy8⟩) hS6 ?_
      case hy8 => (intro w hSw; (try dsimp only at hSw); go_simp; try with_reducible rfl)
      try simp only [Act.put, List.setIfInBounds_toArray, List.set_cons_zero, List.set_cons_succ]
      refine wpAnyH_take (i := 8) (oi := { dst := some 23, op := Op.extract (Operand.tmp 15) 1, type := 4, pos := "log.go:151", after := #[{ on := 6, ground := Ground.data }, { on := 10, ground := Ground.gcOnly Departure.lateStores }], guard := none }) (v := ?_) rfl (by kernel_rfl) (by kernel_rfl) (by kernel_rfl) (fun _ _ _ h => h) (Or.inl ⟨by rfl, ?hy9⟩) hS6 ?_
      case hy9 => (intro w hSw; (try dsimp only at hSw); go_simp; try with_reducible rfl)
      try simp only [Act.put, List.setIfInBounds_toArray, List.set_cons_zero, List.set_cons_succ]
      refine wpAnyH_ready (rs := [9]) (by kernel_rfl) (by simp) ?_
      refine AllReadyH.cons (o := { dst := some 5, op := Op.alloc 60, type := 0, pos := "log.go:151", after := #[], guard := none }) rfl (fun K hK => ?_) ?_
      · go_simp; have TH : (W3.alloc (.cells #[.int .i64 0, .int .i64 0, .int .i64 0, .int .i64 0, .int .i64 0, .int .i64 0, .int .i64 0, .int .i64 0, .int .i64 0, .int .i64 0, .int .i64 0, .slice none 0 0, .int .i64 0, .bool false] 60)).there W3.heap.size 0 14 := range_there (range_new W3 zc 60) rfl (Blk.new W3 zc 60); have T4 : Turn (fun _ => False) W4 (W3.alloc (.cells #[.int .i64 0, .int .i64 0, .int .i64 0, .int .i64 0, .int .i64 0, .int .i64 0, .int .i64 0, .int .i64 0, .int .i64 0, .int .i64 0, .int .i64 0, .slice none 0 0, .int .i64 0, .bool false] 60)) := T3.alloc _; have hbx : W4.heap.size ≤ W3.heap.size := T3.size; have hbx2 : Blk (W3.alloc (.cells #[.int .i64 0, .int .i64 0, .int .i64 0, .int .i64 0, .int .i64 0, .int .i64 0, .int .i64 0, .int .i64 0, .int .i64 0, .int .i64 0, .int .i64 0, .slice none 0 0, .int .i64 0, .bool false] 60)) W3.heap.size 60 := Blk.new W3 zc 60; generalize W3.heap.size = bx at *; generalize W3.alloc (.cells #[.int .i64 0, .int .i64 0, .int .i64 0, .int .i64 0, .int .i64 0, .int .i64 0, .int .i64 0, .int .i64 0, .int .i64 0, .int .i64 0, .int .i64 0, .slice none 0 0, .int .i64 0, .bool false] 60) = W5_ at *; have y11c := T4.cell (fun f => f) z11; have v0c := T4.cell (fun f => f) z0
        refine hK.out _ _ ?hs10 (fun hS10 => ?_)
        case hs10 => ((try dsimp only); first | with_reducible exact ⟨y11, v0⟩ | with_reducible exact ⟨y11b, v0b⟩ | with_reducible exact ⟨y11c, v0c⟩ | with_reducible exact ⟨y11d, v0d⟩ | exact ⟨y11, v0⟩ | exact ⟨y11b, v0b⟩ | exact ⟨y11c, v0c⟩ | exact ⟨y11d, v0d⟩)
        clear hK K hS6
        refine wpAnyH_ready (rs := [10]) (by kernel_rfl) (by simp) ?_
        refine AllReadyH.cons (o := { dst := none, op := Op.store 60 (Operand.tmp 5) (Operand.tmp 22), type := 0, pos := "log.go:151", after := #[{ on := 9, ground := Ground.data }, { on := 7, ground := Ground.data }, { on := 5, ground := Ground.chain }, { on := 0, ground := Ground.phase }, { on := 1, ground := Ground.phase }, { on := 2, ground := Ground.phase }, { on := 3, ground := Ground.phase }, { on := 4, ground := Ground.phase }, { on := 5, ground := Ground.phase }, { on := 6, ground := Ground.phase }, { on := 7, ground := Ground.phase }, { on := 8, ground := Ground.textOnly Departure.lateStores }, { on := 9, ground := Ground.phase }], guard := none }) rfl (fun K hK => ?_) ?_
        · rw [if_pos (by rfl)]; refine wp_store_mid 60 _ _ rfl bx 0 cs.toArray rfl rfl (by rw [List.size_toArray, hc.out.len]; exact TH) (by rw [List.size_toArray, hc.out.len]; exact size51) hc.out.one ?_; have T5 : Turn (fun _ => False) W4 (W5_.setCells bx 0 cs) := T4.comp (Turn.setCells cs 0 (show Turn (fun k => k = bx) W5_ W5_ from Turn.refl _ W5_) (.inl rfl)) (fun j hj e => by omega); have R5 : (W5_.setCells bx 0 cs).rangeAt bx 0 cs := World.rangeAt_setCells_same _ _ _ _ (by rw [hc.out.len]; exact TH); have y11d := T5.cell (fun f => f) z11; have v0d := T5.cell (fun f => f) z0
          refine hK.out _ _ ?hs11 (fun hS11 => ?_)
          case hs11 => ((try dsimp only); first | with_reducible exact ⟨y11, v0⟩ | with_reducible exact ⟨y11b, v0b⟩ | with_reducible exact ⟨y11c, v0c⟩ | with_reducible exact ⟨y11d, v0d⟩ | exact ⟨y11, v0⟩ | exact ⟨y11b, v0b⟩ | exact ⟨y11c, v0c⟩ | exact ⟨y11d, v0d⟩)
          clear hK K hS10
          refine wpAnyH_take (i := 11) (oi := { dst := some 6, op := Op.assign (Operand.tmp 23), type := 4, pos := "log.go:151", after := #[{ on := 8, ground := Ground.data }, { on := 10, ground := Ground.chain }, { on := 0, ground := Ground.phase }, { on := 1, ground := Ground.phase }, { on := 2, ground := Ground.phase }, { on := 3, ground := Ground.phase }, { on := 4, ground := Ground.phase }, { on := 5, ground := Ground.phase }, { on := 6, ground := Ground.phase }, { on := 7, ground := Ground.phase }, { on := 8, ground := Ground.phase }, { on := 9, ground := Ground.phase }, { on := 10, ground := Ground.phase }], guard := none }) (v := ?_) rfl (by kernel_rfl) (by kernel_rfl) (by kernel_rfl) (fun _ _ _ h => h) (Or.inl ⟨by rfl, ?hy12⟩) hS11 ?_
          case hy12 => (intro w hSw; (try dsimp only at hSw); go_simp; try with_reducible rfl)
          try simp only [Act.put, List.setIfInBounds_toArray, List.set_cons_zero, List.set_cons_succ]
          refine wpAnyH_done (by kernel_rfl) ?_ _
          generalize W5_.setCells bx 0 cs = W6 at *
          go_wp2_with fail
          go_meet
          case rel => exact ⟨bx, rfl, rfl, R5, T5⟩
        exact AllReadyH.nil
      exact AllReadyH.nil
    refine AllReadyH.cons (o := { dst := some 5, op := Op.alloc 60, type := 0, pos := "log.go:151", after := #[], guard := none }) rfl (fun K hK => ?_) ?_
    · go_simp; have TH3 : (V.alloc (.cells #[.int .i64 0, .int .i64 0, .int .i64 0, .int .i64 0, .int .i64 0, .int .i64 0, .int .i64 0, .int .i64 0, .int .i64 0, .int .i64 0, .int .i64 0, .slice none 0 0, .int .i64 0, .bool false] 60)).rangeAt V.heap.size 0 zc := range_new V zc 60; have B3 : Blk (V.alloc (.cells #[.int .i64 0, .int .i64 0, .int .i64 0, .int .i64 0, .int .i64 0, .int .i64 0, .int .i64 0, .int .i64 0, .int .i64 0, .int .i64 0, .int .i64 0, .slice none 0 0, .int .i64 0, .bool false] 60)) V.heap.size 60 := Blk.new V zc 60; have T3 : Turn (fun _ => False) W4 (V.alloc (.cells #[.int .i64 0, .int .i64 0, .int .i64 0, .int .i64 0, .int .i64 0, .int .i64 0, .int .i64 0, .int .i64 0, .int .i64 0, .int .i64 0, .int .i64 0, .slice none 0 0, .int .i64 0, .bool false] 60)) := TD.alloc _; have hbx : W4.heap.size ≤ V.heap.size := TD.size; generalize V.heap.size = bx at *; generalize V.alloc (.cells #[.int .i64 0, .int .i64 0, .int .i64 0, .int .i64 0, .int .i64 0, .int .i64 0, .int .i64 0, .int .i64 0, .int .i64 0, .int .i64 0, .int .i64 0, .slice none 0 0, .int .i64 0, .bool false] 60) = W3 at *; have y11b := T3.cell (fun f => f) z11; have v0b := T3.cell (fun f => f) z0
      refine hK.out _ _ ?hs13 (fun hS13 => ?_)
      case hs13 => ((try dsimp only); first | with_reducible exact ⟨y11, v0⟩ | with_reducible exact ⟨y11b, v0b⟩ | with_reducible exact ⟨y11c, v0c⟩ | with_reducible exact ⟨y11d, v0d⟩ | exact ⟨y11, v0⟩ | exact ⟨y11b, v0b⟩ | exact ⟨y11c, v0c⟩ | exact ⟨y11d, v0d⟩)
      clear hK K hS0
      refine wpAnyH_ready (rs := [5]) (by kernel_rfl) (by simp) ?_
      refine AllReadyH.cons (o := { dst := some 21, op := Op.call { callee := Callee.value (Operand.func 184), args := #[Operand.tmp 19, Operand.tmp 20], argTypes := #[128, 3] }, type := 271, pos := "log.go:151", after := #[{ on := 3, ground := Ground.data }, { on := 4, ground := Ground.data }], guard := none }) rfl (fun K hK => ?_) ?_
      · go_simp; with_reducible refine (G.out W3 T3).mono ?_; rintro en W5_ ⟨rfl, T4'⟩; have T4 := T3.trans T4'; have TH : W5_.there bx 0 14 := range_there (range_turn TH3 T4' (fun f => f)) rfl (B3.turn T4' (fun f => f)); have hbx2 := B3.turn T4' (fun f => f); have y11c := T4.cell (fun f => f) z11; have v0c := T4.cell (fun f => f) z0; go_simp
        refine hK.out _ _ ?hs14 (fun hS14 => ?_)
        case hs14 => ((try dsimp only); first | with_reducible exact ⟨y11, v0⟩ | with_reducible exact ⟨y11b, v0b⟩ | with_reducible exact ⟨y11c, v0c⟩ | with_reducible exact ⟨y11d, v0d⟩ | exact ⟨y11, v0⟩ | exact ⟨y11b, v0b⟩ | exact ⟨y11c, v0c⟩ | exact ⟨y11d, v0d⟩)
        clear hK K hS13
        refine wpAnyH_take (i := 6) (oi := { dst := some 15, op := Op.move (Operand.tmp 21), type := 271, pos := "log.go:151", after := #[{ on := 5, ground := Ground.data }], guard := none }) (v := ?_) rfl (by kernel_rfl) (by kernel_rfl) (by kernel_rfl) (fun _ _ _ h => h) (Or.inl ⟨by rfl, ?hy15⟩) hS14 ?_
        case hy15 => (intro w hSw; (try dsimp only at hSw); go_simp; try with_reducible rfl)
        try simp only [Act.put, List.setIfInBounds_toArray, List.set_cons_zero, List.set_cons_succ]
        refine wpAnyH_take (i := 7) (oi := { dst := some 22, op := Op.extract (Operand.tmp 15) 0, type := 60, pos := "log.go:151", after := #[{ on := 6, ground := Ground.data }], guard := none }) (v := ?_) rfl (by kernel_rfl) (by kernel_rfl) (by kernel_rfl) (fun _ _ _ h => h) (Or.inl ⟨by rfl, ?hy16⟩) hS14 ?_
        case hy16 => (intro w hSw; (try dsimp only at hSw); go_simp; try with_reducible rfl)
        try simp only [Act.put, List.setIfInBounds_toArray, List.set_cons_zero, List.set_cons_succ]
        refine wpAnyH_take (i := 8) (oi := { dst := some 23, op := Op.extract (Operand.tmp 15) 1, type := 4, pos := "log.go:151", after := #[{ on := 6, ground := Ground.data }, { on := 10, ground := Ground.gcOnly Departure.lateStores }], guard := none }) (v := ?_) rfl (by kernel_rfl) (by kernel_rfl) (by kernel_rfl) (fun _ _ _ h => h) (Or.inl ⟨by rfl, ?hy17⟩) hS14 ?_
        case hy17 => (intro w hSw; (try dsimp only at hSw); go_simp; try with_reducible rfl)
        try simp only [Act.put, List.setIfInBounds_toArray, List.set_cons_zero, List.set_cons_succ]
        refine wpAnyH_ready (rs := [10]) (by kernel_rfl) (by simp) ?_
        refine AllReadyH.cons (o := { dst := none, op := Op.store 60 (Operand.tmp 5) (Operand.tmp 22), type := 0, pos := "log.go:151", after := #[{ on := 9, ground := Ground.data }, { on := 7, ground := Ground.data }, { on := 5, ground := Ground.chain }, { on := 0, ground := Ground.phase }, { on := 1, ground := Ground.phase }, { on := 2, ground := Ground.phase }, { on := 3, ground := Ground.phase }, { on := 4, ground := Ground.phase }, { on := 5, ground := Ground.phase }, { on := 6, ground := Ground.phase }, { on := 7, ground := Ground.phase }, { on := 8, ground := Ground.textOnly Departure.lateStores }, { on := 9, ground := Ground.phase }], guard := none }) rfl (fun K hK => ?_) ?_
        · rw [if_pos (by rfl)]; refine wp_store_mid 60 _ _ rfl bx 0 cs.toArray rfl rfl (by rw [List.size_toArray, hc.out.len]; exact TH) (by rw [List.size_toArray, hc.out.len]; exact size51) hc.out.one ?_; have T5 : Turn (fun _ => False) W4 (W5_.setCells bx 0 cs) := T4.comp (Turn.setCells cs 0 (show Turn (fun k => k = bx) W5_ W5_ from Turn.refl _ W5_) (.inl rfl)) (fun j hj e => by omega); have R5 : (W5_.setCells bx 0 cs).rangeAt bx 0 cs := World.rangeAt_setCells_same _ _ _ _ (by rw [hc.out.len]; exact TH); have y11d := T5.cell (fun f => f) z11; have v0d := T5.cell (fun f => f) z0
          refine hK.out _ _ ?hs18 (fun hS18 => ?_)
          case hs18 => ((try dsimp only); first | with_reducible exact ⟨y11, v0⟩ | with_reducible exact ⟨y11b, v0b⟩ | with_reducible exact ⟨y11c, v0c⟩ | with_reducible exact ⟨y11d, v0d⟩ | exact ⟨y11, v0⟩ | exact ⟨y11b, v0b⟩ | exact ⟨y11c, v0c⟩ | exact ⟨y11d, v0d⟩)
          clear hK K hS14
          refine wpAnyH_take (i := 11) (oi := { dst := some 6, op := Op.assign (Operand.tmp 23), type := 4, pos := "log.go:151", after := #[{ on := 8, ground := Ground.data }, { on := 10, ground := Ground.chain }, { on := 0, ground := Ground.phase }, { on := 1, ground := Ground.phase }, { on := 2, ground := Ground.phase }, { on := 3, ground := Ground.phase }, { on := 4, ground := Ground.phase }, { on := 5, ground := Ground.phase }, { on := 6, ground := Ground.phase }, { on := 7, ground := Ground.phase }, { on := 8, ground := Ground.phase }, { on := 9, ground := Ground.phase }, { on := 10, ground := Ground.phase }], guard := none }) (v := ?_) rfl (by kernel_rfl) (by kernel_rfl) (by kernel_rfl) (fun _ _ _ h => h) (Or.inl ⟨by rfl, ?hy19⟩) hS18 ?_
          case hy19 => (intro w hSw; (try dsimp only at hSw); go_simp; try with_reducible rfl)
          try simp only [Act.put, List.setIfInBounds_toArray, List.set_cons_zero, List.set_cons_succ]
          refine wpAnyH_done (by kernel_rfl) ?_ _
          generalize W5_.setCells bx 0 cs = W6 at *
          go_wp2_with fail
          go_meet
          case rel => exact ⟨bx, rfl, rfl, R5, T5⟩
        exact AllReadyH.nil
      exact AllReadyH.nil
    exact AllReadyH.nil
  case rest =>
  obtain ⟨bx, rfl, rfl, R5, T5⟩ := hcut
  have x4 := T5.cell (fun f => f) z0
  have x5 : wc.cell? ⟨bx, 0, none⟩ = some (.int .i64 kind) := R5 0 _ HK.out
  have RR := Lib.hid R5
  have HL := Lib.hid (KX.out.2.2.2.keep (TW.out.trans T5))
  have TT := Lib.hid (TW.out.trans T5)
  obtain ⟨cap, k12⟩ := HL.out.k12
  have hn : 0 ≤ c.sh := Nat.zero_le _
  clear z11 z0 y11 v0 TD G R5 T5
  have RR0 : RRel s kind c.sh wc c.sh (.bool t) (.int .i64 0) wc := ⟨0, rfl, Nat.zero_le _, rfl, by rw [A0.out], Turn.refl _ _⟩
  obtain ⟨n, hnn⟩ : ∃ n, c.sh = n := ⟨_, rfl⟩
  have HN := Lib.hid hnn
  rw [hnn] at k12 RR0
  clear hnn hn
  go_wp2_with fail
  go_loopg [6, 30] n (fun gh v6 v30 wr => RRel s kind n wc gh v6 v30 wr)
  case atStart => exact RR0
  case round =>
    clear RR0
    obtain ⟨k, rfl, hk, hg, rfl, T⟩ := hrel
    by_cases hkn : k < n
    · have u1 : decide ((k : Int) < (n : Int)) = true := decide_eq_true (by omega)
      have hkc : k < c.sh := by rw [HN.out]; exact hkn
      have y0 := T.cell (fun f => f) (HL.out.w0 k hkc)
      have y1 := T.cell (fun f => f) (HL.out.w1 k hkc)
      have y2 := T.cell (fun f => f) (HL.out.w2 k hkc)
      have hk0 : (0 : Int) ≤ (k : Int) := by omega
      have hk1 : (k : Int) < (n : Int) := by omega
      obtain ⟨ac, hac⟩ : ∃ ac, allTold s kind k = ac := ⟨_, rfl⟩
      have hnx : allTold s kind (k + 1) = (ac && told s kind k) := by rw [← hac]; rfl
      rw [hac]
      have TA : Turn (fun _ => False) wr (wr.alloc (.cells #[.int .i64 (s.cur k : Int), .bool (s.left k), .pointer (some ⟨B.rw k, 0, none⟩)] 137)) := (Turn.refl _ wr).alloc _
      have CA := World.cell?_alloc_new wr #[.int .i64 (s.cur k : Int), .bool (s.left k), .pointer (some ⟨B.rw k, 0, none⟩)] 137
      have c0 : (wr.alloc (.cells #[.int .i64 (s.cur k : Int), .bool (s.left k), .pointer (some ⟨B.rw k, 0, none⟩)] 137)).cell? ⟨wr.heap.size, 0, none⟩ = some (.int .i64 (s.cur k : Int)) := CA 0
      have c1 : (wr.alloc (.cells #[.int .i64 (s.cur k : Int), .bool (s.left k), .pointer (some ⟨B.rw k, 0, none⟩)] 137)).cell? ⟨wr.heap.size, 1, none⟩ = some (.bool (s.left k)) := CA 1
      have c2 : (wr.alloc (.cells #[.int .i64 (s.cur k : Int), .bool (s.left k), .pointer (some ⟨B.rw k, 0, none⟩)] 137)).cell? ⟨wr.heap.size, 2, none⟩ = some (.pointer (some ⟨B.rw k, 0, none⟩)) := CA 2
      have TO := Lib.hid (told_is (wr.alloc (.cells #[.int .i64 (s.cur k : Int), .bool (s.left k), .pointer (some ⟨B.rw k, 0, none⟩)] 137)) (cu := (s.cur k : Int)) (lf := s.left k) (p := some ⟨B.rw k, 0, none⟩) (TA.cell (fun f => f) (T.cell (fun f => f) x5)) (TA.cell (fun f => f) (T.cell (fun f => f) x4)))
      have F := Lib.hid (And.intro (T.trans TA) (And.intro hnx hkn))
      have GG := Lib.hid hg
      have n15 : n ≤ 15 := by rw [← HN.out]; exact HL.out.sh2
      obtain ⟨W9, hW9⟩ : ∃ W9, W9 = wr.alloc (.cells #[.int .i64 (s.cur k : Int), .bool (s.left k), .pointer (some ⟨B.rw k, 0, none⟩)] 137) := ⟨_, rfl⟩
      rw [← hW9] at TO c0 c1 c2
      have F : Hid (Turn (fun _ => False) wc W9 ∧ allTold s kind (k + 1) = (ac && told s kind k) ∧ k < n) := by rw [hW9]; exact F
      clear CA TA T hnx hac hg hkc hkn
      go_upto_region 9 with fail
      rw [← hW9]
      clear hW9
      generalize wr.heap.size = b9 at *
      cases ac with
      | true =>
        go_wp2_with fail
        with_reducible refine TO.out.mono ?_
        rintro en W10 ⟨rfl, T10⟩
        have F2 := Lib.hid (F.out.1.trans T10)
        clear T10 TO
        go_wp2_with fail
        go_roundg (n - (k + 1))
        case measure => have := GG.out; have := F.out.2.2; omega
        case rel => exact ⟨k + 1, by go_num, by have := F.out.2.2; omega, rfl, by rw [F.out.2.1]; simp [told], F2.out⟩
      | false =>
        clear TO
        go_wp2_with fail
        go_roundg (n - (k + 1))
        case measure => have := GG.out; have := F.out.2.2; omega
        case rel => exact ⟨k + 1, by go_num, by have := F.out.2.2; omega, rfl, by rw [F.out.2.1]; simp, F.out.1⟩
    · obtain rfl : k = n := by omega
      have u1 : decide ((k : Int) < (k : Int)) = false := decide_eq_false (by omega)
      have HAC : allTold s kind c.sh = allTold s kind k := by rw [HN.out]
      have HAC := Lib.hid HAC
      obtain ⟨ac, hac⟩ : ∃ ac, allTold s kind k = ac := ⟨_, rfl⟩
      have HA2 := Lib.hid hac
      rw [hac]
      clear hac
      have R9 := range_turn RR.out T (fun f => f)
      have T09 := (TT.out.trans T)
      have TH : wr.there b2 0 14 := range_there (range_turn KX.out.2.2.1 T09 (fun f => f)) rfl (KX.out.2.1.turn T09 (fun f => f))
      have T10 : Turn (fun j => j = b2) wr (wr.setCells b2 0 cs) := Turn.setCells cs 0 (Turn.refl _ wr) (.inl rfl)
      have KE := Lib.hid ((KX.out.1.trans T09).comp T10 (S := fun _ => False) (fun j hj e => by have := HB.out; omega))
      clear T hg x4 x5 k12 HL T10
      go_upto_region 11 with fail
      refine wp_region_lit ?_
      refine wpList_load_mid rfl 60 _ rfl bx 0 rfl cs _ R9 Tryz.underlying60 rfl (by rw [hc.out.len]; exact size51) ?_
      try simp only [Act.put, List.setIfInBounds_toArray, List.set_cons_zero, List.set_cons_succ]
      refine rl_val rfl (v := .bool ac) rfl ?_
      try simp only [Act.put, List.setIfInBounds_toArray, List.set_cons_zero, List.set_cons_succ]
      refine wpList_store_mid rfl 60 _ _ rfl b2 0 cs.toArray rfl rfl (by rw [List.size_toArray, hc.out.len]; exact TH) (by rw [List.size_toArray, hc.out.len]; exact size51) hc.out.one ?_
      try simp only [Act.put, List.setIfInBounds_toArray, List.set_cons_zero, List.set_cons_succ]
      go_wp2_with fail
      exact bodyPost_ret (v := .tuple #[.agg cs.toArray, .bool ac]) (res_cell_tmp (a := 2) (k := 3) rfl rfl rfl (run_loadVar_mid _ b2 0 60 cs _ (World.rangeAt_setCells_same _ b2 0 cs (by rw [hc.out.len]; exact TH)) Tryz.underlying60 rfl (by rw [hc.out.len]; exact size51))) rfl ⟨by rw [HAC.out, HA2.out], KE.out⟩
end
end Go.Proofs.YtgfobgabdafclaaGreat
