/-
  A log in memory: Post.
-/
import Derived.Test.YtgfobgabdafclaaGreatLg5
namespace Go.Proofs.YtgfobgabdafclaaGreat
open Go.ChangeShapes Go.WideShapes Go.ChangeAt Go.RowKit
set_option linter.unusedVariables false
section
variable {w w' : World} {B : LB} {c : Cf} {s : LSt}
theorem o1_is (a : Option Addr) (n m : Nat) : IsOut [.slice none 0 0, .slice a n m, .slice none 0 0, .slice none 0 0] := ⟨rfl, by simp [Value.oneCell']⟩
set_option maxRecDepth 100000 in
set_option maxHeartbeats 2000000 in
theorem LogAt.post_is (h : LogAt w B c s) {i : Nat} (hi : i < c.sh) (hl : s.left i = false) (hcb : s.cur i ≤ 100000) {a : Option Addr} {n m : Nat} {o : Option Int} (ho : OutV w (.slice a n m) o)
    (hp : (s.X (s.cur i)).isSome = true → s.rl i ≤ s.cur i ∧ s.cur i < s.rl i + c.ib ∧ s.Y i (s.cur i) = none) :
    Calls Tryz.prog 283 #[.pointer (some ⟨B.l, 0, none⟩), .int .i64 (i : Int), .agg #[.slice none 0 0, .slice a n m, .slice none 0 0, .slice none 0 0]] w fun e w' =>
      (s.X (s.cur i) = none ∧ e = .returned (.bool false) ∧ Turn (fun _ => False) w w') ∨
      ((s.X (s.cur i)).isSome = true ∧ e = .returned (.bool true) ∧ LogAt w' B c { s with cur := upd s.cur i (s.cur i + 1), Y := upd s.Y i (updI (s.Y i) (s.cur i) (some o)) } ∧ Turn (B.foot c.sh) w w') := by
  obtain ⟨W, hW⟩ : ∃ W, W = w.alloc (.cells #[.slice none 0 0, .slice a n m, .slice none 0 0, .slice none 0 0] 57) := ⟨_, rfl⟩
  have T : Turn (fun _ => False) w W := by rw [hW]; exact (Turn.refl _ w).alloc _
  have Bk : Blk W w.heap.size 57 := by rw [hW]; exact Blk.new w [.slice none 0 0, .slice a n m, .slice none 0 0, .slice none 0 0] 57
  have R : W.rangeAt w.heap.size 0 [.slice none 0 0, .slice a n m, .slice none 0 0, .slice none 0 0] := by rw [hW]; exact range_new w [.slice none 0 0, .slice a n m, .slice none 0 0, .slice none 0 0] 57
  have hh := h.keep T
  have hov := ho.turn T (fun _ _ f => f)
  have H := Lib.hid (hh.find_yes hi hl)
  have G : ∀ W', Turn (fun _ => False) W W' → Calls Tryz.prog 184 #[.pointer (some ⟨B.rc, 0, none⟩), .int .i64 (s.cur i : Int)] W' fun e w' => e = .returned (.tuple #[.agg (cmdL ((s.X (s.cur i)).getD (0, 0))).toArray, .bool (s.X (s.cur i)).isSome]) ∧ Turn (fun _ => False) W' w' := fun W' T' => by
    have G := (hh.keep T').com.get_any (at_ := (s.cur i : Int)) (by omega)
    rw [cmd_get, Option.isSome_map] at G
    exact G
  have G := Lib.hid G
  have HCB := Lib.hid hcb
  have KX := Lib.hid (And.intro T (And.intro hh (And.intro hov (And.intro Bk (And.intro R (And.intro hi (And.intro hl hp)))))))
  have z11 := hh.k11
  have z0 := hh.w0 i hi
  have hc := Lib.hid (cmdL_is ((s.X (s.cur i : Int)).getD (0, 0)))
  clear T Bk R hh hov h ho hp hl hi hcb
  generalize hcs : cmdL ((s.X (s.cur i : Int)).getD (0, 0)) = cs at *
  generalize ht : (s.X (s.cur i : Int)).isSome = t at *
  have HT := Lib.hid ht
  generalize hq : s.cur i = q at *
  have HQ := Lib.hid hq
  clear hcs ht hq
  go_enter Tryz.func283, Tryz.ntmps283
  go_upto_region 1 with fail
  rw [← hW]
  clear hW
  generalize hb5 : w.heap.size = b5 at *
  have HB := Lib.hid hb5
  clear hb5
  go_wp2_with fail
  with_reducible refine H.out.mono ?_
  rintro e w1 ⟨rfl, rfl⟩
  go_upto_region 4 with fail
  have TD : Turn (fun _ => False) W W.drew := (Turn.refl _ W).drewN 1
  have y11 : W.drew.cell? ⟨B.l, 11, none⟩ = some (.pointer (some ⟨B.rc, 0, none⟩)) := z11
  have v0 : W.drew.cell? ⟨B.wb, i * 3, none⟩ = some (.int .i64 (q : Int)) := z0
  clear H
  go_cut [8, 9] from 10 (fun v8 v9 wx => v9 = .bool t ∧ Turn (fun _ => False) W wx)
  case first =>
    refine wp_region_held_drew (S := (fun w' => w'.cell? ⟨B.l, 11, none⟩ = some (.pointer (some ⟨B.rc, 0, none⟩)) ∧ w'.cell? ⟨B.wb, i * 3, none⟩ = some (.int .i64 (q : Int)))) (by kernel_rfl) ?hs0 (fun hS0 => ?_)
    case hs0 => ((try dsimp only); first | with_reducible exact ⟨y11, v0⟩ | with_reducible exact ⟨y11b, v0b⟩ | with_reducible exact ⟨y11c, v0c⟩ | with_reducible exact ⟨y11d, v0d⟩ | exact ⟨y11, v0⟩ | exact ⟨y11b, v0b⟩ | exact ⟨y11c, v0c⟩ | exact ⟨y11d, v0d⟩)
    generalize W.drew = V at *
    refine wpAnyH_take (i := 0) (oi := { dst := some 16, op := Op.move (Operand.tmp 0), type := 65, pos := "log.go:128", after := #[], guard := none }) (v := ?_) rfl (by kernel_rfl) (by kernel_rfl) (by kernel_rfl) (fun _ _ _ h => h) (Or.inl ⟨by rfl, ?hy1⟩) hS0 ?_
    case hy1 => (intro w hSw; (try dsimp only at hSw); go_simp; try with_reducible rfl)
    try simp only [Act.put, List.setIfInBounds_toArray, List.set_cons_zero, List.set_cons_succ]
    refine wpAnyH_take (i := 1) (oi := { dst := some 17, op := Op.nilCheck (Operand.tmp 16), type := 0, pos := "log.go:128", after := #[{ on := 0, ground := Ground.data }], guard := none }) (v := ?_) rfl (by kernel_rfl) (by kernel_rfl) (by kernel_rfl) (fun _ _ _ h => h) (Or.inl ⟨by rfl, ?hy2⟩) hS0 ?_
    case hy2 => (intro w hSw; (try dsimp only at hSw); go_simp; try with_reducible rfl)
    try simp only [Act.put, List.setIfInBounds_toArray, List.set_cons_zero, List.set_cons_succ]
    refine wpAnyH_take (i := 2) (oi := { dst := some 18, op := Op.fieldAddr 133 (Operand.tmp 17) 5, type := 0, pos := "log.go:128", after := #[{ on := 1, ground := Ground.data }], guard := none }) (v := ?_) rfl (by kernel_rfl) (by kernel_rfl) (by kernel_rfl) (fun _ _ _ h => h) (Or.inl ⟨by rfl, ?hy3⟩) hS0 ?_
    case hy3 => (intro w hSw; (try dsimp only at hSw); go_simp; try with_reducible rfl)
    try simp only [Act.put, List.setIfInBounds_toArray, List.set_cons_zero, List.set_cons_succ]
    refine wpAnyH_take (i := 3) (oi := { dst := some 19, op := Op.load 128 (Operand.tmp 18), type := 128, pos := "log.go:128", after := #[{ on := 2, ground := Ground.data }], guard := none }) (v := ?_) rfl (by kernel_rfl) (by kernel_rfl) (by kernel_rfl) (fun _ _ _ h => h) (Or.inl ⟨by rfl, ?hy4⟩) hS0 ?_
    case hy4 => (intro w hSw; (try dsimp only at hSw); go_simp; try with_reducible rfl)
    try simp only [Act.put, List.setIfInBounds_toArray, List.set_cons_zero, List.set_cons_succ]
    refine wpAnyH_take (i := 4) (oi := { dst := some 20, op := Op.move (Operand.tmp 7), type := 143, pos := "log.go:128", after := #[], guard := none }) (v := ?_) rfl (by kernel_rfl) (by kernel_rfl) (by kernel_rfl) (fun _ _ _ h => h) (Or.inl ⟨by rfl, ?hy5⟩) hS0 ?_
    case hy5 => (intro w hSw; (try dsimp only at hSw); go_simp; try with_reducible rfl)
    try simp only [Act.put, List.setIfInBounds_toArray, List.set_cons_zero, List.set_cons_succ]
    refine wpAnyH_take (i := 5) (oi := { dst := some 21, op := Op.nilCheck (Operand.tmp 20), type := 0, pos := "log.go:128", after := #[{ on := 4, ground := Ground.data }], guard := none }) (v := ?_) rfl (by kernel_rfl) (by kernel_rfl) (by kernel_rfl) (fun _ _ _ h => h) (Or.inl ⟨by rfl, ?hy6⟩) hS0 ?_
    case hy6 => (intro w hSw; (try dsimp only at hSw); go_simp; try with_reducible rfl)
    try simp only [Act.put, List.setIfInBounds_toArray, List.set_cons_zero, List.set_cons_succ]
    refine wpAnyH_take (i := 6) (oi := { dst := some 22, op := Op.fieldAddr 137 (Operand.tmp 21) 0, type := 0, pos := "log.go:128", after := #[{ on := 5, ground := Ground.data }], guard := none }) (v := ?_) rfl (by kernel_rfl) (by kernel_rfl) (by kernel_rfl) (fun _ _ _ h => h) (Or.inl ⟨by rfl, ?hy7⟩) hS0 ?_
    case hy7 => (intro w hSw; (try dsimp only at hSw); go_simp; try with_reducible rfl)
    try simp only [Act.put, List.setIfInBounds_toArray, List.set_cons_zero, List.set_cons_succ]
    refine wpAnyH_take (i := 7) (oi := { dst := some 23, op := Op.load 3 (Operand.tmp 22), type := 3, pos := "log.go:128", after := #[{ on := 6, ground := Ground.data }], guard := none }) (v := ?_) rfl (by kernel_rfl) (by kernel_rfl) (by kernel_rfl) (fun _ _ _ h => h) (Or.inl ⟨by rfl, ?hy8⟩) hS0 ?_
    case hy8 => (intro w hSw; (try dsimp only at hSw); go_simp; try with_reducible rfl)
    try simp only [Act.put, List.setIfInBounds_toArray, List.set_cons_zero, List.set_cons_succ]
    refine wpAnyH_ready (rs := [8, 12]) (by kernel_rfl) (by simp) ?_
    refine AllReadyH.cons (o := { dst := some 24, op := Op.call { callee := Callee.value (Operand.func 184), args := #[Operand.tmp 19, Operand.tmp 23], argTypes := #[128, 3] }, type := 271, pos := "log.go:128", after := #[{ on := 3, ground := Ground.data }, { on := 7, ground := Ground.data }], guard := none }) rfl (fun K hK => ?_) ?_
    · go_simp; with_reducible refine (G.out V TD).mono ?_; rintro en W3 ⟨rfl, T3⟩; have T3 := TD.trans T3; have y11b := T3.cell (fun f => f) z11; have v0b := T3.cell (fun f => f) z0; go_simp
      refine hK.out _ _ ?hs9 (fun hS9 => ?_)
      case hs9 => ((try dsimp only); first | with_reducible exact ⟨y11, v0⟩ | with_reducible exact ⟨y11b, v0b⟩ | with_reducible exact ⟨y11c, v0c⟩ | with_reducible exact ⟨y11d, v0d⟩ | exact ⟨y11, v0⟩ | exact ⟨y11b, v0b⟩ | exact ⟨y11c, v0c⟩ | exact ⟨y11d, v0d⟩)
      clear hK K hS0
      refine wpAnyH_take (i := 9) (oi := { dst := some 15, op := Op.move (Operand.tmp 24), type := 271, pos := "log.go:128", after := #[{ on := 8, ground := Ground.data }], guard := none }) (v := ?_) rfl (by kernel_rfl) (by kernel_rfl) (by kernel_rfl) (fun _ _ _ h => h) (Or.inl ⟨by rfl, ?hy10⟩) hS9 ?_
      case hy10 => (intro w hSw; (try dsimp only at hSw); go_simp; try with_reducible rfl)
      try simp only [Act.put, List.setIfInBounds_toArray, List.set_cons_zero, List.set_cons_succ]
      refine wpAnyH_take (i := 10) (oi := { dst := some 25, op := Op.extract (Operand.tmp 15) 0, type := 60, pos := "log.go:128", after := #[{ on := 9, ground := Ground.data }], guard := none }) (v := ?_) rfl (by kernel_rfl) (by kernel_rfl) (by kernel_rfl) (fun _ _ _ h => h) (Or.inl ⟨by rfl, ?hy11⟩) hS9 ?_
      case hy11 => (intro w hSw; (try dsimp only at hSw); go_simp; try with_reducible rfl)
      try simp only [Act.put, List.setIfInBounds_toArray, List.set_cons_zero, List.set_cons_succ]
      refine wpAnyH_take (i := 11) (oi := { dst := some 26, op := Op.extract (Operand.tmp 15) 1, type := 4, pos := "log.go:128", after := #[{ on := 9, ground := Ground.data }, { on := 13, ground := Ground.gcOnly Departure.lateStores }], guard := none }) (v := ?_) rfl (by kernel_rfl) (by kernel_rfl) (by kernel_rfl) (fun _ _ _ h => h) (Or.inl ⟨by rfl, ?hy12⟩) hS9 ?_
      case hy12 => (intro w hSw; (try dsimp only at hSw); go_simp; try with_reducible rfl)
      try simp only [Act.put, List.setIfInBounds_toArray, List.set_cons_zero, List.set_cons_succ]
      refine wpAnyH_ready (rs := [12]) (by kernel_rfl) (by simp) ?_
      refine AllReadyH.cons (o := { dst := some 8, op := Op.alloc 60, type := 0, pos := "log.go:128", after := #[], guard := none }) rfl (fun K hK => ?_) ?_
      · go_simp; have TH : (W3.alloc (.cells #[.int .i64 0, .int .i64 0, .int .i64 0, .int .i64 0, .int .i64 0, .int .i64 0, .int .i64 0, .int .i64 0, .int .i64 0, .int .i64 0, .int .i64 0, .slice none 0 0, .int .i64 0, .bool false] 60)).there W3.heap.size 0 14 := range_there (range_new W3 zc 60) rfl (Blk.new W3 zc 60); have T4 : Turn (fun _ => False) W (W3.alloc (.cells #[.int .i64 0, .int .i64 0, .int .i64 0, .int .i64 0, .int .i64 0, .int .i64 0, .int .i64 0, .int .i64 0, .int .i64 0, .int .i64 0, .int .i64 0, .slice none 0 0, .int .i64 0, .bool false] 60)) := T3.alloc _; have hbx : W.heap.size ≤ W3.heap.size := T3.size; have hbx2 : W3.heap.size < (W3.alloc (.cells #[.int .i64 0, .int .i64 0, .int .i64 0, .int .i64 0, .int .i64 0, .int .i64 0, .int .i64 0, .int .i64 0, .int .i64 0, .int .i64 0, .int .i64 0, .slice none 0 0, .int .i64 0, .bool false] 60)).heap.size := (Blk.new W3 zc 60).lt; generalize W3.heap.size = bx at *; generalize W3.alloc (.cells #[.int .i64 0, .int .i64 0, .int .i64 0, .int .i64 0, .int .i64 0, .int .i64 0, .int .i64 0, .int .i64 0, .int .i64 0, .int .i64 0, .int .i64 0, .slice none 0 0, .int .i64 0, .bool false] 60) = W4 at *; have y11c := T4.cell (fun f => f) z11; have v0c := T4.cell (fun f => f) z0
        refine hK.out _ _ ?hs13 (fun hS13 => ?_)
        case hs13 => ((try dsimp only); first | with_reducible exact ⟨y11, v0⟩ | with_reducible exact ⟨y11b, v0b⟩ | with_reducible exact ⟨y11c, v0c⟩ | with_reducible exact ⟨y11d, v0d⟩ | exact ⟨y11, v0⟩ | exact ⟨y11b, v0b⟩ | exact ⟨y11c, v0c⟩ | exact ⟨y11d, v0d⟩)
        clear hK K hS9
        refine wpAnyH_ready (rs := [13]) (by kernel_rfl) (by simp) ?_
        refine AllReadyH.cons (o := { dst := none, op := Op.store 60 (Operand.tmp 8) (Operand.tmp 25), type := 0, pos := "log.go:128", after := #[{ on := 12, ground := Ground.data }, { on := 10, ground := Ground.data }, { on := 8, ground := Ground.chain }, { on := 0, ground := Ground.phase }, { on := 1, ground := Ground.phase }, { on := 2, ground := Ground.phase }, { on := 3, ground := Ground.phase }, { on := 4, ground := Ground.phase }, { on := 5, ground := Ground.phase }, { on := 6, ground := Ground.phase }, { on := 7, ground := Ground.phase }, { on := 8, ground := Ground.phase }, { on := 9, ground := Ground.phase }, { on := 10, ground := Ground.phase }, { on := 11, ground := Ground.textOnly Departure.lateStores }, { on := 12, ground := Ground.phase }], guard := none }) rfl (fun K hK => ?_) ?_
        · rw [if_pos (by rfl)]; refine wp_store_mid 60 _ _ rfl bx 0 cs.toArray rfl rfl (by rw [List.size_toArray, hc.out.len]; exact TH) (by rw [List.size_toArray, hc.out.len]; exact size51) hc.out.one ?_; have T5 : Turn (fun _ => False) W (W4.setCells bx 0 cs) := T4.comp (Turn.setCells cs 0 (show Turn (fun k => k = bx) W4 W4 from Turn.refl _ W4) (.inl rfl)) (fun j hj e => by omega); have y11d := T5.cell (fun f => f) z11; have v0d := T5.cell (fun f => f) z0
          refine hK.out _ _ ?hs14 (fun hS14 => ?_)
          case hs14 => ((try dsimp only); first | with_reducible exact ⟨y11, v0⟩ | with_reducible exact ⟨y11b, v0b⟩ | with_reducible exact ⟨y11c, v0c⟩ | with_reducible exact ⟨y11d, v0d⟩ | exact ⟨y11, v0⟩ | exact ⟨y11b, v0b⟩ | exact ⟨y11c, v0c⟩ | exact ⟨y11d, v0d⟩)
          clear hK K hS13
          refine wpAnyH_take (i := 14) (oi := { dst := some 9, op := Op.assign (Operand.tmp 26), type := 4, pos := "log.go:128", after := #[{ on := 11, ground := Ground.data }, { on := 13, ground := Ground.chain }, { on := 0, ground := Ground.phase }, { on := 1, ground := Ground.phase }, { on := 2, ground := Ground.phase }, { on := 3, ground := Ground.phase }, { on := 4, ground := Ground.phase }, { on := 5, ground := Ground.phase }, { on := 6, ground := Ground.phase }, { on := 7, ground := Ground.phase }, { on := 8, ground := Ground.phase }, { on := 9, ground := Ground.phase }, { on := 10, ground := Ground.phase }, { on := 11, ground := Ground.phase }, { on := 12, ground := Ground.phase }, { on := 13, ground := Ground.phase }], guard := none }) (v := ?_) rfl (by kernel_rfl) (by kernel_rfl) (by kernel_rfl) (fun _ _ _ h => h) (Or.inl ⟨by rfl, ?hy15⟩) hS14 ?_
          case hy15 => (intro w hSw; (try dsimp only at hSw); go_simp; try with_reducible rfl)
          try simp only [Act.put, List.setIfInBounds_toArray, List.set_cons_zero, List.set_cons_succ]
          refine wpAnyH_done (by kernel_rfl) ?_ _
          generalize W4.setCells bx 0 cs = W6 at *
          go_wp2_with fail
          go_meet
          case rel => exact ⟨rfl, T5⟩
        exact AllReadyH.nil
      exact AllReadyH.nil
    refine AllReadyH.cons (o := { dst := some 8, op := Op.alloc 60, type := 0, pos := "log.go:128", after := #[], guard := none }) rfl (fun K hK => ?_) ?_
    · go_simp; have TH3 : (V.alloc (.cells #[.int .i64 0, .int .i64 0, .int .i64 0, .int .i64 0, .int .i64 0, .int .i64 0, .int .i64 0, .int .i64 0, .int .i64 0, .int .i64 0, .int .i64 0, .slice none 0 0, .int .i64 0, .bool false] 60)).rangeAt V.heap.size 0 zc := range_new V zc 60; have B3 : Blk (V.alloc (.cells #[.int .i64 0, .int .i64 0, .int .i64 0, .int .i64 0, .int .i64 0, .int .i64 0, .int .i64 0, .int .i64 0, .int .i64 0, .int .i64 0, .int .i64 0, .slice none 0 0, .int .i64 0, .bool false] 60)) V.heap.size 60 := Blk.new V zc 60; have T3 : Turn (fun _ => False) W (V.alloc (.cells #[.int .i64 0, .int .i64 0, .int .i64 0, .int .i64 0, .int .i64 0, .int .i64 0, .int .i64 0, .int .i64 0, .int .i64 0, .int .i64 0, .int .i64 0, .slice none 0 0, .int .i64 0, .bool false] 60)) := TD.alloc _; have hbx : W.heap.size ≤ V.heap.size := TD.size; generalize V.heap.size = bx at *; generalize V.alloc (.cells #[.int .i64 0, .int .i64 0, .int .i64 0, .int .i64 0, .int .i64 0, .int .i64 0, .int .i64 0, .int .i64 0, .int .i64 0, .int .i64 0, .int .i64 0, .slice none 0 0, .int .i64 0, .bool false] 60) = W3 at *; have y11b := T3.cell (fun f => f) z11; have v0b := T3.cell (fun f => f) z0
      refine hK.out _ _ ?hs16 (fun hS16 => ?_)
      case hs16 => ((try dsimp only); first | with_reducible exact ⟨y11, v0⟩ | with_reducible exact ⟨y11b, v0b⟩ | with_reducible exact ⟨y11c, v0c⟩ | with_reducible exact ⟨y11d, v0d⟩ | exact ⟨y11, v0⟩ | exact ⟨y11b, v0b⟩ | exact ⟨y11c, v0c⟩ | exact ⟨y11d, v0d⟩)
      clear hK K hS0
      refine wpAnyH_ready (rs := [8]) (by kernel_rfl) (by simp) ?_
      refine AllReadyH.cons (o := { dst := some 24, op := Op.call { callee := Callee.value (Operand.func 184), args := #[Operand.tmp 19, Operand.tmp 23], argTypes := #[128, 3] }, type := 271, pos := "log.go:128", after := #[{ on := 3, ground := Ground.data }, { on := 7, ground := Ground.data }], guard := none }) rfl (fun K hK => ?_) ?_
      · go_simp; with_reducible refine (G.out W3 T3).mono ?_; rintro en W4 ⟨rfl, T4'⟩; have T4 := T3.trans T4'; have TH : W4.there bx 0 14 := range_there (range_turn TH3 T4' (fun f => f)) rfl (B3.turn T4' (fun f => f)); have hbx2 : bx < W4.heap.size := (B3.turn T4' (fun f => f)).lt; have y11c := T4.cell (fun f => f) z11; have v0c := T4.cell (fun f => f) z0; go_simp
        refine hK.out _ _ ?hs17 (fun hS17 => ?_)
        case hs17 => ((try dsimp only); first | with_reducible exact ⟨y11, v0⟩ | with_reducible exact ⟨y11b, v0b⟩ | with_reducible exact ⟨y11c, v0c⟩ | with_reducible exact ⟨y11d, v0d⟩ | exact ⟨y11, v0⟩ | exact ⟨y11b, v0b⟩ | exact ⟨y11c, v0c⟩ | exact ⟨y11d, v0d⟩)
        clear hK K hS16
        refine wpAnyH_take (i := 9) (oi := { dst := some 15, op := Op.move (Operand.tmp 24), type := 271, pos := "log.go:128", after := #[{ on := 8, ground := Ground.data }], guard := none }) (v := ?_) rfl (by kernel_rfl) (by kernel_rfl) (by kernel_rfl) (fun _ _ _ h => h) (Or.inl ⟨by rfl, ?hy18⟩) hS17 ?_
        case hy18 => (intro w hSw; (try dsimp only at hSw); go_simp; try with_reducible rfl)
        try simp only [Act.put, List.setIfInBounds_toArray, List.set_cons_zero, List.set_cons_succ]
        refine wpAnyH_take (i := 10) (oi := { dst := some 25, op := Op.extract (Operand.tmp 15) 0, type := 60, pos := "log.go:128", after := #[{ on := 9, ground := Ground.data }], guard := none }) (v := ?_) rfl (by kernel_rfl) (by kernel_rfl) (by kernel_rfl) (fun _ _ _ h => h) (Or.inl ⟨by rfl, ?hy19⟩) hS17 ?_
        case hy19 => (intro w hSw; (try dsimp only at hSw); go_simp; try with_reducible rfl)
        try simp only [Act.put, List.setIfInBounds_toArray, List.set_cons_zero, List.set_cons_succ]
        refine wpAnyH_take (i := 11) (oi := { dst := some 26, op := Op.extract (Operand.tmp 15) 1, type := 4, pos := "log.go:128", after := #[{ on := 9, ground := Ground.data }, { on := 13, ground := Ground.gcOnly Departure.lateStores }], guard := none }) (v := ?_) rfl (by kernel_rfl) (by kernel_rfl) (by kernel_rfl) (fun _ _ _ h => h) (Or.inl ⟨by rfl, ?hy20⟩) hS17 ?_
        case hy20 => (intro w hSw; (try dsimp only at hSw); go_simp; try with_reducible rfl)
        try simp only [Act.put, List.setIfInBounds_toArray, List.set_cons_zero, List.set_cons_succ]
        refine wpAnyH_ready (rs := [13]) (by kernel_rfl) (by simp) ?_
        refine AllReadyH.cons (o := { dst := none, op := Op.store 60 (Operand.tmp 8) (Operand.tmp 25), type := 0, pos := "log.go:128", after := #[{ on := 12, ground := Ground.data }, { on := 10, ground := Ground.data }, { on := 8, ground := Ground.chain }, { on := 0, ground := Ground.phase }, { on := 1, ground := Ground.phase }, { on := 2, ground := Ground.phase }, { on := 3, ground := Ground.phase }, { on := 4, ground := Ground.phase }, { on := 5, ground := Ground.phase }, { on := 6, ground := Ground.phase }, { on := 7, ground := Ground.phase }, { on := 8, ground := Ground.phase }, { on := 9, ground := Ground.phase }, { on := 10, ground := Ground.phase }, { on := 11, ground := Ground.textOnly Departure.lateStores }, { on := 12, ground := Ground.phase }], guard := none }) rfl (fun K hK => ?_) ?_
        · rw [if_pos (by rfl)]; refine wp_store_mid 60 _ _ rfl bx 0 cs.toArray rfl rfl (by rw [List.size_toArray, hc.out.len]; exact TH) (by rw [List.size_toArray, hc.out.len]; exact size51) hc.out.one ?_; have T5 : Turn (fun _ => False) W (W4.setCells bx 0 cs) := T4.comp (Turn.setCells cs 0 (show Turn (fun k => k = bx) W4 W4 from Turn.refl _ W4) (.inl rfl)) (fun j hj e => by omega); have y11d := T5.cell (fun f => f) z11; have v0d := T5.cell (fun f => f) z0
          refine hK.out _ _ ?hs21 (fun hS21 => ?_)
          case hs21 => ((try dsimp only); first | with_reducible exact ⟨y11, v0⟩ | with_reducible exact ⟨y11b, v0b⟩ | with_reducible exact ⟨y11c, v0c⟩ | with_reducible exact ⟨y11d, v0d⟩ | exact ⟨y11, v0⟩ | exact ⟨y11b, v0b⟩ | exact ⟨y11c, v0c⟩ | exact ⟨y11d, v0d⟩)
          clear hK K hS17
          refine wpAnyH_take (i := 14) (oi := { dst := some 9, op := Op.assign (Operand.tmp 26), type := 4, pos := "log.go:128", after := #[{ on := 11, ground := Ground.data }, { on := 13, ground := Ground.chain }, { on := 0, ground := Ground.phase }, { on := 1, ground := Ground.phase }, { on := 2, ground := Ground.phase }, { on := 3, ground := Ground.phase }, { on := 4, ground := Ground.phase }, { on := 5, ground := Ground.phase }, { on := 6, ground := Ground.phase }, { on := 7, ground := Ground.phase }, { on := 8, ground := Ground.phase }, { on := 9, ground := Ground.phase }, { on := 10, ground := Ground.phase }, { on := 11, ground := Ground.phase }, { on := 12, ground := Ground.phase }, { on := 13, ground := Ground.phase }], guard := none }) (v := ?_) rfl (by kernel_rfl) (by kernel_rfl) (by kernel_rfl) (fun _ _ _ h => h) (Or.inl ⟨by rfl, ?hy22⟩) hS21 ?_
          case hy22 => (intro w hSw; (try dsimp only at hSw); go_simp; try with_reducible rfl)
          try simp only [Act.put, List.setIfInBounds_toArray, List.set_cons_zero, List.set_cons_succ]
          refine wpAnyH_done (by kernel_rfl) ?_ _
          generalize W4.setCells bx 0 cs = W6 at *
          go_wp2_with fail
          go_meet
          case rel => exact ⟨rfl, T5⟩
        exact AllReadyH.nil
      exact AllReadyH.nil
    exact AllReadyH.nil
  case rest =>
  obtain ⟨rfl, T3⟩ := hcut
  cases t with
  | false =>
    have F := Lib.hid (fun d => (KX.out.1.trans T3).drewN d)
    clear z11 z0 y11 v0 T3 TD G
    go_wp2_with fail
    go_quiet (fail)
    go_wp2
    go_ret
    refine .inl ⟨?_, rfl, F.out _⟩
    have := HT.out
    simpa using this
  | true =>
    have hk1 := KX.out.2.1
    have hk5 := KX.out.2.2.2.2.2.1
    obtain ⟨V0, hV, hO⟩ := hk1.outs
    have KP := Lib.hid (show s.rl i ≤ q ∧ q < s.rl i + c.ib ∧ V0 i (q : Int) = none from by
      have hp := KX.out.2.2.2.2.2.2.2
      obtain ⟨p1, p2, p3⟩ : s.rl i ≤ q ∧ q < s.rl i + c.ib ∧ s.Y i (q : Int) = none := by first | exact hp rfl | exact hp HT.out
      refine ⟨p1, p2, ?_⟩
      have := hO i hk5 q
      rw [p3] at this
      cases hx : V0 i (q : Int) with
      | none => rfl
      | some cs => rw [hx] at this; exact this.elim)
    have TD3 : Turn (fun _ => False) wc wc.drew := (Turn.refl _ wc).drewN 1
    have T34 := T3.trans TD3
    have u2 : wc.drew.cell? ⟨B.wb, i * 3 + 2, none⟩ = some (.pointer (some ⟨B.rw i, 0, none⟩)) := T34.cell (fun f => f) (hk1.w2 i hk5)
    have u0 : wc.drew.cell? ⟨B.wb, i * 3, none⟩ = some (.int .i64 (q : Int)) := T34.cell (fun f => f) z0
    have RA := range_turn KX.out.2.2.2.2.1 T34 (fun f => f)
    have KV := Lib.hid (And.intro hV hO)
    have OO := Lib.hid (own_out (KX.out.2.2.1.turn T34 (fun _ _ f => f)))
    have b5k := KX.out.2.2.2.1
    have NE := Lib.hid (show B.wb ≠ B.rw i ∧ B.wb ≠ B.pw i ∧ b5 ≠ B.rw i ∧ b5 ≠ B.pw i from ⟨hk1.bw.ne (hV i hk5).br (by decide), hk1.bw.ne (hV i hk5).bp (by decide), b5k.ne (hV i hk5).br (by decide), b5k.ne (hV i hk5).bp (by decide)⟩)
    have HK := Lib.hid hk1
    have TW := Lib.hid T3
    clear z11 z0 y11 v0 TD G hk1 hV hO b5k T3 TD3
    go_upto_region 5 with fail
    refine wp_region_held_drew (S := (fun w' => w'.cell? ⟨B.wb, i * 3 + 2, none⟩ = some (.pointer (some ⟨B.rw i, 0, none⟩)) ∧ w'.cell? ⟨B.wb, i * 3, none⟩ = some (.int .i64 (q : Int)) ∧ w'.rangeAt b5 0 [.slice none 0 0, .slice a n m, .slice none 0 0, .slice none 0 0])) (by kernel_rfl) ?hs0 (fun hS0 => ?_)
    case hs0 => ((try dsimp only); first | with_reducible exact ⟨u2, u0, RA⟩ | with_reducible exact ⟨u2b, u0b, RB⟩ | with_reducible exact ⟨u2c, u0c, RC⟩ | exact ⟨u2, u0, RA⟩ | exact ⟨u2b, u0b, RB⟩ | exact ⟨u2c, u0c, RC⟩)
    generalize wc.drew = V at *
    refine wpAnyH_take (i := 0) (oi := { dst := some 27, op := Op.move (Operand.tmp 9), type := 4, pos := "log.go:128", after := #[], guard := none }) (v := ?_) rfl (by kernel_rfl) (by kernel_rfl) (by kernel_rfl) (fun _ _ _ h => h) (Or.inl ⟨by rfl, ?hy1⟩) hS0 ?_
    case hy1 => (intro w hSw; (try dsimp only at hSw); go_simp; try with_reducible rfl)
    try simp only [Act.put, List.setIfInBounds_toArray, List.set_cons_zero, List.set_cons_succ]
    refine wpAnyH_take (i := 1) (oi := { dst := some 28, op := Op.unOp UnOp.not 4 (Operand.tmp 27), type := 4, pos := "log.go:128", after := #[{ on := 0, ground := Ground.data }], guard := none }) (v := ?_) rfl (by kernel_rfl) (by kernel_rfl) (by kernel_rfl) (fun _ _ _ h => h) (Or.inl ⟨by rfl, ?hy2⟩) hS0 ?_
    case hy2 => (intro w hSw; (try dsimp only at hSw); go_simp; try with_reducible rfl)
    try simp only [Act.put, List.setIfInBounds_toArray, List.set_cons_zero, List.set_cons_succ]
    refine wpAnyH_take (i := 2) (oi := { dst := some 29, op := Op.move (Operand.tmp 28), type := 4, pos := "log.go:128", after := #[{ on := 1, ground := Ground.data }], guard := none }) (v := ?_) rfl (by kernel_rfl) (by kernel_rfl) (by kernel_rfl) (fun _ _ _ h => h) (Or.inl ⟨by rfl, ?hy3⟩) hS0 ?_
    case hy3 => (intro w hSw; (try dsimp only at hSw); go_simp; try with_reducible rfl)
    try simp only [Act.put, List.setIfInBounds_toArray, List.set_cons_zero, List.set_cons_succ]
    refine wpAnyH_take (i := 3) (oi := { dst := some 30, op := Op.move (Operand.tmp 7), type := 143, pos := "log.go:128", after := #[{ on := 2, ground := Ground.guard }], guard := some (2, false) }) (v := ?_) rfl (by kernel_rfl) (by kernel_rfl) (by kernel_rfl) (fun _ _ _ h => h) (Or.inl ⟨by rfl, ?hy4⟩) hS0 ?_
    case hy4 => (intro w hSw; (try dsimp only at hSw); go_simp; try with_reducible rfl)
    try simp only [Act.put, List.setIfInBounds_toArray, List.set_cons_zero, List.set_cons_succ]
    refine wpAnyH_take (i := 4) (oi := { dst := some 31, op := Op.nilCheck (Operand.tmp 30), type := 0, pos := "log.go:128", after := #[{ on := 3, ground := Ground.data }, { on := 2, ground := Ground.guard }], guard := some (2, false) }) (v := ?_) rfl (by kernel_rfl) (by kernel_rfl) (by kernel_rfl) (fun _ _ _ h => h) (Or.inl ⟨by rfl, ?hy5⟩) hS0 ?_
    case hy5 => (intro w hSw; (try dsimp only at hSw); go_simp; try with_reducible rfl)
    try simp only [Act.put, List.setIfInBounds_toArray, List.set_cons_zero, List.set_cons_succ]
    refine wpAnyH_take (i := 5) (oi := { dst := some 32, op := Op.fieldAddr 137 (Operand.tmp 31) 2, type := 0, pos := "log.go:128", after := #[{ on := 4, ground := Ground.data }, { on := 2, ground := Ground.guard }], guard := some (2, false) }) (v := ?_) rfl (by kernel_rfl) (by kernel_rfl) (by kernel_rfl) (fun _ _ _ h => h) (Or.inl ⟨by rfl, ?hy6⟩) hS0 ?_
    case hy6 => (intro w hSw; (try dsimp only at hSw); go_simp; try with_reducible rfl)
    try simp only [Act.put, List.setIfInBounds_toArray, List.set_cons_zero, List.set_cons_succ]
    refine wpAnyH_take (i := 6) (oi := { dst := some 33, op := Op.load 134 (Operand.tmp 32), type := 134, pos := "log.go:128", after := #[{ on := 5, ground := Ground.data }, { on := 2, ground := Ground.guard }], guard := some (2, false) }) (v := ?_) rfl (by kernel_rfl) (by kernel_rfl) (by kernel_rfl) (fun _ _ _ h => h) (Or.inl ⟨by rfl, ?hy7⟩) hS0 ?_
    case hy7 => (intro w hSw; (try dsimp only at hSw); go_simp; try with_reducible rfl)
    try simp only [Act.put, List.setIfInBounds_toArray, List.set_cons_zero, List.set_cons_succ]
    refine wpAnyH_take (i := 7) (oi := { dst := some 34, op := Op.move (Operand.tmp 7), type := 143, pos := "log.go:128", after := #[{ on := 2, ground := Ground.guard }], guard := some (2, false) }) (v := ?_) rfl (by kernel_rfl) (by kernel_rfl) (by kernel_rfl) (fun _ _ _ h => h) (Or.inl ⟨by rfl, ?hy8⟩) hS0 ?_
    case hy8 => (intro w hSw; (try dsimp only at hSw); go_simp; try with_reducible rfl)
    try simp only [Act.put, List.setIfInBounds_toArray, List.set_cons_zero, List.set_cons_succ]
    refine wpAnyH_take (i := 8) (oi := { dst := some 35, op := Op.nilCheck (Operand.tmp 34), type := 0, pos := "log.go:128", after := #[{ on := 7, ground := Ground.data }, { on := 2, ground := Ground.guard }], guard := some (2, false) }) (v := ?_) rfl (by kernel_rfl) (by kernel_rfl) (by kernel_rfl) (fun _ _ _ h => h) (Or.inl ⟨by rfl, ?hy9⟩) hS0 ?_
    case hy9 => (intro w hSw; (try dsimp only at hSw); go_simp; try with_reducible rfl)
    try simp only [Act.put, List.setIfInBounds_toArray, List.set_cons_zero, List.set_cons_succ]
    refine wpAnyH_take (i := 9) (oi := { dst := some 36, op := Op.fieldAddr 137 (Operand.tmp 35) 0, type := 0, pos := "log.go:128", after := #[{ on := 8, ground := Ground.data }, { on := 2, ground := Ground.guard }], guard := some (2, false) }) (v := ?_) rfl (by kernel_rfl) (by kernel_rfl) (by kernel_rfl) (fun _ _ _ h => h) (Or.inl ⟨by rfl, ?hy10⟩) hS0 ?_
    case hy10 => (intro w hSw; (try dsimp only at hSw); go_simp; try with_reducible rfl)
    try simp only [Act.put, List.setIfInBounds_toArray, List.set_cons_zero, List.set_cons_succ]
    refine wpAnyH_take (i := 10) (oi := { dst := some 37, op := Op.load 3 (Operand.tmp 36), type := 3, pos := "log.go:128", after := #[{ on := 9, ground := Ground.data }, { on := 2, ground := Ground.guard }], guard := some (2, false) }) (v := ?_) rfl (by kernel_rfl) (by kernel_rfl) (by kernel_rfl) (fun _ _ _ h => h) (Or.inl ⟨by rfl, ?hy11⟩) hS0 ?_
    case hy11 => (intro w hSw; (try dsimp only at hSw); go_simp; try with_reducible rfl)
    try simp only [Act.put, List.setIfInBounds_toArray, List.set_cons_zero, List.set_cons_succ]
    refine wpAnyH_take (i := 11) (oi := { dst := some 38, op := Op.load 57 (Operand.tmp 5), type := 57, pos := "log.go:128", after := #[{ on := 2, ground := Ground.guard }], guard := some (2, false) }) (v := .agg #[.slice none 0 0, .slice a n m, .slice none 0 0, .slice none 0 0]) rfl (by kernel_rfl) (by kernel_rfl) (by kernel_rfl) (fun _ _ _ h => h) (yieldsIf_load_mid (by rfl) 57 _ rfl b5 0 rfl [.slice none 0 0, .slice a n m, .slice none 0 0, .slice none 0 0] _ (fun _ h => h.2.2) Tryz.underlying57 rfl size62) hS0 ?_
    try simp only [Act.put, List.setIfInBounds_toArray, List.set_cons_zero, List.set_cons_succ]
    refine wpAnyH_ready (rs := [12]) (by kernel_rfl) (by simp) ?_
    refine AllReadyH.cons (o := { dst := some 39, op := Op.call { callee := Callee.value (Operand.func 189), args := #[Operand.tmp 38], argTypes := #[57] }, type := 57, pos := "log.go:128", after := #[{ on := 11, ground := Ground.data }, { on := 2, ground := Ground.chain }, { on := 2, ground := Ground.guard }], guard := some (2, false) }) rfl (fun K hK => ?_) ?_
    · go_simp; with_reducible refine OO.out.mono ?_; rintro en W5 ⟨a', n', m', rfl, hov5, T5⟩; have T35 := T34.trans T5; have u2b := T5.cell (fun f => f) u2; have u0b := T5.cell (fun f => f) u0; have RB := range_turn RA T5 (fun f => f); have OP := Lib.hid (((KV.out.1 i hk5).turn T35 (fun f => f) (fun f => f)).put (i := q) KP.out.1 KP.out.2.1 KP.out.2.2 (o1_is a' n' m')); have X5 := Lib.hid (And.intro hov5 T35); clear OO T5 hov5 T35; go_simp
      refine hK.out _ _ ?hs13 (fun hS13 => ?_)
      case hs13 => ((try dsimp only); first | with_reducible exact ⟨u2, u0, RA⟩ | with_reducible exact ⟨u2b, u0b, RB⟩ | with_reducible exact ⟨u2c, u0c, RC⟩ | exact ⟨u2, u0, RA⟩ | exact ⟨u2b, u0b, RB⟩ | exact ⟨u2c, u0c, RC⟩)
      clear hK K hS0
      refine wpAnyH_ready (rs := [13]) (by kernel_rfl) (by simp) ?_
      refine AllReadyH.cons (o := { dst := some 40, op := Op.call { callee := Callee.value (Operand.func 289), args := #[Operand.tmp 33, Operand.tmp 37, Operand.tmp 39], argTypes := #[134, 3, 57] }, type := 4, pos := "log.go:128", after := #[{ on := 6, ground := Ground.data }, { on := 10, ground := Ground.data }, { on := 12, ground := Ground.data }, { on := 12, ground := Ground.chain }, { on := 2, ground := Ground.guard }], guard := some (2, false) }) rfl (fun K hK => ?_) ?_
      · go_simp; with_reducible refine OP.out.mono ?_; rintro en W7 ⟨rfl, OR7, T7⟩; have u2c := T7.cell (fun e => e.elim NE.out.1 NE.out.2.1) u2b; have u0c := T7.cell (fun e => e.elim NE.out.1 NE.out.2.1) u0b; have RC := range_turn RB T7 (fun e => e.elim NE.out.2.2.1 NE.out.2.2.2); have X7 := Lib.hid (And.intro OR7 T7); clear OP OR7 T7; go_simp
        refine hK.out _ _ ?hs14 (fun hS14 => ?_)
        case hs14 => ((try dsimp only); first | with_reducible exact ⟨u2, u0, RA⟩ | with_reducible exact ⟨u2b, u0b, RB⟩ | with_reducible exact ⟨u2c, u0c, RC⟩ | exact ⟨u2, u0, RA⟩ | exact ⟨u2b, u0b, RB⟩ | exact ⟨u2c, u0c, RC⟩)
        clear hK K hS13
        refine wpAnyH_take (i := 14) (oi := { dst := some 41, op := Op.unOp UnOp.not 4 (Operand.tmp 40), type := 4, pos := "log.go:128", after := #[{ on := 13, ground := Ground.data }, { on := 2, ground := Ground.guard }], guard := some (2, false) }) (v := ?_) rfl (by kernel_rfl) (by kernel_rfl) (by kernel_rfl) (fun _ _ _ h => h) (Or.inl ⟨by rfl, ?hy15⟩) hS14 ?_
        case hy15 => (intro w hSw; (try dsimp only at hSw); go_simp; try with_reducible rfl)
        try simp only [Act.put, List.setIfInBounds_toArray, List.set_cons_zero, List.set_cons_succ]
        refine wpAnyH_take (i := 15) (oi := { dst := some 42, op := Op.pick (Operand.tmp 29) (Operand.const (Value.bool true)) (Operand.tmp 41), type := 4, pos := "log.go:128", after := #[{ on := 2, ground := Ground.data }, { on := 14, ground := Ground.data }], guard := none }) (v := ?_) rfl (by kernel_rfl) (by kernel_rfl) (by kernel_rfl) (fun _ _ _ h => h) (Or.inl ⟨by rfl, ?hy16⟩) hS14 ?_
        case hy16 => (intro w hSw; (try dsimp only at hSw); go_simp; try with_reducible rfl)
        try simp only [Act.put, List.setIfInBounds_toArray, List.set_cons_zero, List.set_cons_succ]
        refine wpAnyH_done (by kernel_rfl) ?_ _
        have hL5 := HK.out.keep X5.out.2
        have hL7 := hL5.put_out hk5 X7.out.2 (Y' := updI (s.Y i) q (some o)) X7.out.1 (fun j => by
          by_cases e : j = (q : Int)
          · subst e
            rw [updI_at, updI_at]
            exact ⟨_, _, _, rfl, X5.out.1.turn X7.out.2 (fun b hb e => by
              have hb2 := (KV.out.1 i hk5).turn X5.out.2 (fun f => f) (fun f => f)
              exact e.elim (hb.ne hb2.br (by decide)) (hb.ne hb2.bp (by decide)))⟩
          · rw [updI_off _ _ e, updI_off _ _ e]
            have hb2 := (KV.out.1 i hk5).turn X5.out.2 (fun f => f) (fun f => f)
            exact ((KV.out.2 i hk5 j).turn X5.out.2 (fun _ _ f => f)).turn X7.out.2 (fun b hb e => e.elim (hb.ne hb2.br (by decide)) (hb.ne hb2.bp (by decide))))
        have e1 : upd s.rl i (s.rl i) = s.rl := by
          funext j
          by_cases e : j = i
          · subst e
            rw [upd_at]
          · rw [upd_off _ _ e]
        rw [e1] at hL7
        have hw : wrap64 ((q : Int) + 1) = (q : Int) + 1 := by have := HCB.out; unfold wrap64; omega
        have fz := hL7.bw.fz
        have hL8 := Lib.hid (hL7.put_cur hk5 (q + 1))
        have TF := Lib.hid ((((KX.out.1.trans X5.out.2).more (S' := B.foot c.sh) (fun _ _ f => f.elim)).trans (X7.out.2.more (fun k _ e => .inr (.inr (.inr (.inr (.inr ⟨i, hk5, e⟩))))))).trans ((Turn.put W7 B.wb (i * 3) (.int .i64 ((q + 1 : Nat) : Int))).more (fun k _ e => .inr (.inr (.inr (.inl e))))))
        clear hL5 hL7 e1 u2 u0 u2b u0b u2c RA RB RC
        go_wp2_with fail
        go_ret
        exact .inr ⟨rfl, hL8.out, TF.out⟩
      exact AllReadyH.nil
    exact AllReadyH.nil
end
end Go.Proofs.YtgfobgabdafclaaGreat
