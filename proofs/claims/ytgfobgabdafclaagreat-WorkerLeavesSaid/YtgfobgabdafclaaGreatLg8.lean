/-
  A log in memory: Reply.
-/
import Derived.Test.YtgfobgabdafclaaGreatLg7
import Derived.Test.YtgfobgabdafclaaGreatLo2
namespace Go.Proofs.YtgfobgabdafclaaGreat
open Go.ChangeShapes Go.WideShapes Go.ChangeAt Go.RowKit
set_option linter.unusedVariables false
section
variable {w w' : World} {B : LB} {c : Cf} {s : LSt}
theorem LogAt.more_cnt (h : LogAt w B c s) {k : Nat} (hk : s.cnt ≤ k) : LogAt w B c { s with cnt := k } := by
  obtain ⟨n, m, ha, hn⟩ := h.ans
  exact ⟨h.bl, h.k0, h.k1, h.k2, h.k3, h.k4, h.k5, h.k6, h.k7, h.k8, h.k9, h.k10, h.k11, h.k12, h.k13, h.sh1, h.sh2, h.st2, h.com, h.bw, h.w0, h.w1, h.w2, h.outs, h.apart, ⟨n, m, ha, Nat.le_trans hn hk⟩⟩
/-- What the first k workers told of the lowest command is dropped. -/
def dropTo (s : LSt) (k : Nat) : LSt := { s with rl := fun i => if i < k ∧ (s.Y i (s.rl i)).isSome = true then s.rl i + 1 else s.rl i, Y := fun i => if i < k ∧ (s.Y i (s.rl i)).isSome = true then updI (s.Y i) (s.rl i) none else s.Y i }
theorem dropTo_zero : dropTo s 0 = s := by
  unfold dropTo
  simp
theorem dropTo_none {k : Nat} (h : s.Y k (s.rl k) = none) : dropTo s (k + 1) = dropTo s k := by
  unfold dropTo
  simp only [LSt.mk.injEq, true_and, and_true]
  refine ⟨funext fun i => ?_, funext fun i => ?_⟩
  · by_cases e : i = k
    · subst e
      rw [if_neg (by rw [h]; simp), if_neg (by rw [h]; simp)]
    · simp only [show (i < k + 1) = (i < k) by apply propext; omega]
  · by_cases e : i = k
    · subst e
      rw [if_neg (by rw [h]; simp), if_neg (by rw [h]; simp)]
    · simp only [show (i < k + 1) = (i < k) by apply propext; omega]
theorem dropTo_some {k : Nat} (h : (s.Y k (s.rl k)).isSome = true) : { dropTo s k with rl := upd (dropTo s k).rl k (s.rl k + 1), Y := upd (dropTo s k).Y k (updI (s.Y k) (s.rl k) none) } = dropTo s (k + 1) := by
  unfold dropTo
  simp only [LSt.mk.injEq, true_and, and_true]
  refine ⟨funext fun i => ?_, funext fun i => ?_⟩
  · by_cases e : i = k
    · subst e
      rw [upd_at, if_pos ⟨by omega, h⟩]
    · rw [upd_off _ _ e]
      simp only [show (i < k + 1) = (i < k) by apply propext; omega]
  · by_cases e : i = k
    · subst e
      rw [upd_at, if_pos ⟨by omega, h⟩]
    · rw [upd_off _ _ e]
      simp only [show (i < k + 1) = (i < k) by apply propext; omega]
theorem LogAt.drop_one {k : Nat} (h : LogAt w B c (dropTo s k)) (hk : k < c.sh) (hr : s.rl k ≤ 100000) :
    Calls Tryz.prog 260 #[.pointer (some ⟨B.rw k, 0, none⟩)] w fun e w' => (∃ v, e = .returned v) ∧ LogAt w' B c (dropTo s (k + 1)) ∧ Turn (B.foot c.sh) w w' := by
  obtain ⟨V, hV, hO⟩ := h.outs
  have e1 : (dropTo s k).rl k = s.rl k := by unfold dropTo; simp
  have e2 : (dropTo s k).Y k = s.Y k := by unfold dropTo; simp
  have hv := hV k hk
  have ho := hO k hk
  rw [e1] at hv
  rw [e2] at ho
  cases hy : s.Y k (s.rl k) with
  | none =>
    have hx : V k (s.rl k) = none := by
      have := ho (s.rl k)
      rw [hy] at this
      cases hx : V k (s.rl k) with
      | none => rfl
      | some cs => rw [hx] at this; exact this.elim
    refine (hv.drop_no hx).mono ?_
    rintro e w' ⟨hv, T⟩
    rw [dropTo_none hy]
    exact ⟨hv, h.keep T, T.more (fun _ _ f => f.elim)⟩
  | some o =>
    have hx : (V k (s.rl k)).isSome = true := by
      have := ho (s.rl k)
      rw [hy] at this
      cases hx : V k (s.rl k) with
      | none => rw [hx] at this; exact this.elim
      | some cs => rfl
    refine (hv.drop (by omega) hx).mono ?_
    rintro e w' ⟨hvv, hc, T⟩
    refine ⟨hvv, ?_, T.more (fun b _ e => .inr (.inr (.inr (.inr (.inr ⟨k, hk, e⟩)))))⟩
    rw [← dropTo_some (by rw [hy]; rfl)]
    refine h.put_out hk T hc (fun j => ?_)
    by_cases e : j = (s.rl k : Int)
    · subst e
      rw [updI_at, updI_at]
      trivial
    · rw [updI_off _ _ e, updI_off _ _ e]
      exact (ho j).turn T (fun b hb e => e.elim (hb.ne hv.br (by decide)) (hb.ne hv.bp (by decide)))
theorem allTold_some {kind : Int} : ∀ {n : Nat}, allTold s kind n = true → (s.X s.low).isSome = true
  | 0, h => h
  | n + 1, h => by
    unfold allTold at h
    exact allTold_some (by simp at h; exact h.1)
def replied (c : Cf) (s : LSt) (e n : Int) : LSt :=
  { dropTo { s with G := if ((s.X s.low).getD (0, 0)).1 = 1 then s.G else updI s.G s.low (some ⟨e, n⟩), cnt := s.cnt + 1 } c.sh with low := s.low + 1, X := updI s.X s.low none }
def RpRel (B : LB) (c : Cf) (s : LSt) (n : Nat) (W : World) (gh : Nat) (v34 : Value) (wr : World) : Prop :=
  ∃ k : Nat, v34 = .int .i64 (k : Int) ∧ k ≤ n ∧ gh = n - k ∧ LogAt wr B c (dropTo s k) ∧ Turn (B.foot c.sh) W wr
set_option maxRecDepth 100000 in
set_option maxHeartbeats 4000000 in
theorem LogAt.reply_is (h : LogAt w B c s) (en1 nn1 : Int) (hlb : s.low ≤ 100000) (hcb : s.cnt ≤ 100000) (hrb : ∀ i, i < c.sh → s.rl i ≤ 100000) :
    Calls Tryz.prog 238 #[.pointer (some ⟨B.l, 0, none⟩), .agg #[.int .i64 en1, .int .i64 nn1, .slice none 0 0]] w fun e w' =>
      (readyB c s = false ∧ e = .returned (.bool false) ∧ Turn (fun _ => False) w w') ∨ (readyB c s = true ∧ e = .returned (.bool true) ∧ LogAt w' B c (replied c s en1 nn1) ∧ Turn (B.foot c.sh) w w') := by
  obtain ⟨W, hW⟩ : ∃ W, W = w.alloc (.cells #[.int .i64 en1, .int .i64 nn1, .slice none 0 0] 149) := ⟨_, rfl⟩
  have T : Turn (fun _ => False) w W := by rw [hW]; exact (Turn.refl _ w).alloc _
  have Bk : Blk W w.heap.size 149 := by rw [hW]; exact Blk.new w [.int .i64 en1, .int .i64 nn1, .slice none 0 0] 149
  have C : W.rangeAt w.heap.size 0 [.int .i64 en1, .int .i64 nn1, .slice none 0 0] := by rw [hW]; exact range_new w [.int .i64 en1, .int .i64 nn1, .slice none 0 0] 149
  have hh := h.keep T
  have R := Lib.hid hh.ready_is
  have hc := Lib.hid (cmdL_is ((s.X s.low).getD (0, 0)))
  have HK : (cmdL ((s.X s.low).getD (0, 0)))[0]? = some (.int .i64 ((s.X s.low).getD (0, 0)).1) := rfl
  have HK := Lib.hid HK
  have KX := Lib.hid (And.intro T (And.intro Bk (And.intro C (And.intro hh (And.intro hlb (And.intro hcb hrb))))))
  have HRD : ∃ rd, readyB c s = rd := ⟨_, rfl⟩
  obtain ⟨rd, hrd⟩ := HRD
  have RD := Lib.hid hrd
  rw [hrd] at R
  rw [hrd]
  have HKD : ∃ kd, ((s.X s.low).getD (0, 0)).1 = kd := ⟨_, rfl⟩
  obtain ⟨kind, hkd⟩ := HKD
  have KD := Lib.hid hkd
  rw [hkd] at HK
  generalize cmdL ((s.X s.low).getD (0, 0)) = cs at *
  clear T Bk C hh h hrd hkd hlb hcb hrb
  go_enter Tryz.func238, Tryz.ntmps238
  go_upto_region 1 with fail
  rw [← hW]
  clear hW
  generalize hb3 : w.heap.size = b3 at *
  have HB3 := Lib.hid hb3
  clear hb3
  go_wp2_with fail
  with_reducible refine R.out.mono ?_
  rintro e W2 ⟨rfl, T2⟩
  dsimp only
  refine (‹∀ (a : Act) (w : World), wpList _ _ _ _ a w → _›) _ _ ?_
  refine rl_val rfl (v := .tuple #[.agg cs.toArray, .bool rd]) rfl ?_
  try simp only [Act.put, List.setIfInBounds_toArray, List.set_cons_zero, List.set_cons_succ]
  refine rl_val rfl (v := .agg cs.toArray) rfl ?_
  try simp only [Act.put, List.setIfInBounds_toArray, List.set_cons_zero, List.set_cons_succ]
  refine rl_val rfl (v := .bool rd) rfl ?_
  try simp only [Act.put, List.setIfInBounds_toArray, List.set_cons_zero, List.set_cons_succ]
  refine rl_val rfl (alloc51 _ _ rfl) ?_
  try simp only [Act.put, List.setIfInBounds_toArray, List.set_cons_zero, List.set_cons_succ]
  obtain ⟨W3, hW3⟩ : ∃ W, W = W2.alloc (.cells zc.toArray 60) := ⟨_, rfl⟩
  rw [← hW3]
  have T3 : Turn (fun _ => False) W2 W3 := by rw [hW3]; exact (Turn.refl _ W2).alloc _
  have B3 : Blk W3 W2.heap.size 60 := by rw [hW3]; exact Blk.new W2 zc 60
  have C3 : W3.there W2.heap.size 0 14 := range_there (by rw [hW3]; exact range_new W2 zc 60) rfl B3
  have hb4 : W.heap.size ≤ W2.heap.size := T2.size
  clear hW3
  generalize W2.heap.size = b4 at *
  refine wpList_store_mid rfl 60 _ _ rfl b4 0 cs.toArray rfl rfl (by rw [List.size_toArray, hc.out.len]; exact C3) (by rw [List.size_toArray, hc.out.len]; exact size51) hc.out.one ?_
  try simp only [Act.put, List.setIfInBounds_toArray, List.set_cons_zero, List.set_cons_succ]
  change wpList _ _ _ _ _ (W3.setCells b4 0 cs)
  have T4 : Turn (fun k => k = b4) W3 (W3.setCells b4 0 cs) := Turn.setCells cs 0 (Turn.refl _ W3) (.inl rfl)
  have R4 : (W3.setCells b4 0 cs).rangeAt b4 0 cs := World.rangeAt_setCells_same _ _ _ _ (by rw [hc.out.len]; exact C3)
  have T14 : Turn (fun _ => False) W (W3.setCells b4 0 cs) := ((T2.trans T3).comp T4 (fun j hj e => by omega))
  generalize W3.setCells b4 0 cs = W4 at *
  have x4 : W4.cell? ⟨b4, 0, none⟩ = some (.int .i64 kind) := R4 0 _ HK.out
  have TT := Lib.hid T14
  have HL := Lib.hid (KX.out.2.2.2.1.keep T14)
  clear T3 B3 C3 T4 R4 T14 T2 R hb4
  cases rd with
  | false =>
    have F := Lib.hid (KX.out.1.trans TT.out)
    clear x4
    go_wp2_with fail
    go_ret
    exact ⟨rfl, F.out⟩
  | true =>
    have L := Lib.hid HL.out.low_is
    go_wp2_with fail
    with_reducible refine L.out.mono ?_
    rintro e W7 ⟨rfl, rfl⟩
    clear L
    go_upto_if 21 with fail
    go_cut [9] from 21 (fun v9 wx => LogAt wx B c { s with G := if kind = 1 then s.G else updI s.G s.low (some ⟨en1, nn1⟩), cnt := s.cnt + 1 } ∧ Turn (fun k => k = B.mb) W4 wx)
    case first =>
      by_cases hk1 : kind = 1
      · have e1 : (kind != 1) = false := by simpa using hk1
        have F := Lib.hid (show LogAt W4 B c { s with G := if kind = 1 then s.G else updI s.G s.low (some ⟨en1, nn1⟩), cnt := s.cnt + 1 } from by rw [if_pos hk1]; exact HL.out.more_cnt (Nat.le_succ _))
        clear hk1
        go_wp2_with fail
        go_meet
        case rel => exact ⟨F.out, Turn.refl _ _⟩
      · have e1 : (kind != 1) = true := by simpa using hk1
        have TD : Turn (fun _ => False) W4 W4.drew := (Turn.refl _ W4).drewN 1
        have p13 : W4.drew.cell? ⟨B.l, 13, none⟩ = some (.map (some B.mb)) := HL.out.k13
        have CB := range_turn KX.out.2.2.1 (TT.out.trans TD) (fun f => f)
        have q0 : W4.drew.cell? ⟨b3, 0, none⟩ = some (.int .i64 en1) := CB 0 _ rfl
        have q1 : W4.drew.cell? ⟨b3, 1, none⟩ = some (.int .i64 nn1) := CB 1 _ rfl
        have q2 : W4.drew.cell? ⟨b3, 2, none⟩ = some (.slice none 0 0) := CB 2 _ rfl
        have HB := Lib.hid (show (B.l ≠ B.mb ∧ b3 ≠ B.mb) ∧ s.cnt ≤ 100000 ∧ (Lit.int .i64 (s.low : Int)).wf = true from by
          obtain ⟨_, _, ha, _⟩ := KX.out.2.2.2.1.ans
          exact ⟨⟨ha.ne KX.out.2.2.2.1.bl, ha.ne KX.out.2.1⟩, KX.out.2.2.2.2.2.1, by
            have := KX.out.2.2.2.2.1
            simp only [Lit.wf, Bool.and_eq_true, decide_eq_true_eq]
            show (-9223372036854775808 : Int) ≤ (s.low : Int) ∧ (s.low : Int) ≤ 9223372036854775807
            omega⟩)
        have OA := Lib.hid (fun w => own_answer w en1 nn1)
        have NK := Lib.hid hk1
        clear x4 CB hk1
        go_upto_region 6 with fail
        refine wp_region_held_drew (S := (fun w' => w'.cell? ⟨B.l, 13, none⟩ = some (.map (some B.mb)) ∧ w'.cell? ⟨b3, 0, none⟩ = some (.int .i64 en1) ∧ w'.cell? ⟨b3, 1, none⟩ = some (.int .i64 nn1) ∧ w'.cell? ⟨b3, 2, none⟩ = some (.slice none 0 0))) (by kernel_rfl) ?hs0 (fun hS0 => ?_)
        case hs0 => ((try dsimp only); first | with_reducible exact ⟨p13, q0, q1, q2⟩ | with_reducible exact ⟨p13b, q0b, q1b, q2b⟩ | with_reducible exact ⟨p13c, q0c, q1c, q2c⟩ | exact ⟨p13, q0, q1, q2⟩ | exact ⟨p13b, q0b, q1b, q2b⟩ | exact ⟨p13c, q0c, q1c, q2c⟩)
        generalize W4.drew = V at *
        refine wpAnyH_take (i := 0) (oi := { dst := some 22, op := Op.move (Operand.tmp 0), type := 65, pos := "log.go:180", after := #[], guard := none }) (v := ?_) rfl (by kernel_rfl) (by kernel_rfl) (by kernel_rfl) (fun _ _ _ h => h) (Or.inl ⟨by rfl, ?hy1⟩) hS0 ?_
        case hy1 => (intro w hSw; (try dsimp only at hSw); go_simp; try with_reducible rfl)
        try simp only [Act.put, List.setIfInBounds_toArray, List.set_cons_zero, List.set_cons_succ]
        refine wpAnyH_take (i := 1) (oi := { dst := some 23, op := Op.nilCheck (Operand.tmp 22), type := 0, pos := "log.go:180", after := #[{ on := 0, ground := Ground.data }], guard := none }) (v := ?_) rfl (by kernel_rfl) (by kernel_rfl) (by kernel_rfl) (fun _ _ _ h => h) (Or.inl ⟨by rfl, ?hy2⟩) hS0 ?_
        case hy2 => (intro w hSw; (try dsimp only at hSw); go_simp; try with_reducible rfl)
        try simp only [Act.put, List.setIfInBounds_toArray, List.set_cons_zero, List.set_cons_succ]
        refine wpAnyH_take (i := 2) (oi := { dst := some 24, op := Op.fieldAddr 133 (Operand.tmp 23) 7, type := 0, pos := "log.go:180", after := #[{ on := 1, ground := Ground.data }], guard := none }) (v := ?_) rfl (by kernel_rfl) (by kernel_rfl) (by kernel_rfl) (fun _ _ _ h => h) (Or.inl ⟨by rfl, ?hy3⟩) hS0 ?_
        case hy3 => (intro w hSw; (try dsimp only at hSw); go_simp; try with_reducible rfl)
        try simp only [Act.put, List.setIfInBounds_toArray, List.set_cons_zero, List.set_cons_succ]
        refine wpAnyH_take (i := 3) (oi := { dst := some 25, op := Op.load 130 (Operand.tmp 24), type := 130, pos := "log.go:180", after := #[{ on := 2, ground := Ground.data }], guard := none }) (v := ?_) rfl (by kernel_rfl) (by kernel_rfl) (by kernel_rfl) (fun _ _ _ h => h) (Or.inl ⟨by rfl, ?hy4⟩) hS0 ?_
        case hy4 => (intro w hSw; (try dsimp only at hSw); go_simp; try with_reducible rfl)
        try simp only [Act.put, List.setIfInBounds_toArray, List.set_cons_zero, List.set_cons_succ]
        refine wpAnyH_take (i := 4) (oi := { dst := some 26, op := Op.move (Operand.tmp 7), type := 3, pos := "log.go:180", after := #[], guard := none }) (v := ?_) rfl (by kernel_rfl) (by kernel_rfl) (by kernel_rfl) (fun _ _ _ h => h) (Or.inl ⟨by rfl, ?hy5⟩) hS0 ?_
        case hy5 => (intro w hSw; (try dsimp only at hSw); go_simp; try with_reducible rfl)
        try simp only [Act.put, List.setIfInBounds_toArray, List.set_cons_zero, List.set_cons_succ]
        refine wpAnyH_take (i := 5) (oi := { dst := some 27, op := Op.load 149 (Operand.tmp 3), type := 149, pos := "log.go:180", after := #[], guard := none }) (v := ?_) rfl (by kernel_rfl) (by kernel_rfl) (by kernel_rfl) (fun _ _ _ h => h) (Or.inl ⟨by rfl, ?hy6⟩) hS0 ?_
        case hy6 => (intro w hSw; (try dsimp only at hSw); go_simp; try with_reducible rfl)
        try simp only [Act.put, List.setIfInBounds_toArray, List.set_cons_zero, List.set_cons_succ]
        refine wpAnyH_ready (rs := [6]) (by kernel_rfl) (by simp) ?_
        refine AllReadyH.cons (o := { dst := some 28, op := Op.call { callee := Callee.value (Operand.func 259), args := #[Operand.tmp 27], argTypes := #[149] }, type := 149, pos := "log.go:180", after := #[{ on := 5, ground := Ground.data }], guard := none }) rfl (fun K hK => ?_) ?_
        · go_simp; with_reducible refine (OA.out V).mono ?_; rintro en W5 ⟨rfl, T5⟩; have p13b := T5.cell (fun f => f) p13; have q0b := T5.cell (fun f => f) q0; have q1b := T5.cell (fun f => f) q1; have q2b := T5.cell (fun f => f) q2; obtain ⟨nn0, mm0, ND, hcn⟩ := (HL.out.keep (TD.trans T5)).ans; obtain ⟨W6, hrun, N6, g6⟩ := ND.store (t := 130) (e := 149) Tryz.underlying3 Tryz.underlying130 (by have := HB.out.2.1; unfold maxLen; omega) (i := (s.low : Int)) HB.out.2.2 ⟨en1, nn1⟩; have T6 : Turn (fun k => k = B.mb) W5 W6 := (Turn.refl _ W5).grown g6 (fun k hk => .inl (by cases hk; rfl)); have hN6 : ∃ n m, Nds Tryz.prog 3 W6 B.mb n m (updI s.G s.low (some ⟨en1, nn1⟩)) ∧ n ≤ s.cnt + 1 := ⟨_, _, N6, by omega⟩; have h6 := Lib.hid ((HL.out.keep (TD.trans T5)).put_ans T6 hN6); have hne : B.l ≠ B.mb := HB.out.1.1; have hne3 : b3 ≠ B.mb := HB.out.1.2; have p13c := T6.cell hne p13b; have q0c := T6.cell hne3 q0b; have q1c := T6.cell hne3 q1b; have q2c := T6.cell hne3 q2b; have TF := Lib.hid ((TD.trans T5).more (S' := fun k => k = B.mb) (fun _ _ f => f.elim) |>.trans T6); clear ND N6 g6 hN6 T6 hcn; go_simp
          refine hK.out _ _ ?hs7 (fun hS7 => ?_)
          case hs7 => ((try dsimp only); first | with_reducible exact ⟨p13, q0, q1, q2⟩ | with_reducible exact ⟨p13b, q0b, q1b, q2b⟩ | with_reducible exact ⟨p13c, q0c, q1c, q2c⟩ | exact ⟨p13, q0, q1, q2⟩ | exact ⟨p13b, q0b, q1b, q2b⟩ | exact ⟨p13c, q0c, q1c, q2c⟩)
          clear hK K hS0
          refine wpAnyH_ready (rs := [7]) (by kernel_rfl) (by simp) ?_
          refine AllReadyH.cons (o := { dst := none, op := Op.mapUpdate 130 (Operand.tmp 25) (Operand.tmp 26) (Operand.tmp 28), type := 0, pos := "log.go:180", after := #[{ on := 3, ground := Ground.data }, { on := 4, ground := Ground.data }, { on := 6, ground := Ground.data }, { on := 6, ground := Ground.chain }, { on := 0, ground := Ground.phase }, { on := 1, ground := Ground.phase }, { on := 2, ground := Ground.phase }, { on := 3, ground := Ground.phase }, { on := 4, ground := Ground.phase }, { on := 5, ground := Ground.phase }, { on := 6, ground := Ground.phase }], guard := none }) rfl (fun K hK => ?_) ?_
          · unfold Nd.val at hrun; go_simp
            refine hK.out _ _ ?hs8 (fun hS8 => ?_)
            case hs8 => ((try dsimp only); first | with_reducible exact ⟨p13, q0, q1, q2⟩ | with_reducible exact ⟨p13b, q0b, q1b, q2b⟩ | with_reducible exact ⟨p13c, q0c, q1c, q2c⟩ | exact ⟨p13, q0, q1, q2⟩ | exact ⟨p13b, q0b, q1b, q2b⟩ | exact ⟨p13c, q0c, q1c, q2c⟩)
            clear hK K hS7
            refine wpAnyH_done (by kernel_rfl) ?_ _
            go_wp2_with fail
            go_meet
            case rel => exact ⟨by rw [if_neg NK.out]; exact h6.out, TF.out⟩
          exact AllReadyH.nil
        exact AllReadyH.nil
    case rest =>
    obtain ⟨hL, hT⟩ := hcut
    have hrb : ∀ i, i < c.sh → s.rl i ≤ 100000 := KX.out.2.2.2.2.2.2
    obtain ⟨s1, hs1⟩ : ∃ s1 : LSt, s1 = { s with G := if kind = 1 then s.G else updI s.G s.low (some ⟨en1, nn1⟩), cnt := s.cnt + 1 } := ⟨_, rfl⟩
    have e1 : s1.rl = s.rl := by rw [hs1]
    have e2 : s1.low = s.low := by rw [hs1]
    have e3 : s1.X = s.X := by rw [hs1]
    have HS := Lib.hid (And.intro hs1 (And.intro e1 (And.intro e2 e3)))
    rw [← hs1] at hL
    have RR0 : RpRel B c s1 c.sh wc c.sh (.int .i64 0) wc := ⟨0, rfl, Nat.zero_le _, rfl, by rw [dropTo_zero]; exact hL, Turn.refl _ _⟩
    obtain ⟨cap, k12⟩ := hL.k12
    have HR := Lib.hid (And.intro hrb (And.intro hL hT))
    obtain ⟨n, hnn⟩ : ∃ n, c.sh = n := ⟨_, rfl⟩
    have HN := Lib.hid hnn
    rw [hnn] at k12 RR0
    clear hnn hL hT hrb hs1 e1 e2 e3 x4
    go_wp2_with fail
    go_loopg [34] n (fun gh v34 wr => RpRel B c s1 n wc gh v34 wr)
    case atStart => exact RR0
    case round =>
      clear RR0
      obtain ⟨k, rfl, hk, hg, hLk, T⟩ := hrel
      by_cases hkn : k < n
      · have u1 : decide ((k : Int) < (n : Int)) = true := decide_eq_true (by omega)
        have hkc : k < c.sh := by rw [HN.out]; exact hkn
        have y0 := hLk.w0 k hkc
        have y1 := hLk.w1 k hkc
        have y2 := hLk.w2 k hkc
        have hk0 : (0 : Int) ≤ (k : Int) := by omega
        have hk1 : (k : Int) < (n : Int) := by omega
        generalize (dropTo s1 k).cur k = cu at *
        generalize (dropTo s1 k).left k = lf at *
        have TA : Turn (fun _ => False) wr (wr.alloc (.cells #[.int .i64 (cu : Int), .bool lf, .pointer (some ⟨B.rw k, 0, none⟩)] 137)) := (Turn.refl _ wr).alloc _
        have CA := World.cell?_alloc_new wr #[.int .i64 (cu : Int), .bool lf, .pointer (some ⟨B.rw k, 0, none⟩)] 137
        have c2 : (wr.alloc (.cells #[.int .i64 (cu : Int), .bool lf, .pointer (some ⟨B.rw k, 0, none⟩)] 137)).cell? ⟨wr.heap.size, 2, none⟩ = some (.pointer (some ⟨B.rw k, 0, none⟩)) := CA 2
        have n15 : n ≤ 15 := by rw [← HN.out]; exact HL.out.sh2
        have DO := Lib.hid ((hLk.keep TA).drop_one hkc (by rw [HS.out.2.1]; exact HR.out.1 k hkc))
        have F := Lib.hid (And.intro (T.trans (TA.more (S' := B.foot c.sh) (fun _ _ f => f.elim))) hkn)
        have GG := Lib.hid hg
        obtain ⟨W9, hW9⟩ : ∃ W9, W9 = wr.alloc (.cells #[.int .i64 (cu : Int), .bool lf, .pointer (some ⟨B.rw k, 0, none⟩)] 137) := ⟨_, rfl⟩
        rw [← hW9] at DO c2
        have F : Hid (Turn (B.foot c.sh) wc W9 ∧ k < n) := by rw [hW9]; exact F
        clear CA TA T hLk hg hkc hkn
        go_upto_region 10 with fail
        rw [← hW9]
        clear hW9
        generalize wr.heap.size = b9 at *
        go_wp2_with fail
        with_reducible refine DO.out.mono ?_
        rintro en W10 ⟨⟨v10, rfl⟩, hL10, T10⟩
        have F2 := Lib.hid (And.intro hL10 (F.out.1.trans T10))
        clear hL10 T10 DO
        go_wp2_with fail
        go_roundg (n - (k + 1))
        case measure => have := GG.out; have := F.out.2; omega
        case rel => exact ⟨k + 1, by go_num, by have := F.out.2; omega, rfl, F2.out.1, F2.out.2⟩
      · obtain rfl : k = n := by omega
        have u1 : decide ((k : Int) < (k : Int)) = false := decide_eq_false (by omega)
        have k11 := hLk.k11
        have hlow : (dropTo s1 k).low = s.low := HS.out.2.2.1
        have hX : (dropTo s1 k).X = s.X := HS.out.2.2.2
        have hcom := hLk.com
        rw [hlow, hX] at hcom
        have DR := Lib.hid (hcom.drop (by have := KX.out.2.2.2.2.1; omega) (by
          show ((s.X s.low).map cmdL).isSome = true
          rw [Option.isSome_map]
          exact allTold_some RD.out))
        have HF := Lib.hid (And.intro hLk T)
        clear hLk T hg k12 hcom hlow hX
        go_wp2_with fail
        with_reducible refine DR.out.mono ?_
        rintro en W11 ⟨⟨v11, rfl⟩, hc11, T11⟩
        have hlow : (dropTo s1 k).low = s.low := HS.out.2.2.1
        have hc12 : CR W11 B.rc B.pc c.ib (s.low + 1) (fun j => (updI s.X s.low none j).map cmdL) := by rw [← updI_map]; exact hc11
        have hL11 := Lib.hid (HF.out.1.put_com T11 (low := s.low + 1) (by rw [hlow]; omega) hc12)
        have TF := Lib.hid ((((KX.out.1.trans TT.out).more (S' := B.foot c.sh) (fun _ _ f => f.elim)).trans ((HR.out.2.2.more (S' := B.foot c.sh) (fun _ _ e => .inr (.inr (.inr (.inr (.inl e)))))))).trans (HF.out.2.trans (T11.more (fun _ _ e => foot_com e))))
        clear hc11 hc12 T11 DR hlow
        go_wp2_with fail
        go_ret
        refine ⟨rfl, ?_, TF.out⟩
        unfold replied
        rw [KD.out, HN.out, ← HS.out.1]
        exact hL11.out
end
end Go.Proofs.YtgfobgabdafclaaGreat
