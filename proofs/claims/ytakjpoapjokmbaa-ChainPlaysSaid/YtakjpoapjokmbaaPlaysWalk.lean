/-
  The walk of ChainPlays.
-/
import Derived.Test.YtakjpoapjokmbaaSame
import Derived.Test.YtakjpoapjokmbaaCountsWalk
namespace Go.Proofs.Ytakjpoapjokmbaa
open Go.ChangeShapes Go.WideShapes Go.ChangeAt Go.RowKit
set_option linter.unusedVariables false

def PyRel (w : World) (c mb rc base len : Nat) (gh : Nat) (v6 : Value) (wr : World) : Prop :=
  ∃ (i : Nat) (l : List No), v6 = .int .i64 (i : Int) ∧ i ≤ len ∧ i ≤ 50 ∧ gh = 50 - i ∧ Jt w c mb rc base i l wr
def P2Rel (w : World) (c mb rc base t : Nat) (l : List No) (gh : Nat) (v9 : Value) (wr : World) : Prop :=
  ∃ id : Int, v9 = .int .i64 id ∧ -1 ≤ id ∧ id ≤ (l.length : Int) + 1 ∧ gh = ((l.length : Int) + 1 - id).toNat ∧ Jt w c mb rc base t l wr
theorem Jt.dlive {w wr : World} {c mb rc base t : Nat} {l : List No} (h : Jt w c mb rc base t l wr) : Calls Try.prog 14 #[.pointer (some ⟨rc, 0, none⟩)] wr fun e w' => e = .returned (.int .i64 ((liveL l : Nat) : Int)) ∧ wr = w' := by
  obtain ⟨v, hv⟩ := h.rf
  exact dlive_at hv
set_option maxRecDepth 100000 in
set_option maxHeartbeats 4000000 in
theorem plays_walk (ad : Option Addr) (b off len cap : Nat) (had : len = 0 ∨ ad = some ⟨b, off, none⟩) (K A N : Nat → Int) (w : World) (hl : len = 0 ∨ Acts w b off len K A N) (hb : 0 < len → b < w.heap.size) (hlen : len ≤ 9223372036854775807) :
    Calls Try.prog 3 #[.slice ad len cap] w fun e w' => e = .returned (.bool true) ∧ Below w.heap.size w w' := by
  have H0 := Lib.hid (chain_awake w)
  have NW := Lib.hid (fun w => new_at w)
  have AD := Lib.hid (And.intro had (And.intro hl hb))
  clear had hl hb
  go_enter Try.func3, Try.ntmps3
  go_wp2_with fail
  refine H0.out.mono ?_
  rintro e w1 ⟨rfl, b1⟩
  go_wp2_with fail
  refine (NW.out _).mono ?_
  rintro e w2 ⟨rfl, h2, b2⟩
  obtain ⟨c, hc⟩ : ∃ c, w1.heap.size + 1 = c := ⟨_, rfl⟩
  obtain ⟨mb, hmb⟩ : ∃ mb, w1.heap.size = mb := ⟨_, rfl⟩
  rw [hc] at h2 ⊢
  rw [hmb] at h2
  have z1 := b1.size
  have z2 := h2.lt.1
  have z3 := h2.lt.2
  have CN : Cn w c mb w2.heap.size (w2.heap.size + 1) := ⟨by omega, by omega, by omega, by omega, by omega, by omega, by omega, by omega⟩
  have b12 := b1.trans (b2.mono b1.size)
  have R0 : PyRel w c mb w2.heap.size (w2.heap.size + 1) len 50 (.int .i64 0) (w2.alloc (.cells #[.slice none 0 0] 29)) :=
    ⟨0, [], rfl, Nat.zero_le _, Nat.zero_le _, rfl, ⟨⟨0, _, Nat.le_refl _, h2.alloc _, InvX.nil⟩, ⟨_, ref_start w2⟩, Nat.le_refl _, fun k q h => by simp at h, by rw [World.size_alloc]; omega, b12.alloc b12.size _⟩⟩
  clear b1 b2 h2 hc hmb z1 z2 z3 H0 NW b12
  go_wp2_with fail
  generalize w2.heap.size + 1 = base at *
  generalize w2.heap.size = rc at *
  go_loopg [6] 50 (fun gh v6 wr => PyRel w c mb rc base len gh v6 wr)
  case atStart => exact R0
  case round =>
    clear R0
    obtain ⟨i, l, rfl, hi, hi50, hgh, hst⟩ := hrel
    have HI := Lib.hid hi50
    by_cases hin : i < len ∧ i < 50
    · obtain ⟨hil, hi5⟩ := hin
      obtain rfl := AD.out.1.resolve_left (by omega)
      obtain ⟨y1, y2, y3⟩ := AD.out.2.1.resolve_left (by omega) i hil
      have hbw := AD.out.2.2 (by omega)
      have x1 := (hst.bel.cell (p := ⟨b, off + i * 3, none⟩) hbw).trans y1
      have x2 := (hst.bel.cell (p := ⟨b, off + i * 3 + 1, none⟩) hbw).trans y2
      have x3 := (hst.bel.cell (p := ⟨b, off + i * 3 + 2, none⟩) hbw).trans y3
      have t1 : decide ((i : Int) < (len : Int)) = true := by simp; omega
      have t2 : decide ((i : Int) < 50) = true := by simp; omega
      have D := Lib.hid (does_at hst (by omega) CN (K i) (A i) (N i))
      have Y3 := Lib.hid (And.intro y3 hgh)
      clear hst y1 y2 y3 hgh
      generalize K i = ki at *
      generalize A i = ai at *
      generalize N i = ni at *
      go_wp2_with fail
      refine D.out.mono ?_
      rintro e W1 ⟨rfl, l', hj⟩
      have x3 := (hj.bel.cell (p := ⟨b, off + i * 3 + 2, none⟩) hbw).trans Y3.out.1
      clear x1 x2 D
      obtain ⟨v', hv'⟩ := hj.rf
      obtain ⟨va', vc', rfl⟩ := hv'.shape
      have c0 := hv'.c0
      have hll' := hj.len
      obtain ⟨R1, r10, r11, HR1⟩ := rest_any ni ((l'.length : Int) + 2) (by omega) (by omega)
      have HR := Lib.hid HR1
      have SM := Lib.hid (fun W (hb : Below W1.heap.size W1 W) => same_at (hj.below hb) (by omega) (id := R1 - 1) (by omega) (by omega))
      have hbW1 : b < W1.heap.size := block_lt_of_cell x3
      have hrW1 : rc < W1.heap.size := block_lt_of_cell c0
      have J := Lib.hid hj
      have s1 : IntKind.i64.wrap ((l'.length : Int) + 2) = (l'.length : Int) + 2 := IntWalk.i64_in _ (by omega)
      have s2 : IntKind.i64.wrap (R1 - 1) = R1 - 1 := IntWalk.i64_in _ (by omega)
      have hi0 : (0 : Int) ≤ (i : Int) := by omega
      have hin' : (i : Int) < (len : Int) := by omega
      clear hj hv' HR1 r10 r11
      go_wp2_with fail
      refine wp_region_held_drew (S := (fun w' => w'.cell? ⟨b, off + i * 3 + 2, none⟩ = some (.int .i64 ni) ∧ w'.cell? ⟨rc, 0, none⟩ = some (.slice va' l'.length vc'))) (by kernel_rfl) ?hs0 (fun hS0 => ?_)
      case hs0 => ((try dsimp only); first | with_reducible exact ⟨x3, c0⟩ | exact ⟨x3, c0⟩ | exact ⟨(hS2.cell (p := ⟨b, off + i * 3 + 2, none⟩) hbW1).trans x3, (hS2.cell (p := ⟨rc, 0, none⟩) hrW1).trans c0⟩)
      refine wpAnyH_take (i := 0) (oi := { dst := some 32, op := Op.move (Operand.tmp 4), type := 24, pos := "law.go:102", after := #[], guard := none }) (v := ?_) rfl (by kernel_rfl) (by kernel_rfl) (by kernel_rfl) (fun _ _ _ h => h) (Or.inl ⟨by rfl, ?hy1⟩) hS0 ?_
      case hy1 => (intro w hSw; (try dsimp only at hSw); go_simp; try with_reducible rfl)
      try simp only [Act.put, List.setIfInBounds_toArray, List.set_cons_zero, List.set_cons_succ]
      refine wpAnyH_take (i := 1) (oi := { dst := some 33, op := Op.move (Operand.tmp 5), type := 26, pos := "law.go:102", after := #[], guard := none }) (v := ?_) rfl (by kernel_rfl) (by kernel_rfl) (by kernel_rfl) (fun _ _ _ h => h) (Or.inl ⟨by rfl, ?hy2⟩) hS0 ?_
      case hy2 => (intro w hSw; (try dsimp only at hSw); go_simp; try with_reducible rfl)
      try simp only [Act.put, List.setIfInBounds_toArray, List.set_cons_zero, List.set_cons_succ]
      refine wpAnyH_take (i := 2) (oi := { dst := some 34, op := Op.move (Operand.tmp 0), type := 22, pos := "law.go:102", after := #[], guard := none }) (v := ?_) rfl (by kernel_rfl) (by kernel_rfl) (by kernel_rfl) (fun _ _ _ h => h) (Or.inl ⟨by rfl, ?hy3⟩) hS0 ?_
      case hy3 => (intro w hSw; (try dsimp only at hSw); go_simp; try with_reducible rfl)
      try simp only [Act.put, List.setIfInBounds_toArray, List.set_cons_zero, List.set_cons_succ]
      refine wpAnyH_take (i := 3) (oi := { dst := some 35, op := Op.move (Operand.tmp 6), type := 3, pos := "law.go:102", after := #[], guard := none }) (v := ?_) rfl (by kernel_rfl) (by kernel_rfl) (by kernel_rfl) (fun _ _ _ h => h) (Or.inl ⟨by rfl, ?hy4⟩) hS0 ?_
      case hy4 => (intro w hSw; (try dsimp only at hSw); go_simp; try with_reducible rfl)
      try simp only [Act.put, List.setIfInBounds_toArray, List.set_cons_zero, List.set_cons_succ]
      refine wpAnyH_take (i := 4) (oi := { dst := some 36, op := Op.indexAddr 22 (Operand.tmp 34) (Operand.tmp 35), type := 0, pos := "law.go:102", after := #[{ on := 2, ground := Ground.data }, { on := 3, ground := Ground.data }], guard := none }) (v := ?_) rfl (by kernel_rfl) (by kernel_rfl) (by kernel_rfl) (fun _ _ _ h => h) (Or.inl ⟨by rfl, ?hy5⟩) hS0 ?_
      case hy5 => (intro w hSw; (try dsimp only at hSw); go_simp; try with_reducible rfl)
      try simp only [Act.put, List.setIfInBounds_toArray, List.set_cons_zero, List.set_cons_succ]
      refine wpAnyH_take (i := 5) (oi := { dst := some 37, op := Op.fieldAddr 32 (Operand.tmp 36) 2, type := 0, pos := "law.go:102", after := #[{ on := 4, ground := Ground.data }], guard := none }) (v := ?_) rfl (by kernel_rfl) (by kernel_rfl) (by kernel_rfl) (fun _ _ _ h => h) (Or.inl ⟨by rfl, ?hy6⟩) hS0 ?_
      case hy6 => (intro w hSw; (try dsimp only at hSw); go_simp; try with_reducible rfl)
      try simp only [Act.put, List.setIfInBounds_toArray, List.set_cons_zero, List.set_cons_succ]
      refine wpAnyH_take (i := 6) (oi := { dst := some 38, op := Op.load 3 (Operand.tmp 37), type := 3, pos := "law.go:102", after := #[{ on := 5, ground := Ground.data }], guard := none }) (v := ?_) rfl (by kernel_rfl) (by kernel_rfl) (by kernel_rfl) (fun _ _ _ h => h) (Or.inl ⟨by rfl, ?hy7⟩) hS0 ?_
      case hy7 => (intro w hSw; (try dsimp only at hSw); go_simp; try with_reducible rfl)
      try simp only [Act.put, List.setIfInBounds_toArray, List.set_cons_zero, List.set_cons_succ]
      refine wpAnyH_take (i := 7) (oi := { dst := some 39, op := Op.move (Operand.tmp 5), type := 26, pos := "law.go:102", after := #[], guard := none }) (v := ?_) rfl (by kernel_rfl) (by kernel_rfl) (by kernel_rfl) (fun _ _ _ h => h) (Or.inl ⟨by rfl, ?hy8⟩) hS0 ?_
      case hy8 => (intro w hSw; (try dsimp only at hSw); go_simp; try with_reducible rfl)
      try simp only [Act.put, List.setIfInBounds_toArray, List.set_cons_zero, List.set_cons_succ]
      refine wpAnyH_take (i := 8) (oi := { dst := some 40, op := Op.nilCheck (Operand.tmp 39), type := 0, pos := "law.go:102", after := #[{ on := 7, ground := Ground.data }], guard := none }) (v := ?_) rfl (by kernel_rfl) (by kernel_rfl) (by kernel_rfl) (fun _ _ _ h => h) (Or.inl ⟨by rfl, ?hy9⟩) hS0 ?_
      case hy9 => (intro w hSw; (try dsimp only at hSw); go_simp; try with_reducible rfl)
      try simp only [Act.put, List.setIfInBounds_toArray, List.set_cons_zero, List.set_cons_succ]
      refine wpAnyH_take (i := 9) (oi := { dst := some 41, op := Op.fieldAddr 29 (Operand.tmp 40) 0, type := 0, pos := "law.go:102", after := #[{ on := 8, ground := Ground.data }], guard := none }) (v := ?_) rfl (by kernel_rfl) (by kernel_rfl) (by kernel_rfl) (fun _ _ _ h => h) (Or.inl ⟨by rfl, ?hy10⟩) hS0 ?_
      case hy10 => (intro w hSw; (try dsimp only at hSw); go_simp; try with_reducible rfl)
      try simp only [Act.put, List.setIfInBounds_toArray, List.set_cons_zero, List.set_cons_succ]
      refine wpAnyH_take (i := 10) (oi := { dst := some 42, op := Op.load 27 (Operand.tmp 41), type := 27, pos := "law.go:102", after := #[{ on := 9, ground := Ground.data }], guard := none }) (v := ?_) rfl (by kernel_rfl) (by kernel_rfl) (by kernel_rfl) (fun _ _ _ h => h) (Or.inl ⟨by rfl, ?hy11⟩) hS0 ?_
      case hy11 => (intro w hSw; (try dsimp only at hSw); go_simp; try with_reducible rfl)
      try simp only [Act.put, List.setIfInBounds_toArray, List.set_cons_zero, List.set_cons_succ]
      refine wpAnyH_take (i := 11) (oi := { dst := some 43, op := Op.call { callee := Callee.builtin Builtin.len, args := #[Operand.tmp 42], argTypes := #[27] }, type := 3, pos := "law.go:102", after := #[{ on := 10, ground := Ground.data }], guard := none }) (v := ?_) rfl (by kernel_rfl) (by kernel_rfl) (by kernel_rfl) (fun _ _ _ h => h) (Or.inl ⟨by rfl, ?hy12⟩) hS0 ?_
      case hy12 => (intro w hSw; (try dsimp only at hSw); go_simp; try with_reducible rfl)
      try simp only [Act.put, List.setIfInBounds_toArray, List.set_cons_zero, List.set_cons_succ]
      refine wpAnyH_take (i := 12) (oi := { dst := some 44, op := Op.binOp BinOp.add 3 (Operand.tmp 43) (Operand.const (Value.int IntKind.i64 2)) 3, type := 3, pos := "law.go:102", after := #[{ on := 11, ground := Ground.data }], guard := none }) (v := ?_) rfl (by kernel_rfl) (by kernel_rfl) (by kernel_rfl) (fun _ _ _ h => h) (Or.inl ⟨by rfl, ?hy13⟩) hS0 ?_
      case hy13 => (intro w hSw; (try dsimp only at hSw); go_simp; try with_reducible rfl)
      try simp only [Act.put, List.setIfInBounds_toArray, List.set_cons_zero, List.set_cons_succ]
      refine wpAnyH_ready (rs := [13]) (by kernel_rfl) (by simp) ?_
      refine AllReadyH.cons (o := { dst := some 45, op := Op.call { callee := Callee.value (Operand.func 12), args := #[Operand.tmp 38, Operand.tmp 44], argTypes := #[3, 3] }, type := 3, pos := "law.go:102", after := #[{ on := 6, ground := Ground.data }, { on := 12, ground := Ground.data }], guard := none }) rfl (fun K hK => ?_) ?_
      · go_simp; refine (show Calls Try.prog 12 _ W1.drew _ from HR.out _).mono ?_; rintro e WR ⟨rfl, rfl⟩; have hS2 : Below W1.heap.size W1 W1.drew := (Below.refl _ _).drew; go_simp
        refine hK.out _ _ ?hs14 (fun hS14 => ?_)
        case hs14 => ((try dsimp only); first | with_reducible exact ⟨x3, c0⟩ | exact ⟨x3, c0⟩ | exact ⟨(hS2.cell (p := ⟨b, off + i * 3 + 2, none⟩) hbW1).trans x3, (hS2.cell (p := ⟨rc, 0, none⟩) hrW1).trans c0⟩)
        clear hK K hS0
        refine wpAnyH_take (i := 14) (oi := { dst := some 46, op := Op.binOp BinOp.sub 3 (Operand.tmp 45) (Operand.const (Value.int IntKind.i64 1)) 3, type := 3, pos := "law.go:102", after := #[{ on := 13, ground := Ground.data }], guard := none }) (v := ?_) rfl (by kernel_rfl) (by kernel_rfl) (by kernel_rfl) (fun _ _ _ h => h) (Or.inl ⟨by rfl, ?hy15⟩) hS14 ?_
        case hy15 => (intro w hSw; (try dsimp only at hSw); go_simp; try with_reducible rfl)
        try simp only [Act.put, List.setIfInBounds_toArray, List.set_cons_zero, List.set_cons_succ]
        refine wpAnyH_ready (rs := [15]) (by kernel_rfl) (by simp) ?_
        refine AllReadyH.cons (o := { dst := some 47, op := Op.call { callee := Callee.value (Operand.func 11), args := #[Operand.tmp 32, Operand.tmp 33, Operand.tmp 46], argTypes := #[24, 26, 3] }, type := 4, pos := "law.go:102", after := #[{ on := 0, ground := Ground.data }, { on := 1, ground := Ground.data }, { on := 14, ground := Ground.data }, { on := 13, ground := Ground.chain }], guard := none }) rfl (fun K hK => ?_) ?_
        · go_simp; refine (show Calls Try.prog 11 _ W1.drew _ from SM.out _ hS2).mono ?_; rintro e WC ⟨rfl, hbc⟩; have hS2 := hS2.trans (hbc.mono hS2.size); go_simp
          refine hK.out _ _ ?hs16 (fun hS16 => ?_)
          case hs16 => ((try dsimp only); first | with_reducible exact ⟨x3, c0⟩ | exact ⟨x3, c0⟩ | exact ⟨(hS2.cell (p := ⟨b, off + i * 3 + 2, none⟩) hbW1).trans x3, (hS2.cell (p := ⟨rc, 0, none⟩) hrW1).trans c0⟩)
          clear hK K hS14
          refine wpAnyH_take (i := 16) (oi := { dst := some 8, op := Op.assign (Operand.tmp 47), type := 4, pos := "law.go:102", after := #[{ on := 15, ground := Ground.data }, { on := 15, ground := Ground.chain }, { on := 0, ground := Ground.phase }, { on := 1, ground := Ground.phase }, { on := 2, ground := Ground.phase }, { on := 3, ground := Ground.phase }, { on := 4, ground := Ground.phase }, { on := 5, ground := Ground.phase }, { on := 6, ground := Ground.phase }, { on := 7, ground := Ground.phase }, { on := 8, ground := Ground.phase }, { on := 9, ground := Ground.phase }, { on := 10, ground := Ground.phase }, { on := 11, ground := Ground.phase }, { on := 12, ground := Ground.phase }, { on := 13, ground := Ground.phase }, { on := 14, ground := Ground.phase }, { on := 15, ground := Ground.phase }], guard := none }) (v := ?_) rfl (by kernel_rfl) (by kernel_rfl) (by kernel_rfl) (fun _ _ _ h => h) (Or.inl ⟨by rfl, ?hy17⟩) hS16 ?_
          case hy17 => (intro w hSw; (try dsimp only at hSw); go_simp; try with_reducible rfl)
          try simp only [Act.put, List.setIfInBounds_toArray, List.set_cons_zero, List.set_cons_succ]
          refine wpAnyH_done (by kernel_rfl) ?_ _
          have J2 := J.out.below hS2
          have LV := Lib.hid J2.live
          have DL := Lib.hid J2.dlive
          have J2 := Lib.hid J2
          have t9 : (((liveL l' : Nat) : Int) != ((liveL l' : Nat) : Int)) = false := by simp
          clear J SM HR s1 s2 c0 x3 hbW1 hrW1
          generalize liveL l' = lv at *
          go_wp2_with fail
          refine LV.out.mono ?_
          rintro e W3 ⟨rfl, rfl⟩
          go_wp2_with fail
          refine DL.out.mono ?_
          rintro e W3 ⟨rfl, rfl⟩
          go_wp2_with fail
          go_roundg (50 - (i + 1))
          case measure => have := Y3.out.2; omega
          case rel => exact ⟨i + 1, l', by go_num, by omega, by omega, rfl, J2.out⟩
        exact AllReadyH.nil
      exact AllReadyH.nil
    · have NI := Lib.hid hin
      have J0 := Lib.hid hst
      clear hin hi hi50 hgh hst
      go_upto_region 5 with fail
      go_cut [22] (fun v22 wx => v22 = .bool false ∧ wx = wr)
      case first =>
        by_cases hil : i < len
        · have t1 : decide ((i : Int) < (len : Int)) = true := by simp; omega
          have t2 : decide ((i : Int) < 50) = false := by have := NI.out; simp; omega
          go_wp2_with fail
          go_meet
          case rel => exact ⟨rfl, rfl⟩
        · have t1 : decide ((i : Int) < (len : Int)) = false := by simp; omega
          go_wp2_with fail
          go_meet
          case rel => exact ⟨rfl, rfl⟩
      case rest =>
      obtain ⟨rfl, rfl⟩ := hcut
      have hst := J0.out
      clear NI AD J0
      have hl50 : i ≤ 50 := HI.out
      have hlen2 := hst.len
      have hln : l.length ≤ 50 := by omega
      have R2 : P2Rel w c mb rc base i l (l.length + 2) (.int .i64 (-1)) wc := ⟨-1, rfl, by omega, by omega, by omega, hst⟩
      clear hst
      go_wp2_with fail
      go_loopg [9] (l.length + 2) (fun gh v9 wr => P2Rel w c mb rc base i l gh v9 wr)
      case atStart => exact R2
      case round =>
        clear R2
        obtain ⟨id, rfl, hid1, hid2, hgj, hst⟩ := hrel
        obtain ⟨v, hv⟩ := hst.rf
        obtain ⟨va, vc, rfl⟩ := hv.shape
        have c0 := hv.c0
        by_cases hle : id ≤ (l.length : Int)
        · have t3 : decide (id ≤ (l.length : Int)) = true := by simpa using hle
          have SM := Lib.hid (same_at hst (by omega) (id := id) (by omega) (by omega))
          have J := Lib.hid (And.intro hst hgj)
          clear hst hv hgj
          go_wp2_with fail
          refine SM.out.mono ?_
          rintro e W1 ⟨rfl, hb1⟩
          have J1 := Lib.hid (J.out.1.below hb1)
          clear SM hb1
          go_wp2_with fail
          go_roundg ((l.length : Int) + 1 - (id + 1)).toNat
          case measure => have := J.out.2; omega
          case rel => exact ⟨id + 1, rfl, by omega, by omega, rfl, J1.out⟩
        · have t3 : decide (id ≤ (l.length : Int)) = false := by simp; omega
          have F := Lib.hid hst.bel
          clear hst hv hgj
          go_wp2_with fail
          go_ret
          exact ⟨rfl, F.out⟩
theorem plays_any (a : Option Addr) (len cap : Nat) (w : World) (h : IsActs w a len) :
    Calls Try.prog 3 #[.slice a len cap] w fun e w' => e = .returned (.bool true) ∧ Below w.heap.size w w' := by
  rcases h with rfl | ⟨b, off, K, A, N, rfl, h1, h2, h3⟩
  · exact plays_walk a 0 0 0 cap (.inl rfl) (fun _ => 0) (fun _ => 0) (fun _ => 0) w (.inl rfl) (fun h => absurd h (Nat.lt_irrefl 0)) (by omega)
  · exact plays_walk _ b off len cap (.inr rfl) K A N w (.inr h3) (fun _ => h2) h1
end Go.Proofs.Ytakjpoapjokmbaa
