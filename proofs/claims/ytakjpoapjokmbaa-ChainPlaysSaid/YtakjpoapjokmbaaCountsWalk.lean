/-
  The walk of ChainCounts.
-/
import Derived.Test.YtakjpoapjokmbaaFin
import Derived.Test.YtakjpoapjokmbaaActArg
namespace Go.Proofs.Ytakjpoapjokmbaa
open Go.ChangeShapes Go.WideShapes Go.ChangeAt Go.RowKit
set_option linter.unusedVariables false

def Sc (w : World) (b off len : Nat) (K A N : Nat → Int) (w' : World) : Prop := ∀ i, i < len → w'.cell? ⟨b, off + i * 3, none⟩ = some (.int .i64 (K i)) ∧ w'.cell? ⟨b, off + i * 3 + 1, none⟩ = some (.int .i64 (A i)) ∧ w'.cell? ⟨b, off + i * 3 + 2, none⟩ = some (.int .i64 (N i))
def CtRel (w : World) (c mb rc base len : Nat) (gh : Nat) (v6 v7 : Value) (wr : World) : Prop :=
  ∃ (i : Nat) (l : List No) (g : Int), v7 = .int .i64 (i : Int) ∧ v6 = .int .i64 g ∧ g = (l.length : Int) - (liveL l : Nat) ∧ i ≤ len ∧ i ≤ 50 ∧ gh = 50 - i ∧ Jt w c mb rc base i l wr
section
variable {w wr : World} {c mb rc base t : Nat} {l : List No}
theorem Jt.live (h : Jt w c mb rc base t l wr) : Calls Try.prog 13 #[.pointer (some ⟨c, 0, none⟩)] wr fun e w' => e = .returned (.int .i64 ((liveL l : Nat) : Int)) ∧ wr = w' := by
  obtain ⟨nn, G, a1, a2, a3⟩ := h.ch
  exact live_at a2
end
theorem ref_start (W : World) : RefC (W.alloc (.cells #[.slice none 0 0] 29)) (W.heap.size + 1) W.heap.size (.slice none 0 0) [] := by
  refine ⟨World.cell?_alloc_new _ #[.slice none 0 0] 29 0, ?_, World.ownsRow_nil _ _ _ _, by omega, by simp⟩
  rw [frozen?_alloc_cells]
  unfold World.frozen?
  rw [Array.getElem?_eq_none (Nat.le_refl _)]
def C2Rel (w : World) (c mb rc base t : Nat) (l : List No) (gh : Nat) (v11 : Value) (wr : World) : Prop :=
  ∃ j : Nat, v11 = .int .i64 (j : Int) ∧ j ≤ l.length ∧ gh = l.length - j ∧ Jt w c mb rc base t l wr
def C3Rel (wo : World) (l : List No) (i : Int) (gh : Nat) (v12 v13 : Value) (wr : World) : Prop :=
  ∃ k : Nat, v13 = .int .i64 (k : Int) ∧ v12 = .int .i64 ((kidsL i (l.take k) : Nat) : Int) ∧ k ≤ l.length ∧ gh = l.length - k ∧ wr = wo
def C4Rel (w : World) (c mb rc base : Nat) (l : List No) (gh : Nat) (v6 v15 : Value) (wr : World) : Prop :=
  ∃ (n : Nat) (m : Int) (l2 : List No) (g : Int), v15 = .int .i64 (n : Int) ∧ v6 = .int .i64 g ∧ g = (l.length : Int) - (liveL l2 : Nat) ∧ n ≤ l.length ∧ gh = l.length - n ∧ Fin2 w c mb rc base l n m l2 wr ∧ ∀ q, l[n]? = some q → m = q.kept
def C5Rel (w : World) (c mb rc base : Nat) (l : List No) (n : Nat) (mx : Int) (gh : Nat) (v6 v16 : Value) (wr : World) : Prop :=
  ∃ (m : Int) (l2 : List No) (g : Int), v16 = .int .i64 m ∧ v6 = .int .i64 g ∧ g = (l.length : Int) - (liveL l2 : Nat) ∧ 0 ≤ m ∧ m ≤ mx ∧ gh = m.toNat ∧ Fin2 w c mb rc base l n m l2 wr
theorem Fin2.live {w wr : World} {c mb rc base n : Nat} {l l2 : List No} {m : Int} (h : Fin2 w c mb rc base l n m l2 wr) : Calls Try.prog 13 #[.pointer (some ⟨c, 0, none⟩)] wr fun e w' => e = .returned (.int .i64 ((liveL l2 : Nat) : Int)) ∧ wr = w' := by
  obtain ⟨nn, G, a1, a2, a3⟩ := h.ch
  exact live_at a2
set_option maxRecDepth 100000 in
set_option maxHeartbeats 4000000 in
theorem counts_walk (ad : Option Addr) (b off len cap : Nat) (had : len = 0 ∨ ad = some ⟨b, off, none⟩) (K A N : Nat → Int) (w : World) (hl : len = 0 ∨ Acts w b off len K A N) (hb : 0 < len → b < w.heap.size) (hlen : len ≤ 9223372036854775807) :
    Calls Try.prog 4 #[.slice ad len cap] w fun e w' => e = .returned (.bool true) ∧ Below w.heap.size w w' := by
  have H0 := Lib.hid (chain_awake w)
  have NW := Lib.hid (fun w => new_at w)
  have AD := Lib.hid (And.intro had (And.intro hl hb))
  clear had hl hb
  go_enter Try.func4, Try.ntmps4
  go_wp2_with fail
  refine H0.out.mono ?_
  rintro e w1 ⟨rfl, b1⟩
  go_wp2_with fail
  refine (NW.out _).mono ?_
  rintro e w2 ⟨rfl, h2, b2⟩
  obtain ⟨c, hc⟩ : ∃ c, w1.heap.size + 1 = c := ⟨_, rfl⟩
  obtain ⟨mb, hmb⟩ : ∃ mb, w1.heap.size = mb := ⟨_, rfl⟩
  rw [hc] at h2 ⊢
  rw [hmb] at h2
  have z1 := b1.size
  have z2 := h2.lt.1
  have z3 := h2.lt.2
  have CN : Cn w c mb w2.heap.size (w2.heap.size + 1) := ⟨by omega, by omega, by omega, by omega, by omega, by omega, by omega, by omega⟩
  have b12 := b1.trans (b2.mono b1.size)
  have R0 : CtRel w c mb w2.heap.size (w2.heap.size + 1) len 50 (.int .i64 0) (.int .i64 0) (w2.alloc (.cells #[.slice none 0 0] 29)) :=
    ⟨0, [], 0, rfl, rfl, rfl, Nat.zero_le _, Nat.zero_le _, rfl, ⟨⟨0, _, Nat.le_refl _, h2.alloc _, InvX.nil⟩, ⟨_, ref_start w2⟩, Nat.le_refl _, fun k q h => by simp at h, by rw [World.size_alloc]; omega, b12.alloc b12.size _⟩⟩
  clear b1 b2 h2 hc hmb z1 z2 z3 H0 NW b12
  go_wp2_with fail
  generalize w2.heap.size + 1 = base at *
  generalize w2.heap.size = rc at *
  go_loopg [6, 7] 50 (fun gh v6 v7 wr => CtRel w c mb rc base len gh v6 v7 wr)
  case atStart => exact R0
  case round =>
    clear R0
    obtain ⟨i, l, g, rfl, rfl, hg0, hi, hi50, hgh, hst⟩ := hrel
    have HI := Lib.hid hi50
    by_cases hin : i < len ∧ i < 50
    · obtain ⟨hil, hi5⟩ := hin
      obtain rfl := AD.out.1.resolve_left (by omega)
      obtain ⟨y1, y2, y3⟩ := AD.out.2.1.resolve_left (by omega) i hil
      have hbw := AD.out.2.2 (by omega)
      have x1 := (hst.bel.cell (p := ⟨b, off + i * 3, none⟩) hbw).trans y1
      have x2 := (hst.bel.cell (p := ⟨b, off + i * 3 + 1, none⟩) hbw).trans y2
      have x3 := (hst.bel.cell (p := ⟨b, off + i * 3 + 2, none⟩) hbw).trans y3
      have t1 : decide ((i : Int) < (len : Int)) = true := by simp; omega
      have t2 : decide ((i : Int) < 50) = true := by simp; omega
      obtain ⟨v, hv⟩ := hst.rf
      obtain ⟨va, vc, rfl⟩ := hv.shape
      have c0 := hv.c0
      have LV := Lib.hid hst.live
      have D := Lib.hid (does_at hst (by omega) CN (K i) (A i) (N i))
      have hle := liveL_le l
      have hll := hst.len
      have G0 := Lib.hid (And.intro hg0 hgh)
      clear hst hv y1 y2 y3 hg0 hgh
      generalize K i = ki at *
      generalize A i = ai at *
      generalize N i = ni at *
      go_wp2_with fail
      refine LV.out.mono ?_
      rintro e W1 ⟨rfl, rfl⟩
      go_wp2_with fail
      refine D.out.mono ?_
      rintro e W1 ⟨rfl, l', hj⟩
      clear x1 x2 x3 c0 LV D
      obtain ⟨v', hv'⟩ := hj.rf
      obtain ⟨va', vc', rfl⟩ := hv'.shape
      have c0 := hv'.c0
      have LV := Lib.hid (fun d => show Calls Try.prog 13 #[.pointer (some ⟨c, 0, none⟩)] (W1.drewN d) (fun e w' => e = Ending.returned (.int .i64 ((liveL l' : Nat) : Int)) ∧ ∃ m, w' = W1.drewN m) from (hj.below (below_drewN W1 d)).live.mono fun e w' ⟨h1, h2⟩ => ⟨h1, d, h2.symm⟩)
      have hle' := liveL_le l'
      have hll' := hj.len
      have J := Lib.hid hj
      have G1 := Lib.hid (show (l'.length : Int) - (liveL l' : Nat) = g + ((liveL l : Nat) : Int) + (l'.length : Int) - (l.length : Int) - ((liveL l' : Nat) : Int) by have := G0.out.1; omega)
      have gb : 0 ≤ g ∧ g ≤ 100 := by have := G0.out.1; omega
      have gb0 := gb.1
      have gb1 := gb.2
      clear hj hv' gb
      generalize liveL l = lv at *
      generalize hlv' : liveL l' = lv' at *
      generalize l.length = ln at *
      generalize hln' : l'.length = ln' at *
      have EE := Lib.hid (And.intro hlv' hln')
      clear hlv' hln'
      have s1 : IntKind.i64.wrap (g + (lv : Int)) = g + (lv : Int) := IntWalk.i64_in _ (by omega)
      have s2 : IntKind.i64.wrap (g + (lv : Int) + (ln' : Int)) = g + (lv : Int) + (ln' : Int) := IntWalk.i64_in _ (by omega)
      have s3 : IntKind.i64.wrap (g + (lv : Int) + (ln' : Int) - (ln : Int)) = g + (lv : Int) + (ln' : Int) - (ln : Int) := IntWalk.i64_in _ (by omega)
      have s4 : IntKind.i64.wrap (g + (lv : Int) + (ln' : Int) - (ln : Int) - (lv' : Int)) = g + (lv : Int) + (ln' : Int) - (ln : Int) - (lv' : Int) := IntWalk.i64_in _ (by omega)
      go_wp2_with fail
      go_quiet ((go_at_call 13; exact LV.out _))
      have J2 := Lib.hid (J.out.below (below_drewN W1 nq))
      clear J LV s1 s2 s3 s4
      go_wp2_with fail
      go_roundg (50 - (i + 1))
      case measure => have := G0.out.2; omega
      case rel => exact ⟨i + 1, l', _, by go_num, rfl, by rw [EE.out.1, EE.out.2]; exact G1.out.symm, by omega, by omega, rfl, J2.out⟩
    · have NI := Lib.hid hin
      have G0 := Lib.hid hg0
      have J0 := Lib.hid hst
      clear hin hi hi50 hg0 hgh hst
      go_upto_region 6 with fail
      go_cut [31] (fun v31 wx => v31 = .bool false ∧ wx = wr)
      case first =>
        by_cases hil : i < len
        · have t1 : decide ((i : Int) < (len : Int)) = true := by simp; omega
          have t2 : decide ((i : Int) < 50) = false := by have := NI.out; simp; omega
          go_wp2_with fail
          go_meet
          case rel => exact ⟨rfl, rfl⟩
        · have t1 : decide ((i : Int) < (len : Int)) = false := by simp; omega
          go_wp2_with fail
          go_meet
          case rel => exact ⟨rfl, rfl⟩
      case rest =>
      obtain ⟨rfl, rfl⟩ := hcut
      have hst := J0.out
      clear NI AD J0
      have hl50 : i ≤ 50 := HI.out
      have hlen2 := hst.len
      have hln : l.length ≤ 50 := by omega
      have R2 : C2Rel w c mb rc base i l l.length (.int .i64 0) wc := ⟨0, rfl, Nat.zero_le _, rfl, hst⟩
      clear hst
      go_wp2_with fail
      go_loopg [11] l.length (fun gh v11 wr => C2Rel w c mb rc base i l gh v11 wr)
      case atStart => exact R2
      case round =>
        clear R2
        obtain ⟨j, rfl, hj, hgj, hst⟩ := hrel
        obtain ⟨v, hv⟩ := hst.rf
        obtain ⟨va, vc, rfl⟩ := hv.shape
        have c0 := hv.c0
        have HV := Lib.hid hv
        have HS := Lib.hid hst
        clear hv hst
        by_cases hjl : j < l.length
        · have t3 : decide ((j : Int) < (l.length : Int)) = true := by simp; omega
          obtain ⟨q, hq⟩ : ∃ q, l[j]? = some q := ⟨_, List.getElem?_eq_getElem hjl⟩
          obtain ⟨gb, rfl, _, hcc⟩ := HV.out.at hq
          have k5 : wr.cell? ⟨gb, j * 7 + 5, none⟩ = some (.int .i64 q.kept) := hcc 5 (by decide)
          have HQ := Lib.hid (And.intro hq k5)
          clear hq k5 hcc
          go_wp2_with fail
          obtain ⟨wo, hwo⟩ : ∃ wo : World, wo = wr := ⟨_, rfl⟩
          have HW := Lib.hid hwo
          clear hwo
          have R3 : C3Rel wo l (j : Int) l.length (.int .i64 0) (.int .i64 0) wr := ⟨0, rfl, by simp [kidsL], Nat.zero_le _, rfl, HW.out.symm⟩
          go_loopg [12, 13] l.length (fun gh v12 v13 wx => C3Rel wo l (j : Int) gh v12 v13 wx)
          case atStart => exact R3
          case round =>
            clear R3
            obtain ⟨k, rfl, rfl, hk, hgk, hwx⟩ := hrel
            obtain rfl := HW.out.symm.trans hwx.symm
            clear hwx
            by_cases hkl : k < l.length
            · have t4 : decide ((k : Int) < (l.length : Int)) = true := by simp; omega
              obtain ⟨r, hr⟩ : ∃ r, l[k]? = some r := ⟨_, List.getElem?_eq_getElem hkl⟩
              obtain ⟨gb', eg, _, hcc⟩ := HV.out.at hr
              injection eg with eg
              injection eg with eg
              subst eg
              have c7 : wr.cell? ⟨gb, k * 7, none⟩ = some (.int .i64 r.prev) := hcc 0 (by decide)
              have I := is_at HV.out (k : Int)
              rw [isL_at hr] at I
              have I := Lib.hid I
              have e := kidsL_take (i := (j : Int)) hr
              unfold kidB at e
              have le := kidsL_le (j : Int) (l.take k)
              have le2 : kidsL (j : Int) (l.take k) ≤ 100 := by rw [List.length_take] at le; omega
              have hkn : (k : Int) < (l.length : Int) := by omega
              clear hcc hr le
              generalize kidsL (j : Int) (l.take k) = s at *
              generalize r.gone = bg at *
              generalize r.prev = pv at *
              have E := Lib.hid e
              clear e
              cases bg with
              | true =>
                go_wp2_with fail
                refine I.out.mono ?_
                rintro e W1 ⟨rfl, rfl⟩
                go_wp2_with fail
                go_roundg (l.length - (k + 1))
                case measure => omega
                case rel => exact ⟨k + 1, by go_num, by rw [E.out]; rfl, by omega, rfl, HW.out.symm⟩
              | false =>
                by_cases hp : pv = (j : Int)
                · subst hp
                  have t5 : ((j : Int) == (j : Int)) = true := by simp
                  go_wp2_with fail
                  refine I.out.mono ?_
                  rintro e W1 ⟨rfl, rfl⟩
                  go_wp2_with fail
                  go_roundg (l.length - (k + 1))
                  case measure => omega
                  case rel => exact ⟨k + 1, by go_num, by rw [E.out, t5]; go_num, by omega, rfl, HW.out.symm⟩
                · have t5 : (pv == (j : Int)) = false := by simpa using hp
                  go_wp2_with fail
                  refine I.out.mono ?_
                  rintro e W1 ⟨rfl, rfl⟩
                  go_wp2_with fail
                  go_roundg (l.length - (k + 1))
                  case measure => omega
                  case rel => exact ⟨k + 1, by go_num, by rw [E.out, t5]; rfl, by omega, rfl, HW.out.symm⟩
            · have t4 : decide ((k : Int) < (l.length : Int)) = false := by simp; omega
              obtain rfl : k = l.length := by omega
              rw [List.take_length] at *
              have I := is_at HV.out (j : Int)
              rw [isL_at HQ.out.1] at I
              have I := Lib.hid I
              have hkk := kidsL_le (j : Int) l
              have CT : ∀ d, q.gone = false → Calls Try.prog 16 #[.pointer (some ⟨c, 0, none⟩), .int .i64 (j : Int)] (wr.drewN d) fun e w' => e = .returned (.int .i64 (q.kept + ((kidsL (j : Int) l : Nat) : Int))) ∧ Below wr.heap.size wr w' := fun d hg => by
                obtain ⟨nn, G, a1, a2, a3⟩ := (HS.out.below (below_drewN wr d)).ch
                refine (count_at a2 (wf_small (by omega) (by omega))).mono ?_
                rintro e W ⟨rfl, hb⟩
                rw [a3.node j q HQ.out.1 hg, ndOf_x]
                exact ⟨rfl, (below_drewN wr d).trans hb⟩
              have hkp : 0 ≤ q.kept ∧ q.kept ≤ 200 := by obtain ⟨_, _, _, _, h⟩ := HS.out.ch; have := h.wf j q HQ.out.1; omega
              have CT := Lib.hid CT
              have k5 := HQ.out.2
              have hk0 := hkp.1
              have hk1 := hkp.2
              have hjn : (j : Int) < (l.length : Int) := by omega
              have hj0 : (0 : Int) ≤ (j : Int) := by omega
              clear hkp HQ HV
              generalize q.kept = kp at *
              generalize q.gone = qg at *
              generalize kidsL (j : Int) l = kd at *
              go_wp2_with fail
              refine I.out.mono ?_
              rintro e W1 ⟨rfl, rfl⟩
              have s1 : IntKind.i64.wrap (kp + (kd : Int)) = kp + (kd : Int) := IntWalk.i64_in _ (by omega)
              have t6 : ((kp + (kd : Int)) != (kp + (kd : Int))) = false := by simp
              cases qg with
              | true =>
                go_wp2_with fail
                go_quiet (fail)
                go_wp2_with fail
                go_roundg (l.length - (j + 1))
                case measure => omega
                case rel => exact ⟨j + 1, by go_num, by omega, rfl, HS.out.below (below_drewN _ _)⟩
              | false =>
                go_wp2_with fail
                refine wp_region_held_drew (S := (fun w' => w'.cell? ⟨rc, 0, none⟩ = some (.slice (some ⟨gb, 0, none⟩) l.length vc) ∧ w'.cell? ⟨gb, j * 7 + 5, none⟩ = some (.int .i64 kp))) (by kernel_rfl) ?hs0 (fun hS0 => ?_)
                case hs0 => ((try dsimp only); first | with_reducible exact ⟨c0, k5⟩ | exact ⟨c0, k5⟩ | exact ⟨(hbc.cell (p := ⟨rc, 0, none⟩) (block_lt_of_cell c0)).trans c0, (hbc.cell (p := ⟨gb, j * 7 + 5, none⟩) (block_lt_of_cell k5)).trans k5⟩)
                refine wpAnyH_take (i := 0) (oi := { dst := some 102, op := Op.move (Operand.tmp 14), type := 4, pos := "law.go:139", after := #[], guard := none }) (v := ?_) rfl (by kernel_rfl) (by kernel_rfl) (by kernel_rfl) (fun _ _ _ h => h) (Or.inl ⟨by rfl, ?hy1⟩) hS0 ?_
                case hy1 => (intro w hSw; (try dsimp only at hSw); go_simp; try with_reducible rfl)
                try simp only [Act.put, List.setIfInBounds_toArray, List.set_cons_zero, List.set_cons_succ]
                refine wpAnyH_take (i := 1) (oi := { dst := some 103, op := Op.move (Operand.tmp 102), type := 4, pos := "law.go:139", after := #[{ on := 0, ground := Ground.data }], guard := none }) (v := ?_) rfl (by kernel_rfl) (by kernel_rfl) (by kernel_rfl) (fun _ _ _ h => h) (Or.inl ⟨by rfl, ?hy2⟩) hS0 ?_
                case hy2 => (intro w hSw; (try dsimp only at hSw); go_simp; try with_reducible rfl)
                try simp only [Act.put, List.setIfInBounds_toArray, List.set_cons_zero, List.set_cons_succ]
                refine wpAnyH_take (i := 2) (oi := { dst := some 104, op := Op.move (Operand.tmp 4), type := 24, pos := "law.go:139", after := #[{ on := 1, ground := Ground.guard }], guard := some (1, true) }) (v := ?_) rfl (by kernel_rfl) (by kernel_rfl) (by kernel_rfl) (fun _ _ _ h => h) (Or.inl ⟨by rfl, ?hy3⟩) hS0 ?_
                case hy3 => (intro w hSw; (try dsimp only at hSw); go_simp; try with_reducible rfl)
                try simp only [Act.put, List.setIfInBounds_toArray, List.set_cons_zero, List.set_cons_succ]
                refine wpAnyH_take (i := 3) (oi := { dst := some 105, op := Op.move (Operand.tmp 11), type := 3, pos := "law.go:139", after := #[{ on := 1, ground := Ground.guard }], guard := some (1, true) }) (v := ?_) rfl (by kernel_rfl) (by kernel_rfl) (by kernel_rfl) (fun _ _ _ h => h) (Or.inl ⟨by rfl, ?hy4⟩) hS0 ?_
                case hy4 => (intro w hSw; (try dsimp only at hSw); go_simp; try with_reducible rfl)
                try simp only [Act.put, List.setIfInBounds_toArray, List.set_cons_zero, List.set_cons_succ]
                refine wpAnyH_take (i := 5) (oi := { dst := some 107, op := Op.move (Operand.tmp 5), type := 26, pos := "law.go:139", after := #[{ on := 1, ground := Ground.guard }], guard := some (1, true) }) (v := ?_) rfl (by kernel_rfl) (by kernel_rfl) (by kernel_rfl) (fun _ _ _ h => h) (Or.inl ⟨by rfl, ?hy5⟩) hS0 ?_
                case hy5 => (intro w hSw; (try dsimp only at hSw); go_simp; try with_reducible rfl)
                try simp only [Act.put, List.setIfInBounds_toArray, List.set_cons_zero, List.set_cons_succ]
                refine wpAnyH_take (i := 6) (oi := { dst := some 108, op := Op.nilCheck (Operand.tmp 107), type := 0, pos := "law.go:139", after := #[{ on := 5, ground := Ground.data }, { on := 1, ground := Ground.guard }], guard := some (1, true) }) (v := ?_) rfl (by kernel_rfl) (by kernel_rfl) (by kernel_rfl) (fun _ _ _ h => h) (Or.inl ⟨by rfl, ?hy6⟩) hS0 ?_
                case hy6 => (intro w hSw; (try dsimp only at hSw); go_simp; try with_reducible rfl)
                try simp only [Act.put, List.setIfInBounds_toArray, List.set_cons_zero, List.set_cons_succ]
                refine wpAnyH_take (i := 7) (oi := { dst := some 109, op := Op.fieldAddr 29 (Operand.tmp 108) 0, type := 0, pos := "law.go:139", after := #[{ on := 6, ground := Ground.data }, { on := 1, ground := Ground.guard }], guard := some (1, true) }) (v := ?_) rfl (by kernel_rfl) (by kernel_rfl) (by kernel_rfl) (fun _ _ _ h => h) (Or.inl ⟨by rfl, ?hy7⟩) hS0 ?_
                case hy7 => (intro w hSw; (try dsimp only at hSw); go_simp; try with_reducible rfl)
                try simp only [Act.put, List.setIfInBounds_toArray, List.set_cons_zero, List.set_cons_succ]
                refine wpAnyH_take (i := 8) (oi := { dst := some 110, op := Op.load 27 (Operand.tmp 109), type := 27, pos := "law.go:139", after := #[{ on := 7, ground := Ground.data }, { on := 1, ground := Ground.guard }], guard := some (1, true) }) (v := ?_) rfl (by kernel_rfl) (by kernel_rfl) (by kernel_rfl) (fun _ _ _ h => h) (Or.inl ⟨by rfl, ?hy8⟩) hS0 ?_
                case hy8 => (intro w hSw; (try dsimp only at hSw); go_simp; try with_reducible rfl)
                try simp only [Act.put, List.setIfInBounds_toArray, List.set_cons_zero, List.set_cons_succ]
                refine wpAnyH_take (i := 9) (oi := { dst := some 111, op := Op.move (Operand.tmp 11), type := 3, pos := "law.go:139", after := #[{ on := 1, ground := Ground.guard }], guard := some (1, true) }) (v := ?_) rfl (by kernel_rfl) (by kernel_rfl) (by kernel_rfl) (fun _ _ _ h => h) (Or.inl ⟨by rfl, ?hy9⟩) hS0 ?_
                case hy9 => (intro w hSw; (try dsimp only at hSw); go_simp; try with_reducible rfl)
                try simp only [Act.put, List.setIfInBounds_toArray, List.set_cons_zero, List.set_cons_succ]
                refine wpAnyH_take (i := 10) (oi := { dst := some 112, op := Op.indexAddr 27 (Operand.tmp 110) (Operand.tmp 111), type := 0, pos := "law.go:139", after := #[{ on := 8, ground := Ground.data }, { on := 9, ground := Ground.data }, { on := 1, ground := Ground.guard }], guard := some (1, true) }) (v := ?_) rfl (by kernel_rfl) (by kernel_rfl) (by kernel_rfl) (fun _ _ _ h => h) (Or.inl ⟨by rfl, ?hy10⟩) hS0 ?_
                case hy10 => (intro w hSw; (try dsimp only at hSw); go_simp; try with_reducible rfl)
                try simp only [Act.put, List.setIfInBounds_toArray, List.set_cons_zero, List.set_cons_succ]
                refine wpAnyH_take (i := 11) (oi := { dst := some 113, op := Op.fieldAddr 41 (Operand.tmp 112) 4, type := 0, pos := "law.go:139", after := #[{ on := 10, ground := Ground.data }, { on := 1, ground := Ground.guard }], guard := some (1, true) }) (v := ?_) rfl (by kernel_rfl) (by kernel_rfl) (by kernel_rfl) (fun _ _ _ h => h) (Or.inl ⟨by rfl, ?hy11⟩) hS0 ?_
                case hy11 => (intro w hSw; (try dsimp only at hSw); go_simp; try with_reducible rfl)
                try simp only [Act.put, List.setIfInBounds_toArray, List.set_cons_zero, List.set_cons_succ]
                refine wpAnyH_take (i := 12) (oi := { dst := some 114, op := Op.load 3 (Operand.tmp 113), type := 3, pos := "law.go:139", after := #[{ on := 11, ground := Ground.data }, { on := 1, ground := Ground.guard }], guard := some (1, true) }) (v := ?_) rfl (by kernel_rfl) (by kernel_rfl) (by kernel_rfl) (fun _ _ _ h => h) (Or.inl ⟨by rfl, ?hy12⟩) hS0 ?_
                case hy12 => (intro w hSw; (try dsimp only at hSw); go_simp; try with_reducible rfl)
                try simp only [Act.put, List.setIfInBounds_toArray, List.set_cons_zero, List.set_cons_succ]
                refine wpAnyH_take (i := 13) (oi := { dst := some 115, op := Op.move (Operand.tmp 12), type := 3, pos := "law.go:139", after := #[{ on := 1, ground := Ground.guard }], guard := some (1, true) }) (v := ?_) rfl (by kernel_rfl) (by kernel_rfl) (by kernel_rfl) (fun _ _ _ h => h) (Or.inl ⟨by rfl, ?hy13⟩) hS0 ?_
                case hy13 => (intro w hSw; (try dsimp only at hSw); go_simp; try with_reducible rfl)
                try simp only [Act.put, List.setIfInBounds_toArray, List.set_cons_zero, List.set_cons_succ]
                refine wpAnyH_take (i := 14) (oi := { dst := some 116, op := Op.binOp BinOp.add 3 (Operand.tmp 114) (Operand.tmp 115) 3, type := 3, pos := "law.go:139", after := #[{ on := 12, ground := Ground.data }, { on := 13, ground := Ground.data }, { on := 1, ground := Ground.guard }], guard := some (1, true) }) (v := ?_) rfl (by kernel_rfl) (by kernel_rfl) (by kernel_rfl) (fun _ _ _ h => h) (Or.inl ⟨by rfl, ?hy14⟩) hS0 ?_
                case hy14 => (intro w hSw; (try dsimp only at hSw); go_simp; try with_reducible rfl)
                try simp only [Act.put, List.setIfInBounds_toArray, List.set_cons_zero, List.set_cons_succ]
                refine wpAnyH_ready (rs := [4]) (by kernel_rfl) (by simp) ?_
                refine AllReadyH.cons (o := { dst := some 106, op := Op.call { callee := Callee.value (Operand.func 16), args := #[Operand.tmp 104, Operand.tmp 105], argTypes := #[24, 3] }, type := 3, pos := "law.go:139", after := #[{ on := 2, ground := Ground.data }, { on := 3, ground := Ground.data }, { on := 1, ground := Ground.chain }, { on := 1, ground := Ground.guard }], guard := some (1, true) }) rfl (fun K hK => ?_) ?_
                · go_simp; refine (show Calls Try.prog 16 _ wr.drew _ from CT.out 1 (by trivial)).mono ?_; rintro e WC ⟨rfl, hbc⟩; go_simp
                  refine hK.out _ _ ?hs15 (fun hS15 => ?_)
                  case hs15 => ((try dsimp only); first | with_reducible exact ⟨c0, k5⟩ | exact ⟨c0, k5⟩ | exact ⟨(hbc.cell (p := ⟨rc, 0, none⟩) (block_lt_of_cell c0)).trans c0, (hbc.cell (p := ⟨gb, j * 7 + 5, none⟩) (block_lt_of_cell k5)).trans k5⟩)
                  clear hK K hS0
                  refine wpAnyH_take (i := 15) (oi := { dst := some 117, op := Op.binOp BinOp.neq 3 (Operand.tmp 106) (Operand.tmp 116) 3, type := 4, pos := "law.go:139", after := #[{ on := 4, ground := Ground.data }, { on := 14, ground := Ground.data }, { on := 1, ground := Ground.guard }], guard := some (1, true) }) (v := ?_) rfl (by kernel_rfl) (by kernel_rfl) (by kernel_rfl) (fun _ _ _ h => h) (Or.inl ⟨by rfl, ?hy16⟩) hS15 ?_
                  case hy16 => (intro w hSw; (try dsimp only at hSw); go_simp; try with_reducible rfl)
                  try simp only [Act.put, List.setIfInBounds_toArray, List.set_cons_zero, List.set_cons_succ]
                  refine wpAnyH_take (i := 16) (oi := { dst := some 118, op := Op.pick (Operand.tmp 103) (Operand.tmp 117) (Operand.const (Value.bool false)), type := 4, pos := "law.go:139", after := #[{ on := 1, ground := Ground.data }, { on := 15, ground := Ground.data }], guard := none }) (v := ?_) rfl (by kernel_rfl) (by kernel_rfl) (by kernel_rfl) (fun _ _ _ h => h) (Or.inl ⟨by rfl, ?hy17⟩) hS15 ?_
                  case hy17 => (intro w hSw; (try dsimp only at hSw); go_simp; try with_reducible rfl)
                  try simp only [Act.put, List.setIfInBounds_toArray, List.set_cons_zero, List.set_cons_succ]
                  refine wpAnyH_done (by kernel_rfl) ?_ _
                  go_wp2_with fail
                  go_roundg (l.length - (j + 1))
                  case measure => omega
                  case rel => exact ⟨j + 1, by go_num, by omega, rfl, HS.out.below hbc⟩
                exact AllReadyH.nil
        · have t3 : decide ((j : Int) < (l.length : Int)) = false := by simp; omega
          obtain ⟨m0, hf0, hm0⟩ := HS.out.fin (by omega)
          have F0 : C4Rel w c mb rc base l l.length (.int .i64 g) (.int .i64 0) wr := ⟨0, m0, l, g, rfl, rfl, G0.out, Nat.zero_le _, rfl, hf0, hm0⟩
          have hg50 : 0 ≤ g ∧ g ≤ 50 := by have := G0.out; have := liveL_le l; omega
          clear hf0 hm0 HS HV hg50 G0 HI hj hgj
          go_wp2_with fail
          clear c0 t3 hjl
          go_loopg [6, 15] l.length (fun gh v6 v15 wr => C4Rel w c mb rc base l gh v6 v15 wr)
          case atStart => exact F0
          case round =>
            clear F0
            obtain ⟨n, m, l2, g, rfl, rfl, hg, hn, hgn, hf, hm⟩ := hrel
            obtain ⟨v, hv⟩ := hf.rf
            obtain ⟨va, vc, rfl⟩ := hv.shape
            have c0 := hv.c0
            by_cases hnl : n < l.length
            · have t3 : decide ((n : Int) < (l.length : Int)) = true := by simp; omega
              have hnn : (n : Int) < (l.length : Int) := by omega
              have hn0 : (0 : Int) ≤ (n : Int) := by omega
              obtain ⟨q, hq⟩ : ∃ q, l[n]? = some q := ⟨_, List.getElem?_eq_getElem hnl⟩
              obtain ⟨gb, rfl, _, hcc⟩ := hv.at hq
              have k5 : wr.cell? ⟨gb, n * 7 + 5, none⟩ = some (.int .i64 q.kept) := hcc 5 (by decide)
              have hmq := hm q hq
              rw [← hmq] at k5
              have hw := hf.wfl n q hq
              have hal : 0 < m → isL l (n : Int) = true := fun h0 => by
                rw [isL_at hq]
                cases hg : q.gone with
                | false => rfl
                | true =>
                  have := hw.2.2 hg
                  omega
              have AL := Lib.hid hal
              have mm := hf.mm
              have F5 : C5Rel w c mb rc base l n m m.toNat (.int .i64 g) (.int .i64 m) wr := ⟨m, l2, g, rfl, rfl, hg, mm.1, Int.le_refl _, rfl, hf⟩
              have HN := Lib.hid (And.intro hnl hgn)
              have mm1 := mm.1
              have mm2 := mm.2
              clear hf hm hcc hv hq hmq hw hal mm hg hgn
              go_wp2_with fail
              clear k5 c0 hnl t3
              go_loopg [6, 16] m.toNat (fun gh v6 v16 wr => C5Rel w c mb rc base l n m gh v6 v16 wr)
              case atStart => exact F5
              case round =>
                clear F5
                obtain ⟨m', l2', g', rfl, rfl, hg, h0, hmm, hgm, hf⟩ := hrel
                have mb2 := hf.mm.2
                have few := hf.few
                have lle := liveL_le l2'
                have l22 := hf.len
                by_cases hp : 0 < m'
                · have t4 : decide (0 < m') = true := by simpa using hp
                  have e1 := AL.out (by omega)
                  obtain ⟨v, hv⟩ := hf.rf
                  have I := is_at hv (n : Int)
                  rw [e1] at I
                  have I := Lib.hid I
                  have D := Lib.hid (hf.drop hp HN.out.1 CN)
                  have hgb : 0 ≤ g' ∧ g' ≤ 100 := by omega
                  have hg0 := hgb.1
                  have hg1 := hgb.2
                  have HG := Lib.hid (And.intro hg (And.intro hgm (And.intro lle l22)))
                  clear hf e1 hv hg hgm hgb lle l22 few
                  go_wp2_with fail
                  refine I.out.mono ?_
                  rintro e W1 ⟨rfl, rfl⟩
                  go_wp2_with fail
                  refine D.out.mono ?_
                  rintro e W2 ⟨ad2, kk, cap2, l3, rfl, hlv, hf3⟩
                  have hkk : kk ≤ 100 := by have := HG.out.2.2.1; have := HG.out.2.2.2; have := hf3.few; omega
                  have F3 := Lib.hid (And.intro hf3 hlv)
                  clear hf3 hlv D I
                  go_wp2_with fail
                  go_roundg (m' - 1).toNat
                  case measure => have := HG.out.2.1; omega
                  case rel => exact ⟨m' - 1, l3, g' + (kk : Int), rfl, rfl, by have := HG.out.1; have := F3.out.2; omega, by omega, by omega, rfl, F3.out.1⟩
                · have t4 : decide (0 < m') = false := by simpa using hp
                  obtain rfl : m' = 0 := by omega
                  obtain ⟨m3, hf3, hm3⟩ := hf.next HN.out.1
                  have F3 := Lib.hid (And.intro hf3 (And.intro hm3 hg))
                  clear hf hf3 hm3 hg hgm
                  go_wp2_with fail
                  go_roundg (l.length - (n + 1))
                  case measure => have := HN.out; omega
                  case rel => exact ⟨n + 1, m3, l2', g', by go_num, rfl, F3.out.2.2, by have := HN.out.1; omega, rfl, F3.out.1, F3.out.2.1⟩
            · have t3 : decide ((n : Int) < (l.length : Int)) = false := by simp; omega
              obtain rfl : n = l.length := by omega
              have h0 := hf.all
              have BE := Lib.hid hf.bel
              have LV := hf.live
              rw [h0] at LV hg
              have LV := Lib.hid LV
              have eg : g = (l.length : Int) := by omega
              subst eg
              have t5 : ((l.length : Int) == (l.length : Int)) = true := by simp
              clear hf hm hv h0 hg hgn
              go_wp2_with fail
              refine LV.out.mono ?_
              rintro e W1 ⟨rfl, rfl⟩
              go_wp2_with fail
              go_ret
              exact ⟨rfl, BE.out⟩
theorem counts_any (a : Option Addr) (len cap : Nat) (w : World) (h : IsActs w a len) :
    Calls Try.prog 4 #[.slice a len cap] w fun e w' => e = .returned (.bool true) ∧ Below w.heap.size w w' := by
  rcases h with rfl | ⟨b, off, K, A, N, rfl, h1, h2, h3⟩
  · exact counts_walk a 0 0 0 cap (.inl rfl) (fun _ => 0) (fun _ => 0) (fun _ => 0) w (.inl rfl) (fun h => absurd h (Nat.lt_irrefl 0)) (by omega)
  · exact counts_walk _ b off len cap (.inr rfl) K A N w (.inr h3) (fun _ => h2) h1
end Go.Proofs.Ytakjpoapjokmbaa
