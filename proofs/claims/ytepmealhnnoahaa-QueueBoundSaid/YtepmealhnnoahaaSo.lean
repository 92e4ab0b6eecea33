/-
  Never more than may: the walk.
-/
import Derived.Test.YtepmealhnnoahaaUa
import Derived.Deep.DeepCutAuto
import Derived.Deep.CutBlock
namespace Go.Proofs.Ytepmealhnnoahaa
set_option linter.unusedSimpArgs false
open Go.ChangeShapes Go.WideShapes Go.ChangeAt Go.RowKit
set_option linter.unusedVariables false
def cfg7 (x y : Int) : List Value := [.int .i64 0, .int .i64 0, .int .i64 0, .int .i64 (quOf x), .int .i64 0, .int .i64 (ouOf y), .int .i64 0]
structure BI (w : World) (x y : Int) (d cb lb base : Nat) (i mb m : Nat) (S : DS) (P : Nat → Prop) (wr : World) : Prop where
  desk : DAt wr d mb base (quOf x) (ouOf y) (i * 30) m S P
  own : ∀ k, P k → w.heap.size ≤ k
  inv : InvS (ouOf y) S
  mq : (m : Int) ≤ quOf x
  cfg : wr.rangeAt cb 0 (cfg7 x y)
  bcb : Blk wr cb 28
  blb : Blk wr lb 75
  lost : ∀ q : Nat, q < 41 → wr.cell? ⟨lb, q, none⟩ = some (.bool (lostS S (q : Int)))
  hlb : w.heap.size ≤ lb
  turn : Turn (fun _ => False) w wr
/-- While the queries are asked, one by one. -/
structure IK (w : World) (x y : Int) (d cb lb xb base i mb : Nat) (ck ci : Int) (S : DS) (R : Res) (P : Nat → Prop) (wr : World) : Prop where
  desk : DAt wr d mb base (quOf x) (ouOf y) (i * 30) R.m R.S P
  own : ∀ k, P k → w.heap.size ≤ k
  inv : InvS (ouOf y) R.S
  mq : (R.m : Int) ≤ quOf x
  lv : ∀ (j : Int), lostS S j = true → ¬ (ck = 3 ∧ ci = j) → lostS R.S j = true
  cmd : ∀ (k : Nat) (v : Value), [Value.int .i64 ck, .int .i64 ci][k]? = some v → wr.cell? ⟨xb, k, none⟩ = some v
  bcm : Blk wr xb 43
  cfg : wr.rangeAt cb 0 (cfg7 x y)
  bcb : Blk wr cb 28
  blb : Blk wr lb 75
  hlb : w.heap.size ≤ lb
  turn : Turn (fun _ => False) w wr
def AskRel (lb : Nat) (S S' : DS) (w6 : World) (gh : Nat) (v : Value) (wr : World) : Prop :=
  ∃ k : Nat, v = .int .i64 (k : Int) ∧ k ≤ 41 ∧ gh = 41 - k ∧ Turn (fun q => q = lb) w6 wr ∧ Blk wr lb 75 ∧ ∀ q : Nat, q < 41 → wr.cell? ⟨lb, q, none⟩ = some (.bool (if q < k then lostS S' (q : Int) else lostS S (q : Int)))
def AskEnd (lb : Nat) (S' : DS) (w6 : World) (wr : World) : Prop :=
  Turn (fun q => q = lb) w6 wr ∧ ∀ q : Nat, q < 41 → wr.cell? ⟨lb, q, none⟩ = some (.bool (lostS S' (q : Int)))
def BRel (w : World) (x y : Int) (d cb lb base : Nat) (L : List ActV) (gh : Nat) (v : Value) (wr : World) : Prop :=
  ∃ (i mb m : Nat) (S : DS) (P : Nat → Prop), v = .int .i64 (i : Int) ∧ i ≤ min L.length 40 ∧ gh = min L.length 40 - i ∧ BI w x y d cb lb base i mb m S P wr
theorem wrap_small {k : Nat} (h : k < 41) : wrap64 ((k : Int) + 1) = (k : Int) + 1 := by unfold wrap64; omega
theorem wf_small2 {k : Nat} (h : k < 41) : (Lit.int .i64 (k : Int)).wf = true := wf_of (by omega) (by omega)
theorem ou_nn (y : Int) : ((0 : Nat) : Int) ≤ ouOf y := by have := ouOf_le y; omega
theorem frefs_le {l : List Fnd} (h : ∀ f ∈ l, f.refs.length ≤ 2) : (frefs l).length ≤ 2 * l.length := by
  induction l with
  | nil => simp [frefs]
  | cons f l ih =>
    have h1 := h f (by simp)
    have h2 := ih (fun y hy => h y (by simp [hy]))
    simp only [frefs, List.length_append, List.length_cons] at h2 ⊢
    omega
set_option maxRecDepth 100000 in
set_option maxHeartbeats 8000000 in
theorem bound_walk (x y : Int) (sa : Option Addr) (cap : Nat) (L : List ActV) (w : World) (hA : ActsAt w sa L) : Calls Try.prog 5 #[.agg #[.int .i64 x, .int .i64 y], .slice sa L.length cap] w fun e w' => e = .returned (.bool true) ∧ Below w.heap.size w w' := by
  have q1 := quOf_le x
  have q2 := ouOf_le y
  have HA := Lib.hid hA
  clear hA
  go_enter Try.func5, Try.ntmps5
  go_wp2_with fail
  with_reducible refine (queue_awake _).mono ?_
  rintro en w1 ⟨rfl, T1⟩
  have r0 : w1.rangeAt w.heap.size 0 [.int .i64 x, .int .i64 y] := range_turn (range_new w [.int .i64 x, .int .i64 y] 22) T1 id
  have y0 : w1.cell? ⟨w.heap.size, 0, none⟩ = some (.int .i64 x) := r0 0 _ rfl
  have y1 : w1.cell? ⟨w.heap.size, 1, none⟩ = some (.int .i64 y) := r0 1 _ rfl
  have T01 : Turn (fun _ => False) w w1 := ((Turn.refl _ w).alloc _).trans T1
  clear T1 r0
  go_wp2_with fail
  with_reducible refine (config_of w1 x y).mono ?_
  rintro en w2 ⟨rfl, T2⟩
  clear y0 y1
  go_upto_region 3 with fail
  have B3 : Blk (w2.alloc (.cells #[.int .i64 0, .int .i64 0, .int .i64 0, .int .i64 (quOf x), .int .i64 0, .int .i64 (ouOf y), .int .i64 0] 28)) w2.heap.size 28 := Blk.new w2 (cfg7 x y) 28
  have R3 : (w2.alloc (.cells #[.int .i64 0, .int .i64 0, .int .i64 0, .int .i64 (quOf x), .int .i64 0, .int .i64 (ouOf y), .int .i64 0] 28)).rangeAt w2.heap.size 0 (cfg7 x y) := range_new w2 (cfg7 x y) 28
  have T3 : Turn (fun _ => False) w (w2.alloc (.cells #[.int .i64 0, .int .i64 0, .int .i64 0, .int .i64 (quOf x), .int .i64 0, .int .i64 (ouOf y), .int .i64 0] 28)) := (T01.trans T2).alloc _
  generalize (w2.alloc (.cells #[.int .i64 0, .int .i64 0, .int .i64 0, .int .i64 (quOf x), .int .i64 0, .int .i64 (ouOf y), .int .i64 0] 28)) = w3 at *
  generalize hcb : w2.heap.size = cb at *
  clear T01 T2 hcb
  have c0 : w3.cell? ⟨cb, 0, none⟩ = some (.int .i64 0) := R3 0 _ rfl
  have c1 : w3.cell? ⟨cb, 1, none⟩ = some (.int .i64 0) := R3 1 _ rfl
  have c2 : w3.cell? ⟨cb, 2, none⟩ = some (.int .i64 0) := R3 2 _ rfl
  have c3 : w3.cell? ⟨cb, 3, none⟩ = some (.int .i64 (quOf x)) := R3 3 _ rfl
  have c4 : w3.cell? ⟨cb, 4, none⟩ = some (.int .i64 0) := R3 4 _ rfl
  have c5 : w3.cell? ⟨cb, 5, none⟩ = some (.int .i64 (ouOf y)) := R3 5 _ rfl
  have c6 : w3.cell? ⟨cb, 6, none⟩ = some (.int .i64 0) := R3 6 _ rfl
  go_wp2_with fail
  with_reducible refine (new_d w3 0 0 0 0 0 (qu := quOf x) (ou := ouOf y) q1.1 (by omega) q2.1 (by omega)).mono ?_
  rintro en w4 ⟨d, mb, P, rfl, hd, hPw, T4⟩
  clear c0 c1 c2 c3 c4 c5 c6
  go_upto_region 5 with fail
  have B5 : Blk (w4.alloc (.cells #[.bool false, .bool false, .bool false, .bool false, .bool false, .bool false, .bool false, .bool false, .bool false, .bool false, .bool false, .bool false, .bool false, .bool false, .bool false, .bool false, .bool false, .bool false, .bool false, .bool false, .bool false, .bool false, .bool false, .bool false, .bool false, .bool false, .bool false, .bool false, .bool false, .bool false, .bool false, .bool false, .bool false, .bool false, .bool false, .bool false, .bool false, .bool false, .bool false, .bool false, .bool false] 75)) w4.heap.size 75 := Blk.new w4 (List.replicate 41 (.bool false)) 75
  have R5 : (w4.alloc (.cells #[.bool false, .bool false, .bool false, .bool false, .bool false, .bool false, .bool false, .bool false, .bool false, .bool false, .bool false, .bool false, .bool false, .bool false, .bool false, .bool false, .bool false, .bool false, .bool false, .bool false, .bool false, .bool false, .bool false, .bool false, .bool false, .bool false, .bool false, .bool false, .bool false, .bool false, .bool false, .bool false, .bool false, .bool false, .bool false, .bool false, .bool false, .bool false, .bool false, .bool false, .bool false] 75)).rangeAt w4.heap.size 0 (List.replicate 41 (.bool false)) := range_new w4 (List.replicate 41 (.bool false)) 75
  have T5 : Turn (fun _ => False) w4 (w4.alloc (.cells #[.bool false, .bool false, .bool false, .bool false, .bool false, .bool false, .bool false, .bool false, .bool false, .bool false, .bool false, .bool false, .bool false, .bool false, .bool false, .bool false, .bool false, .bool false, .bool false, .bool false, .bool false, .bool false, .bool false, .bool false, .bool false, .bool false, .bool false, .bool false, .bool false, .bool false, .bool false, .bool false, .bool false, .bool false, .bool false, .bool false, .bool false, .bool false, .bool false, .bool false, .bool false] 75)) := (Turn.refl _ w4).alloc _
  generalize (w4.alloc (.cells #[.bool false, .bool false, .bool false, .bool false, .bool false, .bool false, .bool false, .bool false, .bool false, .bool false, .bool false, .bool false, .bool false, .bool false, .bool false, .bool false, .bool false, .bool false, .bool false, .bool false, .bool false, .bool false, .bool false, .bool false, .bool false, .bool false, .bool false, .bool false, .bool false, .bool false, .bool false, .bool false, .bool false, .bool false, .bool false, .bool false, .bool false, .bool false, .bool false, .bool false, .bool false] 75)) = w5 at *
  have hsz : w.heap.size ≤ w4.heap.size := Nat.le_trans T3.size T4.size
  generalize w4.heap.size = lb at *
  have T35 := T4.trans T5
  have B0 : BI w x y d cb lb w3.heap.size 0 mb 0 noneS P w5 :=
    ⟨hd.turn T5 (fun _ _ f => f), fun k p => Nat.le_trans T3.size (hPw k p), (fun i l lo h => by cases h), by omega, range_turn R3 T35 id, B3.turn T35 id, B5, fun q hq => by have := R5 q (.bool false) (by rw [List.getElem?_replicate, if_pos hq]); rw [Nat.zero_add] at this; exact this, hsz, T3.trans T35⟩
  have R0 : BRel w x y d cb lb w3.heap.size L (min L.length 40) (.int .i64 0) w5 := ⟨0, mb, 0, noneS, P, rfl, Nat.zero_le _, rfl, B0⟩
  clear hd hPw T3 T4 T5 B3 R3 B5 R5 T35 B0 hsz
  generalize w3.heap.size = base at *
  go_wp2_with fail
  go_loopg [9, 10, 11, 12, 13] (min L.length 40) (fun gh v9 v10 v11 v12 v13 wr => BRel w x y d cb lb base L gh v9 wr)
  case atStart => exact R0
  case round =>
    clear R0
    obtain ⟨i, mb, m, S, P, rfl, hi, hg, B⟩ := hrel
    by_cases hlt : i < min L.length 40
    · have u1 : decide ((i : Int) < (L.length : Int)) = true := decide_eq_true (by omega)
      have u2 : decide (i < L.length) = true := decide_eq_true (by omega)
      have u3 : decide ((i : Int) < 40) = true := decide_eq_true (by omega)
      have j0 : (0 : Int) ≤ (i : Int) := by omega
      have j1 : (i : Int) < (L.length : Int) := by omega
      obtain ⟨a, hai⟩ : ∃ a, L[i]? = some a := ⟨_, List.getElem?_eq_getElem (by omega)⟩
      obtain ⟨ab, ao, e1, e2⟩ := HA.out
      have ea := e1.resolve_left (fun e => by rw [e] at hai; simp at hai)
      subst ea
      obtain ⟨ha, hc, la, lc, hr, nh, nl⟩ := e2 i a hai
      have hr1 := range_turn hr B.turn id
      have z0 : wr.cell? ⟨ab, ao + i * 6, none⟩ = some (.int .i64 a.kind) := hr1 0 _ rfl
      have z1 : wr.cell? ⟨ab, ao + i * 6 + 1, none⟩ = some (.int .i64 a.id) := hr1 1 _ rfl
      have z2 : wr.cell? ⟨ab, ao + i * 6 + 2, none⟩ = some (.int .i64 a.num) := hr1 2 _ rfl
      have z3 : wr.cell? ⟨ab, ao + i * 6 + 3, none⟩ = some (.slice ha a.hits.length hc) := hr1 3 _ rfl
      have z4 : wr.cell? ⟨ab, ao + i * 6 + 4, none⟩ = some (.slice la a.lost.length lc) := hr1 4 _ rfl
      have z5 : wr.cell? ⟨ab, ao + i * 6 + 5, none⟩ = some (.int .i64 a.shard) := hr1 5 _ rfl
      have es : wrap64 ((i : Int) + 1) = (i : Int) + 1 := by unfold wrap64; omega
      have C := cmd_is wr a (hc := hc) (lc := lc) (nh.turn B.turn) (nl.turn B.turn) ((i : Int) + 1) (by omega)
      unfold CmdPost at C
      have cwf := cmd_wf a ((i : Int) + 1)
      obtain ⟨⟨ck, ci, cn, cs, cg⟩, hcm⟩ : ∃ c, cmdOf a ((i : Int) + 1) = c := ⟨_, rfl⟩
      rw [hcm] at C cwf
      dsimp only [CmdV.cells, cmdL] at C cwf
      have C := Lib.hid C
      have G := Lib.hid (And.intro hi (And.intro hg (And.intro B (And.intro hlt cwf))))
      have HS := Lib.hid (show (Lit.int .i64 ((i : Int) + 1)).wf = true from wf_of (by omega) (by omega))
      clear hi hg B hlt e1 e2 hai hr hr1 nh nl hcm cwf
      go_wp2_with fail
      with_reducible refine C.out.mono ?_
      clear C z0 z1 z2 z3 z4 z5
      rintro en w2 ⟨va, vc, Os, rfl, hO, hF, hOf, T2⟩
      obtain ⟨X, hX⟩ : ∃ X, X = w2.alloc (.cells #[.int .i64 ck, .int .i64 ci, .int .i64 cn, .int .i64 0, .int .i64 0, .int .i64 0, .int .i64 0, .int .i64 0, .int .i64 0, .int .i64 cs, .int .i64 cg, .slice none 0 0, .int .i64 0, .bool false] 43) := ⟨_, rfl⟩
      have TX : Turn (fun _ => False) w2 X := by rw [hX]; exact (Turn.refl _ w2).alloc _
      have bX : Blk X w2.heap.size 43 := by rw [hX]; exact Blk.new w2 (cmdL ck ci cn cs cg) 43
      have rX : X.rangeAt w2.heap.size 0 (cmdL ck ci cn cs cg) := by rw [hX]; exact range_new w2 (cmdL ck ci cn cs cg) 43
      have T2X := T2.trans TX
      obtain ⟨hi, hg, B, hlt, cwf⟩ := G.out
      have hdX := B.desk.turn T2X (fun _ _ f => f)
      have own0 : ∀ k, P k → k < wr.heap.size := fun k p => B.desk.lt p
      have hOX : OutsAt X P (.slice va Os.length vc) Os := hO.next TX (fun _ _ f => f) (fun _ _ f => f) (fun _ _ _ f => f) (fun k p => .inl (own0 k p))
      have hFX : HitsAt X P Os := hF.next TX (fun _ _ f => f.elim) (fun k p => .inl (own0 k p))
      have mg := hOf.merged
      have D := DAt.does (stamp := (i : Int) + 1) (k := ck) (i := ci) (n := cn) (s := cs) (g := cg) (v := .slice va Os.length vc) (Os := Os) hdX HS.out (wf_of cwf.1 (by omega)) (fun l' lo e => by
        obtain ⟨h1, h2⟩ := B.inv ci l' lo e
        have h3 := frefs_le (fun f hf => (h2 f hf).1)
        omega) (fun _ => ⟨hOX, hFX, hOf.ok⟩) (by unfold maxLen; omega)
      obtain ⟨R, hR⟩ : ∃ R, doR (quOf x) (ouOf y) S m ((i : Int) + 1) ck ci cn cs cg Os = R := ⟨_, rfl⟩
      have iv := B.inv.does (by omega) B.mq (stamp := (i : Int) + 1) (k := ck) (i := ci) (n := cn) (s := cs) (g := cg) hOf
      have lv := fun (j : Int) (h : lostS S j = true) (hn : ¬ (ck = 3 ∧ ci = j)) => lostS_does (qu := quOf x) (ou := ouOf y) (m := m) (stamp := (i : Int) + 1) (n := cn) (s := cs) (g := cg) (Os := Os) h hn
      rw [hR] at D iv lv
      unfold cmdL at D
      rw [hX] at D
      have D := Lib.hid D
      have HX := Lib.hid hX
      have H1 := Lib.hid (And.intro T2X (And.intro bX (And.intro rX (And.intro mg (And.intro iv lv)))))
      clear T2 TX bX rX T2X hi hg B hlt cwf hdX own0 hOX hFX mg hR iv lv hX hO hF hOf
      go_wp2_with fail
      with_reducible refine D.out.mono ?_
      clear D
      rintro en w4 ⟨av, gv, rfl, P2, D⟩
      rw [← HX.out] at D
      generalize w2.heap.size = xb at *
      obtain ⟨T2X, bX, rX, mg, iv, lv⟩ := H1.out
      obtain ⟨hi, hg, B, hlt, cwf⟩ := G.out
      have hno : ∀ {b : Nat} {t : TypeId}, Blk X b t → (t ≠ 82 ∧ t ≠ 71 ∧ t ≠ 46 ∧ t ≠ 3 ∧ t ≠ 38) → ¬ P b := fun hb ht => (B.desk.turn T2X (fun _ _ f => f)).no hb ht
      have bX4 := bX.turn D.turn (hno bX (by decide))
      have rX4 := range_turn rX D.turn (hno bX (by decide))
      have bcX := B.bcb.turn T2X id
      have bc4 := bcX.turn D.turn (hno bcX (by decide))
      have rc4 := range_turn (range_turn B.cfg T2X id) D.turn (hno bcX (by decide))
      have blX := B.blb.turn T2X id
      have bl4 := blX.turn D.turn (hno blX (by decide))
      have ll4 : ∀ q : Nat, q < 41 → w4.cell? ⟨lb, q, none⟩ = some (.bool (lostS S (q : Int))) := fun q hq => D.turn.cell (hno blX (by decide)) (T2X.cell id (B.lost q hq))
      have dk : DAt w4 d mb base (quOf x) (ouOf y) ((i + 1) * 30) R.m R.S P2 := D.desk.more (by omega)
      have own4 : ∀ k, P2 k → w.heap.size ≤ k := fun k p => (D.own k p).elim (B.own k) (fun q => Nat.le_trans (Nat.le_trans B.turn.size T2X.size) q)
      have T4 : Turn (fun _ => False) w w4 := (B.turn.trans T2X).comp D.turn (fun k hk p => by have := B.own k p; omega)
      have hlb := B.hlb
      have G := Lib.hid (And.intro hi (And.intro hg (And.intro hlt (And.intro iv (And.intro lv (And.intro bX4 (And.intro rX4 (And.intro bc4 (And.intro rc4 (And.intro bl4 (And.intro ll4 (And.intro dk (And.intro own4 (And.intro T4 (And.intro hlb cwf.1)))))))))))))))
      clear hi hg hlt B cwf iv lv bX4 rX4 bcX bc4 rc4 blX bl4 ll4 dk own4 T4 hlb hno T2X bX rX mg D H1 HX HS
      obtain ⟨hi, hg, hlt, iv, lv, bX4, rX4, bc4, rc4, bl4, ll4, dk, own4, T4, hlb, cwf⟩ := G.out
      have LV := Lib.hid (show Calls Try.prog 19 #[.pointer (some ⟨d, 0, none⟩)] w4.drew fun e w' => e = .returned (.int .i64 (R.m : Int)) ∧ w4.drew = w' from (dk.turn ((Turn.refl (fun _ => False) w4).drewN 1) (fun _ _ f => f)).live)
      have y3 : w4.drew.cell? ⟨cb, 3, none⟩ = some (.int .i64 (quOf x)) := rc4 3 _ rfl
      have mle : decide (quOf x < (R.m : Int)) = false := decide_eq_false (by have := iv.2; omega)
      clear hi hg hlt iv lv bX4 rX4 bc4 rc4 bl4 ll4 dk own4 T4 hlb cwf
      go_upto_region 10 with fail
      refine wp_region_held_drew (S := (fun w' => w'.cell? ⟨cb, 3, none⟩ = some (.int .i64 (quOf x)))) (by kernel_rfl) ?hs0 (fun hS0 => ?_)
      case hs0 => ((try dsimp only); exact y3)
      refine wpAnyH_take (i := 0) (oi := { dst := some 45, op := Op.move (Operand.tmp 7), type := 25, pos := "law.go:144", after := #[], guard := none }) (v := ?_) rfl (by kernel_rfl) (by kernel_rfl) (by kernel_rfl) (fun _ _ _ h => h) (Or.inl ⟨by rfl, ?hy1⟩) hS0 ?_
      case hy1 => (intro w hSw; (try dsimp only at hSw); go_simp; try with_reducible rfl)
      try simp only [Act.put, List.setIfInBounds_toArray, List.set_cons_zero, List.set_cons_succ]
      refine wpAnyH_take (i := 2) (oi := { dst := some 47, op := Op.fieldAddr 28 (Operand.tmp 6) 3, type := 0, pos := "law.go:144", after := #[], guard := none }) (v := ?_) rfl (by kernel_rfl) (by kernel_rfl) (by kernel_rfl) (fun _ _ _ h => h) (Or.inl ⟨by rfl, ?hy2⟩) hS0 ?_
      case hy2 => (intro w hSw; (try dsimp only at hSw); go_simp; try with_reducible rfl)
      try simp only [Act.put, List.setIfInBounds_toArray, List.set_cons_zero, List.set_cons_succ]
      refine wpAnyH_take (i := 3) (oi := { dst := some 48, op := Op.load 3 (Operand.tmp 47), type := 3, pos := "law.go:144", after := #[{ on := 2, ground := Ground.data }], guard := none }) (v := ?_) rfl (by kernel_rfl) (by kernel_rfl) (by kernel_rfl) (fun _ _ _ h => h) (Or.inl ⟨by rfl, ?hy3⟩) hS0 ?_
      case hy3 => (intro w hSw; (try dsimp only at hSw); go_simp; try with_reducible rfl)
      try simp only [Act.put, List.setIfInBounds_toArray, List.set_cons_zero, List.set_cons_succ]
      refine wpAnyH_ready (rs := [1]) (by kernel_rfl) (by simp) ?_
      refine AllReadyH.cons (o := { dst := some 46, op := Op.call { callee := Callee.value (Operand.func 19), args := #[Operand.tmp 45], argTypes := #[25] }, type := 3, pos := "law.go:144", after := #[{ on := 0, ground := Ground.data }], guard := none }) rfl (fun K hK => ?_) ?_
      · go_simp; with_reducible refine LV.out.mono ?_; rintro en Wr ⟨rfl, rfl⟩; go_simp
        refine hK.out _ _ ?hs4 (fun hS4 => ?_)
        case hs4 => ((try dsimp only); exact y3)
        clear hK K hS0
        refine wpAnyH_take (i := 4) (oi := { dst := some 49, op := Op.binOp BinOp.gtr 3 (Operand.tmp 46) (Operand.tmp 48) 3, type := 4, pos := "law.go:144", after := #[{ on := 1, ground := Ground.data }, { on := 3, ground := Ground.data }], guard := none }) (v := ?_) rfl (by kernel_rfl) (by kernel_rfl) (by kernel_rfl) (fun _ _ _ h => h) (Or.inl ⟨by rfl, ?hy5⟩) hS4 ?_
        case hy5 => (intro w hSw; (try dsimp only at hSw); go_simp; try with_reducible rfl)
        try simp only [Act.put, List.setIfInBounds_toArray, List.set_cons_zero, List.set_cons_succ]
        refine wpAnyH_done (by kernel_rfl) ?_ _
        clear y3 mle LV
        go_upto_block 2 with fail
        generalize hw6 : w4.drew = w6
        obtain ⟨hi, hg, hlt, iv, lv, bX4, rX4, bc4, rc4, bl4, ll4, dk, own4, T4, hlb, cwf⟩ := G.out
        have T46 : Turn (fun _ => False) w4 w6 := by rw [← hw6]; exact (Turn.refl (fun _ => False) w4).drewN 1
        have K : IK w x y d cb lb xb base (i + 1) mb ck ci S R P2 w6 := ⟨dk.turn T46 (fun _ _ f => f), own4, iv.1, iv.2, lv, fun k v hv => by have := range_turn rX4 T46 id k v (by rcases k with _ | _ | k <;> simp at hv <;> simpa [cmdL] using hv); rw [Nat.zero_add] at this; exact this, bX4.turn T46 id, range_turn rc4 T46 id, bc4.turn T46 id, bl4.turn T46 id, hlb, T4.trans T46⟩
        have K0 : AskRel lb S R.S w6 41 (.int .i64 0) w6 := ⟨0, rfl, Nat.zero_le _, rfl, Turn.refl _ _, bl4.turn T46 id, fun q hq => by rw [if_neg (by omega)]; exact T46.cell id (ll4 q hq)⟩
        have G := Lib.hid (And.intro hi (And.intro hg (And.intro hlt K)))
        clear hi hg hlt iv lv bX4 rX4 bc4 rc4 bl4 ll4 dk own4 T4 hlb cwf K hw6 T46
        go_wp2_with fail
        go_loopg [12, 13] 41 (fun gh v12 v13 wr => AskRel lb S R.S w6 gh v12 wr)
        case atStart => exact K0
        case round =>
          clear K0
          obtain ⟨k, rfl, hk, hgk, T6, bl6, hll⟩ := hrel
          obtain ⟨hi, hg, hlt, K⟩ := G.out
          have nlb : ∀ {b : Nat} {t : TypeId}, Blk w6 b t → t ≠ 75 → ¬ b = lb := fun hb ht => hb.ne K.blb ht
          by_cases hk41 : k < 41
          · have kn : (0 : Int) ≤ (k : Int) := Int.natCast_nonneg k
            have k41 : (k : Int) < 41 := Int.ofNat_lt.2 hk41
            have tk : decide ((k : Int) < 41) = true := decide_eq_true k41
            have ek : wrap64 ((k : Int) + 1) = (k : Int) + 1 := wrap_small hk41
            have wfk : (Lit.int .i64 (k : Int)).wf = true := wf_small2 hk41
            have nP : ∀ q, P2 q → ¬ q = lb := fun q p e => K.desk.no K.blb (by decide) (e ▸ p)
            have NW := Lib.hid (fun d2 : Nat => (((K.desk.turn T6 nP).turn ((Turn.refl (fun _ => False) wr).drewN d2) (fun _ _ f => f)).waiting wfk).mono (fun e w' ⟨he, hw⟩ => show e = Ending.returned (.int .i64 (lenS R.S (k : Int) : Int)) ∧ ∃ m, w' = wr.drewN m from ⟨he, d2, hw.symm⟩))
            have NL := Lib.hid (fun d2 : Nat => (((K.desk.turn T6 nP).turn ((Turn.refl (fun _ => False) wr).drewN d2) (fun _ _ f => f)).lost wfk).mono (fun e w' ⟨he, hw⟩ => show e = Ending.returned (.bool (lostS R.S (k : Int))) ∧ ∃ m, w' = wr.drewN m from ⟨he, d2, hw.symm⟩))
            have ou0 : ((0 : Nat) : Int) ≤ ouOf y := ou_nn y
            have lle : (lenS R.S (k : Int) : Int) ≤ ouOf y := by
              unfold lenS
              cases hq : R.S (k : Int) with
              | none => exact ou0
              | some p => obtain ⟨l, lo⟩ := p; exact (K.inv _ l lo hq).1
            have dle : decide (ouOf y < (lenS R.S (k : Int) : Int)) = false := decide_eq_false (Int.not_lt.2 lle)
            have lv := K.lv (k : Int)
            have x0 : wr.cell? ⟨xb, 0, none⟩ = some (.int .i64 ck) := T6.cell (nlb K.bcm (by decide)) (K.cmd 0 _ rfl)
            have x1 : wr.cell? ⟨xb, 1, none⟩ = some (.int .i64 ci) := T6.cell (nlb K.bcm (by decide)) (K.cmd 1 _ rfl)
            have cg := range_turn K.cfg T6 (nlb K.bcb (by decide))
            have x5 : wr.cell? ⟨cb, 5, none⟩ = some (.int .i64 (ouOf y)) := cg 5 _ rfl
            have xl : wr.cell? ⟨lb, k, none⟩ = some (.bool (lostS S (k : Int))) := by have := hll k hk41; rwa [if_neg (Nat.lt_irrefl k)] at this
            have fz : wr.frozen? ⟨lb, k, none⟩ = false := bl6.fz k
            have STEP := Lib.hid (show ∀ (m : Nat), AskRel lb S R.S w6 (41 - (k + 1)) (.int .i64 ((k : Int) + 1)) ((wr.drewN m).setCell ⟨lb, k, none⟩ (.bool (lostS R.S (k : Int)))) from fun m => ⟨k + 1, congrArg (Value.int .i64) (Int.natCast_succ k).symm, hk41, rfl, ((T6.drewN m).setCell (.inl rfl) _), (bl6.turn ((Turn.refl (fun _ => False) wr).drewN m) id).set _ _, fun q hq => by
              by_cases e : k = q
              · subst e
                rw [if_pos (Nat.lt_succ_self _)]
                exact World.cell?_setCell_same (wr.drewN m) _ _ xl
              · rw [cell_off _ _ _ _ _ e]
                have h := hll q hq
                by_cases h2 : q < k
                · rw [if_pos h2] at h; rw [if_pos (Nat.lt_succ_of_lt h2)]; exact h
                · rw [if_neg h2] at h; rw [if_neg (fun h3 => (Nat.lt_or_eq_of_le (Nat.le_of_lt_succ h3)).elim h2 (fun h4 => e h4.symm))]; exact h⟩)
            have G3 := Lib.hid (And.intro hgk (And.intro hk41 G.out))
            clear hi hg hlt K nlb T6 bl6 hll hgk hk41 nP lle cg wfk hk G
            generalize lenS R.S (k : Int) = ln at *
            generalize lostS R.S (k : Int) = b1 at *
            generalize lostS S (k : Int) = b0 at *
            by_cases hc3 : ck = 3
            · have tc : (ck == 3) = true := beq_iff_eq.2 hc3
              by_cases hci : ci = (k : Int)
              · have ti : (ci == (k : Int)) = true := beq_iff_eq.2 hci
                clear hc3 hci lv
                cases b0 with
                | false =>
                  go_wp2_with fail
                  go_quiet (first | (go_at_call 20; exact NW.out _) | (go_at_call 22; exact NL.out _))
                  go_wp2_with fail
                  with_reducible refine (NL.out _).mono ?_
                  rintro en W ⟨rfl, m, rfl⟩
                  go_wp2_with fail
                  go_roundg (41 - (k + 1))
                  case measure => have := G3.out.1; have := G3.out.2.1; omega
                  case rel => first | exact STEP.out m | (rw [ek]; exact STEP.out m)
                | true =>
                  go_wp2_with fail
                  go_quiet (first | (go_at_call 20; exact NW.out _) | (go_at_call 22; exact NL.out _))
                  go_wp2_with fail
                  with_reducible refine (NL.out _).mono ?_
                  rintro en W ⟨rfl, m, rfl⟩
                  go_wp2_with fail
                  go_roundg (41 - (k + 1))
                  case measure => have := G3.out.1; have := G3.out.2.1; omega
                  case rel => first | exact STEP.out m | (rw [ek]; exact STEP.out m)
              · have ti : (ci == (k : Int)) = false := beq_eq_false_iff_ne.2 hci
                have lv2 : b0 = true → b1 = true := fun h => lv h (fun q => hci q.2)
                clear hc3 hci lv
                cases b0 with
                | false =>
                  clear lv2
                  go_wp2_with fail
                  go_quiet (first | (go_at_call 20; exact NW.out _) | (go_at_call 22; exact NL.out _))
                  go_wp2_with fail
                  with_reducible refine (NL.out _).mono ?_
                  rintro en W ⟨rfl, m, rfl⟩
                  go_wp2_with fail
                  go_roundg (41 - (k + 1))
                  case measure => have := G3.out.1; have := G3.out.2.1; omega
                  case rel => first | exact STEP.out m | (rw [ek]; exact STEP.out m)
                | true =>
                  obtain rfl : b1 = true := lv2 rfl
                  clear lv2
                  go_wp2_with fail
                  go_quiet (first | (go_at_call 20; exact NW.out _) | (go_at_call 22; exact NL.out _))
                  go_wp2_with fail
                  with_reducible refine (NL.out _).mono ?_
                  rintro en W ⟨rfl, m, rfl⟩
                  go_wp2_with fail
                  go_roundg (41 - (k + 1))
                  case measure => have := G3.out.1; have := G3.out.2.1; omega
                  case rel => first | exact STEP.out m | (rw [ek]; exact STEP.out m)
            · have tc : (ck == 3) = false := beq_eq_false_iff_ne.2 hc3
              have lv2 : b0 = true → b1 = true := fun h => lv h (fun q => hc3 q.1)
              clear hc3 lv
              cases b0 with
              | false =>
                clear lv2
                go_wp2_with fail
                go_quiet (first | (go_at_call 20; exact NW.out _) | (go_at_call 22; exact NL.out _))
                go_wp2_with fail
                with_reducible refine (NL.out _).mono ?_
                rintro en W ⟨rfl, m, rfl⟩
                go_wp2_with fail
                go_roundg (41 - (k + 1))
                case measure => have := G3.out.1; have := G3.out.2.1; omega
                case rel => first | exact STEP.out m | (rw [ek]; exact STEP.out m)
              | true =>
                obtain rfl : b1 = true := lv2 rfl
                clear lv2
                go_wp2_with fail
                go_quiet (first | (go_at_call 20; exact NW.out _) | (go_at_call 22; exact NL.out _))
                go_wp2_with fail
                with_reducible refine (NL.out _).mono ?_
                rintro en W ⟨rfl, m, rfl⟩
                go_wp2_with fail
                go_roundg (41 - (k + 1))
                case measure => have := G3.out.1; have := G3.out.2.1; omega
                case rel => first | exact STEP.out m | (rw [ek]; exact STEP.out m)
          · obtain rfl : k = 41 := by omega
            have TW : Turn (fun _ => False) w wr := K.turn.comp T6 (fun q hq e => by have := K.hlb; omega)
            have BW : BI w x y d cb lb base (i + 1) mb R.m R.S P2 wr := ⟨K.desk.turn T6 (fun q p e => K.desk.no K.blb (by decide) (e ▸ p)), K.own, K.inv, K.mq, range_turn K.cfg T6 (nlb K.bcb (by decide)), K.bcb.turn T6 (nlb K.bcb (by decide)), bl6, (fun q hq => by have := hll q hq; rw [if_pos hq] at this; exact this), K.hlb, TW⟩
            have ei : wrap64 ((i : Int) + 1) = (i : Int) + 1 := by unfold wrap64; omega
            have FIN := Lib.hid (show BRel w x y d cb lb base L (min L.length 40 - (i + 1)) (.int .i64 ((i : Int) + 1)) wr from ⟨i + 1, mb, R.m, R.S, P2, congrArg (Value.int .i64) (Int.natCast_succ i).symm, hlt, rfl, BW⟩)
            have G2 := Lib.hid (And.intro hg hlt)
            clear hi hg hlt K nlb hk41 TW BW hk hgk T6 bl6 hll G
            go_wp2_with fail
            go_roundg (min L.length 40 - (i + 1))
            case measure => have := G2.out.1; have := G2.out.2; omega
            case rel => first | exact FIN.out | (rw [ei]; exact FIN.out)
      exact AllReadyH.nil
    · have FIN := Lib.hid (show Below w.heap.size w wr from B.turn.below (fun k hk => ⟨hk, id⟩))
      by_cases h4 : i < L.length
      · have u1 : decide ((i : Int) < (L.length : Int)) = true := decide_eq_true (Int.ofNat_lt.2 h4)
        have u2 : decide (i < L.length) = true := decide_eq_true h4
        have u3 : decide ((i : Int) < 40) = false := decide_eq_false (by omega)
        clear hi hg hlt B HA h4
        go_wp2
        go_ret
        exact ⟨rfl, FIN.out⟩
      · have u1 : decide ((i : Int) < (L.length : Int)) = false := decide_eq_false (fun h => h4 (Int.ofNat_lt.1 h))
        have u2 : decide (i < L.length) = false := decide_eq_false h4
        clear hi hg hlt B HA h4
        go_wp2
        go_ret
        exact ⟨rfl, FIN.out⟩
end Go.Proofs.Ytepmealhnnoahaa
