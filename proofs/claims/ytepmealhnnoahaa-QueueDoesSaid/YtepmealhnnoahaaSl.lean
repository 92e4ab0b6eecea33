/-
  What comes with an event, by numbers: the walk.
-/
import Derived.Test.YtepmealhnnoahaaSm
import Derived.Deep.DeepCutAuto
import Derived.Deep.CutBlock
namespace Go.Proofs.Ytepmealhnnoahaa
set_option linter.unusedSimpArgs false
open Go.ChangeShapes Go.WideShapes Go.ChangeAt Go.RowKit
set_option linter.unusedVariables false
theorem info68 : (Try.prog.info? 68).map (fun i => (i.zero, i.size, i.bytes)) = some (some (.agg #[.slice none 0 0, .slice none 0 0, .slice none 0 0, .slice none 0 0]), 4, 96) := by kernel_rfl
theorem make68 (w : World) : (Instr.makeSlice 44 (.int .i64 3) (.int .i64 3)).run Try.prog w = .ok (.slice (some ⟨w.heap.size, 0, none⟩) 3 3) (w.alloc (.cells #[.slice none 0 0, .slice none 0 0, .slice none 0 0, .slice none 0 0, .slice none 0 0, .slice none 0 0, .slice none 0 0, .slice none 0 0, .slice none 0 0, .slice none 0 0, .slice none 0 0, .slice none 0 0] 68)) := by
  obtain ⟨i, hi, he⟩ := Option.map_eq_some_iff.mp info68
  simp only [Prod.mk.injEq] at he
  obtain ⟨hz, hs, hb⟩ := he
  have := run_make (P := Try.prog) w 44 68 i _ Try.underlying44 hi hz .i64 .i64 3 3 (by omega) (by omega) (by rw [hb]; decide) (by decide)
  rw [hs] at this
  have e : madeCells (Value.agg #[Value.slice none 0 0, Value.slice none 0 0, Value.slice none 0 0, Value.slice none 0 0]).cells (Int.toNat 3 * 4) = #[.slice none 0 0, .slice none 0 0, .slice none 0 0, .slice none 0 0, .slice none 0 0, .slice none 0 0, .slice none 0 0, .slice none 0 0, .slice none 0 0, .slice none 0 0, .slice none 0 0, .slice none 0 0] := by kernel_rfl
  rw [e] at this
  exact this
/-- Numbers that came in. -/
def NumsAt (w : World) (a : Option Addr) (l : List Int) : Prop :=
  ∃ (b off : Nat), (l = [] ∨ a = some ⟨b, off, none⟩) ∧ ∀ (j : Nat) (x : Int), l[j]? = some x → w.cell? ⟨b, off + j, none⟩ = some (.int .i64 x)
theorem NumsAt.turn {w w' : World} {a : Option Addr} {l : List Int} (h : NumsAt w a l) (T : Turn (fun _ => False) w w') : NumsAt w' a l := by
  obtain ⟨b, off, h1, h2⟩ := h
  exact ⟨b, off, h1, fun j x hx => T.cell id (h2 j x hx)⟩
def HRel (w : World) (a : ActV) (stamp : Int) (hv lv : Value) (sb rb ob : Nat) (gh : Nat) (v : Value) (wr : World) : Prop :=
  ∃ (i : Nat) (O : Nat → OutV), v = .int .i64 (i : Int) ∧ i ≤ min a.hits.length 6 ∧ gh = min a.hits.length 6 - i ∧ CI w a stamp hv lv sb rb ob i 0 O wr
def HEnd (w : World) (a : ActV) (stamp : Int) (hv lv : Value) (sb rb ob : Nat) (wr : World) : Prop :=
  ∃ (O : Nat → OutV), CI w a stamp hv lv sb rb ob (min a.hits.length 6) 0 O wr
def LRel (w : World) (a : ActV) (stamp : Int) (hv lv : Value) (sb rb ob : Nat) (gh : Nat) (v : Value) (wr : World) : Prop :=
  ∃ (j : Nat) (O : Nat → OutV), v = .int .i64 (j : Int) ∧ j ≤ min a.lost.length 2 ∧ gh = min a.lost.length 2 - j ∧ CI w a stamp hv lv sb rb ob (min a.hits.length 6) j O wr
def LEnd (w : World) (a : ActV) (stamp : Int) (hv lv : Value) (sb rb ob : Nat) (wr : World) : Prop :=
  ∃ (O : Nat → OutV), CI w a stamp hv lv sb rb ob (min a.hits.length 6) (min a.lost.length 2) O wr
def PubPost (w : World) (a : ActV) (stamp : Int) (e : Ending) (w' : World) : Prop :=
  ∃ (v : Value) (O : Nat → OutV), e = .returned (.tuple #[.agg (cmdOf a stamp).cells.toArray, v]) ∧ OutsAt w' (fun k => k < w.heap.size) v [O 0, O 1, O 2] ∧ HitsAt w' (fun k => k < w.heap.size) [O 0, O 1, O 2] ∧ (∀ k, k < 3 → (O k).hits.map Ht.abs = hitsA a stamp k (min a.hits.length 6) ∧ (O k).lost = lostA a k (min a.lost.length 2)) ∧ Turn (fun _ => False) w w'
theorem CI.new (w : World) (a : ActV) (stamp : Int) (hv lv : Value) {V1 V2 V3 : World} (h1 : V1 = w.alloc (.cells #[.int .i64 a.kind, .int .i64 a.id, .int .i64 a.num, hv, lv, .int .i64 a.shard] 48)) (h2 : V2 = V1.alloc (.cells (cmdL 0 0 0 0 0).toArray 43))
    (h3 : V3 = V2.alloc (.cells #[.slice none 0 0, .slice none 0 0, .slice none 0 0, .slice none 0 0, .slice none 0 0, .slice none 0 0, .slice none 0 0, .slice none 0 0, .slice none 0 0, .slice none 0 0, .slice none 0 0, .slice none 0 0] 68)) : CI w a stamp hv lv w.heap.size (w.heap.size + 1) (w.heap.size + 1 + 1) 0 0 (fun _ => ⟨[], []⟩) V3 := by
  have s1 : V1.heap.size = w.heap.size + 1 := by rw [h1, World.size_alloc]
  have s2 : V2.heap.size = w.heap.size + 1 + 1 := by rw [h2, World.size_alloc, s1]
  have T1 : Turn (fun _ => False) w V1 := by rw [h1]; exact (Turn.refl _ w).alloc _
  have T2 : Turn (fun _ => False) V1 V2 := by rw [h2]; exact (Turn.refl _ V1).alloc _
  have T3 : Turn (fun _ => False) V2 V3 := by rw [h3]; exact (Turn.refl _ V2).alloc _
  have B1 : Blk V1 w.heap.size 48 ∧ V1.rangeAt w.heap.size 0 [.int .i64 a.kind, .int .i64 a.id, .int .i64 a.num, hv, lv, .int .i64 a.shard] := by rw [h1]; exact ⟨Blk.new w [.int .i64 a.kind, .int .i64 a.id, .int .i64 a.num, hv, lv, .int .i64 a.shard] 48, range_new w _ 48⟩
  have B2 : Blk V2 (w.heap.size + 1) 43 ∧ V2.rangeAt (w.heap.size + 1) 0 (cmdL 0 0 0 0 0) := by rw [h2, ← s1]; exact ⟨Blk.new V1 _ 43, range_new V1 _ 43⟩
  have B3 : Blk V3 (w.heap.size + 1 + 1) 68 ∧ V3.rangeAt (w.heap.size + 1 + 1) 0 (List.replicate 12 (.slice none 0 0)) := by rw [h3, ← s2]; exact ⟨Blk.new V2 (List.replicate 12 (.slice none 0 0)) 68, range_new V2 (List.replicate 12 (.slice none 0 0)) 68⟩
  have nilAt : ∀ k p, k < 3 → p < 4 → V3.cell? ⟨w.heap.size + 1 + 1, k * 4 + p, none⟩ = some (.slice none 0 0) := fun k p hk hp => by
    have := B3.2 (k * 4 + p) (.slice none 0 0) (by rw [List.getElem?_replicate, if_pos (by omega)])
    rw [Nat.zero_add] at this
    exact this
  have nilU : ∀ {k p u}, k < 3 → [Value.slice none 0 0, .slice none 0 0, .slice none 0 0, .slice none 0 0][p]? = some u → V3.cell? ⟨w.heap.size + 1 + 1, k * 4 + p, none⟩ = some u := fun {k p u} hk hu => by
    have hp : p < 4 := by have := (List.getElem?_eq_some_iff.1 hu).1; simpa using this
    have e : u = .slice none 0 0 := by
      rcases p with _ | _ | _ | _ | p
      · simpa using hu.symm
      · simpa using hu.symm
      · simpa using hu.symm
      · simpa using hu.symm
      · omega
    rw [e]
    exact nilAt k p hk hp
  refine ⟨range_turn (range_turn B1.2 T2 id) T3 id, (B1.1.turn T2 id).turn T3 id, B2.1.turn T3 id, range_turn B2.2 T3 id, B3.1, by omega, by omega, fun k hk => ⟨.slice none 0 0, .slice none 0 0, fun p u hu => ?_, World.ownsRow_nil _ _ _ _, World.ownsRow_nil _ _ _ _⟩, fun k _ x hx => by simp at hx, (T1.trans T2).trans T3, fun k _ => rfl, fun k _ => rfl, fun k hk _ => nilAt k 1 hk (by omega)⟩
  · exact nilU hk hu
theorem and1 (i : Nat) (hi : i < 6) : Go.bits BinOp.and .i64 (i : Int) 1 = ((i % 2 : Nat) : Int) := by
  have : i = 0 ∨ i = 1 ∨ i = 2 ∨ i = 3 ∨ i = 4 ∨ i = 5 := by omega
  rcases this with rfl | rfl | rfl | rfl | rfl | rfl <;> decide
theorem hit_even {w X0 : World} {xb b1 b2 b3 : Nat} {qx n : Int} (hX : X0.rangeAt xb 0 [.int .i64 qx, .slice (some ⟨b1, 0, none⟩) 1 1, .slice (some ⟨b3, 0, none⟩) 1 1]) (BX : Blk X0 xb 73) (B1 : Blk X0 b1 46) (B2 : Blk X0 b2 3) (B3 : Blk X0 b3 38)
    (r1 : X0.rangeAt b1 0 [.slice (some ⟨b2, 0, none⟩) 1 1]) (r2 : X0.rangeAt b2 0 [.int .i64 n]) (r3 : X0.rangeAt b3 0 [.int .i64 n, .int .i64 0]) (g1 : w.heap.size ≤ b1) (g2 : w.heap.size ≤ b2) (g3 : w.heap.size ≤ b3) : XPost w X0 xb qx (fndN n) X0 :=
  ⟨⟨qx, some ⟨b1, 0, none⟩, 1, 1, some ⟨b3, 0, none⟩, 1, 1, fndN n⟩, rfl, rfl, hX, BX, found_new B1 B2 B3 (by omega) (by omega) (by omega) r1 r2 r3, Turn.refl _ _⟩
theorem hitsA_len (a : ActV) (stamp : Int) (k : Nat) : ∀ i, (hitsA a stamp k i).length ≤ i
  | 0 => Nat.le_refl _
  | i + 1 => by
    have := hitsA_len a stamp k i
    unfold hitsA
    split
    · rw [insK_len]; omega
    · omega
def ScanR (L : List Ht) (id : Int) (w : World) (gh : Nat) (v : Value) (wr : World) : Prop :=
  ∃ k : Nat, v = .int .i64 (k : Int) ∧ k ≤ L.length ∧ gh = k ∧ posK Ht.id L id L.length = posK Ht.id L id k ∧ Turn (fun _ => False) w wr
theorem build38p (s : Int) (w : World) : (Instr.build 38 #[(0, .int .i64 s), (1, .int .i64 7)]).run Try.prog w = .ok (.agg #[.int .i64 s, .int .i64 7]) w := run_build w 38 _ _ (by kernel_rfl)
theorem build43p (s : Int) (w : World) : (Instr.build 43 #[(0, .int .i64 1), (4, .agg #[.int .i64 s, .int .i64 7])]).run Try.prog w = .ok (.agg (cmdL 1 0 0 s 7).toArray) w := run_build w 43 _ _ (by kernel_rfl)
set_option maxRecDepth 100000 in
set_option maxHeartbeats 8000000 in
theorem cmd_pub (w : World) (a : ActV) {ha : Option Addr} {hc : Nat} {la : Option Addr} {lc : Nat} (hh : NumsAt w ha a.hits) (hl : NumsAt w la a.lost) (stamp : Int) (hst : 1 ≤ stamp ∧ stamp ≤ 1000) (hk : 6 ≤ restN a.kind 8) :
    Calls Try.prog 12 #[.agg #[.int .i64 a.kind, .int .i64 a.id, .int .i64 a.num, .slice ha a.hits.length hc, .slice la a.lost.length lc, .int .i64 a.shard], .int .i64 stamp] w (PubPost w a stamp) := by
  have eC : cmdOf a stamp = ⟨1, 0, 0, stamp, 7⟩ := by unfold cmdOf; rw [if_neg (by omega), if_neg (by omega), if_neg (by omega), if_neg (by omega), if_neg (by omega)]
  obtain ⟨V1, h1⟩ : ∃ V1, V1 = w.alloc (.cells #[.int .i64 a.kind, .int .i64 a.id, .int .i64 a.num, .slice ha a.hits.length hc, .slice la a.lost.length lc, .int .i64 a.shard] 48) := ⟨_, rfl⟩
  obtain ⟨V2, h2⟩ : ∃ V2, V2 = V1.alloc (.cells (cmdL 0 0 0 0 0).toArray 43) := ⟨_, rfl⟩
  obtain ⟨V3, h3⟩ : ∃ V3, V3 = V2.alloc (.cells #[.slice none 0 0, .slice none 0 0, .slice none 0 0, .slice none 0 0, .slice none 0 0, .slice none 0 0, .slice none 0 0, .slice none 0 0, .slice none 0 0, .slice none 0 0, .slice none 0 0, .slice none 0 0] 68) := ⟨_, rfl⟩
  have C0 := CI.new w a stamp _ _ h1 h2 h3
  have HC := Lib.hid eC
  have HH := Lib.hid hh
  have HL := Lib.hid hl
  have HS := Lib.hid hst
  unfold cmdL at h2
  have HV := Lib.hid (show V3 = ((w.alloc (.cells #[.int .i64 a.kind, .int .i64 a.id, .int .i64 a.num, .slice ha a.hits.length hc, .slice la a.lost.length lc, .int .i64 a.shard] 48)).alloc (.cells #[.int .i64 0, .int .i64 0, .int .i64 0, .int .i64 0, .int .i64 0, .int .i64 0, .int .i64 0, .int .i64 0, .int .i64 0, .int .i64 0, .int .i64 0, .slice none 0 0, .int .i64 0, .bool false] 43)).alloc (.cells #[.slice none 0 0, .slice none 0 0, .slice none 0 0, .slice none 0 0, .slice none 0 0, .slice none 0 0, .slice none 0 0, .slice none 0 0, .slice none 0 0, .slice none 0 0, .slice none 0 0, .slice none 0 0] 68) from by rw [h3, h2, h1])
  have HZ := Lib.hid C0
  have A12 := Lib.hid (rest_12 a.id)
  have A8 := Lib.hid (rest_8 a.kind)
  have l8 := restN_lt a.kind (n := 8) (by decide)
  have MK := make68
  generalize restN a.kind 8 = q8 at *
  have f0 : ((q8 : Int) == 0) = false := by simp; omega
  have f1 : ((q8 : Int) == 1) = false := by simp; omega
  have f2 : ((q8 : Int) == 2) = false := by simp; omega
  have f3 : ((q8 : Int) == 3) = false := by simp; omega
  have f4 : ((q8 : Int) == 4) = false := by simp; omega
  have f5 : ((q8 : Int) == 5) = false := by simp; omega
  clear hk l8 eC hh hl hst h1 h2 h3 C0
  go_enter Try.func12, Try.ntmps12
  go_wp2_with fail
  with_reducible refine (A12.out _).mono ?_
  rintro en w1 ⟨rfl, rfl⟩
  go_wp2_with fail
  with_reducible refine (A8.out _).mono ?_
  rintro en w1 ⟨rfl, rfl⟩
  go_upto_region 15 with fail
  clear MK f0 f1 f2 f3 f4 f5 A12 A8
  generalize restN a.id 12 = q12 at *
  generalize hsb : w.heap.size = sb at HZ ⊢
  rw [← HV.out]
  clear HV
  generalize hrb : sb + 1 = rb at HZ ⊢
  generalize hob : rb + 1 = ob at HZ ⊢
  have HB := Lib.hid (And.intro hsb (And.intro hrb hob))
  clear hsb hrb hob
  have R0 : HRel w a stamp (.slice ha a.hits.length hc) (.slice la a.lost.length lc) sb rb ob (min a.hits.length 6) (.int .i64 0) V3 := ⟨0, _, rfl, Nat.zero_le _, rfl, HZ.out⟩
  clear HZ
  go_upto_block 1 with fail
  go_cut [8, 9, 10, 11, 12] (fun v8 v9 v10 v11 v12 wx => HEnd w a stamp (.slice ha a.hits.length hc) (.slice la a.lost.length lc) sb rb ob wx)
  case first =>
    go_wp2_with fail
    go_loopg [8, 9, 10, 11, 12] (min a.hits.length 6) (fun gh v8 v9 v10 v11 v12 wr => HRel w a stamp (.slice ha a.hits.length hc) (.slice la a.lost.length lc) sb rb ob gh v8 wr)
    case atStart => exact R0
    case round =>
      clear R0
      obtain ⟨i, O, rfl, hi, hg, C⟩ := hrel
      by_cases hlt : i < min a.hits.length 6
      · have u1 : decide ((i : Int) < (a.hits.length : Int)) = true := decide_eq_true (by omega)
        have u2 : decide (i < a.hits.length) = true := decide_eq_true (by omega)
        have u3 : decide ((i : Int) < 6) = true := decide_eq_true (by omega)
        have j0 : (0 : Int) ≤ (i : Int) := by omega
        have j1 : (i : Int) < (a.hits.length : Int) := by omega
        have y3 : wr.cell? ⟨sb, 3, none⟩ = some (.slice ha a.hits.length hc) := C.box 3 _ rfl
        have y5 : wr.cell? ⟨sb, 5, none⟩ = some (.int .i64 a.shard) := C.box 5 _ rfl
        obtain ⟨hx, hxi⟩ : ∃ x, a.hits[i]? = some x := ⟨_, List.getElem?_eq_getElem (by omega)⟩
        have hgd : a.hits.getD i 0 = hx := by rw [List.getD_eq_getElem?_getD, hxi]; rfl
        obtain ⟨hb, ho, e1, e2⟩ := HH.out
        have ea := e1.resolve_left (fun e => by rw [e] at hxi; simp at hxi)
        subst ea
        have y6 : wr.cell? ⟨hb, ho + i, none⟩ = some (.int .i64 hx) := C.turn.cell id (e2 i hx hxi)
        have A3 := Lib.hid (rest_3 (wrap64 (a.shard + (i : Int))))
        have l3 := restN_lt (wrap64 (a.shard + (i : Int))) (n := 3) (by decide)
        obtain ⟨kq, hkq⟩ : ∃ q, restN (wrap64 (a.shard + (i : Int))) 3 = q := ⟨_, rfl⟩
        rw [hkq] at l3
        have HK := Lib.hid hkq
        have A12 := Lib.hid (rest_12 hx)
        obtain ⟨qx, hqx⟩ : ∃ q : Int, (restN hx 12 : Int) = q := ⟨_, rfl⟩
        have HQ := Lib.hid hqx
        have hs1 := HS.out
        have t1 : wrap64 (10 * stamp) = 10 * stamp := by unfold wrap64; omega
        have t2 : wrap64 (10 * stamp + (i : Int)) = 10 * stamp + (i : Int) := by unfold wrap64; omega
        have an := and1 i (by omega)
        have G := Lib.hid (And.intro hi (And.intro hg (And.intro C (And.intro hlt (And.intro hgd l3)))))
        clear hi hg C hlt hgd e1 e2 hxi hs1 hqx hkq l3
        go_upto_region 19 with fail
        with_reducible refine (A3.out _).mono ?_
        rintro en w1 ⟨rfl, rfl⟩
        rw [HK.out]
        go_wp2_with fail
        with_reducible refine (A12.out _).mono ?_
        rintro en w1 ⟨rfl, rfl⟩
        rw [HQ.out]
        clear A3 A12 u1 u2 u3
        go_wp2_with fail
        with_reducible refine (hit_new wr qx (10 * stamp + (i : Int))).mono ?_
        rintro en w4 ⟨b1, b2, b3, rfl, g1, g2, g3, B1, B2, B3, r1, r2, r3, T4⟩
        go_upto_region 20 with fail
        obtain ⟨X0, hX0⟩ : ∃ X0, X0 = w4.alloc (.cells #[.int .i64 qx, .slice (some ⟨b1, 0, none⟩) 1 1, .slice (some ⟨b3, 0, none⟩) 1 1] 73) := ⟨_, rfl⟩
        have TX : Turn (fun _ => False) w4 X0 := by rw [hX0]; exact (Turn.refl _ w4).alloc _
        have rX : X0.rangeAt w4.heap.size 0 [.int .i64 qx, .slice (some ⟨b1, 0, none⟩) 1 1, .slice (some ⟨b3, 0, none⟩) 1 1] := by rw [hX0]; exact range_new w4 [.int .i64 qx, .slice (some ⟨b1, 0, none⟩) 1 1, .slice (some ⟨b3, 0, none⟩) 1 1] 73
        have bX : Blk X0 w4.heap.size 73 := by rw [hX0]; exact Blk.new w4 [.int .i64 qx, .slice (some ⟨b1, 0, none⟩) 1 1, .slice (some ⟨b3, 0, none⟩) 1 1] 73
        rw [← hX0]
        clear hX0
        generalize hxb : w4.heap.size = xb at *
        have T0X := T4.trans TX
        have GX := Lib.hid (And.intro (show wr.heap.size ≤ xb by rw [← hxb]; exact T4.size) T0X)
        have hwX : w.heap.size ≤ X0.heap.size := Nat.le_trans G.out.2.2.1.turn.size T0X.size
        have hww : w.heap.size ≤ wr.heap.size := G.out.2.2.1.turn.size
        go_upto_if 76 with fail
        go_cut [9] (fun v9 wx => v9 = .int .i64 (kq : Int) ∧ XPost w X0 xb qx (fndC stamp i) wx)
        case first =>
          by_cases hodd : i % 2 = 1
          · have eF : fndC stamp i = ⟨[[10 * stamp + (i : Int)], [1]], [(10 * stamp + (i : Int), 0), (1, stamp)]⟩ := by unfold fndC; rw [if_pos hodd]
            have hbo : (((i % 2 : Nat) : Int) == 1) = true := by rw [hodd]; rfl
            obtain ⟨c1, cap1, Xc, RUN1, y1, z1, Xd, hXd, y2, c3, cap3, Xf, RUN2, y4, z4, FIN⟩ := hit_odd (stamp := stamp) rX bX (B1.turn TX id) (B2.turn TX id) (B3.turn TX id) (range_turn r1 TX id) (range_turn r2 TX id) (range_turn r3 TX id) (Nat.le_trans hww g2) hwX
            rw [← eF] at FIN
            have x1 : X0.cell? ⟨xb, 1, none⟩ = some (.slice (some ⟨b1, 0, none⟩) 1 1) := rX 1 _ rfl
            have R1 := Lib.hid RUN1
            have R2 := Lib.hid RUN2
            have HD := Lib.hid hXd
            have FIN := Lib.hid FIN
            clear RUN1 RUN2 hXd rX bX TX T4 T0X B1 B2 B3 r1 r2 r3 g1 g2 g3 hwX hww eF hodd
            go_upto_region 22 with (refine rl_append_run (by rfl) _ _ _ (by rfl) (by rfl) (by rfl) R1.out ?_)
            rw [← HD.out]
            clear y1 z1 x1 R1
            go_wp2_with (refine rl_append_run (by rfl) _ _ _ (by rfl) (by rfl) (by rfl) R2.out ?_)
            go_meet
            case rel => exact ⟨rfl, FIN.out⟩
          · have hev : i % 2 = 0 := by omega
            have eF : fndC stamp i = fndN (10 * stamp + (i : Int)) := by unfold fndC; rw [if_neg hodd]
            have hbo : (((i % 2 : Nat) : Int) == 1) = false := by rw [hev]; rfl
            have FIN := (hit_even (w := w) rX bX (B1.turn TX id) (B2.turn TX id) (B3.turn TX id) (range_turn r1 TX id) (range_turn r2 TX id) (range_turn r3 TX id) (Nat.le_trans hww g1) (Nat.le_trans hww g2) (Nat.le_trans hww g3))
            rw [← eF] at FIN
            have FIN := Lib.hid FIN
            clear rX bX TX T4 T0X B1 B2 B3 r1 r2 r3 g1 g2 g3 hwX hww eF hodd hev
            go_wp2_with fail
            go_meet
            case rel => exact ⟨rfl, FIN.out⟩
        case rest =>
        obtain ⟨rfl, x, hxid, hxf, hxr, hxB, hxF, hxT⟩ := hcut
        generalize wc = wb at *
        clear an t1 t2 y3 y5 y6 rX bX TX T4 T0X B1 B2 B3 r1 r2 r3 g1 g2 g3 hwX
        have TW : Turn (fun _ => False) wr wb := GX.out.2.comp hxT (fun b hb e => by have := GX.out.1; omega)
        obtain ⟨hi, hg, C, hlt, hgd, l3⟩ := G.out
        have CC := C.turns TW
        obtain ⟨vh, vl, hr1, hr2, hr3⟩ := CC.rows kq l3
        have hxabs : x.abs = ((restN (a.hits.getD i 0) 12 : Int), fndC stamp i) := by unfold Ht.abs; rw [hgd, HQ.out, hxid, hxf]
        have hk3 : restN (wrap64 (a.shard + (i : Int))) 3 = kq := HK.out
        have k0 : (0 : Int) ≤ (kq : Int) := by omega
        have k1 : (kq : Int) < 3 := by omega
        obtain ⟨va, vc, rfl, hvg⟩ := own_slice hr2
        obtain ⟨L, hL⟩ : ∃ L, (O kq).hits = L := ⟨_, rfl⟩
        have n6 : L.length ≤ 6 := by rw [← hL]; have := hitsA_len a stamp kq i; rw [← CC.hits kq l3, List.length_map] at this; omega
        rw [hL] at hr2 hvg hr1
        have yo : wb.cell? ⟨ob, kq * 4, none⟩ = some (.slice va L.length vc) := hr1 0 _ rfl
        obtain ⟨P, hP⟩ : ∃ P, posK Ht.id L x.id L.length = P := ⟨_, rfl⟩
        have hPle : P ≤ L.length := by rw [← hP]; exact posK_le _ _ _ _
        have G2 := Lib.hid (And.intro hi (And.intro hg (And.intro hlt (And.intro CC (And.intro hxabs (And.intro hk3 (And.intro hL (And.intro hP (And.intro l3 (And.intro hxB (And.intro hxF (And.intro hxr (And.intro hr2 n6)))))))))))))
        clear G GX HQ HK hxT TW hi hg C hlt hgd l3 CC hr1 hr3 hxabs hk3 hL hxid hxf hxB hxF hxr hr2 n6 hww
        go_upto_block 3 with fail
        go_cut [11] (fun v11 wx => v11 = .int .i64 (P : Int) ∧ Turn (fun _ => False) wb wx)
        case first =>
          have R1 : ScanR L x.id wb L.length (.int .i64 (L.length : Int)) wb := ⟨L.length, rfl, Nat.le_refl _, rfl, rfl, Turn.refl _ _⟩
          go_wp2_with fail
          go_loopg [11] L.length (fun gh v wr => ScanR L x.id wb gh v wr)
          case atStart => exact R1
          case round =>
            clear R1
            obtain ⟨k, rfl, hk, hgk, hpk, hT⟩ := hrel
            obtain ⟨_, _, _, CC, _, _, _, hP0, _, _, _, hxr, hr2, n6⟩ := G2.out
            have z1 := hT.cell id yo
            have z2 : wr.cell? ⟨xb, 0, none⟩ = some (.int .i64 x.id) := hT.cell id (hxr 0 _ rfl)
            by_cases h0 : k = 0
            · have hkP : k = P := by rw [← hP0, hpk, h0]; rfl
              subst h0
              have HkP := Lib.hid hkP
              have HT := Lib.hid hT
              clear hk hgk hpk hT hkP CC hP0 hxr hr2 n6 yo
              go_wp2_with fail
              go_big_quiet (fail)
              go_wp2_with fail
              go_meet
              case rel => exact ⟨by rw [← HkP.out], HT.out.drewN _⟩
            · obtain ⟨j, hj⟩ : ∃ j, k = j + 1 := ⟨k - 1, by omega⟩
              obtain ⟨g, hg⟩ := hvg (by omega)
              subst hg
              obtain ⟨y, hy⟩ : ∃ y, L[j]? = some y := ⟨_, List.getElem?_eq_getElem (by omega)⟩
              have z3 : wr.cell? ⟨g, j * 3, none⟩ = some (.int .i64 y.id) := hT.cell id ((hr2.cellAt (j * 3) (by omega)).trans (by have := hcells_at L j y hy 0 _ rfl; simpa using this))
              have e1 : wrap64 ((k : Int) - 1) = (j : Int) := by unfold wrap64; omega
              have e2 : decide ((0 : Int) < (k : Int)) = true := decide_eq_true (by omega)
              have e3 : decide (0 < k) = true := decide_eq_true (by omega)
              have j0 : (0 : Int) ≤ (j : Int) := by omega
              have j1 : (j : Int) < (L.length : Int) := by omega
              have S1 := Lib.hid (And.intro hk (And.intro hgk (And.intro hpk (And.intro hT (And.intro hj hy)))))
              clear hk hgk hpk hT hj hy CC hP0 hxr hr2 n6 yo
              go_wp2_with fail
              go_big_quiet (fail)
              go_wp2_with fail
              · rename_i hq
                go_roundg j
                case measure => have := S1.out.2.1; have := S1.out.2.2.2.2.1; omega
                case rel =>
                  obtain ⟨hk, hgk, hpk, hT, hj, hy⟩ := S1.out
                  refine ⟨j, congrArg (Value.int .i64) e1, by omega, rfl, ?_, hT.drewN _⟩
                  rw [hpk, hj, posK, hy]
                  show (if x.id < y.id then _ else _) = _
                  rw [if_pos (by omega)]
              · rename_i hq
                go_meet
                case rel =>
                  obtain ⟨hk, hgk, hpk, hT, hj, hy⟩ := S1.out
                  have hP0 := G2.out.2.2.2.2.2.2.2.1
                  refine ⟨?_, hT.drewN _⟩
                  rw [hj, posK, hy] at hpk
                  have e5 : (if x.id < y.id then posK Ht.id L x.id j else j + 1) = j + 1 := if_neg (by omega)
                  have e6 : P = k := by
                    rw [← hP0, hj]
                    exact hpk.trans e5
                  rw [e6]
        case rest =>
        obtain ⟨rfl, hT2⟩ := hcut
        generalize wc = wl at *
        obtain ⟨hi, hg, hlt, CC, hxabs, hk3, hL, hP, l3, hxB, hxF, hxr, hr2, n6⟩ := G2.out
        have yo2 := hT2.cell id yo
        have yo3 : (wl.alloc (.cells #[] 73)).cell? ⟨ob, kq * 4, none⟩ = some (.slice va L.length vc) := past yo2
        have ho2 := own_turn hr2 hT2 (fun _ _ f => f)
        clear yo
        have hcap : L.length ≤ vc ∧ vc ≤ maxLen := by
          rcases ho2.2 with ⟨e, e0⟩ | ⟨g', cap', cu, e, hb, hg, hnc, hcm, hcs, ht⟩
          · simp at e
            omega
          · simp at e
            obtain ⟨_, rfl⟩ := e
            exact ⟨hnc, hcm⟩
        have hcap1 := hcap.1
        have hcap2 := hcap.2
        unfold maxLen at hcap2
        clear hcap hi hg hlt CC hxabs hk3 hL hP l3 hxB hxF hxr hr2
        have G3 := Lib.hid (And.intro hT2 ho2)
        go_upto_region 26 with fail
        go_cut [12] (fun v12 wx => RestP wl L P v12 wx)
        case first =>
          rcases Nat.eq_zero_or_pos L.length with hz | hpos
          · obtain rfl := List.eq_nil_of_length_eq_zero hz
            obtain rfl : P = 0 := by simpa using hPle
            rcases ho2.2 with ⟨e, e0⟩ | ⟨g, cap', cu, e, hb, hg, hnc, hcm, hcs, ht⟩
            · simp at e
              obtain ⟨rfl, rfl⟩ := e
              obtain ⟨RUN, FIN⟩ := rest_nil wl
              have RUN := Lib.hid RUN
              have FIN := Lib.hid FIN
              clear ho2 hT2 hvg
              go_wp2_with (refine rl_append_run (by rfl) _ _ _ (by rfl) (by rfl) (by rfl) RUN.out ?_)
              go_meet
              case rel => exact FIN.out
            · simp at e
              obtain ⟨rfl, rfl⟩ := e
              obtain ⟨A, hA, hA2⟩ : ∃ A : Addr, (if vc = 0 then some (⟨g, 0, none⟩ : Addr) else some ⟨g, 0, none⟩) = some A ∧ (0 < ([] : List Ht).length → A = ⟨g, 0 * 3, none⟩) := ⟨⟨g, 0, none⟩, by simp, fun h => by simp at h⟩
              obtain ⟨v, wx, RUN, FIN⟩ := rest_some (c := vc) (A := ⟨g, 0, none⟩) ho2 (Nat.le_refl _) (by simp) (fun h => by simp at h)
              have RUN := Lib.hid RUN
              have FIN := Lib.hid FIN
              clear ho2 hT2 hvg hg hA hA2
              go_wp2_with (refine rl_append_run (by rfl) _ _ _ (by rfl) (by rfl) (by rfl) RUN.out ?_)
              go_meet
              case rel => exact FIN.out
          · obtain ⟨g, rfl⟩ := hvg hpos
            obtain ⟨A, hA, hA2⟩ : ∃ A : Addr, (if vc = P then some (⟨g, 0, none⟩ : Addr) else some ⟨g, P * 3, none⟩) = some A ∧ (P < L.length → A = ⟨g, P * 3, none⟩) := by
              by_cases e : vc = P
              · exact ⟨⟨g, 0, none⟩, by simp [e], fun q => by omega⟩
              · exact ⟨⟨g, P * 3, none⟩, by simp [e], fun _ => rfl⟩
            obtain ⟨v, wx, RUN, FIN⟩ := rest_some (c := vc - P) ho2 hPle n6 hA2
            have RUN := Lib.hid RUN
            have FIN := Lib.hid FIN
            have hpi : (P : Int) ≤ (L.length : Int) := by omega
            clear ho2 hT2 hvg hA2
            go_wp2_with (refine rl_append_run (by rfl) _ _ _ (by rfl) (by rfl) (by rfl) RUN.out ?_)
            all_goals (go_meet; (try (case rel => exact FIN.out)))
        case rest =>
        have HREST := Lib.hid hcut
        clear hcut
        obtain ⟨rg, rc, rfl, hor, hT3⟩ := HREST.out
        generalize wc = wd at *
        obtain ⟨hT2, ho2⟩ := G3.out
        obtain ⟨hi, hg, hlt, CC, hxabs, hk3, hL, hP, l3, hxB, hxF, hxr, hr2, n6⟩ := G2.out
        obtain ⟨V, hV⟩ : ∃ V, V = wd.drew := ⟨_, rfl⟩
        have TV : Turn (fun _ => False) wd V := by rw [hV]; exact (Turn.refl _ wd).drewN 1
        have TbV := (hT2.trans hT3).trans TV
        have CV := CC.turns TbV
        have xV := range_turn hxr TbV id
        have yV : V.cell? ⟨ob, kq * 4, none⟩ = some (.slice va L.length vc) := (hT3.trans TV).cell id yo2
        have yV1 : (V.alloc (.cells #[.int .i64 x.id, .slice x.sa x.sn x.sc, .slice x.ra x.rn x.rc] 73)).cell? ⟨ob, kq * 4, none⟩ = some (.slice va L.length vc) := past yV
        have oV := own_turn ho2 (hT3.trans TV) (fun _ _ f => f)
        have hs : (Value.slice va P P = .slice none 0 0 ∧ P = 0) ∨ ∃ g base vc, Value.slice va P P = .slice (some ⟨g, 0, none⟩) P P ∧ V.ownsRow base 73 3 (.slice (some ⟨g, 0, none⟩) L.length vc) L.length (hcells L) := by
          rcases oV.2 with ⟨e, e0⟩ | ⟨g, cap', cu, e, hb, hg, hnc, hcm, hcs, ht⟩
          · simp at e
            have : P = 0 := by omega
            exact .inl ⟨by rw [e.1, this], this⟩
          · simp at e
            exact .inr ⟨g, _, vc, by rw [e.1], by rw [← e.1]; exact oV⟩
        obtain ⟨c1, cap1, V2, RUN1, TV2, ga, gc, V3, RUN2, own3, TV3⟩ := ins_runs (b0 := w.heap.size) (x := x) hs hPle n6 (own_turn hor TV (fun _ _ f => f)) CV.turn.size
        have C3 := CV.turns TV3
        have B3 := C3.bob
        have xV3 := range_turn xV TV3 id
        have y3 : V3.cell? ⟨ob, kq * 4, none⟩ = some (.slice va L.length vc) := TV3.cell id yV
        have fz3 : V3.frozen? ⟨ob, kq * 4, none⟩ = false := B3.fz _
        have nx : ob ≠ xb := B3.ne (hxB.turn (TbV.trans TV3) id) (by decide)
        have zV : V.cell? ⟨xb, 0, none⟩ = some (.int .i64 x.id) ∧ V.cell? ⟨xb, 1, none⟩ = some (.slice x.sa x.sn x.sc) ∧ V.cell? ⟨xb, 2, none⟩ = some (.slice x.ra x.rn x.rc) := ⟨xV 0 _ rfl, xV 1 _ rfl, xV 2 _ rfl⟩
        have zD : wd.drew.cell? ⟨xb, 0, none⟩ = some (.int .i64 x.id) ∧ wd.drew.cell? ⟨xb, 1, none⟩ = some (.slice x.sa x.sn x.sc) ∧ wd.drew.cell? ⟨xb, 2, none⟩ = some (.slice x.ra x.rn x.rc) := by rw [← hV]; exact zV
        have zV1 : (V.alloc (.cells #[.int .i64 x.id, .slice x.sa x.sn x.sc, .slice x.ra x.rn x.rc] 73)).cell? ⟨xb, 0, none⟩ = some (.int .i64 x.id) ∧ (V.alloc (.cells #[.int .i64 x.id, .slice x.sa x.sn x.sc, .slice x.ra x.rn x.rc] 73)).cell? ⟨xb, 1, none⟩ = some (.slice x.sa x.sn x.sc) ∧ (V.alloc (.cells #[.int .i64 x.id, .slice x.sa x.sn x.sc, .slice x.ra x.rn x.rc] 73)).cell? ⟨xb, 2, none⟩ = some (.slice x.ra x.rn x.rc) := ⟨past zV.1, past zV.2.1, past zV.2.2⟩
        have xV2 := range_turn xV TV2 id
        have zV2 : V2.cell? ⟨xb, 0, none⟩ = some (.int .i64 x.id) ∧ V2.cell? ⟨xb, 1, none⟩ = some (.slice x.sa x.sn x.sc) ∧ V2.cell? ⟨xb, 2, none⟩ = some (.slice x.ra x.rn x.rc) := ⟨xV2 0 _ rfl, xV2 1 _ rfl, xV2 2 _ rfl⟩
        have zV3 : V3.cell? ⟨xb, 0, none⟩ = some (.int .i64 x.id) ∧ V3.cell? ⟨xb, 1, none⟩ = some (.slice x.sa x.sn x.sc) ∧ V3.cell? ⟨xb, 2, none⟩ = some (.slice x.ra x.rn x.rc) := ⟨xV3 0 _ rfl, xV3 1 _ rfl, xV3 2 _ rfl⟩
        have zV4 : (V3.setCell ⟨ob, kq * 4, none⟩ (.slice ga (L.length + 1) gc)).cell? ⟨xb, 0, none⟩ = some (.int .i64 x.id) ∧ (V3.setCell ⟨ob, kq * 4, none⟩ (.slice ga (L.length + 1) gc)).cell? ⟨xb, 1, none⟩ = some (.slice x.sa x.sn x.sc) ∧ (V3.setCell ⟨ob, kq * 4, none⟩ (.slice ga (L.length + 1) gc)).cell? ⟨xb, 2, none⟩ = some (.slice x.ra x.rn x.rc) := ⟨(cell_far _ _ _ _ _ _ nx).trans zV3.1, (cell_far _ _ _ _ _ _ nx).trans zV3.2.1, (cell_far _ _ _ _ _ _ nx).trans zV3.2.2⟩
        have ein : insK Ht.id (O kq).hits x = L.take P ++ x :: L.drop P := by unfold insK; rw [hL, hP]
        have hlen : (insK Ht.id (O kq).hits x).length = L.length + 1 := by rw [insK_len, hL]
        have CF := C3.put l3 hk3 hxabs (hxF.turn (TbV.trans TV3) (fun _ _ f => f.elim)) (v := .slice ga (L.length + 1) gc) (by rw [hlen, ein]; exact own3)
        have ei : wrap64 ((i : Int) + 1) = (i : Int) + 1 := by unfold wrap64; omega
        have FIN := Lib.hid (show HRel w a stamp (.slice (some ⟨hb, ho, none⟩) a.hits.length hc) (.slice la a.lost.length lc) sb rb ob (min a.hits.length 6 - (i + 1)) (.int .i64 ((i : Int) + 1)) (V3.setCell ⟨ob, kq * 4, none⟩ (.slice ga (L.length + 1) gc)) from ⟨i + 1, _, congrArg (Value.int .i64) (Int.natCast_succ i).symm, hlt, rfl, CF⟩)
        have hpi : (P : Int) ≤ (L.length : Int) := by omega
        have hpv : P ≤ vc := by omega
        have RUN1 := Lib.hid RUN1
        have RUN2 := Lib.hid RUN2
        clear hi hg hlt CC hxabs hk3 hL hP l3 hxB hxF hxr hr2 n6 hT2 ho2 hor hT3 TV TbV CV xV oV hs TV2 own3 TV3 C3 B3 xV3 xV2 ein hlen CF nx yo2 yo3 hvg
        go_upto_region 27 with fail
        refine wp_region_held_drew (S := (fun w' => w'.cell? ⟨xb, 0, none⟩ = some (.int .i64 x.id) ∧ w'.cell? ⟨xb, 1, none⟩ = some (.slice x.sa x.sn x.sc) ∧ w'.cell? ⟨xb, 2, none⟩ = some (.slice x.ra x.rn x.rc))) (by kernel_rfl) ?hs0 (fun hS0 => ?_)
        case hs0 => ((try dsimp only); first | with_reducible exact zD | with_reducible exact zV | with_reducible exact zV1 | with_reducible exact zV2 | with_reducible exact zV3 | with_reducible exact zV4)
        rw [← hV] at hS0 ⊢
        clear hV
        refine wpAnyH_take (i := 0) (oi := { dst := some 128, op := Op.move (Operand.tmp 7), type := 44, pos := "law.go:67", after := #[], guard := none }) (v := ?_) rfl (by kernel_rfl) (by kernel_rfl) (by kernel_rfl) (fun _ _ _ h => h) (Or.inl ⟨by rfl, ?hy1⟩) hS0 ?_
        case hy1 => (intro w hSw; (try dsimp only at hSw); go_simp; try with_reducible rfl)
        try simp only [Act.put, List.setIfInBounds_toArray, List.set_cons_zero, List.set_cons_succ]
        refine wpAnyH_take (i := 1) (oi := { dst := some 129, op := Op.move (Operand.tmp 9), type := 3, pos := "law.go:67", after := #[], guard := none }) (v := ?_) rfl (by kernel_rfl) (by kernel_rfl) (by kernel_rfl) (fun _ _ _ h => h) (Or.inl ⟨by rfl, ?hy2⟩) hS0 ?_
        case hy2 => (intro w hSw; (try dsimp only at hSw); go_simp; try with_reducible rfl)
        try simp only [Act.put, List.setIfInBounds_toArray, List.set_cons_zero, List.set_cons_succ]
        refine wpAnyH_take (i := 2) (oi := { dst := some 130, op := Op.move (Operand.tmp 7), type := 44, pos := "law.go:67", after := #[], guard := none }) (v := ?_) rfl (by kernel_rfl) (by kernel_rfl) (by kernel_rfl) (fun _ _ _ h => h) (Or.inl ⟨by rfl, ?hy3⟩) hS0 ?_
        case hy3 => (intro w hSw; (try dsimp only at hSw); go_simp; try with_reducible rfl)
        try simp only [Act.put, List.setIfInBounds_toArray, List.set_cons_zero, List.set_cons_succ]
        refine wpAnyH_take (i := 3) (oi := { dst := some 131, op := Op.move (Operand.tmp 9), type := 3, pos := "law.go:67", after := #[], guard := none }) (v := ?_) rfl (by kernel_rfl) (by kernel_rfl) (by kernel_rfl) (fun _ _ _ h => h) (Or.inl ⟨by rfl, ?hy4⟩) hS0 ?_
        case hy4 => (intro w hSw; (try dsimp only at hSw); go_simp; try with_reducible rfl)
        try simp only [Act.put, List.setIfInBounds_toArray, List.set_cons_zero, List.set_cons_succ]
        refine wpAnyH_take (i := 4) (oi := { dst := some 132, op := Op.indexAddr 44 (Operand.tmp 130) (Operand.tmp 131), type := 0, pos := "law.go:67", after := #[{ on := 2, ground := Ground.data }, { on := 3, ground := Ground.data }], guard := none }) (v := ?_) rfl (by kernel_rfl) (by kernel_rfl) (by kernel_rfl) (fun _ _ _ h => h) (Or.inl ⟨by rfl, ?hy5⟩) hS0 ?_
        case hy5 => (intro w hSw; (try dsimp only at hSw); go_simp; try with_reducible rfl)
        try simp only [Act.put, List.setIfInBounds_toArray, List.set_cons_zero, List.set_cons_succ]
        refine wpAnyH_take (i := 5) (oi := { dst := some 133, op := Op.fieldAddr 68 (Operand.tmp 132) 0, type := 0, pos := "law.go:67", after := #[{ on := 4, ground := Ground.data }], guard := none }) (v := ?_) rfl (by kernel_rfl) (by kernel_rfl) (by kernel_rfl) (fun _ _ _ h => h) (Or.inl ⟨by rfl, ?hy6⟩) hS0 ?_
        case hy6 => (intro w hSw; (try dsimp only at hSw); go_simp; try with_reducible rfl)
        try simp only [Act.put, List.setIfInBounds_toArray, List.set_cons_zero, List.set_cons_succ]
        refine wpAnyH_take (i := 7) (oi := { dst := some 135, op := Op.move (Operand.tmp 11), type := 3, pos := "law.go:67", after := #[], guard := none }) (v := ?_) rfl (by kernel_rfl) (by kernel_rfl) (by kernel_rfl) (fun _ _ _ h => h) (Or.inl ⟨by rfl, ?hy7⟩) hS0 ?_
        case hy7 => (intro w hSw; (try dsimp only at hSw); go_simp; try with_reducible rfl)
        try simp only [Act.put, List.setIfInBounds_toArray, List.set_cons_zero, List.set_cons_succ]
        refine wpAnyH_take (i := 8) (oi := { dst := some 136, op := Op.move (Operand.tmp 11), type := 3, pos := "law.go:67", after := #[], guard := none }) (v := ?_) rfl (by kernel_rfl) (by kernel_rfl) (by kernel_rfl) (fun _ _ _ h => h) (Or.inl ⟨by rfl, ?hy8⟩) hS0 ?_
        case hy8 => (intro w hSw; (try dsimp only at hSw); go_simp; try with_reducible rfl)
        try simp only [Act.put, List.setIfInBounds_toArray, List.set_cons_zero, List.set_cons_succ]
        refine wpAnyH_take (i := 10) (oi := { dst := some 138, op := Op.load 73 (Operand.tmp 10), type := 73, pos := "law.go:67", after := #[], guard := none }) (v := ?_) rfl (by kernel_rfl) (by kernel_rfl) (by kernel_rfl) (fun _ _ _ h => h) (Or.inl ⟨by rfl, ?hy9⟩) hS0 ?_
        case hy9 => (intro w hSw; (try dsimp only at hSw); go_simp; try with_reducible rfl)
        try simp only [Act.put, List.setIfInBounds_toArray, List.set_cons_zero, List.set_cons_succ]
        refine wpAnyH_take (i := 13) (oi := { dst := some 141, op := Op.move (Operand.tmp 12), type := 66, pos := "law.go:67", after := #[], guard := none }) (v := ?_) rfl (by kernel_rfl) (by kernel_rfl) (by kernel_rfl) (fun _ _ _ h => h) (Or.inl ⟨by rfl, ?hy10⟩) hS0 ?_
        case hy10 => (intro w hSw; (try dsimp only at hSw); go_simp; try with_reducible rfl)
        try simp only [Act.put, List.setIfInBounds_toArray, List.set_cons_zero, List.set_cons_succ]
        refine wpAnyH_ready (rs := [6, 11]) (by kernel_rfl) (by simp) ?_
        refine AllReadyH.cons (o := { dst := some 134, op := Op.load 66 (Operand.tmp 133), type := 66, pos := "law.go:67", after := #[{ on := 5, ground := Ground.data }], guard := none }) rfl (fun K hK => ?_) ?_
        · go_simp
          refine hK.out _ _ ?hs11 (fun hS11 => ?_)
          case hs11 => ((try dsimp only); first | with_reducible exact zD | with_reducible exact zV | with_reducible exact zV1 | with_reducible exact zV2 | with_reducible exact zV3 | with_reducible exact zV4)
          clear hK K hS0
          refine wpAnyH_take (i := 9) (oi := { dst := some 137, op := Op.slice 66 (Operand.tmp 134) none (some (Operand.tmp 135)) (some (Operand.tmp 136)), type := 66, pos := "law.go:67", after := #[{ on := 6, ground := Ground.data }, { on := 7, ground := Ground.data }, { on := 8, ground := Ground.data }], guard := none }) (v := ?_) rfl (by kernel_rfl) (by kernel_rfl) (by kernel_rfl) (fun _ _ _ h => h) (Or.inl ⟨by rfl, ?hy12⟩) hS11 ?_
          case hy12 => (intro w hSw; (try dsimp only at hSw); go_simp; try with_reducible rfl)
          try simp only [Act.put, List.setIfInBounds_toArray, List.set_cons_zero, List.set_cons_succ]
          refine wpAnyH_ready (rs := [11]) (by kernel_rfl) (by simp) ?_
          refine AllReadyH.cons (o := { dst := some 139, op := Op.buildSlice 66 1 #[(0, Operand.tmp 138)], type := 66, pos := "law.go:67", after := #[{ on := 10, ground := Ground.data }], guard := none }) rfl (fun K hK => ?_) ?_
          · go_simp
            refine hK.out _ _ ?hs13 (fun hS13 => ?_)
            case hs13 => ((try dsimp only); first | with_reducible exact zD | with_reducible exact zV | with_reducible exact zV1 | with_reducible exact zV2 | with_reducible exact zV3 | with_reducible exact zV4)
            clear hK K hS11
            refine wpAnyH_ready (rs := [12]) (by kernel_rfl) (by simp) ?_
            refine AllReadyH.cons (o := { dst := some 140, op := Op.call { callee := Callee.builtin Builtin.append, args := #[Operand.tmp 137, Operand.tmp 139], argTypes := #[66, 66] }, type := 66, pos := "law.go:67", after := #[{ on := 9, ground := Ground.data }, { on := 11, ground := Ground.data }], guard := none }) rfl (fun K hK => ?_) ?_
            · refine rs_append_run (by rfl) _ _ _ (by rfl) (by rfl) (by rfl) RUN1.out ?_
              refine hK.out _ _ ?hs14 (fun hS14 => ?_)
              case hs14 => ((try dsimp only); first | with_reducible exact zD | with_reducible exact zV | with_reducible exact zV1 | with_reducible exact zV2 | with_reducible exact zV3 | with_reducible exact zV4)
              clear hK K hS13
              refine wpAnyH_ready (rs := [14]) (by kernel_rfl) (by simp) ?_
              refine AllReadyH.cons (o := { dst := some 142, op := Op.call { callee := Callee.builtin Builtin.append, args := #[Operand.tmp 140, Operand.tmp 141], argTypes := #[66, 66] }, type := 66, pos := "law.go:67", after := #[{ on := 12, ground := Ground.data }, { on := 13, ground := Ground.data }, { on := 12, ground := Ground.chain }], guard := none }) rfl (fun K hK => ?_) ?_
              · refine rs_append_run (by rfl) _ _ _ (by rfl) (by rfl) (by rfl) RUN2.out ?_
                refine hK.out _ _ ?hs15 (fun hS15 => ?_)
                case hs15 => ((try dsimp only); first | with_reducible exact zD | with_reducible exact zV | with_reducible exact zV1 | with_reducible exact zV2 | with_reducible exact zV3 | with_reducible exact zV4)
                clear hK K hS14
                refine wpAnyH_take (i := 15) (oi := { dst := some 143, op := Op.indexAddr 44 (Operand.tmp 128) (Operand.tmp 129), type := 0, pos := "law.go:67", after := #[{ on := 0, ground := Ground.data }, { on := 1, ground := Ground.data }, { on := 0, ground := Ground.phase }, { on := 1, ground := Ground.phase }, { on := 2, ground := Ground.phase }, { on := 3, ground := Ground.phase }, { on := 4, ground := Ground.phase }, { on := 5, ground := Ground.phase }, { on := 6, ground := Ground.phase }, { on := 7, ground := Ground.phase }, { on := 8, ground := Ground.phase }, { on := 9, ground := Ground.phase }, { on := 10, ground := Ground.phase }, { on := 11, ground := Ground.phase }, { on := 12, ground := Ground.phase }, { on := 13, ground := Ground.phase }, { on := 14, ground := Ground.phase }], guard := none }) (v := ?_) rfl (by kernel_rfl) (by kernel_rfl) (by kernel_rfl) (fun _ _ _ h => h) (Or.inl ⟨by rfl, ?hy16⟩) hS15 ?_
                case hy16 => (intro w hSw; (try dsimp only at hSw); go_simp; try with_reducible rfl)
                try simp only [Act.put, List.setIfInBounds_toArray, List.set_cons_zero, List.set_cons_succ]
                refine wpAnyH_take (i := 16) (oi := { dst := some 144, op := Op.fieldAddr 68 (Operand.tmp 143) 0, type := 0, pos := "law.go:67", after := #[{ on := 15, ground := Ground.data }, { on := 0, ground := Ground.phase }, { on := 1, ground := Ground.phase }, { on := 2, ground := Ground.phase }, { on := 3, ground := Ground.phase }, { on := 4, ground := Ground.phase }, { on := 5, ground := Ground.phase }, { on := 6, ground := Ground.phase }, { on := 7, ground := Ground.phase }, { on := 8, ground := Ground.phase }, { on := 9, ground := Ground.phase }, { on := 10, ground := Ground.phase }, { on := 11, ground := Ground.phase }, { on := 12, ground := Ground.phase }, { on := 13, ground := Ground.phase }, { on := 14, ground := Ground.phase }], guard := none }) (v := ?_) rfl (by kernel_rfl) (by kernel_rfl) (by kernel_rfl) (fun _ _ _ h => h) (Or.inl ⟨by rfl, ?hy17⟩) hS15 ?_
                case hy17 => (intro w hSw; (try dsimp only at hSw); go_simp; try with_reducible rfl)
                try simp only [Act.put, List.setIfInBounds_toArray, List.set_cons_zero, List.set_cons_succ]
                refine wpAnyH_ready (rs := [17]) (by kernel_rfl) (by simp) ?_
                refine AllReadyH.cons (o := { dst := none, op := Op.store 66 (Operand.tmp 144) (Operand.tmp 142), type := 0, pos := "law.go:67", after := #[{ on := 16, ground := Ground.data }, { on := 14, ground := Ground.data }, { on := 14, ground := Ground.chain }, { on := 0, ground := Ground.phase }, { on := 1, ground := Ground.phase }, { on := 2, ground := Ground.phase }, { on := 3, ground := Ground.phase }, { on := 4, ground := Ground.phase }, { on := 5, ground := Ground.phase }, { on := 6, ground := Ground.phase }, { on := 7, ground := Ground.phase }, { on := 8, ground := Ground.phase }, { on := 9, ground := Ground.phase }, { on := 10, ground := Ground.phase }, { on := 11, ground := Ground.phase }, { on := 12, ground := Ground.phase }, { on := 13, ground := Ground.phase }, { on := 14, ground := Ground.phase }], guard := none }) rfl (fun K hK => ?_) ?_
                · go_simp
                  refine hK.out _ _ ?hs18 (fun hS18 => ?_)
                  case hs18 => ((try dsimp only); first | with_reducible exact zD | with_reducible exact zV | with_reducible exact zV1 | with_reducible exact zV2 | with_reducible exact zV3 | with_reducible exact zV4)
                  clear hK K hS15
                  refine wpAnyH_done (by kernel_rfl) ?_ _
                  clear zD zV zV1 zV2 zV3 zV4 yV yV1 y3 fz3
                  go_wp2_with fail
                  go_roundg (min a.hits.length 6 - (i + 1))
                  case measure => have := G2.out.2.1; have := G2.out.2.2.1; omega
                  case rel => first | exact FIN.out | (rw [ei]; exact FIN.out)
                exact AllReadyH.nil
              exact AllReadyH.nil
            exact AllReadyH.nil
          exact AllReadyH.nil
        refine AllReadyH.cons (o := { dst := some 139, op := Op.buildSlice 66 1 #[(0, Operand.tmp 138)], type := 66, pos := "law.go:67", after := #[{ on := 10, ground := Ground.data }], guard := none }) rfl (fun K hK => ?_) ?_
        · go_simp
          refine hK.out _ _ ?hs19 (fun hS19 => ?_)
          case hs19 => ((try dsimp only); first | with_reducible exact zD | with_reducible exact zV | with_reducible exact zV1 | with_reducible exact zV2 | with_reducible exact zV3 | with_reducible exact zV4)
          clear hK K hS0
          refine wpAnyH_ready (rs := [6]) (by kernel_rfl) (by simp) ?_
          refine AllReadyH.cons (o := { dst := some 134, op := Op.load 66 (Operand.tmp 133), type := 66, pos := "law.go:67", after := #[{ on := 5, ground := Ground.data }], guard := none }) rfl (fun K hK => ?_) ?_
          · go_simp
            refine hK.out _ _ ?hs20 (fun hS20 => ?_)
            case hs20 => ((try dsimp only); first | with_reducible exact zD | with_reducible exact zV | with_reducible exact zV1 | with_reducible exact zV2 | with_reducible exact zV3 | with_reducible exact zV4)
            clear hK K hS19
            refine wpAnyH_take (i := 9) (oi := { dst := some 137, op := Op.slice 66 (Operand.tmp 134) none (some (Operand.tmp 135)) (some (Operand.tmp 136)), type := 66, pos := "law.go:67", after := #[{ on := 6, ground := Ground.data }, { on := 7, ground := Ground.data }, { on := 8, ground := Ground.data }], guard := none }) (v := ?_) rfl (by kernel_rfl) (by kernel_rfl) (by kernel_rfl) (fun _ _ _ h => h) (Or.inl ⟨by rfl, ?hy21⟩) hS20 ?_
            case hy21 => (intro w hSw; (try dsimp only at hSw); go_simp; try with_reducible rfl)
            try simp only [Act.put, List.setIfInBounds_toArray, List.set_cons_zero, List.set_cons_succ]
            refine wpAnyH_ready (rs := [12]) (by kernel_rfl) (by simp) ?_
            refine AllReadyH.cons (o := { dst := some 140, op := Op.call { callee := Callee.builtin Builtin.append, args := #[Operand.tmp 137, Operand.tmp 139], argTypes := #[66, 66] }, type := 66, pos := "law.go:67", after := #[{ on := 9, ground := Ground.data }, { on := 11, ground := Ground.data }], guard := none }) rfl (fun K hK => ?_) ?_
            · refine rs_append_run (by rfl) _ _ _ (by rfl) (by rfl) (by rfl) RUN1.out ?_
              refine hK.out _ _ ?hs22 (fun hS22 => ?_)
              case hs22 => ((try dsimp only); first | with_reducible exact zD | with_reducible exact zV | with_reducible exact zV1 | with_reducible exact zV2 | with_reducible exact zV3 | with_reducible exact zV4)
              clear hK K hS20
              refine wpAnyH_ready (rs := [14]) (by kernel_rfl) (by simp) ?_
              refine AllReadyH.cons (o := { dst := some 142, op := Op.call { callee := Callee.builtin Builtin.append, args := #[Operand.tmp 140, Operand.tmp 141], argTypes := #[66, 66] }, type := 66, pos := "law.go:67", after := #[{ on := 12, ground := Ground.data }, { on := 13, ground := Ground.data }, { on := 12, ground := Ground.chain }], guard := none }) rfl (fun K hK => ?_) ?_
              · refine rs_append_run (by rfl) _ _ _ (by rfl) (by rfl) (by rfl) RUN2.out ?_
                refine hK.out _ _ ?hs23 (fun hS23 => ?_)
                case hs23 => ((try dsimp only); first | with_reducible exact zD | with_reducible exact zV | with_reducible exact zV1 | with_reducible exact zV2 | with_reducible exact zV3 | with_reducible exact zV4)
                clear hK K hS22
                refine wpAnyH_take (i := 15) (oi := { dst := some 143, op := Op.indexAddr 44 (Operand.tmp 128) (Operand.tmp 129), type := 0, pos := "law.go:67", after := #[{ on := 0, ground := Ground.data }, { on := 1, ground := Ground.data }, { on := 0, ground := Ground.phase }, { on := 1, ground := Ground.phase }, { on := 2, ground := Ground.phase }, { on := 3, ground := Ground.phase }, { on := 4, ground := Ground.phase }, { on := 5, ground := Ground.phase }, { on := 6, ground := Ground.phase }, { on := 7, ground := Ground.phase }, { on := 8, ground := Ground.phase }, { on := 9, ground := Ground.phase }, { on := 10, ground := Ground.phase }, { on := 11, ground := Ground.phase }, { on := 12, ground := Ground.phase }, { on := 13, ground := Ground.phase }, { on := 14, ground := Ground.phase }], guard := none }) (v := ?_) rfl (by kernel_rfl) (by kernel_rfl) (by kernel_rfl) (fun _ _ _ h => h) (Or.inl ⟨by rfl, ?hy24⟩) hS23 ?_
                case hy24 => (intro w hSw; (try dsimp only at hSw); go_simp; try with_reducible rfl)
                try simp only [Act.put, List.setIfInBounds_toArray, List.set_cons_zero, List.set_cons_succ]
                refine wpAnyH_take (i := 16) (oi := { dst := some 144, op := Op.fieldAddr 68 (Operand.tmp 143) 0, type := 0, pos := "law.go:67", after := #[{ on := 15, ground := Ground.data }, { on := 0, ground := Ground.phase }, { on := 1, ground := Ground.phase }, { on := 2, ground := Ground.phase }, { on := 3, ground := Ground.phase }, { on := 4, ground := Ground.phase }, { on := 5, ground := Ground.phase }, { on := 6, ground := Ground.phase }, { on := 7, ground := Ground.phase }, { on := 8, ground := Ground.phase }, { on := 9, ground := Ground.phase }, { on := 10, ground := Ground.phase }, { on := 11, ground := Ground.phase }, { on := 12, ground := Ground.phase }, { on := 13, ground := Ground.phase }, { on := 14, ground := Ground.phase }], guard := none }) (v := ?_) rfl (by kernel_rfl) (by kernel_rfl) (by kernel_rfl) (fun _ _ _ h => h) (Or.inl ⟨by rfl, ?hy25⟩) hS23 ?_
                case hy25 => (intro w hSw; (try dsimp only at hSw); go_simp; try with_reducible rfl)
                try simp only [Act.put, List.setIfInBounds_toArray, List.set_cons_zero, List.set_cons_succ]
                refine wpAnyH_ready (rs := [17]) (by kernel_rfl) (by simp) ?_
                refine AllReadyH.cons (o := { dst := none, op := Op.store 66 (Operand.tmp 144) (Operand.tmp 142), type := 0, pos := "law.go:67", after := #[{ on := 16, ground := Ground.data }, { on := 14, ground := Ground.data }, { on := 14, ground := Ground.chain }, { on := 0, ground := Ground.phase }, { on := 1, ground := Ground.phase }, { on := 2, ground := Ground.phase }, { on := 3, ground := Ground.phase }, { on := 4, ground := Ground.phase }, { on := 5, ground := Ground.phase }, { on := 6, ground := Ground.phase }, { on := 7, ground := Ground.phase }, { on := 8, ground := Ground.phase }, { on := 9, ground := Ground.phase }, { on := 10, ground := Ground.phase }, { on := 11, ground := Ground.phase }, { on := 12, ground := Ground.phase }, { on := 13, ground := Ground.phase }, { on := 14, ground := Ground.phase }], guard := none }) rfl (fun K hK => ?_) ?_
                · go_simp
                  refine hK.out _ _ ?hs26 (fun hS26 => ?_)
                  case hs26 => ((try dsimp only); first | with_reducible exact zD | with_reducible exact zV | with_reducible exact zV1 | with_reducible exact zV2 | with_reducible exact zV3 | with_reducible exact zV4)
                  clear hK K hS23
                  refine wpAnyH_done (by kernel_rfl) ?_ _
                  clear zD zV zV1 zV2 zV3 zV4 yV yV1 y3 fz3
                  go_wp2_with fail
                  go_roundg (min a.hits.length 6 - (i + 1))
                  case measure => have := G2.out.2.1; have := G2.out.2.2.1; omega
                  case rel => first | exact FIN.out | (rw [ei]; exact FIN.out)
                exact AllReadyH.nil
              exact AllReadyH.nil
            exact AllReadyH.nil
          exact AllReadyH.nil
        exact AllReadyH.nil
      · obtain rfl : i = min a.hits.length 6 := by omega
        have y3 : wr.cell? ⟨sb, 3, none⟩ = some (.slice ha a.hits.length hc) := C.box 3 _ rfl
        have FIN := Lib.hid (show HEnd w a stamp (.slice ha a.hits.length hc) (.slice la a.lost.length lc) sb rb ob wr from ⟨O, C⟩)
        generalize hmm : min a.hits.length 6 = mm at *
        clear C hi hg hlt
        by_cases h6 : mm < a.hits.length
        · obtain rfl : mm = 6 := by omega
          have u1 : decide ((6 : Int) < (a.hits.length : Int)) = true := decide_eq_true (by omega)
          have u2 : decide (6 < a.hits.length) = true := decide_eq_true (by omega)
          clear hmm h6
          go_wp2_with fail
          go_meet
          case rel => exact FIN.out
        · have u1 : decide ((mm : Int) < (a.hits.length : Int)) = false := decide_eq_false (by omega)
          have u2 : decide (mm < a.hits.length) = false := decide_eq_false (by omega)
          clear hmm h6
          go_wp2_with fail
          go_meet
          case rel => exact FIN.out
  case rest =>
  obtain ⟨O1, C1⟩ := hcut
  have R2 : LRel w a stamp (.slice ha a.hits.length hc) (.slice la a.lost.length lc) sb rb ob (min a.lost.length 2) (.int .i64 0) wc := ⟨0, O1, rfl, Nat.zero_le _, rfl, C1⟩
  clear C1
  generalize wc = wm at *
  go_upto_block 5 with fail
  go_cut [13] (fun v13 wx => LEnd w a stamp (.slice ha a.hits.length hc) (.slice la a.lost.length lc) sb rb ob wx)
  case first =>
    go_wp2_with fail
    go_loopg [13] (min a.lost.length 2) (fun gh v13 wr => LRel w a stamp (.slice ha a.hits.length hc) (.slice la a.lost.length lc) sb rb ob gh v13 wr)
    case atStart => exact R2
    case round =>
      clear R2
      obtain ⟨j, O, rfl, hj, hg, C⟩ := hrel
      by_cases hlt : j < min a.lost.length 2
      · have u1 : decide ((j : Int) < (a.lost.length : Int)) = true := decide_eq_true (by omega)
        have u2 : decide (j < a.lost.length) = true := decide_eq_true (by omega)
        have u3 : decide ((j : Int) < 2) = true := decide_eq_true (by omega)
        have j0 : (0 : Int) ≤ (j : Int) := by omega
        have j1 : (j : Int) < (a.lost.length : Int) := by omega
        have j2 : (j : Int) < 3 := by omega
        have y4 : wr.cell? ⟨sb, 4, none⟩ = some (.slice la a.lost.length lc) := C.box 4 _ rfl
        obtain ⟨lx, hxi⟩ : ∃ x, a.lost[j]? = some x := ⟨_, List.getElem?_eq_getElem (by omega)⟩
        have hgd : a.lost.getD j 0 = lx := by rw [List.getD_eq_getElem?_getD, hxi]; rfl
        obtain ⟨lb, lo, e1, e2⟩ := HL.out
        have ea := e1.resolve_left (fun e => by rw [e] at hxi; simp at hxi)
        subst ea
        have y6 : wr.cell? ⟨lb, lo + j, none⟩ = some (.int .i64 lx) := C.turn.cell id (e2 j lx hxi)
        have A12 := Lib.hid (rest_12 lx)
        obtain ⟨qx, hqx⟩ : ∃ q : Int, (restN lx 12 : Int) = q := ⟨_, rfl⟩
        have HQ := Lib.hid hqx
        have hnil : (O j).lost = [] := by rw [C.lost j (by omega)]; unfold lostA; rw [if_neg (by omega)]
        obtain ⟨V, hV⟩ : ∃ V, V = wr.drew := ⟨_, rfl⟩
        have TV : Turn (fun _ => False) wr V := by rw [hV]; exact (Turn.refl _ wr).drewN 1
        have CV := C.turns TV
        have yV : V.cell? ⟨ob, j * 4 + 1, none⟩ = some (.slice none 0 0) := CV.lnil j (by omega) hnil
        have yV1 : (V.alloc (.cells #[.int .i64 qx] 3)).cell? ⟨ob, j * 4 + 1, none⟩ = some (.slice none 0 0) := past yV
        have T1 : Turn (fun _ => False) V (V.alloc (.cells #[.int .i64 qx] 3)) := (Turn.refl _ V).alloc _
        have R1 : (V.alloc (.cells #[.int .i64 qx] 3)).rangeAt V.heap.size 0 [.int .i64 qx] := range_new V [.int .i64 qx] 3
        obtain ⟨i3, p1, p2, p3, p4⟩ := info_parts info3c
        obtain ⟨cap1, V3, RUN1, own1, T2⟩ := app_full (W := V.alloc (.cells #[.int .i64 qx] 3)) 46 3 Try.underlying46 p1 p2 p3 p4 rfl (s := .slice none 0 0) (n := 0) (m := 1) (c := 1) (a := ⟨V.heap.size, 0, none⟩) (olds := []) (news := [.int .i64 qx]) (.inl ⟨rfl, rfl, rfl⟩) rfl rfl (fun k u hu => by
          rw [Go.WideShapes.add_plain]
          exact R1 k u hu) (by omega) (by omega) (by omega)
        rw [Nat.zero_add] at RUN1 own1
        generalize hcb : (V.alloc (.cells #[.int .i64 qx] 3)).heap.size = cb at RUN1 own1
        have TV3 := T1.trans T2
        have C3 := CV.turns TV3
        have B3 := C3.bob
        have y3 : V3.cell? ⟨ob, j * 4 + 1, none⟩ = some (.slice none 0 0) := TV3.cell id yV
        have fz3 : V3.frozen? ⟨ob, j * 4 + 1, none⟩ = false := B3.fz _
        have nsb : ob ≠ sb := B3.ne C3.bsb (by decide)
        have nlb : ob ≠ lb := fun e => by have := C3.hob; have := block_lt_of_cell (e2 j lx hxi); dsimp only at this; omega
        have zV : V.cell? ⟨sb, 4, none⟩ = some (.slice (some ⟨lb, lo, none⟩) a.lost.length lc) ∧ V.cell? ⟨lb, lo + j, none⟩ = some (.int .i64 lx) := ⟨TV.cell id y4, TV.cell id y6⟩
        have zD : wr.drew.cell? ⟨sb, 4, none⟩ = some (.slice (some ⟨lb, lo, none⟩) a.lost.length lc) ∧ wr.drew.cell? ⟨lb, lo + j, none⟩ = some (.int .i64 lx) := by rw [← hV]; exact zV
        have zV1 : (V.alloc (.cells #[.int .i64 qx] 3)).cell? ⟨sb, 4, none⟩ = some (.slice (some ⟨lb, lo, none⟩) a.lost.length lc) ∧ (V.alloc (.cells #[.int .i64 qx] 3)).cell? ⟨lb, lo + j, none⟩ = some (.int .i64 lx) := ⟨past zV.1, past zV.2⟩
        have zV3 : V3.cell? ⟨sb, 4, none⟩ = some (.slice (some ⟨lb, lo, none⟩) a.lost.length lc) ∧ V3.cell? ⟨lb, lo + j, none⟩ = some (.int .i64 lx) := ⟨TV3.cell id zV.1, TV3.cell id zV.2⟩
        have zV4 : (V3.setCell ⟨ob, j * 4 + 1, none⟩ (.slice (some ⟨cb, 0, none⟩) 1 cap1)).cell? ⟨sb, 4, none⟩ = some (.slice (some ⟨lb, lo, none⟩) a.lost.length lc) ∧ (V3.setCell ⟨ob, j * 4 + 1, none⟩ (.slice (some ⟨cb, 0, none⟩) 1 cap1)).cell? ⟨lb, lo + j, none⟩ = some (.int .i64 lx) := ⟨(cell_far _ _ _ _ _ _ nsb).trans zV3.1, (cell_far _ _ _ _ _ _ nlb).trans zV3.2⟩
        have CF := C3.lose (by omega) (v := .slice (some ⟨cb, 0, none⟩) 1 cap1) hnil (by rw [hgd, hqx]; exact own_base own1 (by rw [← hcb]; exact (CV.turn.trans T1).size))
        have ej : wrap64 ((j : Int) + 1) = (j : Int) + 1 := by unfold wrap64; omega
        have FIN := Lib.hid (show LRel w a stamp (.slice ha a.hits.length hc) (.slice (some ⟨lb, lo, none⟩) a.lost.length lc) sb rb ob (min a.lost.length 2 - (j + 1)) (.int .i64 ((j : Int) + 1)) (V3.setCell ⟨ob, j * 4 + 1, none⟩ (.slice (some ⟨cb, 0, none⟩) 1 cap1)) from ⟨j + 1, _, congrArg (Value.int .i64) (Int.natCast_succ j).symm, hlt, rfl, CF⟩)
        have RUN1 := Lib.hid RUN1
        have G := Lib.hid (And.intro hg hlt)
        clear hj hg C hlt hgd e1 e2 hxi hqx hnil TV CV T1 R1 own1 T2 hcb TV3 C3 B3 CF nsb nlb p1 p2 p3 p4 y6
        go_upto_region 31 with fail
        clear y4
        refine wp_region_held_drew (S := (fun w' => w'.cell? ⟨sb, 4, none⟩ = some (.slice (some ⟨lb, lo, none⟩) a.lost.length lc) ∧ w'.cell? ⟨lb, lo + j, none⟩ = some (.int .i64 lx))) (by kernel_rfl) ?hs0 (fun hS0 => ?_)
        case hs0 => ((try dsimp only); first | with_reducible exact zD | with_reducible exact zV | with_reducible exact zV1 | with_reducible exact zV3 | with_reducible exact zV4)
        rw [← hV] at hS0 ⊢
        clear hV
        refine wpAnyH_take (i := 0) (oi := { dst := some 156, op := Op.move (Operand.tmp 7), type := 44, pos := "law.go:70", after := #[], guard := none }) (v := ?_) rfl (by kernel_rfl) (by kernel_rfl) (by kernel_rfl) (fun _ _ _ h => h) (Or.inl ⟨by rfl, ?hy1⟩) hS0 ?_
        case hy1 => (intro w hSw; (try dsimp only at hSw); go_simp; try with_reducible rfl)
        try simp only [Act.put, List.setIfInBounds_toArray, List.set_cons_zero, List.set_cons_succ]
        refine wpAnyH_take (i := 1) (oi := { dst := some 157, op := Op.move (Operand.tmp 13), type := 3, pos := "law.go:70", after := #[], guard := none }) (v := ?_) rfl (by kernel_rfl) (by kernel_rfl) (by kernel_rfl) (fun _ _ _ h => h) (Or.inl ⟨by rfl, ?hy2⟩) hS0 ?_
        case hy2 => (intro w hSw; (try dsimp only at hSw); go_simp; try with_reducible rfl)
        try simp only [Act.put, List.setIfInBounds_toArray, List.set_cons_zero, List.set_cons_succ]
        refine wpAnyH_take (i := 2) (oi := { dst := some 158, op := Op.move (Operand.tmp 7), type := 44, pos := "law.go:70", after := #[], guard := none }) (v := ?_) rfl (by kernel_rfl) (by kernel_rfl) (by kernel_rfl) (fun _ _ _ h => h) (Or.inl ⟨by rfl, ?hy3⟩) hS0 ?_
        case hy3 => (intro w hSw; (try dsimp only at hSw); go_simp; try with_reducible rfl)
        try simp only [Act.put, List.setIfInBounds_toArray, List.set_cons_zero, List.set_cons_succ]
        refine wpAnyH_take (i := 3) (oi := { dst := some 159, op := Op.move (Operand.tmp 13), type := 3, pos := "law.go:70", after := #[], guard := none }) (v := ?_) rfl (by kernel_rfl) (by kernel_rfl) (by kernel_rfl) (fun _ _ _ h => h) (Or.inl ⟨by rfl, ?hy4⟩) hS0 ?_
        case hy4 => (intro w hSw; (try dsimp only at hSw); go_simp; try with_reducible rfl)
        try simp only [Act.put, List.setIfInBounds_toArray, List.set_cons_zero, List.set_cons_succ]
        refine wpAnyH_take (i := 4) (oi := { dst := some 160, op := Op.indexAddr 44 (Operand.tmp 158) (Operand.tmp 159), type := 0, pos := "law.go:70", after := #[{ on := 2, ground := Ground.data }, { on := 3, ground := Ground.data }], guard := none }) (v := ?_) rfl (by kernel_rfl) (by kernel_rfl) (by kernel_rfl) (fun _ _ _ h => h) (Or.inl ⟨by rfl, ?hy5⟩) hS0 ?_
        case hy5 => (intro w hSw; (try dsimp only at hSw); go_simp; try with_reducible rfl)
        try simp only [Act.put, List.setIfInBounds_toArray, List.set_cons_zero, List.set_cons_succ]
        refine wpAnyH_take (i := 5) (oi := { dst := some 161, op := Op.fieldAddr 68 (Operand.tmp 160) 1, type := 0, pos := "law.go:70", after := #[{ on := 4, ground := Ground.data }], guard := none }) (v := ?_) rfl (by kernel_rfl) (by kernel_rfl) (by kernel_rfl) (fun _ _ _ h => h) (Or.inl ⟨by rfl, ?hy6⟩) hS0 ?_
        case hy6 => (intro w hSw; (try dsimp only at hSw); go_simp; try with_reducible rfl)
        try simp only [Act.put, List.setIfInBounds_toArray, List.set_cons_zero, List.set_cons_succ]
        refine wpAnyH_take (i := 7) (oi := { dst := some 163, op := Op.fieldAddr 48 (Operand.tmp 2) 4, type := 0, pos := "law.go:70", after := #[], guard := none }) (v := ?_) rfl (by kernel_rfl) (by kernel_rfl) (by kernel_rfl) (fun _ _ _ h => h) (Or.inl ⟨by rfl, ?hy7⟩) hS0 ?_
        case hy7 => (intro w hSw; (try dsimp only at hSw); go_simp; try with_reducible rfl)
        try simp only [Act.put, List.setIfInBounds_toArray, List.set_cons_zero, List.set_cons_succ]
        refine wpAnyH_take (i := 8) (oi := { dst := some 164, op := Op.load 46 (Operand.tmp 163), type := 46, pos := "law.go:70", after := #[{ on := 7, ground := Ground.data }], guard := none }) (v := ?_) rfl (by kernel_rfl) (by kernel_rfl) (by kernel_rfl) (fun _ _ _ h => h) (Or.inl ⟨by rfl, ?hy8⟩) hS0 ?_
        case hy8 => (intro w hSw; (try dsimp only at hSw); go_simp; try with_reducible rfl)
        try simp only [Act.put, List.setIfInBounds_toArray, List.set_cons_zero, List.set_cons_succ]
        refine wpAnyH_take (i := 9) (oi := { dst := some 165, op := Op.move (Operand.tmp 13), type := 3, pos := "law.go:70", after := #[], guard := none }) (v := ?_) rfl (by kernel_rfl) (by kernel_rfl) (by kernel_rfl) (fun _ _ _ h => h) (Or.inl ⟨by rfl, ?hy9⟩) hS0 ?_
        case hy9 => (intro w hSw; (try dsimp only at hSw); go_simp; try with_reducible rfl)
        try simp only [Act.put, List.setIfInBounds_toArray, List.set_cons_zero, List.set_cons_succ]
        refine wpAnyH_take (i := 10) (oi := { dst := some 166, op := Op.indexAddr 46 (Operand.tmp 164) (Operand.tmp 165), type := 0, pos := "law.go:70", after := #[{ on := 8, ground := Ground.data }, { on := 9, ground := Ground.data }], guard := none }) (v := ?_) rfl (by kernel_rfl) (by kernel_rfl) (by kernel_rfl) (fun _ _ _ h => h) (Or.inl ⟨by rfl, ?hy10⟩) hS0 ?_
        case hy10 => (intro w hSw; (try dsimp only at hSw); go_simp; try with_reducible rfl)
        try simp only [Act.put, List.setIfInBounds_toArray, List.set_cons_zero, List.set_cons_succ]
        refine wpAnyH_take (i := 11) (oi := { dst := some 167, op := Op.load 3 (Operand.tmp 166), type := 3, pos := "law.go:70", after := #[{ on := 10, ground := Ground.data }], guard := none }) (v := ?_) rfl (by kernel_rfl) (by kernel_rfl) (by kernel_rfl) (fun _ _ _ h => h) (Or.inl ⟨by rfl, ?hy11⟩) hS0 ?_
        case hy11 => (intro w hSw; (try dsimp only at hSw); go_simp; try with_reducible rfl)
        try simp only [Act.put, List.setIfInBounds_toArray, List.set_cons_zero, List.set_cons_succ]
        refine wpAnyH_ready (rs := [6, 12]) (by kernel_rfl) (by simp) ?_
        refine AllReadyH.cons (o := { dst := some 162, op := Op.load 46 (Operand.tmp 161), type := 46, pos := "law.go:70", after := #[{ on := 5, ground := Ground.data }], guard := none }) rfl (fun K hK => ?_) ?_
        · go_simp
          refine hK.out _ _ ?hs12 (fun hS12 => ?_)
          case hs12 => ((try dsimp only); first | with_reducible exact zD | with_reducible exact zV | with_reducible exact zV1 | with_reducible exact zV3 | with_reducible exact zV4)
          clear hK K hS0
          refine wpAnyH_ready (rs := [12]) (by kernel_rfl) (by simp) ?_
          refine AllReadyH.cons (o := { dst := some 168, op := Op.call { callee := Callee.value (Operand.func 27), args := #[Operand.tmp 167, Operand.const (Value.int IntKind.i64 12)], argTypes := #[3, 3] }, type := 3, pos := "law.go:70", after := #[{ on := 11, ground := Ground.data }], guard := none }) rfl (fun K hK => ?_) ?_
          · go_simp; with_reducible refine (A12.out _).mono ?_; rintro en Wr ⟨rfl, rfl⟩; rw [HQ.out]; go_simp
            refine hK.out _ _ ?hs13 (fun hS13 => ?_)
            case hs13 => ((try dsimp only); first | with_reducible exact zD | with_reducible exact zV | with_reducible exact zV1 | with_reducible exact zV3 | with_reducible exact zV4)
            clear hK K hS12
            refine wpAnyH_ready (rs := [13]) (by kernel_rfl) (by simp) ?_
            refine AllReadyH.cons (o := { dst := some 169, op := Op.buildSlice 46 1 #[(0, Operand.tmp 168)], type := 46, pos := "law.go:70", after := #[{ on := 12, ground := Ground.data }], guard := none }) rfl (fun K hK => ?_) ?_
            · go_simp
              refine hK.out _ _ ?hs14 (fun hS14 => ?_)
              case hs14 => ((try dsimp only); first | with_reducible exact zD | with_reducible exact zV | with_reducible exact zV1 | with_reducible exact zV3 | with_reducible exact zV4)
              clear hK K hS13
              refine wpAnyH_ready (rs := [14]) (by kernel_rfl) (by simp) ?_
              refine AllReadyH.cons (o := { dst := some 170, op := Op.call { callee := Callee.builtin Builtin.append, args := #[Operand.tmp 162, Operand.tmp 169], argTypes := #[46, 46] }, type := 46, pos := "law.go:70", after := #[{ on := 6, ground := Ground.data }, { on := 13, ground := Ground.data }, { on := 12, ground := Ground.chain }], guard := none }) rfl (fun K hK => ?_) ?_
              · refine rs_append_run (by rfl) _ _ _ (by rfl) (by rfl) (by rfl) RUN1.out ?_
                refine hK.out _ _ ?hs15 (fun hS15 => ?_)
                case hs15 => ((try dsimp only); first | with_reducible exact zD | with_reducible exact zV | with_reducible exact zV1 | with_reducible exact zV3 | with_reducible exact zV4)
                clear hK K hS14
                refine wpAnyH_take (i := 15) (oi := { dst := some 171, op := Op.indexAddr 44 (Operand.tmp 156) (Operand.tmp 157), type := 0, pos := "law.go:70", after := #[{ on := 0, ground := Ground.data }, { on := 1, ground := Ground.data }, { on := 0, ground := Ground.phase }, { on := 1, ground := Ground.phase }, { on := 2, ground := Ground.phase }, { on := 3, ground := Ground.phase }, { on := 4, ground := Ground.phase }, { on := 5, ground := Ground.phase }, { on := 6, ground := Ground.phase }, { on := 7, ground := Ground.phase }, { on := 8, ground := Ground.phase }, { on := 9, ground := Ground.phase }, { on := 10, ground := Ground.phase }, { on := 11, ground := Ground.phase }, { on := 12, ground := Ground.phase }, { on := 13, ground := Ground.phase }, { on := 14, ground := Ground.phase }], guard := none }) (v := ?_) rfl (by kernel_rfl) (by kernel_rfl) (by kernel_rfl) (fun _ _ _ h => h) (Or.inl ⟨by rfl, ?hy16⟩) hS15 ?_
                case hy16 => (intro w hSw; (try dsimp only at hSw); go_simp; try with_reducible rfl)
                try simp only [Act.put, List.setIfInBounds_toArray, List.set_cons_zero, List.set_cons_succ]
                refine wpAnyH_take (i := 16) (oi := { dst := some 172, op := Op.fieldAddr 68 (Operand.tmp 171) 1, type := 0, pos := "law.go:70", after := #[{ on := 15, ground := Ground.data }, { on := 0, ground := Ground.phase }, { on := 1, ground := Ground.phase }, { on := 2, ground := Ground.phase }, { on := 3, ground := Ground.phase }, { on := 4, ground := Ground.phase }, { on := 5, ground := Ground.phase }, { on := 6, ground := Ground.phase }, { on := 7, ground := Ground.phase }, { on := 8, ground := Ground.phase }, { on := 9, ground := Ground.phase }, { on := 10, ground := Ground.phase }, { on := 11, ground := Ground.phase }, { on := 12, ground := Ground.phase }, { on := 13, ground := Ground.phase }, { on := 14, ground := Ground.phase }], guard := none }) (v := ?_) rfl (by kernel_rfl) (by kernel_rfl) (by kernel_rfl) (fun _ _ _ h => h) (Or.inl ⟨by rfl, ?hy17⟩) hS15 ?_
                case hy17 => (intro w hSw; (try dsimp only at hSw); go_simp; try with_reducible rfl)
                try simp only [Act.put, List.setIfInBounds_toArray, List.set_cons_zero, List.set_cons_succ]
                refine wpAnyH_ready (rs := [17]) (by kernel_rfl) (by simp) ?_
                refine AllReadyH.cons (o := { dst := none, op := Op.store 46 (Operand.tmp 172) (Operand.tmp 170), type := 0, pos := "law.go:70", after := #[{ on := 16, ground := Ground.data }, { on := 14, ground := Ground.data }, { on := 14, ground := Ground.chain }, { on := 0, ground := Ground.phase }, { on := 1, ground := Ground.phase }, { on := 2, ground := Ground.phase }, { on := 3, ground := Ground.phase }, { on := 4, ground := Ground.phase }, { on := 5, ground := Ground.phase }, { on := 6, ground := Ground.phase }, { on := 7, ground := Ground.phase }, { on := 8, ground := Ground.phase }, { on := 9, ground := Ground.phase }, { on := 10, ground := Ground.phase }, { on := 11, ground := Ground.phase }, { on := 12, ground := Ground.phase }, { on := 13, ground := Ground.phase }, { on := 14, ground := Ground.phase }], guard := none }) rfl (fun K hK => ?_) ?_
                · go_simp
                  refine hK.out _ _ ?hs18 (fun hS18 => ?_)
                  case hs18 => ((try dsimp only); first | with_reducible exact zD | with_reducible exact zV | with_reducible exact zV1 | with_reducible exact zV3 | with_reducible exact zV4)
                  clear hK K hS15
                  refine wpAnyH_done (by kernel_rfl) ?_ _
                  clear zD zV zV1 zV3 zV4 yV yV1 y3 fz3
                  go_wp2_with fail
                  go_roundg (min a.lost.length 2 - (j + 1))
                  case measure => have := G.out.1; have := G.out.2; omega
                  case rel => first | exact FIN.out | (rw [ej]; exact FIN.out)
                exact AllReadyH.nil
              exact AllReadyH.nil
            exact AllReadyH.nil
          exact AllReadyH.nil
        refine AllReadyH.cons (o := { dst := some 168, op := Op.call { callee := Callee.value (Operand.func 27), args := #[Operand.tmp 167, Operand.const (Value.int IntKind.i64 12)], argTypes := #[3, 3] }, type := 3, pos := "law.go:70", after := #[{ on := 11, ground := Ground.data }], guard := none }) rfl (fun K hK => ?_) ?_
        · go_simp; with_reducible refine (A12.out _).mono ?_; rintro en Wr ⟨rfl, rfl⟩; rw [HQ.out]; go_simp
          refine hK.out _ _ ?hs19 (fun hS19 => ?_)
          case hs19 => ((try dsimp only); first | with_reducible exact zD | with_reducible exact zV | with_reducible exact zV1 | with_reducible exact zV3 | with_reducible exact zV4)
          clear hK K hS0
          refine wpAnyH_ready (rs := [6, 13]) (by kernel_rfl) (by simp) ?_
          refine AllReadyH.cons (o := { dst := some 162, op := Op.load 46 (Operand.tmp 161), type := 46, pos := "law.go:70", after := #[{ on := 5, ground := Ground.data }], guard := none }) rfl (fun K hK => ?_) ?_
          · go_simp
            refine hK.out _ _ ?hs20 (fun hS20 => ?_)
            case hs20 => ((try dsimp only); first | with_reducible exact zD | with_reducible exact zV | with_reducible exact zV1 | with_reducible exact zV3 | with_reducible exact zV4)
            clear hK K hS19
            refine wpAnyH_ready (rs := [13]) (by kernel_rfl) (by simp) ?_
            refine AllReadyH.cons (o := { dst := some 169, op := Op.buildSlice 46 1 #[(0, Operand.tmp 168)], type := 46, pos := "law.go:70", after := #[{ on := 12, ground := Ground.data }], guard := none }) rfl (fun K hK => ?_) ?_
            · go_simp
              refine hK.out _ _ ?hs21 (fun hS21 => ?_)
              case hs21 => ((try dsimp only); first | with_reducible exact zD | with_reducible exact zV | with_reducible exact zV1 | with_reducible exact zV3 | with_reducible exact zV4)
              clear hK K hS20
              refine wpAnyH_ready (rs := [14]) (by kernel_rfl) (by simp) ?_
              refine AllReadyH.cons (o := { dst := some 170, op := Op.call { callee := Callee.builtin Builtin.append, args := #[Operand.tmp 162, Operand.tmp 169], argTypes := #[46, 46] }, type := 46, pos := "law.go:70", after := #[{ on := 6, ground := Ground.data }, { on := 13, ground := Ground.data }, { on := 12, ground := Ground.chain }], guard := none }) rfl (fun K hK => ?_) ?_
              · refine rs_append_run (by rfl) _ _ _ (by rfl) (by rfl) (by rfl) RUN1.out ?_
                refine hK.out _ _ ?hs22 (fun hS22 => ?_)
                case hs22 => ((try dsimp only); first | with_reducible exact zD | with_reducible exact zV | with_reducible exact zV1 | with_reducible exact zV3 | with_reducible exact zV4)
                clear hK K hS21
                refine wpAnyH_take (i := 15) (oi := { dst := some 171, op := Op.indexAddr 44 (Operand.tmp 156) (Operand.tmp 157), type := 0, pos := "law.go:70", after := #[{ on := 0, ground := Ground.data }, { on := 1, ground := Ground.data }, { on := 0, ground := Ground.phase }, { on := 1, ground := Ground.phase }, { on := 2, ground := Ground.phase }, { on := 3, ground := Ground.phase }, { on := 4, ground := Ground.phase }, { on := 5, ground := Ground.phase }, { on := 6, ground := Ground.phase }, { on := 7, ground := Ground.phase }, { on := 8, ground := Ground.phase }, { on := 9, ground := Ground.phase }, { on := 10, ground := Ground.phase }, { on := 11, ground := Ground.phase }, { on := 12, ground := Ground.phase }, { on := 13, ground := Ground.phase }, { on := 14, ground := Ground.phase }], guard := none }) (v := ?_) rfl (by kernel_rfl) (by kernel_rfl) (by kernel_rfl) (fun _ _ _ h => h) (Or.inl ⟨by rfl, ?hy23⟩) hS22 ?_
                case hy23 => (intro w hSw; (try dsimp only at hSw); go_simp; try with_reducible rfl)
                try simp only [Act.put, List.setIfInBounds_toArray, List.set_cons_zero, List.set_cons_succ]
                refine wpAnyH_take (i := 16) (oi := { dst := some 172, op := Op.fieldAddr 68 (Operand.tmp 171) 1, type := 0, pos := "law.go:70", after := #[{ on := 15, ground := Ground.data }, { on := 0, ground := Ground.phase }, { on := 1, ground := Ground.phase }, { on := 2, ground := Ground.phase }, { on := 3, ground := Ground.phase }, { on := 4, ground := Ground.phase }, { on := 5, ground := Ground.phase }, { on := 6, ground := Ground.phase }, { on := 7, ground := Ground.phase }, { on := 8, ground := Ground.phase }, { on := 9, ground := Ground.phase }, { on := 10, ground := Ground.phase }, { on := 11, ground := Ground.phase }, { on := 12, ground := Ground.phase }, { on := 13, ground := Ground.phase }, { on := 14, ground := Ground.phase }], guard := none }) (v := ?_) rfl (by kernel_rfl) (by kernel_rfl) (by kernel_rfl) (fun _ _ _ h => h) (Or.inl ⟨by rfl, ?hy24⟩) hS22 ?_
                case hy24 => (intro w hSw; (try dsimp only at hSw); go_simp; try with_reducible rfl)
                try simp only [Act.put, List.setIfInBounds_toArray, List.set_cons_zero, List.set_cons_succ]
                refine wpAnyH_ready (rs := [17]) (by kernel_rfl) (by simp) ?_
                refine AllReadyH.cons (o := { dst := none, op := Op.store 46 (Operand.tmp 172) (Operand.tmp 170), type := 0, pos := "law.go:70", after := #[{ on := 16, ground := Ground.data }, { on := 14, ground := Ground.data }, { on := 14, ground := Ground.chain }, { on := 0, ground := Ground.phase }, { on := 1, ground := Ground.phase }, { on := 2, ground := Ground.phase }, { on := 3, ground := Ground.phase }, { on := 4, ground := Ground.phase }, { on := 5, ground := Ground.phase }, { on := 6, ground := Ground.phase }, { on := 7, ground := Ground.phase }, { on := 8, ground := Ground.phase }, { on := 9, ground := Ground.phase }, { on := 10, ground := Ground.phase }, { on := 11, ground := Ground.phase }, { on := 12, ground := Ground.phase }, { on := 13, ground := Ground.phase }, { on := 14, ground := Ground.phase }], guard := none }) rfl (fun K hK => ?_) ?_
                · go_simp
                  refine hK.out _ _ ?hs25 (fun hS25 => ?_)
                  case hs25 => ((try dsimp only); first | with_reducible exact zD | with_reducible exact zV | with_reducible exact zV1 | with_reducible exact zV3 | with_reducible exact zV4)
                  clear hK K hS22
                  refine wpAnyH_done (by kernel_rfl) ?_ _
                  clear zD zV zV1 zV3 zV4 yV yV1 y3 fz3
                  go_wp2_with fail
                  go_roundg (min a.lost.length 2 - (j + 1))
                  case measure => have := G.out.1; have := G.out.2; omega
                  case rel => first | exact FIN.out | (rw [ej]; exact FIN.out)
                exact AllReadyH.nil
              exact AllReadyH.nil
            exact AllReadyH.nil
          refine AllReadyH.cons (o := { dst := some 169, op := Op.buildSlice 46 1 #[(0, Operand.tmp 168)], type := 46, pos := "law.go:70", after := #[{ on := 12, ground := Ground.data }], guard := none }) rfl (fun K hK => ?_) ?_
          · go_simp
            refine hK.out _ _ ?hs26 (fun hS26 => ?_)
            case hs26 => ((try dsimp only); first | with_reducible exact zD | with_reducible exact zV | with_reducible exact zV1 | with_reducible exact zV3 | with_reducible exact zV4)
            clear hK K hS19
            refine wpAnyH_ready (rs := [6]) (by kernel_rfl) (by simp) ?_
            refine AllReadyH.cons (o := { dst := some 162, op := Op.load 46 (Operand.tmp 161), type := 46, pos := "law.go:70", after := #[{ on := 5, ground := Ground.data }], guard := none }) rfl (fun K hK => ?_) ?_
            · go_simp
              refine hK.out _ _ ?hs27 (fun hS27 => ?_)
              case hs27 => ((try dsimp only); first | with_reducible exact zD | with_reducible exact zV | with_reducible exact zV1 | with_reducible exact zV3 | with_reducible exact zV4)
              clear hK K hS26
              refine wpAnyH_ready (rs := [14]) (by kernel_rfl) (by simp) ?_
              refine AllReadyH.cons (o := { dst := some 170, op := Op.call { callee := Callee.builtin Builtin.append, args := #[Operand.tmp 162, Operand.tmp 169], argTypes := #[46, 46] }, type := 46, pos := "law.go:70", after := #[{ on := 6, ground := Ground.data }, { on := 13, ground := Ground.data }, { on := 12, ground := Ground.chain }], guard := none }) rfl (fun K hK => ?_) ?_
              · refine rs_append_run (by rfl) _ _ _ (by rfl) (by rfl) (by rfl) RUN1.out ?_
                refine hK.out _ _ ?hs28 (fun hS28 => ?_)
                case hs28 => ((try dsimp only); first | with_reducible exact zD | with_reducible exact zV | with_reducible exact zV1 | with_reducible exact zV3 | with_reducible exact zV4)
                clear hK K hS27
                refine wpAnyH_take (i := 15) (oi := { dst := some 171, op := Op.indexAddr 44 (Operand.tmp 156) (Operand.tmp 157), type := 0, pos := "law.go:70", after := #[{ on := 0, ground := Ground.data }, { on := 1, ground := Ground.data }, { on := 0, ground := Ground.phase }, { on := 1, ground := Ground.phase }, { on := 2, ground := Ground.phase }, { on := 3, ground := Ground.phase }, { on := 4, ground := Ground.phase }, { on := 5, ground := Ground.phase }, { on := 6, ground := Ground.phase }, { on := 7, ground := Ground.phase }, { on := 8, ground := Ground.phase }, { on := 9, ground := Ground.phase }, { on := 10, ground := Ground.phase }, { on := 11, ground := Ground.phase }, { on := 12, ground := Ground.phase }, { on := 13, ground := Ground.phase }, { on := 14, ground := Ground.phase }], guard := none }) (v := ?_) rfl (by kernel_rfl) (by kernel_rfl) (by kernel_rfl) (fun _ _ _ h => h) (Or.inl ⟨by rfl, ?hy29⟩) hS28 ?_
                case hy29 => (intro w hSw; (try dsimp only at hSw); go_simp; try with_reducible rfl)
                try simp only [Act.put, List.setIfInBounds_toArray, List.set_cons_zero, List.set_cons_succ]
                refine wpAnyH_take (i := 16) (oi := { dst := some 172, op := Op.fieldAddr 68 (Operand.tmp 171) 1, type := 0, pos := "law.go:70", after := #[{ on := 15, ground := Ground.data }, { on := 0, ground := Ground.phase }, { on := 1, ground := Ground.phase }, { on := 2, ground := Ground.phase }, { on := 3, ground := Ground.phase }, { on := 4, ground := Ground.phase }, { on := 5, ground := Ground.phase }, { on := 6, ground := Ground.phase }, { on := 7, ground := Ground.phase }, { on := 8, ground := Ground.phase }, { on := 9, ground := Ground.phase }, { on := 10, ground := Ground.phase }, { on := 11, ground := Ground.phase }, { on := 12, ground := Ground.phase }, { on := 13, ground := Ground.phase }, { on := 14, ground := Ground.phase }], guard := none }) (v := ?_) rfl (by kernel_rfl) (by kernel_rfl) (by kernel_rfl) (fun _ _ _ h => h) (Or.inl ⟨by rfl, ?hy30⟩) hS28 ?_
                case hy30 => (intro w hSw; (try dsimp only at hSw); go_simp; try with_reducible rfl)
                try simp only [Act.put, List.setIfInBounds_toArray, List.set_cons_zero, List.set_cons_succ]
                refine wpAnyH_ready (rs := [17]) (by kernel_rfl) (by simp) ?_
                refine AllReadyH.cons (o := { dst := none, op := Op.store 46 (Operand.tmp 172) (Operand.tmp 170), type := 0, pos := "law.go:70", after := #[{ on := 16, ground := Ground.data }, { on := 14, ground := Ground.data }, { on := 14, ground := Ground.chain }, { on := 0, ground := Ground.phase }, { on := 1, ground := Ground.phase }, { on := 2, ground := Ground.phase }, { on := 3, ground := Ground.phase }, { on := 4, ground := Ground.phase }, { on := 5, ground := Ground.phase }, { on := 6, ground := Ground.phase }, { on := 7, ground := Ground.phase }, { on := 8, ground := Ground.phase }, { on := 9, ground := Ground.phase }, { on := 10, ground := Ground.phase }, { on := 11, ground := Ground.phase }, { on := 12, ground := Ground.phase }, { on := 13, ground := Ground.phase }, { on := 14, ground := Ground.phase }], guard := none }) rfl (fun K hK => ?_) ?_
                · go_simp
                  refine hK.out _ _ ?hs31 (fun hS31 => ?_)
                  case hs31 => ((try dsimp only); first | with_reducible exact zD | with_reducible exact zV | with_reducible exact zV1 | with_reducible exact zV3 | with_reducible exact zV4)
                  clear hK K hS28
                  refine wpAnyH_done (by kernel_rfl) ?_ _
                  clear zD zV zV1 zV3 zV4 yV yV1 y3 fz3
                  go_wp2_with fail
                  go_roundg (min a.lost.length 2 - (j + 1))
                  case measure => have := G.out.1; have := G.out.2; omega
                  case rel => first | exact FIN.out | (rw [ej]; exact FIN.out)
                exact AllReadyH.nil
              exact AllReadyH.nil
            exact AllReadyH.nil
          exact AllReadyH.nil
        exact AllReadyH.nil
      · obtain rfl : j = min a.lost.length 2 := by omega
        have y4 : wr.cell? ⟨sb, 4, none⟩ = some (.slice la a.lost.length lc) := C.box 4 _ rfl
        have FIN := Lib.hid (show LEnd w a stamp (.slice ha a.hits.length hc) (.slice la a.lost.length lc) sb rb ob wr from ⟨O, C⟩)
        generalize hmm : min a.lost.length 2 = mm at *
        clear C hj hg hlt
        by_cases h6 : mm < a.lost.length
        · obtain rfl : mm = 2 := by omega
          have u1 : decide ((2 : Int) < (a.lost.length : Int)) = true := decide_eq_true (by omega)
          have u2 : decide (2 < a.lost.length) = true := decide_eq_true (by omega)
          clear hmm h6
          go_wp2_with fail
          go_meet
          case rel => exact FIN.out
        · have u1 : decide ((mm : Int) < (a.lost.length : Int)) = false := decide_eq_false (by omega)
          have u2 : decide (mm < a.lost.length) = false := decide_eq_false (by omega)
          clear hmm h6
          go_wp2_with fail
          go_meet
          case rel => exact FIN.out
  case rest =>
  obtain ⟨O2, C2⟩ := hcut
  generalize wc = wz at *
  clear R2
  have TH := Lib.hid (range_there (n := 14) C2.rrb rfl C2.brb)
  have T9 : Turn (fun q => q = rb) wz (wz.setCells rb 0 (cmdL 1 0 0 stamp 7)) := Turn.setCells _ 0 (Turn.refl _ wz) (.inl rfl)
  have FIN := Lib.hid (show OutsAt (wz.setCells rb 0 (cmdL 1 0 0 stamp 7)) (fun k => k < w.heap.size) (.slice (some ⟨ob, 0, none⟩) 3 3) [O2 0, O2 1, O2 2] ∧ HitsAt (wz.setCells rb 0 (cmdL 1 0 0 stamp 7)) (fun k => k < w.heap.size) [O2 0, O2 1, O2 2] ∧ (∀ k, k < 3 → (O2 k).hits.map Ht.abs = hitsA a stamp k (min a.hits.length 6) ∧ (O2 k).lost = lostA a k (min a.lost.length 2)) ∧ Turn (fun _ => False) w (wz.setCells rb 0 (cmdL 1 0 0 stamp 7)) from by
    have nb : ∀ {b : Nat} {t : TypeId}, Blk wz b t → t ≠ 43 → ¬ b = rb := fun hb ht => hb.ne C2.brb ht
    have sz := C2.turn.size
    refine ⟨C2.outs.1.next T9 (fun k hk => nb hk (by decide)) (fun k hk => nb hk (by decide)) (fun k hk _ => nb hk (by decide)) (fun k q => .inl q), C2.outs.2.typ T9 (fun k t => ?_), fun k hk => ⟨C2.hits k hk, C2.lost k hk⟩, C2.turn.comp T9 (fun k hk e => by have := C2.hrb; omega)⟩
    rcases t with t | t | t
    · exact nb t (by decide)
    · exact nb t (by decide)
    · exact nb t (by decide))
  have RB := Lib.hid (show (wz.setCells rb 0 (cmdL 1 0 0 stamp 7)).rangeAt rb 0 (cmdL 1 0 0 stamp 7) from World.rangeAt_setCells_same _ rb 0 _ TH.out)
  have BU := Lib.hid (fun w => build43p stamp w)
  have B8 := Lib.hid (fun w => build38p stamp w)
  clear C2 T9
  go_upto_region 32 with fail
  refine wp_region_lit ?_
  refine rl_rd rfl (v := .int .i64 stamp) ?hz1 ?_
  case hz1 => (go_simp; try with_reducible rfl)
  try simp only [Act.put, List.setIfInBounds_toArray, List.set_cons_zero, List.set_cons_succ]
  refine rl_build rfl 38 _ rfl (vs := #[(0, .int .i64 stamp), (1, .int .i64 7)]) (v := .agg #[.int .i64 stamp, .int .i64 7]) (by simp [Act.eval]) (B8.out _) ?_
  try simp only [Act.put, List.setIfInBounds_toArray, List.set_cons_zero, List.set_cons_succ]
  refine rl_build rfl 43 _ rfl (vs := #[(0, .int .i64 1), (4, .agg #[.int .i64 stamp, .int .i64 7])]) (v := .agg (cmdL 1 0 0 stamp 7).toArray) (by simp [Act.eval]) (BU.out _) ?_
  try simp only [Act.put, List.setIfInBounds_toArray, List.set_cons_zero, List.set_cons_succ]
  refine rl_rd rfl (v := .slice (some ⟨ob, 0, none⟩) 3 3) ?hz2 ?_
  case hz2 => (go_simp; try with_reducible rfl)
  try simp only [Act.put, List.setIfInBounds_toArray, List.set_cons_zero, List.set_cons_succ]
  refine wpList_store_mid rfl 43 _ _ rfl rb 0 (cmdL 1 0 0 stamp 7).toArray rfl rfl TH.out size43 (by simp [cmdL, Value.oneCell']) ?_
  try simp only [Act.put, List.setIfInBounds_toArray, List.set_cons_zero, List.set_cons_succ]
  generalize hWZ : wz.setCells rb 0 (cmdL 1 0 0 stamp 7).toArray.toList = WZ
  have HWZ := Lib.hid (show wz.setCells rb 0 (cmdL 1 0 0 stamp 7) = WZ from hWZ)
  clear hWZ
  rw [HWZ.out] at FIN RB
  generalize hcl : cmdL 1 0 0 stamp 7 = cl at *
  have HCL := Lib.hid hcl
  clear hcl
  go_wp2_with fail
  have RB2 := RB.out
  rw [← HCL.out] at RB2
  exact cmd_ret (c := ⟨1, 0, 0, stamp, 7⟩) (v := .slice (some ⟨ob, 0, none⟩) 3 3) rfl rfl RB2 ⟨_, O2, by rw [HC.out], FIN.out⟩ rfl
end Go.Proofs.Ytepmealhnnoahaa
