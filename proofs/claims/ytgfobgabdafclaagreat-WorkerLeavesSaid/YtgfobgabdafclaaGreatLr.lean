/-
  A ring of commands in memory, and what its functions answer.
-/
import Derived.Test.YtgfobgabdafclaaGreatBase
namespace Go.Proofs.YtgfobgabdafclaaGreat
open Go.ChangeShapes Go.WideShapes Go.ChangeAt Go.RowKit
set_option linter.unusedVariables false

/-- A command of zeros. -/
def zc : List Value := [.int .i64 0, .int .i64 0, .int .i64 0, .int .i64 0, .int .i64 0, .int .i64 0, .int .i64 0, .int .i64 0, .int .i64 0, .int .i64 0, .int .i64 0, .slice none 0 0, .int .i64 0, .bool false]
/-- A command's cells. -/
structure IsCmd (cs : List Value) : Prop where
  len : cs.length = 14
  one : cs.toArray.all (·.oneCell') = true
theorem zc_is : IsCmd zc := ⟨rfl, by decide +kernel⟩
/-- A ring of n places at block r, its places at block pb. -/
structure CR (w : World) (r pb n low : Nat) (X : Int → Option (List Value)) : Prop where
  n1 : 1 ≤ n
  n2 : n ≤ 4096
  l2 : low ≤ 1000000
  br : Blk w r 216
  bp : Blk w pb 227
  c0 : w.cell? ⟨r, 0, none⟩ = some (.slice (some ⟨pb, 0, none⟩) n n)
  c1 : w.cell? ⟨r, 1, none⟩ = some (.int .i64 (low : Int))
  c2 : ∃ m, w.cell? ⟨r, 2, none⟩ = some (.int .i64 m)
  win : ∀ i, (X i).isSome → (low : Int) ≤ i ∧ i < low + n
  is : ∀ i cs, X i = some cs → IsCmd cs
  cx : ∀ i : Nat, low ≤ i → i < low + n → w.rangeAt pb (i % n * 15) ((X i).getD zc) ∧ w.cell? ⟨pb, i % n * 15 + 14, none⟩ = some (.bool (X i).isSome)
section
variable {w w' : World} {r pb n low : Nat} {X : Int → Option (List Value)}
theorem CR.turn {S : Nat → Prop} (h : CR w r pb n low X) (T : Turn S w w') (h1 : ¬ S r) (h2 : ¬ S pb) : CR w' r pb n low X := by
  obtain ⟨m, hm⟩ := h.c2
  exact ⟨h.n1, h.n2, h.l2, h.br.turn T h1, h.bp.turn T h2, T.cell h1 h.c0, T.cell h1 h.c1, ⟨m, T.cell h1 hm⟩, h.win, h.is, fun i h3 h4 => ⟨fun j u hu => T.cell h2 ((h.cx i h3 h4).1 j u hu), T.cell h2 (h.cx i h3 h4).2⟩⟩
theorem CR.ne (h : CR w r pb n low X) : r ≠ pb := h.br.ne h.bp (by decide)
theorem CR.find (h : CR w r pb n low X) {i : Nat} (h1 : low ≤ i) (h2 : i < low + n) :
    Calls Tryz.prog 119 #[.pointer (some ⟨r, 0, none⟩), .int .i64 (i : Int)] w fun e w' => e = .returned (.pointer (some ⟨pb, i % n * 15, none⟩)) ∧ Turn (fun _ => False) w w' := by
  have hr0 := h.c0
  have hr1 := h.c1
  have q1 := h.n1
  have q2 := h.n2
  have q3 := h.l2
  have hd : decide ((i : Int) < low) = false := by simp; omega
  have hdn : decide (i < low) = false := by simp; omega
  have hw : wrap64 ((i : Int) - low) = (i : Int) - low := by unfold wrap64; omega
  have hd2 : decide ((n : Int) ≤ (i : Int) - low) = false := by simp; omega
  have hm : (i : Int).tmod (n : Int) = ((i % n : Nat) : Int) := by rw [Int.tmod_eq_emod_of_nonneg (by omega)]; rfl
  have m1 : i % n < n := Nat.mod_lt _ (by omega)
  have nz : ((n : Int) == 0) = false := by simp; omega
  have nn : ¬ ((n : Int) = 0) := by omega
  obtain ⟨g, hg⟩ : ∃ g, i % n = g := ⟨_, rfl⟩
  rw [hg] at hm m1 ⊢
  have m2 : (0 : Int) ≤ (g : Int) := by omega
  have m3 : (g : Int) < (n : Int) := by omega
  clear h h1 h2 hg q1 q2 q3 m1
  go_enter Tryz.func119, Tryz.ntmps119
  go_wp2_with fail
  go_quiet (fail)
  go_wp2_with fail
  go_quiet (fail)
  go_wp2
  go_ret
  exact ⟨rfl, ((Turn.refl _ w).drewN _).drewN _⟩
theorem CR.find_no (h : CR w r pb n low X) {at_ : Int} (h0 : -9000000000000000000 ≤ at_ ∧ at_ ≤ 9000000000000000000) (h1 : at_ < low ∨ (low : Int) + n ≤ at_) :
    Calls Tryz.prog 119 #[.pointer (some ⟨r, 0, none⟩), .int .i64 at_] w fun e w' => e = .returned (.pointer none) ∧ Turn (fun _ => False) w w' := by
  have hr0 := h.c0
  have hr1 := h.c1
  have q1 := h.n1
  have q2 := h.n2
  have q3 := h.l2
  by_cases hlt : at_ < low
  · have hd : decide (at_ < (low : Int)) = true := by simpa using hlt
    clear h h0 h1 q1 q2 q3 hlt
    go_enter Tryz.func119, Tryz.ntmps119
    go_wp2_with fail
    go_quiet (fail)
    go_wp2
    go_ret
    exact ⟨rfl, (Turn.refl _ w).drewN _⟩
  · have hd : decide (at_ < (low : Int)) = false := by simp; omega
    have hw : wrap64 (at_ - low) = at_ - low := by unfold wrap64; omega
    have hd2 : decide ((n : Int) ≤ at_ - low) = true := by simp; omega
    clear h h0 h1 q1 q2 q3 hlt
    go_enter Tryz.func119, Tryz.ntmps119
    go_wp2_with fail
    go_quiet (fail)
    go_wp2
    go_ret
    exact ⟨rfl, (Turn.refl _ w).drewN _⟩
theorem CR.low_is (h : CR w r pb n low X) : Calls Tryz.prog 118 #[.pointer (some ⟨r, 0, none⟩)] w fun e w' => e = .returned (.int .i64 (low : Int)) ∧ w = w' := by
  have c1 := h.c1
  clear h
  go_enter Tryz.func118, Tryz.ntmps118
  go_wp2
  go_ret
  exact ⟨rfl, rfl⟩
end
theorem size51 : (Tryz.prog.info? 60).map (·.size) = some 14 := by kernel_rfl
theorem load_cmd (w : World) (b o : Nat) (cs : List Value) (hl : cs.length = 14) (hc : w.rangeAt b o cs) : (Instr.loadAt 60 (.pointer (some ⟨b, o, none⟩))).run Tryz.prog w = .ok (.agg cs.toArray) w :=
  run_loadAt_mid w b o 60 cs _ hc Tryz.underlying60 rfl (by rw [hl]; exact size51)
section
variable {w w' : World} {r pb n low : Nat} {X : Int → Option (List Value)}
theorem CR.cmd (h : CR w r pb n low X) (i : Int) : IsCmd ((X i).getD zc) := by
  cases hx : X i with
  | none => exact zc_is
  | some cs => exact h.is i cs hx
set_option maxRecDepth 100000 in
set_option maxHeartbeats 2000000 in
theorem CR.get (h : CR w r pb n low X) {i : Nat} (h1 : low ≤ i) (h2 : i < low + n) :
    Calls Tryz.prog 184 #[.pointer (some ⟨r, 0, none⟩), .int .i64 (i : Int)] w fun e w' => e = .returned (.tuple #[.agg ((X i).getD zc).toArray, .bool (X i).isSome]) ∧ Turn (fun _ => False) w w' := by
  obtain ⟨W, hW⟩ : ∃ W, W = w.alloc (.cells #[.int .i64 0, .int .i64 0, .int .i64 0, .int .i64 0, .int .i64 0, .int .i64 0, .int .i64 0, .int .i64 0, .int .i64 0, .int .i64 0, .int .i64 0, .slice none 0 0, .int .i64 0, .bool false] 60) := ⟨_, rfl⟩
  have T : Turn (fun _ => False) w W := by rw [hW]; exact (Turn.refl _ w).alloc _
  have B : Blk W w.heap.size 60 := by rw [hW]; exact Blk.new w zc 60
  have C : W.rangeAt w.heap.size 0 zc := fun j v hv => by rw [hW, Nat.zero_add]; exact (World.cell?_alloc_new w zc.toArray 60 j).trans (by simpa using hv)
  have hh := h.turn T (fun f => f) (fun f => f)
  have H := Lib.hid (hh.find h1 h2)
  obtain ⟨R, y14⟩ := hh.cx i h1 h2
  have hc := h.cmd i
  have K := Lib.hid (And.intro T (And.intro B (And.intro C (show w.heap.size ≠ pb from fun e => by have := h.bp.lt; omega))))
  generalize (X i).getD zc = cs at *
  generalize (X i).isSome = t at *
  generalize i % n = g at *
  clear T B C hh h h1 h2
  go_enter Tryz.func184, Tryz.ntmps184
  go_upto_region 1 with fail
  rw [← hW]
  clear hW
  generalize hbb : w.heap.size = b at *
  have HB := Lib.hid hbb
  clear hbb
  go_wp2_with fail
  with_reducible refine H.out.mono ?_
  rintro e W2 ⟨rfl, T2⟩
  have R : W2.rangeAt pb (g * 15) cs := fun j v hv => T2.cell (fun f => f) (R j v hv)
  have y14 := T2.cell (fun f => f) y14
  have TH : W2.there b 0 14 := fun j hj => by
    have hz : j < zc.length := hj
    refine ⟨by rw [T2.cell (fun f => f) (K.out.2.2.1 j _ (List.getElem?_eq_getElem hz))]; rfl, (K.out.2.1.turn T2 (fun f => f)).fz _⟩
  have hi : (Tryz.prog.info? 60).map (·.size) = some cs.toArray.size := by rw [List.size_toArray, hc.len]; exact size51
  have TS : Turn (fun k => k = b) W2 (W2.drew.setCells b 0 cs) := Turn.setCells cs 0 ((Turn.refl _ W2).drewN 1) (.inl rfl)
  have KE := Lib.hid (K.out.1.trans T2 |>.comp TS (S := fun _ => False) (fun j hj e => by have := HB.out; omega))
  have KN := K.out.2.2.2
  have hx0 := And.intro R y14
  have hx1 : (W2.drew.setCells b 0 cs).rangeAt pb (g * 15) cs ∧ (W2.drew.setCells b 0 cs).cell? ⟨pb, g * 15 + 14, none⟩ = some (.bool t) := ⟨fun j v hv => TS.cell (Ne.symm KN) (R j v hv), TS.cell (Ne.symm KN) y14⟩
  have LD := fun (w : World) (h : w.rangeAt pb (g * 15) cs) => load_cmd w pb (g * 15) cs hc.len h
  have hi' := Lib.hid hi
  have hc' := Lib.hid hc
  have TH' := Lib.hid TH
  have HS := Lib.hid (And.intro hx0 hx1)
  clear H T2 K hi hc TH TS R y14 hx0 hx1
  go_upto_region 3 with fail
  refine wp_region_held_drew (S := (fun w' => w'.rangeAt pb (g * 15) cs ∧ w'.cell? ⟨pb, g * 15 + 14, none⟩ = some (.bool t))) (by kernel_rfl) ?hs0 (fun hS0 => ?_)
  case hs0 => ((try dsimp only); first | with_reducible exact HS.out.1 | with_reducible exact HS.out.2 | exact HS.out.1 | exact HS.out.2)
  refine wpAnyH_take (i := 0) (oi := { dst := some 13, op := Op.move (Operand.tmp 6), type := 224, pos := "ring.go:54", after := #[], guard := none }) (v := ?_) rfl (by kernel_rfl) (by kernel_rfl) (by kernel_rfl) (fun _ _ _ h => h) (Or.inl ⟨by rfl, ?hy1⟩) hS0 ?_
  case hy1 => (intro w hSw; (try dsimp only at hSw); go_simp; try with_reducible rfl)
  try simp only [Act.put, List.setIfInBounds_toArray, List.set_cons_zero, List.set_cons_succ]
  refine wpAnyH_take (i := 1) (oi := { dst := some 14, op := Op.nilCheck (Operand.tmp 13), type := 0, pos := "ring.go:54", after := #[{ on := 0, ground := Ground.data }], guard := none }) (v := ?_) rfl (by kernel_rfl) (by kernel_rfl) (by kernel_rfl) (fun _ _ _ h => h) (Or.inl ⟨by rfl, ?hy2⟩) hS0 ?_
  case hy2 => (intro w hSw; (try dsimp only at hSw); go_simp; try with_reducible rfl)
  try simp only [Act.put, List.setIfInBounds_toArray, List.set_cons_zero, List.set_cons_succ]
  refine wpAnyH_take (i := 2) (oi := { dst := some 15, op := Op.fieldAddr 227 (Operand.tmp 14) 0, type := 0, pos := "ring.go:54", after := #[{ on := 1, ground := Ground.data }], guard := none }) (v := ?_) rfl (by kernel_rfl) (by kernel_rfl) (by kernel_rfl) (fun _ _ _ h => h) (Or.inl ⟨by rfl, ?hy3⟩) hS0 ?_
  case hy3 => (intro w hSw; (try dsimp only at hSw); go_simp; try with_reducible rfl)
  try simp only [Act.put, List.setIfInBounds_toArray, List.set_cons_zero, List.set_cons_succ]
  refine wpAnyH_take (i := 3) (oi := { dst := some 16, op := Op.load 60 (Operand.tmp 15), type := 60, pos := "ring.go:54", after := #[{ on := 2, ground := Ground.data }], guard := none }) (v := .agg cs.toArray) rfl (by kernel_rfl) (by kernel_rfl) (by kernel_rfl) (fun _ _ _ h => h) (yieldsIf_load_mid (by rfl) 60 _ rfl pb (g * 15) rfl cs _ (fun _ h => h.1) Tryz.underlying60 rfl (by rw [hc'.out.len]; exact size51)) hS0 ?_
  try simp only [Act.put, List.setIfInBounds_toArray, List.set_cons_zero, List.set_cons_succ]
  refine wpAnyH_take (i := 4) (oi := { dst := some 17, op := Op.move (Operand.tmp 6), type := 224, pos := "ring.go:54", after := #[{ on := 8, ground := Ground.gcOnly Departure.lateStores }], guard := none }) (v := ?_) rfl (by kernel_rfl) (by kernel_rfl) (by kernel_rfl) (fun _ _ _ h => h) (Or.inl ⟨by rfl, ?hy5⟩) hS0 ?_
  case hy5 => (intro w hSw; (try dsimp only at hSw); go_simp; try with_reducible rfl)
  try simp only [Act.put, List.setIfInBounds_toArray, List.set_cons_zero, List.set_cons_succ]
  refine wpAnyH_take (i := 5) (oi := { dst := some 18, op := Op.nilCheck (Operand.tmp 17), type := 0, pos := "ring.go:54", after := #[{ on := 4, ground := Ground.data }, { on := 8, ground := Ground.gcOnly Departure.lateStores }], guard := none }) (v := ?_) rfl (by kernel_rfl) (by kernel_rfl) (by kernel_rfl) (fun _ _ _ h => h) (Or.inl ⟨by rfl, ?hy6⟩) hS0 ?_
  case hy6 => (intro w hSw; (try dsimp only at hSw); go_simp; try with_reducible rfl)
  try simp only [Act.put, List.setIfInBounds_toArray, List.set_cons_zero, List.set_cons_succ]
  refine wpAnyH_take (i := 6) (oi := { dst := some 19, op := Op.fieldAddr 227 (Operand.tmp 18) 1, type := 0, pos := "ring.go:54", after := #[{ on := 5, ground := Ground.data }, { on := 8, ground := Ground.gcOnly Departure.lateStores }], guard := none }) (v := ?_) rfl (by kernel_rfl) (by kernel_rfl) (by kernel_rfl) (fun _ _ _ h => h) (Or.inl ⟨by rfl, ?hy7⟩) hS0 ?_
  case hy7 => (intro w hSw; (try dsimp only at hSw); go_simp; try with_reducible rfl)
  try simp only [Act.put, List.setIfInBounds_toArray, List.set_cons_zero, List.set_cons_succ]
  refine wpAnyH_take (i := 7) (oi := { dst := some 20, op := Op.load 4 (Operand.tmp 19), type := 4, pos := "ring.go:54", after := #[{ on := 6, ground := Ground.data }, { on := 8, ground := Ground.gcOnly Departure.lateStores }], guard := none }) (v := ?_) rfl (by kernel_rfl) (by kernel_rfl) (by kernel_rfl) (fun _ _ _ h => h) (Or.inl ⟨by rfl, ?hy8⟩) hS0 ?_
  case hy8 => (intro w hSw; (try dsimp only at hSw); go_simp; try with_reducible rfl)
  try simp only [Act.put, List.setIfInBounds_toArray, List.set_cons_zero, List.set_cons_succ]
  refine wpAnyH_ready (rs := [8]) (by kernel_rfl) (by simp) ?_
  refine AllReadyH.cons (o := { dst := none, op := Op.store 60 (Operand.tmp 4) (Operand.tmp 16), type := 0, pos := "ring.go:54", after := #[{ on := 3, ground := Ground.data }, { on := 0, ground := Ground.phase }, { on := 1, ground := Ground.phase }, { on := 2, ground := Ground.phase }, { on := 3, ground := Ground.phase }, { on := 4, ground := Ground.textOnly Departure.lateStores }, { on := 5, ground := Ground.textOnly Departure.lateStores }, { on := 6, ground := Ground.textOnly Departure.lateStores }, { on := 7, ground := Ground.textOnly Departure.lateStores }], guard := none }) rfl (fun K hK => ?_) ?_
  · rw [if_pos (by rfl)]; refine wp_store_mid 60 _ _ rfl b 0 cs.toArray rfl rfl (by rw [List.size_toArray, hc'.out.len]; exact TH'.out) hi'.out hc'.out.one ?_
    refine hK.out _ _ ?hs9 (fun hS9 => ?_)
    case hs9 => ((try dsimp only); first | with_reducible exact HS.out.1 | with_reducible exact HS.out.2 | exact HS.out.1 | exact HS.out.2)
    clear hK K hS0
    refine wpAnyH_take (i := 9) (oi := { dst := some 5, op := Op.assign (Operand.tmp 20), type := 4, pos := "ring.go:54", after := #[{ on := 7, ground := Ground.data }, { on := 8, ground := Ground.chain }, { on := 0, ground := Ground.phase }, { on := 1, ground := Ground.phase }, { on := 2, ground := Ground.phase }, { on := 3, ground := Ground.phase }, { on := 4, ground := Ground.phase }, { on := 5, ground := Ground.phase }, { on := 6, ground := Ground.phase }, { on := 7, ground := Ground.phase }, { on := 8, ground := Ground.phase }], guard := none }) (v := ?_) rfl (by kernel_rfl) (by kernel_rfl) (by kernel_rfl) (fun _ _ _ h => h) (Or.inl ⟨by rfl, ?hy10⟩) hS9 ?_
    case hy10 => (intro w hSw; (try dsimp only at hSw); go_simp; try with_reducible rfl)
    try simp only [Act.put, List.setIfInBounds_toArray, List.set_cons_zero, List.set_cons_succ]
    refine wpAnyH_done (by kernel_rfl) ?_ _
    go_wp2_with fail
    refine bodyPost_ret (v := .tuple #[.agg cs.toArray, .bool t]) (res_cell_tmp (a := 4) (k := 5) rfl rfl rfl (run_loadVar_mid _ b 0 60 cs _ (World.rangeAt_setCells_same _ b 0 cs ((World.there_drew _ _ _ _).2 (by rw [hc'.out.len]; exact TH'.out))) Tryz.underlying60 rfl (by rw [hc'.out.len]; exact size51))) rfl ⟨rfl, KE.out⟩
  exact AllReadyH.nil
end
end Go.Proofs.YtgfobgabdafclaaGreat
