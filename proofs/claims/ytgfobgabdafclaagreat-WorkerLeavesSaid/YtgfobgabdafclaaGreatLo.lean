/-
  A ring of what workers tell, in memory, and what its functions answer.
-/
import Derived.Test.YtgfobgabdafclaaGreatLr3
namespace Go.Proofs.YtgfobgabdafclaaGreat
open Go.ChangeShapes Go.WideShapes Go.ChangeAt Go.RowKit
set_option linter.unusedVariables false

/-- A command of zeros. -/
def zo : List Value := [.slice none 0 0, .slice none 0 0, .slice none 0 0, .slice none 0 0]
/-- A command's cells. -/
structure IsOut (cs : List Value) : Prop where
  len : cs.length = 4
  one : cs.toArray.all (·.oneCell') = true
theorem zo_is : IsOut zo := ⟨rfl, by decide +kernel⟩
/-- A ring of n places at block r, its places at block pb. -/
structure OR (w : World) (r pb n low : Nat) (X : Int → Option (List Value)) : Prop where
  n1 : 1 ≤ n
  n2 : n ≤ 4096
  l2 : low ≤ 1000000
  br : Blk w r 219
  bp : Blk w pb 331
  c0 : w.cell? ⟨r, 0, none⟩ = some (.slice (some ⟨pb, 0, none⟩) n n)
  c1 : w.cell? ⟨r, 1, none⟩ = some (.int .i64 (low : Int))
  c2 : ∃ m, w.cell? ⟨r, 2, none⟩ = some (.int .i64 m)
  win : ∀ i, (X i).isSome → (low : Int) ≤ i ∧ i < low + n
  is : ∀ i cs, X i = some cs → IsOut cs
  cx : ∀ i : Nat, low ≤ i → i < low + n → w.rangeAt pb (i % n * 5) ((X i).getD zo) ∧ w.cell? ⟨pb, i % n * 5 + 4, none⟩ = some (.bool (X i).isSome)
section
variable {w w' : World} {r pb n low : Nat} {X : Int → Option (List Value)}
theorem OR.turn {S : Nat → Prop} (h : OR w r pb n low X) (T : Turn S w w') (h1 : ¬ S r) (h2 : ¬ S pb) : OR w' r pb n low X := by
  obtain ⟨m, hm⟩ := h.c2
  exact ⟨h.n1, h.n2, h.l2, h.br.turn T h1, h.bp.turn T h2, T.cell h1 h.c0, T.cell h1 h.c1, ⟨m, T.cell h1 hm⟩, h.win, h.is, fun i h3 h4 => ⟨fun j u hu => T.cell h2 ((h.cx i h3 h4).1 j u hu), T.cell h2 (h.cx i h3 h4).2⟩⟩
theorem OR.ne (h : OR w r pb n low X) : r ≠ pb := h.br.ne h.bp (by decide)
theorem OR.find (h : OR w r pb n low X) {i : Nat} (h1 : low ≤ i) (h2 : i < low + n) :
    Calls Tryz.prog 223 #[.pointer (some ⟨r, 0, none⟩), .int .i64 (i : Int)] w fun e w' => e = .returned (.pointer (some ⟨pb, i % n * 5, none⟩)) ∧ Turn (fun _ => False) w w' := by
  have hr0 := h.c0
  have hr1 := h.c1
  have q1 := h.n1
  have q2 := h.n2
  have q3 := h.l2
  have hd : decide ((i : Int) < low) = false := by simp; omega
  have hdn : decide (i < low) = false := by simp; omega
  have hw : wrap64 ((i : Int) - low) = (i : Int) - low := by unfold wrap64; omega
  have hd2 : decide ((n : Int) ≤ (i : Int) - low) = false := by simp; omega
  have hm : (i : Int).tmod (n : Int) = ((i % n : Nat) : Int) := by rw [Int.tmod_eq_emod_of_nonneg (by omega)]; rfl
  have m1 : i % n < n := Nat.mod_lt _ (by omega)
  have nz : ((n : Int) == 0) = false := by simp; omega
  have nn : ¬ ((n : Int) = 0) := by omega
  obtain ⟨g, hg⟩ : ∃ g, i % n = g := ⟨_, rfl⟩
  rw [hg] at hm m1 ⊢
  have m2 : (0 : Int) ≤ (g : Int) := by omega
  have m3 : (g : Int) < (n : Int) := by omega
  clear h h1 h2 hg q1 q2 q3 m1
  go_enter Tryz.func223, Tryz.ntmps223
  go_wp2_with fail
  go_quiet (fail)
  go_wp2_with fail
  go_quiet (fail)
  go_wp2
  go_ret
  exact ⟨rfl, ((Turn.refl _ w).drewN _).drewN _⟩
theorem OR.find_no (h : OR w r pb n low X) {at_ : Int} (h0 : -9000000000000000000 ≤ at_ ∧ at_ ≤ 9000000000000000000) (h1 : at_ < low ∨ (low : Int) + n ≤ at_) :
    Calls Tryz.prog 223 #[.pointer (some ⟨r, 0, none⟩), .int .i64 at_] w fun e w' => e = .returned (.pointer none) ∧ Turn (fun _ => False) w w' := by
  have hr0 := h.c0
  have hr1 := h.c1
  have q1 := h.n1
  have q2 := h.n2
  have q3 := h.l2
  by_cases hlt : at_ < low
  · have hd : decide (at_ < (low : Int)) = true := by simpa using hlt
    clear h h0 h1 q1 q2 q3 hlt
    go_enter Tryz.func223, Tryz.ntmps223
    go_wp2_with fail
    go_quiet (fail)
    go_wp2
    go_ret
    exact ⟨rfl, (Turn.refl _ w).drewN _⟩
  · have hd : decide (at_ < (low : Int)) = false := by simp; omega
    have hw : wrap64 (at_ - low) = at_ - low := by unfold wrap64; omega
    have hd2 : decide ((n : Int) ≤ at_ - low) = true := by simp; omega
    clear h h0 h1 q1 q2 q3 hlt
    go_enter Tryz.func223, Tryz.ntmps223
    go_wp2_with fail
    go_quiet (fail)
    go_wp2
    go_ret
    exact ⟨rfl, (Turn.refl _ w).drewN _⟩
theorem OR.low_is (h : OR w r pb n low X) : Calls Tryz.prog 279 #[.pointer (some ⟨r, 0, none⟩)] w fun e w' => e = .returned (.int .i64 (low : Int)) ∧ w = w' := by
  have c1 := h.c1
  clear h
  go_enter Tryz.func279, Tryz.ntmps279
  go_wp2
  go_ret
  exact ⟨rfl, rfl⟩
end
theorem size62 : (Tryz.prog.info? 57).map (·.size) = some 4 := by kernel_rfl
theorem load_out (w : World) (b o : Nat) (cs : List Value) (hl : cs.length = 4) (hc : w.rangeAt b o cs) : (Instr.loadAt 57 (.pointer (some ⟨b, o, none⟩))).run Tryz.prog w = .ok (.agg cs.toArray) w :=
  run_loadAt_mid w b o 57 cs _ hc Tryz.underlying57 rfl (by rw [hl]; exact size62)
section
variable {w w' : World} {r pb n low : Nat} {X : Int → Option (List Value)}
theorem OR.cmd (h : OR w r pb n low X) (i : Int) : IsOut ((X i).getD zo) := by
  cases hx : X i with
  | none => exact zo_is
  | some cs => exact h.is i cs hx
set_option maxRecDepth 100000 in
set_option maxHeartbeats 2000000 in
theorem OR.get (h : OR w r pb n low X) {i : Nat} (h1 : low ≤ i) (h2 : i < low + n) :
    Calls Tryz.prog 188 #[.pointer (some ⟨r, 0, none⟩), .int .i64 (i : Int)] w fun e w' => e = .returned (.tuple #[.agg ((X i).getD zo).toArray, .bool (X i).isSome]) ∧ Turn (fun _ => False) w w' := by
  obtain ⟨W, hW⟩ : ∃ W, W = w.alloc (.cells #[.slice none 0 0, .slice none 0 0, .slice none 0 0, .slice none 0 0] 57) := ⟨_, rfl⟩
  have T : Turn (fun _ => False) w W := by rw [hW]; exact (Turn.refl _ w).alloc _
  have B : Blk W w.heap.size 57 := by rw [hW]; exact Blk.new w zo 57
  have C : W.rangeAt w.heap.size 0 zo := fun j v hv => by rw [hW, Nat.zero_add]; exact (World.cell?_alloc_new w zo.toArray 57 j).trans (by simpa using hv)
  have hh := h.turn T (fun f => f) (fun f => f)
  have H := Lib.hid (hh.find h1 h2)
  obtain ⟨R, y14⟩ := hh.cx i h1 h2
  have hc := h.cmd i
  have K := Lib.hid (And.intro T (And.intro B (And.intro C (show w.heap.size ≠ pb from fun e => by have := h.bp.lt; omega))))
  generalize (X i).getD zo = cs at *
  generalize (X i).isSome = t at *
  generalize i % n = g at *
  clear T B C hh h h1 h2
  go_enter Tryz.func188, Tryz.ntmps188
  go_upto_region 1 with fail
  rw [← hW]
  clear hW
  generalize hbb : w.heap.size = b at *
  have HB := Lib.hid hbb
  clear hbb
  go_wp2_with fail
  with_reducible refine H.out.mono ?_
  rintro e W2 ⟨rfl, T2⟩
  have R : W2.rangeAt pb (g * 5) cs := fun j v hv => T2.cell (fun f => f) (R j v hv)
  have y14 := T2.cell (fun f => f) y14
  have TH : W2.there b 0 4 := fun j hj => by
    have hz : j < zo.length := hj
    refine ⟨by rw [T2.cell (fun f => f) (K.out.2.2.1 j _ (List.getElem?_eq_getElem hz))]; rfl, (K.out.2.1.turn T2 (fun f => f)).fz _⟩
  have hi : (Tryz.prog.info? 57).map (·.size) = some cs.toArray.size := by rw [List.size_toArray, hc.len]; exact size62
  have TS : Turn (fun k => k = b) W2 (W2.drew.setCells b 0 cs) := Turn.setCells cs 0 ((Turn.refl _ W2).drewN 1) (.inl rfl)
  have KE := Lib.hid (K.out.1.trans T2 |>.comp TS (S := fun _ => False) (fun j hj e => by have := HB.out; omega))
  have KN := K.out.2.2.2
  have hx0 := And.intro R y14
  have hx1 : (W2.drew.setCells b 0 cs).rangeAt pb (g * 5) cs ∧ (W2.drew.setCells b 0 cs).cell? ⟨pb, g * 5 + 4, none⟩ = some (.bool t) := ⟨fun j v hv => TS.cell (Ne.symm KN) (R j v hv), TS.cell (Ne.symm KN) y14⟩
  have LD := fun (w : World) (h : w.rangeAt pb (g * 5) cs) => load_out w pb (g * 5) cs hc.len h
  have hi' := Lib.hid hi
  have hc' := Lib.hid hc
  have TH' := Lib.hid TH
  have HS := Lib.hid (And.intro hx0 hx1)
  clear H T2 K hi hc TH TS R y14 hx0 hx1
  go_upto_region 3 with fail
  refine wp_region_held_drew (S := (fun w' => w'.rangeAt pb (g * 5) cs ∧ w'.cell? ⟨pb, g * 5 + 4, none⟩ = some (.bool t))) (by kernel_rfl) ?hs0 (fun hS0 => ?_)
  case hs0 => ((try dsimp only); first | with_reducible exact HS.out.1 | with_reducible exact HS.out.2 | exact HS.out.1 | exact HS.out.2)
  refine wpAnyH_take (i := 0) (oi := { dst := some 13, op := Op.move (Operand.tmp 6), type := 328, pos := "ring.go:54", after := #[], guard := none }) (v := ?_) rfl (by kernel_rfl) (by kernel_rfl) (by kernel_rfl) (fun _ _ _ h => h) (Or.inl ⟨by rfl, ?hy1⟩) hS0 ?_
  case hy1 => (intro w hSw; (try dsimp only at hSw); go_simp; try with_reducible rfl)
  try simp only [Act.put, List.setIfInBounds_toArray, List.set_cons_zero, List.set_cons_succ]
  refine wpAnyH_take (i := 1) (oi := { dst := some 14, op := Op.nilCheck (Operand.tmp 13), type := 0, pos := "ring.go:54", after := #[{ on := 0, ground := Ground.data }], guard := none }) (v := ?_) rfl (by kernel_rfl) (by kernel_rfl) (by kernel_rfl) (fun _ _ _ h => h) (Or.inl ⟨by rfl, ?hy2⟩) hS0 ?_
  case hy2 => (intro w hSw; (try dsimp only at hSw); go_simp; try with_reducible rfl)
  try simp only [Act.put, List.setIfInBounds_toArray, List.set_cons_zero, List.set_cons_succ]
  refine wpAnyH_take (i := 2) (oi := { dst := some 15, op := Op.fieldAddr 331 (Operand.tmp 14) 0, type := 0, pos := "ring.go:54", after := #[{ on := 1, ground := Ground.data }], guard := none }) (v := ?_) rfl (by kernel_rfl) (by kernel_rfl) (by kernel_rfl) (fun _ _ _ h => h) (Or.inl ⟨by rfl, ?hy3⟩) hS0 ?_
  case hy3 => (intro w hSw; (try dsimp only at hSw); go_simp; try with_reducible rfl)
  try simp only [Act.put, List.setIfInBounds_toArray, List.set_cons_zero, List.set_cons_succ]
  refine wpAnyH_take (i := 3) (oi := { dst := some 16, op := Op.load 57 (Operand.tmp 15), type := 57, pos := "ring.go:54", after := #[{ on := 2, ground := Ground.data }], guard := none }) (v := .agg cs.toArray) rfl (by kernel_rfl) (by kernel_rfl) (by kernel_rfl) (fun _ _ _ h => h) (yieldsIf_load_mid (by rfl) 57 _ rfl pb (g * 5) rfl cs _ (fun _ h => h.1) Tryz.underlying57 rfl (by rw [hc'.out.len]; exact size62)) hS0 ?_
  try simp only [Act.put, List.setIfInBounds_toArray, List.set_cons_zero, List.set_cons_succ]
  refine wpAnyH_take (i := 4) (oi := { dst := some 17, op := Op.move (Operand.tmp 6), type := 328, pos := "ring.go:54", after := #[{ on := 8, ground := Ground.gcOnly Departure.lateStores }], guard := none }) (v := ?_) rfl (by kernel_rfl) (by kernel_rfl) (by kernel_rfl) (fun _ _ _ h => h) (Or.inl ⟨by rfl, ?hy5⟩) hS0 ?_
  case hy5 => (intro w hSw; (try dsimp only at hSw); go_simp; try with_reducible rfl)
  try simp only [Act.put, List.setIfInBounds_toArray, List.set_cons_zero, List.set_cons_succ]
  refine wpAnyH_take (i := 5) (oi := { dst := some 18, op := Op.nilCheck (Operand.tmp 17), type := 0, pos := "ring.go:54", after := #[{ on := 4, ground := Ground.data }, { on := 8, ground := Ground.gcOnly Departure.lateStores }], guard := none }) (v := ?_) rfl (by kernel_rfl) (by kernel_rfl) (by kernel_rfl) (fun _ _ _ h => h) (Or.inl ⟨by rfl, ?hy6⟩) hS0 ?_
  case hy6 => (intro w hSw; (try dsimp only at hSw); go_simp; try with_reducible rfl)
  try simp only [Act.put, List.setIfInBounds_toArray, List.set_cons_zero, List.set_cons_succ]
  refine wpAnyH_take (i := 6) (oi := { dst := some 19, op := Op.fieldAddr 331 (Operand.tmp 18) 1, type := 0, pos := "ring.go:54", after := #[{ on := 5, ground := Ground.data }, { on := 8, ground := Ground.gcOnly Departure.lateStores }], guard := none }) (v := ?_) rfl (by kernel_rfl) (by kernel_rfl) (by kernel_rfl) (fun _ _ _ h => h) (Or.inl ⟨by rfl, ?hy7⟩) hS0 ?_
  case hy7 => (intro w hSw; (try dsimp only at hSw); go_simp; try with_reducible rfl)
  try simp only [Act.put, List.setIfInBounds_toArray, List.set_cons_zero, List.set_cons_succ]
  refine wpAnyH_take (i := 7) (oi := { dst := some 20, op := Op.load 4 (Operand.tmp 19), type := 4, pos := "ring.go:54", after := #[{ on := 6, ground := Ground.data }, { on := 8, ground := Ground.gcOnly Departure.lateStores }], guard := none }) (v := ?_) rfl (by kernel_rfl) (by kernel_rfl) (by kernel_rfl) (fun _ _ _ h => h) (Or.inl ⟨by rfl, ?hy8⟩) hS0 ?_
  case hy8 => (intro w hSw; (try dsimp only at hSw); go_simp; try with_reducible rfl)
  try simp only [Act.put, List.setIfInBounds_toArray, List.set_cons_zero, List.set_cons_succ]
  refine wpAnyH_ready (rs := [8]) (by kernel_rfl) (by simp) ?_
  refine AllReadyH.cons (o := { dst := none, op := Op.store 57 (Operand.tmp 4) (Operand.tmp 16), type := 0, pos := "ring.go:54", after := #[{ on := 3, ground := Ground.data }, { on := 0, ground := Ground.phase }, { on := 1, ground := Ground.phase }, { on := 2, ground := Ground.phase }, { on := 3, ground := Ground.phase }, { on := 4, ground := Ground.textOnly Departure.lateStores }, { on := 5, ground := Ground.textOnly Departure.lateStores }, { on := 6, ground := Ground.textOnly Departure.lateStores }, { on := 7, ground := Ground.textOnly Departure.lateStores }], guard := none }) rfl (fun K hK => ?_) ?_
  · rw [if_pos (by rfl)]; refine wp_store_mid 57 _ _ rfl b 0 cs.toArray rfl rfl (by rw [List.size_toArray, hc'.out.len]; exact TH'.out) hi'.out hc'.out.one ?_
    refine hK.out _ _ ?hs9 (fun hS9 => ?_)
    case hs9 => ((try dsimp only); first | with_reducible exact HS.out.1 | with_reducible exact HS.out.2 | exact HS.out.1 | exact HS.out.2)
    clear hK K hS0
    refine wpAnyH_take (i := 9) (oi := { dst := some 5, op := Op.assign (Operand.tmp 20), type := 4, pos := "ring.go:54", after := #[{ on := 7, ground := Ground.data }, { on := 8, ground := Ground.chain }, { on := 0, ground := Ground.phase }, { on := 1, ground := Ground.phase }, { on := 2, ground := Ground.phase }, { on := 3, ground := Ground.phase }, { on := 4, ground := Ground.phase }, { on := 5, ground := Ground.phase }, { on := 6, ground := Ground.phase }, { on := 7, ground := Ground.phase }, { on := 8, ground := Ground.phase }], guard := none }) (v := ?_) rfl (by kernel_rfl) (by kernel_rfl) (by kernel_rfl) (fun _ _ _ h => h) (Or.inl ⟨by rfl, ?hy10⟩) hS9 ?_
    case hy10 => (intro w hSw; (try dsimp only at hSw); go_simp; try with_reducible rfl)
    try simp only [Act.put, List.setIfInBounds_toArray, List.set_cons_zero, List.set_cons_succ]
    refine wpAnyH_done (by kernel_rfl) ?_ _
    go_wp2_with fail
    refine bodyPost_ret (v := .tuple #[.agg cs.toArray, .bool t]) (res_cell_tmp (a := 4) (k := 5) rfl rfl rfl (run_loadVar_mid _ b 0 57 cs _ (World.rangeAt_setCells_same _ b 0 cs ((World.there_drew _ _ _ _).2 (by rw [hc'.out.len]; exact TH'.out))) Tryz.underlying57 rfl (by rw [hc'.out.len]; exact size62))) rfl ⟨rfl, KE.out⟩
  exact AllReadyH.nil
end

theorem build_oplace (cs : List Value) (hl : cs.length = 4) (t : Bool) (w : World) : (Instr.build 331 #[(0, .agg cs.toArray), (1, .bool t)]).run Tryz.prog w = .ok (.agg (cs ++ [Value.bool t]).toArray) w := by
  rcases cs with _ | ⟨a0, cs⟩; · simp at hl
  rcases cs with _ | ⟨a1, cs⟩; · simp at hl
  rcases cs with _ | ⟨a2, cs⟩; · simp at hl
  rcases cs with _ | ⟨a3, cs⟩; · simp at hl
  rcases cs with _ | ⟨a4, cs⟩
  · exact run_build w 331 _ _ (by kernel_rfl)
  · simp at hl
theorem size137 : (Tryz.prog.info? 331).map (·.size) = some 5 := by kernel_rfl
section
variable {w w' : World} {r pb n low : Nat} {X : Int → Option (List Value)}
theorem off_apart5 {g k m : Nat} (h : g ≠ k) : g * 5 + 5 ≤ k * 5 ∨ k * 5 + 5 ≤ g * 5 := by omega
/-- .. with a place written. -/
theorem OR.set (h : OR w r pb n low X) {i : Nat} (h1 : low ≤ i) (h2 : i < low + n) (o : Option (List Value)) (ho : ∀ cs, o = some cs → IsOut cs) :
    OR (w.setCells pb (i % n * 5) (o.getD zo ++ [.bool o.isSome])) r pb n low (updI X i o) := by
  have hoc : (o.getD zo).length = 4 := by
    cases o with
    | none => rfl
    | some cs => exact (ho cs rfl).len
  have T : Turn (fun b => b = pb) w (w.setCells pb (i % n * 5) (o.getD zo ++ [.bool o.isSome])) := Turn.setCells _ _ (Turn.refl _ w) (.inl rfl)
  obtain ⟨m, hm⟩ := h.c2
  have hne := h.ne
  have hth : w.there pb (i % n * 5) (o.getD zo ++ [Value.bool o.isSome]).length := fun j hj => by
    simp [hoc] at hj
    refine ⟨?_, h.bp.fz _⟩
    by_cases hj14 : j = 4
    · subst hj14
      rw [(h.cx i h1 h2).2]
      rfl
    · rw [(h.cx i h1 h2).1 j _ (List.getElem?_eq_getElem (by rw [(h.cmd i).len]; omega))]
      rfl
  have hsame := World.rangeAt_setCells_same w pb (i % n * 5) (o.getD zo ++ [.bool o.isSome]) hth
  refine ⟨h.n1, h.n2, h.l2, h.br.turn T hne, h.bp.setCells _ _, T.cell hne h.c0, T.cell hne h.c1, ⟨m, T.cell hne hm⟩, fun j hj => ?_, fun j cs hj => ?_, fun j h3 h4 => ?_⟩
  · by_cases e : j = (i : Int)
    · subst e
      exact ⟨by omega, by omega⟩
    · rw [updI_off _ _ e] at hj
      exact h.win j hj
  · by_cases e : j = (i : Int)
    · subst e
      rw [updI_at] at hj
      exact ho cs hj
    · rw [updI_off _ _ e] at hj
      exact h.is j cs hj
  · by_cases e : j = i
    · subst e
      rw [updI_at]
      refine ⟨fun q u hq => hsame q u ?_, hsame 4 _ ?_⟩
      · have := (List.getElem?_eq_some_iff.1 hq).1
        rw [List.getElem?_append_left this]
        exact hq
      · rw [List.getElem?_append_right (by omega), hoc]
        rfl
    · rw [updI_off _ _ (by omega)]
      have hap := off_apart5 (m := 0) (mod_apart h.n1 h3 h4 h1 h2 e)
      have hl : (o.getD zo ++ [Value.bool o.isSome]).length = 5 := by simp [hoc]
      refine ⟨World.rangeAt_setCells_apart (h.cx j h3 h4).1 _ _ _ (.inr ?_), ?_⟩
      · rw [hl, (h.cmd j).len]
        omega
      · rw [World.cell?_setCells_out pb _ _ w _ (fun _ _ => by rw [hl]; show j % n * 5 + 4 < i % n * 5 ∨ i % n * 5 + 5 ≤ j % n * 5 + 4; omega)]
        exact (h.cx j h3 h4).2
theorem OR.there (h : OR w r pb n low X) (m : Int) : OR (w.setCell ⟨r, 2, none⟩ (.int .i64 m)) r pb n low X := by
  obtain ⟨m', hm⟩ := h.c2
  have T : Turn (fun b => b = r) w (w.setCell ⟨r, 2, none⟩ (.int .i64 m)) := Turn.put _ _ _ _
  exact ⟨h.n1, h.n2, h.l2, h.br.set _ _, h.bp.turn T (Ne.symm h.ne), (cell_off _ _ _ _ _ (by decide)).trans h.c0, (cell_off _ _ _ _ _ (by decide)).trans h.c1, ⟨m, World.cell?_setCell_same _ _ _ hm⟩, h.win, h.is,
    fun i h3 h4 => ⟨range_turn (h.cx i h3 h4).1 T (Ne.symm h.ne), T.cell (Ne.symm h.ne) (h.cx i h3 h4).2⟩⟩
theorem OR.lows (h : OR w r pb n low X) (hl : low + 1 ≤ 1000000) (h0 : X low = none) : OR (w.setCell ⟨r, 1, none⟩ (.int .i64 ((low + 1 : Nat) : Int))) r pb n (low + 1) X := by
  obtain ⟨m', hm⟩ := h.c2
  have T : Turn (fun b => b = r) w (w.setCell ⟨r, 1, none⟩ (.int .i64 ((low + 1 : Nat) : Int))) := Turn.put _ _ _ _
  refine ⟨h.n1, h.n2, hl, h.br.set _ _, h.bp.turn T (Ne.symm h.ne), (cell_off _ _ _ _ _ (by decide)).trans h.c0, World.cell?_setCell_same _ _ _ h.c1, ⟨m', (cell_off _ _ _ _ _ (by decide)).trans hm⟩, fun i hi => ?_, h.is, fun i h3 h4 => ?_⟩
  · obtain ⟨a, b⟩ := h.win i hi
    have : i ≠ low := fun e => by rw [e, h0] at hi; cases hi
    omega
  · by_cases h5 : i < low + n
    · exact ⟨range_turn (h.cx i (by omega) h5).1 T (Ne.symm h.ne), T.cell (Ne.symm h.ne) (h.cx i (by omega) h5).2⟩
    · obtain rfl : i = low + n := by omega
      have hn : X ((low + n : Nat) : Int) = none := by
        cases hx : X ((low + n : Nat) : Int) with
        | none => rfl
        | some cs =>
          have := (h.win _ (by rw [hx]; rfl)).2
          omega
      have c := h.cx low (Nat.le_refl _) (by have := h.n1; omega)
      rw [h0] at c
      rw [hn, Nat.add_mod_right]
      exact ⟨range_turn c.1 T (Ne.symm h.ne), T.cell (Ne.symm h.ne) c.2⟩
end

theorem build_onone (w : World) : (Instr.build 331 #[]).run Tryz.prog w = .ok (.agg (zo ++ [Value.bool false]).toArray) w := run_build w 331 _ _ (by kernel_rfl)
theorem alloc62 (a : Act) (w : World) {o : Oper} (ho : o.op = .alloc 57) : (execOp a.eval o).run Tryz.prog w = .ok (.value (.pointer (some ⟨w.heap.size, 0, none⟩))) (w.alloc (.cells zo.toArray 57)) := by
  unfold execOp
  simp only [ho]
  go_simp
  rfl
section
variable {w w' : World} {r pb n low : Nat} {X : Int → Option (List Value)}
set_option maxRecDepth 100000 in
set_option maxHeartbeats 2000000 in
theorem OR.get_no (h : OR w r pb n low X) {at_ : Int} (h0 : -9000000000000000000 ≤ at_ ∧ at_ ≤ 9000000000000000000) (h1 : at_ < low ∨ (low : Int) + n ≤ at_) :
    Calls Tryz.prog 188 #[.pointer (some ⟨r, 0, none⟩), .int .i64 at_] w fun e w' => e = .returned (.tuple #[.agg zo.toArray, .bool false]) ∧ Turn (fun _ => False) w w' := by
  obtain ⟨W, hW⟩ : ∃ W, W = w.alloc (.cells #[.slice none 0 0, .slice none 0 0, .slice none 0 0, .slice none 0 0] 57) := ⟨_, rfl⟩
  have T : Turn (fun _ => False) w W := by rw [hW]; exact (Turn.refl _ w).alloc _
  have B : Blk W w.heap.size 57 := by rw [hW]; exact Blk.new w zo 57
  have C : W.rangeAt w.heap.size 0 zo := by rw [hW]; exact range_new w zo 57
  have H := Lib.hid ((h.turn T (fun f => f) (fun f => f)).find_no h0 h1)
  have K := Lib.hid (And.intro T (And.intro B C))
  have CN := Lib.hid (fun w : World => range_new w zo 57)
  have ZC := Lib.hid zo_is
  have CN : Hid (∀ w : World, (w.alloc (.cells #[.slice none 0 0, .slice none 0 0, .slice none 0 0, .slice none 0 0] 57)).rangeAt w.heap.size 0 zo) := CN
  clear T B C h h0 h1
  generalize zo = z at *
  go_enter Tryz.func188, Tryz.ntmps188
  go_upto_region 1 with fail
  rw [← hW]
  clear hW
  generalize hbb : w.heap.size = b at *
  have HB := Lib.hid hbb
  clear hbb
  go_wp2_with fail
  with_reducible refine H.out.mono ?_
  rintro e W2 ⟨rfl, T2⟩
  obtain ⟨W3, hW3⟩ : ∃ W, W = W2.alloc (.cells #[.slice none 0 0, .slice none 0 0, .slice none 0 0, .slice none 0 0] 57) := ⟨_, rfl⟩
  have T3 : Turn (fun _ => False) W2 W3 := by rw [hW3]; exact (Turn.refl _ W2).alloc _
  have C3 : W3.rangeAt W2.heap.size 0 z := by rw [hW3]; exact CN.out W2
  have T23 := T2.trans T3
  have TH : W3.there b 0 4 := range_there (range_turn K.out.2.2 T23 (fun f => f)) ZC.out.len (K.out.2.1.turn T23 (fun f => f))
  have TS : Turn (fun k => k = b) W3 (W3.setCells b 0 z) := Turn.setCells z 0 (Turn.refl _ W3) (.inl rfl)
  have KE := Lib.hid ((K.out.1.trans T23).comp TS (S := fun _ => False) (fun j hj e => by have := HB.out; omega))
  have TH' := Lib.hid TH
  have C3' := Lib.hid C3
  clear K T2 T3 C3 T23 TH TS H
  go_upto_region 5 with fail
  rw [← hW3]
  clear hW3
  generalize W2.heap.size = b2 at *
  refine wp_region_lit ?_
  refine wpList_load_mid rfl 57 _ rfl b2 0 rfl z _ C3'.out Tryz.underlying57 rfl (by rw [ZC.out.len]; exact size62) ?_
  refine wpList_store_mid rfl 57 _ _ rfl b 0 z.toArray rfl rfl (by rw [List.size_toArray, ZC.out.len]; exact TH'.out) (by rw [List.size_toArray, ZC.out.len]; exact size62) ZC.out.one ?_
  go_wp2_with fail
  exact bodyPost_ret (v := .tuple #[.agg z.toArray, .bool false]) (res_cell_tmp (a := 4) (k := 5) rfl rfl rfl (run_loadVar_mid _ b 0 57 z _ (World.rangeAt_setCells_same _ b 0 z (by rw [ZC.out.len]; exact TH'.out)) Tryz.underlying57 rfl (by rw [ZC.out.len]; exact size62))) rfl ⟨rfl, KE.out⟩
theorem OR.get_any (h : OR w r pb n low X) {at_ : Int} (h0 : -9000000000000000000 ≤ at_ ∧ at_ ≤ 9000000000000000000) :
    Calls Tryz.prog 188 #[.pointer (some ⟨r, 0, none⟩), .int .i64 at_] w fun e w' => e = .returned (.tuple #[.agg ((X at_).getD zo).toArray, .bool (X at_).isSome]) ∧ Turn (fun _ => False) w w' := by
  by_cases h1 : at_ < low ∨ (low : Int) + n ≤ at_
  · have hx : X at_ = none := by
      cases hx : X at_ with
      | none => rfl
      | some cs =>
        have := h.win at_ (by rw [hx]; rfl)
        omega
    rw [hx]
    exact h.get_no h0 h1
  · obtain ⟨i, rfl⟩ : ∃ i : Nat, at_ = (i : Int) := ⟨at_.toNat, by omega⟩
    exact h.get (by omega) (by omega)
set_option maxRecDepth 100000 in
set_option maxHeartbeats 2000000 in
theorem OR.put_no (h : OR w r pb n low X) {at_ : Int} (h0 : -9000000000000000000 ≤ at_ ∧ at_ ≤ 9000000000000000000) (h1 : at_ < low ∨ (low : Int) + n ≤ at_ ∨ (X at_).isSome = true) {cs : List Value} (hc : IsOut cs) :
    Calls Tryz.prog 289 #[.pointer (some ⟨r, 0, none⟩), .int .i64 at_, .agg cs.toArray] w fun e w' => e = .returned (.bool false) ∧ Turn (fun _ => False) w w' := by
  obtain ⟨W, hW⟩ : ∃ W, W = w.alloc (.cells cs.toArray 57) := ⟨_, rfl⟩
  have T : Turn (fun _ => False) w W := by rw [hW]; exact (Turn.refl _ w).alloc _
  have hh := h.turn T (fun f => f) (fun f => f)
  have K := Lib.hid T
  by_cases h2 : at_ < low ∨ (low : Int) + n ≤ at_
  · have H := Lib.hid (hh.find_no h0 h2)
    clear T hh h h0 h1 h2
    go_enter Tryz.func289, Tryz.ntmps289
    go_upto_region 1 with fail
    rw [← hW]
    clear hW
    go_wp2_with fail
    with_reducible refine H.out.mono ?_
    rintro e W2 ⟨rfl, T2⟩
    have F := Lib.hid (K.out.trans T2)
    clear H T2 K
    go_wp2_with fail
    go_ret
    exact ⟨rfl, F.out⟩
  · have hs : (X at_).isSome = true := by
      rcases h1 with h1 | h1 | h1
      · exact absurd (.inl h1) h2
      · exact absurd (.inr h1) h2
      · exact h1
    obtain ⟨i, rfl⟩ : ∃ i : Nat, at_ = (i : Int) := ⟨at_.toNat, by omega⟩
    have H := Lib.hid (hh.find (i := i) (by omega) (by omega))
    have y := (hh.cx i (by omega) (by omega)).2
    rw [hs] at y
    generalize i % n = g at *
    clear T hh h h0 h1 h2 hs
    go_enter Tryz.func289, Tryz.ntmps289
    go_upto_region 1 with fail
    rw [← hW]
    clear hW
    go_wp2_with fail
    with_reducible refine H.out.mono ?_
    rintro e W2 ⟨rfl, T2⟩
    have y := T2.cell (fun f => f) y
    have F := Lib.hid (K.out.trans T2)
    clear H T2 K
    go_wp2_with fail
    go_ret
    exact ⟨rfl, F.out⟩
set_option maxRecDepth 100000 in
set_option maxHeartbeats 2000000 in
theorem OR.put (h : OR w r pb n low X) {i : Nat} (h1 : low ≤ i) (h2 : i < low + n) (hx : X i = none) {cs : List Value} (hc : IsOut cs) :
    Calls Tryz.prog 289 #[.pointer (some ⟨r, 0, none⟩), .int .i64 (i : Int), .agg cs.toArray] w fun e w' => e = .returned (.bool true) ∧ OR w' r pb n low (updI X i (some cs)) ∧ Turn (fun b => b = r ∨ b = pb) w w' := by
  obtain ⟨W, hW⟩ : ∃ W, W = w.alloc (.cells cs.toArray 57) := ⟨_, rfl⟩
  have T : Turn (fun _ => False) w W := by rw [hW]; exact (Turn.refl _ w).alloc _
  have C : W.rangeAt w.heap.size 0 cs := by rw [hW]; exact range_new w cs 57
  have hh := h.turn T (fun f => f) (fun f => f)
  have K := Lib.hid (And.intro T C)
  have H := Lib.hid (hh.find h1 h2)
  have hi := Lib.hid (And.intro h1 (And.intro h2 hx))
  have HC := Lib.hid hc
  clear T C h h1 h2 hx hc
  go_enter Tryz.func289, Tryz.ntmps289
  go_upto_region 1 with fail
  rw [← hW]
  clear hW
  generalize w.heap.size = b at *
  go_wp2_with fail
  with_reducible refine H.out.mono ?_
  rintro e W2 ⟨rfl, T2⟩
  have h2 := hh.turn T2 (fun f => f) (fun f => f)
  have y := (h2.cx i hi.out.1 hi.out.2.1).2
  rw [hi.out.2.2] at y
  have y : W2.cell? ⟨pb, i % n * 5 + 4, none⟩ = some (.bool false) := y
  have C2 := Lib.hid (range_turn K.out.2 T2 (fun f => f))
  have TH : W2.there pb (i % n * 5) 5 := fun j hj => by
    refine ⟨?_, h2.bp.fz _⟩
    by_cases hj14 : j = 4
    · subst hj14
      rw [y]
      rfl
    · rw [(h2.cx i hi.out.1 hi.out.2.1).1 j _ (List.getElem?_eq_getElem (by rw [(h2.cmd i).len]; omega))]
      rfl
  have h3 := h2.set hi.out.1 hi.out.2.1 (some cs) (fun _ e => by cases e; exact HC.out)
  have T3 : Turn (fun b => b = r ∨ b = pb) W2 (W2.setCells pb (i % n * 5) (cs ++ [Value.bool true])) := Turn.setCells _ _ (show Turn (fun b => b = r ∨ b = pb) W2 W2 from Turn.refl _ W2) (.inl (.inr rfl))
  have T3 := ((K.out.1.trans T2).more (S' := fun b => b = r ∨ b = pb) (fun _ _ f => f.elim)).trans T3
  have h3 : OR (W2.setCells pb (i % n * 5) (cs ++ [Value.bool true])) r pb n low (updI X i (some cs)) := h3
  have BP := Lib.hid (build_oplace cs HC.out.len true)
  have TH := Lib.hid TH
  clear H hh T2 K h2
  generalize i % n = g at *
  go_upto_region 4 with fail
  refine wp_region_lit ?_
  refine rl_val rfl (v := .pointer (some ⟨pb, g * 5, none⟩)) rfl ?_
  try simp only [Act.put, List.setIfInBounds_toArray, List.set_cons_zero, List.set_cons_succ]
  refine wpList_load_mid rfl 57 _ rfl b 0 rfl cs _ C2.out Tryz.underlying57 rfl (by rw [HC.out.len]; exact size62) ?_
  try simp only [Act.put, List.setIfInBounds_toArray, List.set_cons_zero, List.set_cons_succ]
  refine rl_build rfl 331 _ rfl (vs := #[(0, .agg cs.toArray), (1, .bool true)]) (by simp [Act.eval]) (BP.out _) ?_
  try simp only [Act.put, List.setIfInBounds_toArray, List.set_cons_zero, List.set_cons_succ]
  refine rl_val rfl (v := .pointer (some ⟨pb, g * 5, none⟩)) rfl ?_
  try simp only [Act.put, List.setIfInBounds_toArray, List.set_cons_zero, List.set_cons_succ]
  refine wpList_store_mid rfl 331 _ _ rfl pb (g * 5) (cs ++ [Value.bool true]).toArray rfl rfl (by rw [List.size_toArray, List.length_append, HC.out.len]; exact TH.out) (by rw [List.size_toArray, List.length_append, HC.out.len]; exact size137) (one_more HC.out.one true) ?_
  try simp only [Act.put, List.setIfInBounds_toArray, List.set_cons_zero, List.set_cons_succ]
  change wpList _ _ _ _ _ (W2.setCells pb (g * 5) (cs ++ [Value.bool true]))
  generalize W2.setCells pb (g * 5) (cs ++ [Value.bool true]) = W4 at *
  obtain ⟨m, hm⟩ := h3.c2
  have fr := h3.br.fz
  have E := Lib.hid (And.intro h3 T3)
  clear h3 T3 C2 TH BP HC hi y
  go_wp2_with fail
  go_ret
  exact ⟨rfl, E.out.1.there _, E.out.2.trans ((Turn.put _ _ _ _).more (fun _ _ e => .inl e))⟩
set_option maxRecDepth 100000 in
set_option maxHeartbeats 2000000 in
theorem OR.drop (h : OR w r pb n low X) (hl : low + 1 ≤ 1000000) (hx : (X low).isSome = true) :
    Calls Tryz.prog 260 #[.pointer (some ⟨r, 0, none⟩)] w fun e w' => (∃ v, e = .returned v) ∧ OR w' r pb n (low + 1) (updI X low none) ∧ Turn (fun b => b = r ∨ b = pb) w w' := by
  obtain ⟨W, hW⟩ : ∃ W, W = w.alloc (.cells #[.slice none 0 0, .slice none 0 0, .slice none 0 0, .slice none 0 0] 57) := ⟨_, rfl⟩
  have T : Turn (fun _ => False) w W := by rw [hW]; exact (Turn.refl _ w).alloc _
  have B : Blk W w.heap.size 57 := by rw [hW]; exact Blk.new w zo 57
  have C : W.rangeAt w.heap.size 0 zo := by rw [hW]; exact range_new w zo 57
  have hh := h.turn T (fun f => f) (fun f => f)
  have H := Lib.hid hh.low_is
  have G := Lib.hid (hh.get_any (at_ := (low : Int)) (by have := h.l2; omega))
  have K := Lib.hid (And.intro T (And.intro B C))
  have HH := Lib.hid hh
  have hc := Lib.hid (h.cmd low)
  have HX := Lib.hid (And.intro hx hl)
  clear T B C h hh hl
  rw [hx] at G
  generalize hcs : (X (low : Int)).getD zo = cs at *
  clear hcs
  go_enter Tryz.func260, Tryz.ntmps260
  go_upto_region 1 with fail
  rw [← hW]
  clear hW
  generalize hbb : w.heap.size = b at *
  have HB := Lib.hid hbb
  clear hbb
  go_wp2_with fail
  with_reducible refine H.out.mono ?_
  rintro e W1 ⟨rfl, rfl⟩
  go_wp2_with fail
  with_reducible refine G.out.mono ?_
  rintro e W2 ⟨rfl, T2⟩
  dsimp only
  refine (‹∀ (a : Act) (w : World), wpList _ _ _ _ a w → _›) _ _ ?_
  refine rl_val rfl (v := .tuple #[.agg cs.toArray, .bool true]) rfl ?_
  try simp only [Act.put, List.setIfInBounds_toArray, List.set_cons_zero, List.set_cons_succ]
  refine rl_val rfl (v := .agg cs.toArray) rfl ?_
  try simp only [Act.put, List.setIfInBounds_toArray, List.set_cons_zero, List.set_cons_succ]
  refine rl_val rfl (v := .bool true) rfl ?_
  try simp only [Act.put, List.setIfInBounds_toArray, List.set_cons_zero, List.set_cons_succ]
  refine rl_val rfl (alloc62 _ _ rfl) ?_
  try simp only [Act.put, List.setIfInBounds_toArray, List.set_cons_zero, List.set_cons_succ]
  obtain ⟨W3, hW3⟩ : ∃ W, W = W2.alloc (.cells zo.toArray 57) := ⟨_, rfl⟩
  rw [← hW3]
  have T3 : Turn (fun _ => False) W2 W3 := by rw [hW3]; exact (Turn.refl _ W2).alloc _
  have B3 : Blk W3 W2.heap.size 57 := by rw [hW3]; exact Blk.new W2 zo 57
  have C3 : W3.there W2.heap.size 0 4 := range_there (by rw [hW3]; exact range_new W2 zo 57) rfl B3
  have hb4 : W.heap.size ≤ W2.heap.size := T2.size
  have hb5 : W2.heap.size < W3.heap.size := B3.lt
  clear hW3
  generalize W2.heap.size = b4 at *
  refine wpList_store_mid rfl 57 _ _ rfl b4 0 cs.toArray rfl rfl (by rw [List.size_toArray, hc.out.len]; exact C3) (by rw [List.size_toArray, hc.out.len]; exact size62) hc.out.one ?_
  try simp only [Act.put, List.setIfInBounds_toArray, List.set_cons_zero, List.set_cons_succ]
  change wpList _ _ _ _ _ (W3.setCells b4 0 cs)
  have T4 : Turn (fun k => k = b4) W3 (W3.setCells b4 0 cs) := Turn.setCells cs 0 (Turn.refl _ W3) (.inl rfl)
  have R4 : (W3.setCells b4 0 cs).rangeAt b4 0 cs := World.rangeAt_setCells_same _ _ _ _ (by rw [hc.out.len]; exact C3)
  have T14 : Turn (fun _ => False) W (W3.setCells b4 0 cs) := ((T2.trans T3).comp T4 (fun j hj e => by omega))
  have B4 := B3.setCells (c := b4) cs 0
  generalize W3.setCells b4 0 cs = W4 at *
  have h4 := HH.out.turn T14 (fun f => f) (fun f => f)
  have F := Lib.hid (h4.find (i := low) (Nat.le_refl _) (by have := h4.n1; omega))
  have c1 := h4.c1
  have hl2 := h4.l2
  have HH := Lib.hid h4
  have K := Lib.hid (And.intro (K.out.1.trans T14) (And.intro (K.out.2.1.turn T14 (fun f => f)) (And.intro (range_turn K.out.2.2 T14 (fun f => f)) (And.intro B4 (And.intro R4 hb4)))))
  have hd : decide ((4611686018427387904 : Int) ≤ (low : Int)) = false := by simp; omega
  clear T3 B3 C3 hb5 T4 R4 T14 B4 h4 H G T2
  go_wp2_with fail
  with_reducible refine F.out.mono ?_
  rintro e W5 ⟨rfl, T5⟩
  dsimp only
  refine (‹∀ (a : Act) (w : World), wpList _ _ _ _ a w → _›) _ _ ?_
  have h5 := HH.out.turn T5 (fun f => f) (fun f => f)
  have h6 := h5.set (i := low) (Nat.le_refl _) (by have := h5.n1; omega) none (fun cs e => by cases e)
  have h6 : OR (W5.setCells pb (low % n * 5) (zo ++ [Value.bool false])) r pb n low (updI X low none) := h6
  have T6 : Turn (fun b => b = r ∨ b = pb) W5 (W5.setCells pb (low % n * 5) (zo ++ [Value.bool false])) := Turn.setCells _ _ (show Turn (fun b => b = r ∨ b = pb) W5 W5 from Turn.refl _ W5) (.inl (.inr rfl))
  have TH : W5.there pb (low % n * 5) 5 := fun j hj => by
    refine ⟨?_, h5.bp.fz _⟩
    have c := h5.cx low (Nat.le_refl _) (by have := h5.n1; omega)
    by_cases hj14 : j = 4
    · subst hj14
      rw [c.2]
      rfl
    · rw [c.1 j _ (List.getElem?_eq_getElem (by rw [(h5.cmd low).len]; omega))]
      rfl
  refine rl_build rfl 331 _ rfl (vs := #[]) (by simp) (build_onone _) ?_
  try simp only [Act.put, List.setIfInBounds_toArray, List.set_cons_zero, List.set_cons_succ]
  refine rl_val rfl (v := .pointer (some ⟨pb, low % n * 5, none⟩)) rfl ?_
  try simp only [Act.put, List.setIfInBounds_toArray, List.set_cons_zero, List.set_cons_succ]
  refine wpList_store_mid rfl 331 _ _ rfl pb (low % n * 5) (zo ++ [Value.bool false]).toArray rfl rfl TH size137 (one_more zo_is.one false) ?_
  try simp only [Act.put, List.setIfInBounds_toArray, List.set_cons_zero, List.set_cons_succ]
  change wpList _ _ _ _ _ (W5.setCells pb (low % n * 5) (zo ++ [Value.bool false]))
  have hbr : b ≠ r ∧ b ≠ pb := ⟨K.out.2.1.ne (HH.out.br) (by decide), K.out.2.1.ne (HH.out.bp) (by decide)⟩
  have hbr4 : b4 ≠ r ∧ b4 ≠ pb := ⟨K.out.2.2.2.1.ne (HH.out.br) (by decide), K.out.2.2.2.1.ne (HH.out.bp) (by decide)⟩
  have T46 : Turn (fun b => b = r ∨ b = pb) W4 (W5.setCells pb (low % n * 5) (zo ++ [Value.bool false])) := (T5.more (S' := fun b => b = r ∨ b = pb) (fun _ _ f => f.elim)).trans T6
  clear T6 TH h5 T5 F
  generalize W5.setCells pb (low % n * 5) (zo ++ [Value.bool false]) = W6 at *
  have c1 := h6.c1
  have hw : wrap64 ((low : Int) + 1) = (low : Int) + 1 := by unfold wrap64; omega
  have fr := h6.br.fz
  have h7 := h6.lows (by have := HX.out.2; omega) (updI_at _ _ _)
  have T7 := T46.trans ((Turn.put W6 r 1 (.int .i64 ((low + 1 : Nat) : Int))).more (S' := fun b => b = r ∨ b = pb) (fun _ _ e => .inl e))
  clear h6 T46
  go_upto_region 7 with fail
  change Code.wp _ _ _ _ (W6.setCell ⟨r, 1, none⟩ (.int .i64 ((low + 1 : Nat) : Int)))
  generalize W6.setCell ⟨r, 1, none⟩ (.int .i64 ((low + 1 : Nat) : Int)) = W7 at *
  obtain ⟨m, hm⟩ := h7.c2
  have fr := h7.br.fz
  have h8 := h7.there (wrap64 (m - 1))
  have T8 := T7.trans ((Turn.put W7 r 2 (.int .i64 (wrap64 (m - 1)))).more (S' := fun b => b = r ∨ b = pb) (fun _ _ e => .inl e))
  clear h7 T7 c1 hw
  go_upto_region 8 with fail
  generalize W7.setCell ⟨r, 2, none⟩ (.int .i64 (wrap64 (m - 1))) = W8 at *
  have TH : W8.there b 0 4 := range_there (range_turn K.out.2.2.1 T8 (fun e => e.elim hbr.1 hbr.2)) rfl (K.out.2.1.turn T8 (fun e => e.elim hbr.1 hbr.2))
  have R8 := range_turn K.out.2.2.2.2.1 T8 (fun e => e.elim hbr4.1 hbr4.2)
  have T9 : Turn (fun k => k = b) W8 (W8.setCells b 0 cs) := Turn.setCells cs 0 (Turn.refl _ W8) (.inl rfl)
  have h9 := Lib.hid (h8.turn T9 (Ne.symm hbr.1) (Ne.symm hbr.2))
  have KE := Lib.hid (show Turn (fun b => b = r ∨ b = pb) w (W8.setCells b 0 cs) from ((K.out.1.more (S' := fun b => b = r ∨ b = pb) (fun _ _ f => f.elim)).trans T8).comp T9 (fun j hj e => by have := HB.out; omega))
  refine wp_region_lit ?_
  refine wpList_load_mid rfl 57 _ rfl b4 0 rfl cs _ R8 Tryz.underlying57 rfl (by rw [hc.out.len]; exact size62) ?_
  try simp only [Act.put, List.setIfInBounds_toArray, List.set_cons_zero, List.set_cons_succ]
  refine wpList_store_mid rfl 57 _ _ rfl b 0 cs.toArray rfl rfl (by rw [List.size_toArray, hc.out.len]; exact TH) (by rw [List.size_toArray, hc.out.len]; exact size62) hc.out.one ?_
  try simp only [Act.put, List.setIfInBounds_toArray, List.set_cons_zero, List.set_cons_succ]
  clear T9 h8 T8
  go_wp2_with fail
  exact bodyPost_ret (v := .tuple #[.agg cs.toArray, .bool true]) (res_cell_tmp (a := 2) (k := 3) rfl rfl rfl (run_loadVar_mid _ b 0 57 cs _ (World.rangeAt_setCells_same _ b 0 cs (by rw [hc.out.len]; exact TH)) Tryz.underlying57 rfl (by rw [hc.out.len]; exact size62))) rfl ⟨⟨_, rfl⟩, h9.out, KE.out⟩
end
end Go.Proofs.YtgfobgabdafclaaGreat
