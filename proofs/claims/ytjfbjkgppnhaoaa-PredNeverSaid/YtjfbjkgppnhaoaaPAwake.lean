/-
  The examples of chapter 5: contracts for the walks of the statements of layer 5.
-/
import Derived.Test.YtjfbjkgppnhaoaaEval
import Derived.Test.YtjfbjkgppnhaoaaCodes
import Derived.Deep.RegionHeld3
namespace Go.Proofs.Ytjfbjkgppnhaoaa
open Go.ChangeShapes Go.WideShapes Go.ChangeAt Go.RowKit
set_option linter.unusedVariables false

theorem one_is (x : Int) (w : World) : Calls Try.prog 47 #[.int .i64 x] w fun e w' => e = .returned (.slice (some ⟨w.heap.size + 1, 0, none⟩) 1 1) ∧ w' = (w.alloc (.cells #[.int .i64 0, .int .i64 0, .int .i64 x, .int .i64 0, .int .i64 0, .int .i64 0] 51)).alloc (.cells #[.slice (some ⟨w.heap.size, 0, none⟩) 1 1] 48) := by
  go_enter Try.func47, Try.ntmps47
  go_wp2
  go_ret
  exact ⟨rfl, rfl⟩
def env1 (x : Int) : Env := ⟨fun p => if p = 0 then 1 else 0, fun _ f => if f = 0 then x else 0⟩
theorem env1_at {w : World} {g h : Nat} {x : Int} (h1 : w.cell? ⟨g, 0, none⟩ = some (.slice (some ⟨h, 0, none⟩) 1 1)) (h2 : ∀ k, k < 6 → w.cell? ⟨h, k, none⟩ = some (.int .i64 (if k = 2 then x else 0))) : EnvAt w (some ⟨g, 0, none⟩) 1 (env1 x) := by
  refine ⟨by decide, fun p hp => if_neg (by omega), fun k hk => ?_⟩
  obtain rfl : k = 0 := by omega
  refine ⟨g, some ⟨h, 0, none⟩, 1, 1, rfl, h1, rfl, ⟨by decide, fun _ => ⟨h, rfl, fun f hf => ?_⟩⟩⟩
  have := h2 (2 + f) (by omega)
  rw [show (1 - 1) * 6 + 2 + f = 2 + f from by omega, this]
  have hf' : f = 0 ∨ f = 1 ∨ f = 2 ∨ f = 3 := by omega
  rcases hf' with rfl | rfl | rfl | rfl <;> rfl
theorem one_abs (x : Int) (w : World) : Calls Try.prog 47 #[.int .i64 x] w fun e w' => ∃ g, e = .returned (.slice (some ⟨g, 0, none⟩) 1 1) ∧ EnvAt w' (some ⟨g, 0, none⟩) 1 (env1 x) ∧ Below w.heap.size w w' :=
  (one_is x w).mono fun e w' ⟨he, hw⟩ => by
    subst hw
    refine ⟨_, he, env1_at (h := w.heap.size) ?_ (fun k hk => ?_), ((Below.refl _ w).alloc (Nat.le_refl _) _).alloc (by simp) _⟩
    · have := World.cell?_alloc_new (w.alloc (.cells #[.int .i64 0, .int .i64 0, .int .i64 x, .int .i64 0, .int .i64 0, .int .i64 0] 51)) #[.slice (some ⟨w.heap.size, 0, none⟩) 1 1] 48 0
      rw [World.size_alloc] at this
      exact this
    · refine (World.cell?_alloc_lt _ _ _ (by show w.heap.size < _; simp)).trans ((World.cell?_alloc_new w _ 51 k).trans ?_)
      have hk' : k = 0 ∨ k = 1 ∨ k = 2 ∨ k = 3 ∨ k = 4 ∨ k = 5 := by omega
      rcases hk' with rfl | rfl | rfl | rfl | rfl | rfl <;> rfl
theorem codes_new (w : World) (cs : List Cd) (b : Nat) (hb : b = w.heap.size) : CodesAt (w.alloc (.cells (ccells cs).toArray 54)) (some ⟨b, 0, none⟩) cs := fun k c hc => by
  subst hb
  have key : ∀ o u, (ccell c)[o]? = some u → (w.alloc (.cells (ccells cs).toArray 54)).cell? ⟨w.heap.size, k * 5 + o, none⟩ = some u := fun o u ho => by
    rw [World.cell?_alloc_new]
    simpa using ccells_at cs k o c u hc ho
  exact ⟨_, ByteArray.empty, rfl, key 0 _ rfl, key 1 _ rfl, key 2 _ rfl, key 3 _ rfl, key 4 _ rfl⟩
theorem codes_newd (w : World) (cs : List Cd) (b : Nat) (hb : b = w.heap.size) : CodesAt (w.alloc (.cells (ccells cs).toArray 54)).drew (some ⟨b, 0, none⟩) cs := codes_new w cs b hb
def exa : List Cd := [⟨7, 0, 0, 0⟩, ⟨6, 4, 0, 0⟩, ⟨4, 0, 0, 0⟩]
def exb : List Cd := [⟨6, 1, 0, 0⟩, ⟨7, 0, 0, 0⟩, ⟨6, 6, 0, 0⟩, ⟨2, 0, 0, 0⟩, ⟨5, 0, 0, 0⟩]
theorem exa_is : evalCd (env1 6) exa = some 1 := by decide +kernel
theorem exb_is : evalCd (env1 6) exb = none := by decide +kernel
/-- An example's codes, and sets, laid in either order. -/
theorem eval_a {w : World} {ad a : Option Addr} (hE : EnvAt w a 1 (env1 6)) (hC : CodesAt w ad exa) : Calls Try.prog 23 #[.slice ad 3 3, .slice a 1 1] w fun e w' => e = .returned (.tuple #[.int .i64 1, .bool true]) ∧ Below w.heap.size w w' :=
  (eval_any (cap := 3) (cap2 := 1) hE hC (by decide)).mono fun e w' h => by
    unfold EvPost at h
    rw [exa_is] at h
    exact h
theorem eval_b {w : World} {ad a : Option Addr} (hE : EnvAt w a 1 (env1 6)) (hC : CodesAt w ad exb) : Calls Try.prog 23 #[.slice ad 5 5, .slice a 1 1] w fun e w' => e = .returned (.tuple #[.int .i64 0, .bool false]) ∧ Below w.heap.size w w' :=
  (eval_any (cap := 5) (cap2 := 1) hE hC (by decide)).mono fun e w' h => by
    unfold EvPost at h
    rw [exb_is] at h
    exact h
theorem EnvAt.new {w : World} {a : Option Addr} {m : Nat} {v : Env} (h : EnvAt w a m v) (o : Obj) : EnvAt (w.alloc o) a m v := h.keep ((Below.refl _ w).alloc (Nat.le_refl _) o)

theorem le_alloc_drew (w : World) (o : Obj) : w.heap.size ≤ (w.alloc o).drew.heap.size := by
  show w.heap.size ≤ (w.alloc o).heap.size
  rw [World.size_alloc]
  omega
theorem keep5 {w w' : World} {n : Nat} {u0 u1 u2 u3 u4 : Value} (hb : Below w.heap.size w w') (h : w.cell? ⟨n, 0, none⟩ = some u0 ∧ w.cell? ⟨n, 1, none⟩ = some u1 ∧ w.cell? ⟨n, 2, none⟩ = some u2 ∧ w.cell? ⟨n, 3, none⟩ = some u3 ∧ w.cell? ⟨n, 4, none⟩ = some u4) :
    w'.cell? ⟨n, 0, none⟩ = some u0 ∧ w'.cell? ⟨n, 1, none⟩ = some u1 ∧ w'.cell? ⟨n, 2, none⟩ = some u2 ∧ w'.cell? ⟨n, 3, none⟩ = some u3 ∧ w'.cell? ⟨n, 4, none⟩ = some u4 := by
  have hl := block_lt_of_cell h.1
  exact ⟨(hb.cell (p := ⟨n, 0, none⟩) hl).trans h.1, (hb.cell (p := ⟨n, 1, none⟩) hl).trans h.2.1, (hb.cell (p := ⟨n, 2, none⟩) hl).trans h.2.2.1, (hb.cell (p := ⟨n, 3, none⟩) hl).trans h.2.2.2.1, (hb.cell (p := ⟨n, 4, none⟩) hl).trans h.2.2.2.2⟩
theorem keep5_alloc {w : World} {n : Nat} {u0 u1 u2 u3 u4 : Value} (h0 : w.cell? ⟨n, 0, none⟩ = some u0) (h1 : w.cell? ⟨n, 1, none⟩ = some u1) (h2 : w.cell? ⟨n, 2, none⟩ = some u2) (h3 : w.cell? ⟨n, 3, none⟩ = some u3) (h4 : w.cell? ⟨n, 4, none⟩ = some u4) (o : Obj) :
    (w.alloc o).cell? ⟨n, 0, none⟩ = some u0 ∧ (w.alloc o).cell? ⟨n, 1, none⟩ = some u1 ∧ (w.alloc o).cell? ⟨n, 2, none⟩ = some u2 ∧ (w.alloc o).cell? ⟨n, 3, none⟩ = some u3 ∧ (w.alloc o).cell? ⟨n, 4, none⟩ = some u4 :=
  keep5 ((Below.refl _ w).alloc (Nat.le_refl _) o) ⟨h0, h1, h2, h3, h4⟩
set_option maxRecDepth 100000 in
set_option maxHeartbeats 8000000 in
theorem pred_awake (w : World) : Calls Try.prog 14 #[] w fun e w' => e = .returned (.bool true) ∧ Below w.heap.size w w' := by
  have b0 : Below w.heap.size w (w.alloc (.cells #[.int .i64 7, .int .i64 0, .string ⟨#[]⟩, .int .i64 0, .int .i64 0] 54)) := (Below.refl _ w).alloc (Nat.le_refl _) _
  have n0 := b0.size
  have c0 := World.cell?_alloc_new w #[.int .i64 7, .int .i64 0, .string ⟨#[]⟩, .int .i64 0, .int .i64 0] 54 0
  have c1 := World.cell?_alloc_new w #[.int .i64 7, .int .i64 0, .string ⟨#[]⟩, .int .i64 0, .int .i64 0] 54 1
  have c2 := World.cell?_alloc_new w #[.int .i64 7, .int .i64 0, .string ⟨#[]⟩, .int .i64 0, .int .i64 0] 54 2
  have c3 := World.cell?_alloc_new w #[.int .i64 7, .int .i64 0, .string ⟨#[]⟩, .int .i64 0, .int .i64 0] 54 3
  have c4 := World.cell?_alloc_new w #[.int .i64 7, .int .i64 0, .string ⟨#[]⟩, .int .i64 0, .int .i64 0] 54 4
  simp only [List.getElem?_toArray, List.getElem?_cons_zero, List.getElem?_cons_succ] at c0 c1 c2 c3 c4
  go_enter Try.func14, Try.ntmps14
  go_wp2_with fail
  generalize w.alloc (.cells #[.int .i64 7, .int .i64 0, .string ⟨#[]⟩, .int .i64 0, .int .i64 0] 54) = W0 at *
  refine wp_region_held_drew (S := (fun w' => w'.cell? ⟨w.heap.size, 0, none⟩ = some (.int .i64 7) ∧ w'.cell? ⟨w.heap.size, 1, none⟩ = some (.int .i64 0) ∧ w'.cell? ⟨w.heap.size, 2, none⟩ = some (.string ⟨#[]⟩) ∧ w'.cell? ⟨w.heap.size, 3, none⟩ = some (.int .i64 0) ∧ w'.cell? ⟨w.heap.size, 4, none⟩ = some (.int .i64 0))) (by kernel_rfl) ?hs0 (fun hS0 => ?_)
  case hs0 => ((try dsimp only); first | (go_keep; done) | (refine ⟨?_, ?_, ?_, ?_, ?_⟩ <;> (go_keep; done)))
  refine wpAnyH_take (i := 0) (oi := { dst := some 8, op := Op.load 54 (Operand.tmp 1), type := 54, pos := "law.go:18", after := #[], guard := none }) (v := ?_) rfl (by kernel_rfl) (by kernel_rfl) (by kernel_rfl) (fun _ _ _ h => h) (Or.inl ⟨by rfl, ?hy1⟩) hS0 ?_
  case hy1 => (intro w hSw; (try dsimp only at hSw); go_simp; try with_reducible rfl)
  try simp only [Act.put, List.setIfInBounds_toArray, List.set_cons_zero, List.set_cons_succ]
  refine wpAnyH_take (i := 1) (oi := { dst := some 9, op := Op.build 54 #[(0, Operand.const (Value.int IntKind.i64 6)), (1, Operand.const (Value.int IntKind.i64 4))], type := 54, pos := "law.go:18", after := #[], guard := none }) (v := ?_) rfl (by kernel_rfl) (by kernel_rfl) (by kernel_rfl) (fun _ _ _ h => h) (Or.inl ⟨by rfl, ?hy2⟩) hS0 ?_
  case hy2 => (intro w hSw; (try dsimp only at hSw); go_simp; try with_reducible rfl)
  try simp only [Act.put, List.setIfInBounds_toArray, List.set_cons_zero, List.set_cons_succ]
  refine wpAnyH_take (i := 2) (oi := { dst := some 10, op := Op.build 54 #[(0, Operand.const (Value.int IntKind.i64 4))], type := 54, pos := "law.go:18", after := #[], guard := none }) (v := ?_) rfl (by kernel_rfl) (by kernel_rfl) (by kernel_rfl) (fun _ _ _ h => h) (Or.inl ⟨by rfl, ?hy3⟩) hS0 ?_
  case hy3 => (intro w hSw; (try dsimp only at hSw); go_simp; try with_reducible rfl)
  try simp only [Act.put, List.setIfInBounds_toArray, List.set_cons_zero, List.set_cons_succ]
  refine wpAnyH_ready (rs := [3, 4]) (by kernel_rfl) (by simp) ?_
  refine AllReadyH.cons (o := { dst := some 11, op := Op.buildSlice 39 3 #[(0, Operand.tmp 8), (1, Operand.tmp 9), (2, Operand.tmp 10)], type := 39, pos := "law.go:18", after := #[{ on := 0, ground := Ground.data }, { on := 1, ground := Ground.data }, { on := 2, ground := Ground.data }], guard := none }) rfl (fun K hK => ?_) ?_
  · go_simp
    refine hK.out _ _ ?hs4 (fun hS4 => ?_)
    case hs4 => ((try dsimp only); first | (go_keep; done) | (refine ⟨?_, ?_, ?_, ?_, ?_⟩ <;> (go_keep; done)))
    clear hK K hS0
    refine wpAnyH_ready (rs := [4]) (by kernel_rfl) (by simp) ?_
    refine AllReadyH.cons (o := { dst := some 12, op := Op.call { callee := Callee.value (Operand.func 47), args := #[Operand.const (Value.int IntKind.i64 6)], argTypes := #[2] }, type := 27, pos := "law.go:18", after := #[], guard := none }) rfl (fun K hK => ?_) ?_
    · go_simp; refine (one_abs _ _).mono ?_; rintro e w1 ⟨g, rfl, hE, hb⟩; have sK := keep5 hb (keep5_alloc c0 c1 c2 c3 c4 (.cells (ccells exa).toArray 54)); obtain ⟨c0, c1, c2, c3, c4⟩ := sK; go_simp
      refine hK.out _ _ ?hs5 (fun hS5 => ?_)
      case hs5 => ((try dsimp only); first | (go_keep; done) | (refine ⟨?_, ?_, ?_, ?_, ?_⟩ <;> (go_keep; done)))
      clear hK K hS4
      refine wpAnyH_ready (rs := [5]) (by kernel_rfl) (by simp) ?_
      refine AllReadyH.cons (o := { dst := some 13, op := Op.call { callee := Callee.value (Operand.func 23), args := #[Operand.tmp 11, Operand.tmp 12], argTypes := #[39, 27] }, type := 45, pos := "law.go:18", after := #[{ on := 3, ground := Ground.data }, { on := 4, ground := Ground.data }, { on := 4, ground := Ground.chain }], guard := none }) rfl (fun K hK => ?_) ?_
      · go_simp; refine (eval_a hE ((codes_newd W0 exa _ rfl).keep hb)).mono ?_; rintro e w2 ⟨rfl, hb2⟩; have sK := keep5 hb2 ⟨c0, c1, c2, c3, c4⟩; obtain ⟨c0, c1, c2, c3, c4⟩ := sK; have B2 := Lib.hid (((b0.alloc n0 (.cells (ccells exa).toArray 54)).drew.trans (hb.mono (Nat.le_trans n0 (le_alloc_drew _ _)))).trans (hb2.mono (Nat.le_trans n0 (Nat.le_trans (le_alloc_drew _ _) hb.size)))); go_simp
        refine hK.out _ _ ?hs6 (fun hS6 => ?_)
        case hs6 => ((try dsimp only); first | (go_keep; done) | (refine ⟨?_, ?_, ?_, ?_, ?_⟩ <;> (go_keep; done)))
        clear hK K hS5
        refine wpAnyH_take (i := 6) (oi := { dst := some 7, op := Op.move (Operand.tmp 13), type := 45, pos := "law.go:18", after := #[{ on := 5, ground := Ground.data }], guard := none }) (v := ?_) rfl (by kernel_rfl) (by kernel_rfl) (by kernel_rfl) (fun _ _ _ h => h) (Or.inl ⟨by rfl, ?hy7⟩) hS6 ?_
        case hy7 => (intro w hSw; (try dsimp only at hSw); go_simp; try with_reducible rfl)
        try simp only [Act.put, List.setIfInBounds_toArray, List.set_cons_zero, List.set_cons_succ]
        refine wpAnyH_take (i := 7) (oi := { dst := some 14, op := Op.extract (Operand.tmp 7) 0, type := 2, pos := "law.go:18", after := #[{ on := 6, ground := Ground.data }], guard := none }) (v := ?_) rfl (by kernel_rfl) (by kernel_rfl) (by kernel_rfl) (fun _ _ _ h => h) (Or.inl ⟨by rfl, ?hy8⟩) hS6 ?_
        case hy8 => (intro w hSw; (try dsimp only at hSw); go_simp; try with_reducible rfl)
        try simp only [Act.put, List.setIfInBounds_toArray, List.set_cons_zero, List.set_cons_succ]
        refine wpAnyH_take (i := 8) (oi := { dst := some 15, op := Op.extract (Operand.tmp 7) 1, type := 4, pos := "law.go:18", after := #[{ on := 6, ground := Ground.data }, { on := 9, ground := Ground.gcOnly Departure.lateStores }], guard := none }) (v := ?_) rfl (by kernel_rfl) (by kernel_rfl) (by kernel_rfl) (fun _ _ _ h => h) (Or.inl ⟨by rfl, ?hy9⟩) hS6 ?_
        case hy9 => (intro w hSw; (try dsimp only at hSw); go_simp; try with_reducible rfl)
        try simp only [Act.put, List.setIfInBounds_toArray, List.set_cons_zero, List.set_cons_succ]
        refine wpAnyH_take (i := 9) (oi := { dst := some 2, op := Op.assign (Operand.tmp 14), type := 2, pos := "law.go:18", after := #[{ on := 7, ground := Ground.data }, { on := 5, ground := Ground.chain }, { on := 0, ground := Ground.phase }, { on := 1, ground := Ground.phase }, { on := 2, ground := Ground.phase }, { on := 3, ground := Ground.phase }, { on := 4, ground := Ground.phase }, { on := 5, ground := Ground.phase }, { on := 6, ground := Ground.phase }, { on := 7, ground := Ground.phase }, { on := 8, ground := Ground.textOnly Departure.lateStores }], guard := none }) (v := ?_) rfl (by kernel_rfl) (by kernel_rfl) (by kernel_rfl) (fun _ _ _ h => h) (Or.inl ⟨by rfl, ?hy10⟩) hS6 ?_
        case hy10 => (intro w hSw; (try dsimp only at hSw); go_simp; try with_reducible rfl)
        try simp only [Act.put, List.setIfInBounds_toArray, List.set_cons_zero, List.set_cons_succ]
        refine wpAnyH_take (i := 10) (oi := { dst := some 3, op := Op.assign (Operand.tmp 15), type := 4, pos := "law.go:18", after := #[{ on := 8, ground := Ground.data }, { on := 9, ground := Ground.chain }, { on := 0, ground := Ground.phase }, { on := 1, ground := Ground.phase }, { on := 2, ground := Ground.phase }, { on := 3, ground := Ground.phase }, { on := 4, ground := Ground.phase }, { on := 5, ground := Ground.phase }, { on := 6, ground := Ground.phase }, { on := 7, ground := Ground.phase }, { on := 8, ground := Ground.phase }, { on := 9, ground := Ground.phase }], guard := none }) (v := ?_) rfl (by kernel_rfl) (by kernel_rfl) (by kernel_rfl) (fun _ _ _ h => h) (Or.inl ⟨by rfl, ?hy11⟩) hS6 ?_
        case hy11 => (intro w hSw; (try dsimp only at hSw); go_simp; try with_reducible rfl)
        try simp only [Act.put, List.setIfInBounds_toArray, List.set_cons_zero, List.set_cons_succ]
        refine wpAnyH_done (by kernel_rfl) ?_ _
        go_wp2_with fail
        have b0 := B2.out
        have n0 := b0.size
        clear hE hb hb2 B2
        refine wp_region_held_drew (S := (fun w' => w'.cell? ⟨w.heap.size, 0, none⟩ = some (.int .i64 7) ∧ w'.cell? ⟨w.heap.size, 1, none⟩ = some (.int .i64 0) ∧ w'.cell? ⟨w.heap.size, 2, none⟩ = some (.string ⟨#[]⟩) ∧ w'.cell? ⟨w.heap.size, 3, none⟩ = some (.int .i64 0) ∧ w'.cell? ⟨w.heap.size, 4, none⟩ = some (.int .i64 0))) (by kernel_rfl) ?hs0 (fun hS0 => ?_)
        case hs0 => ((try dsimp only); first | (go_keep; done) | (refine ⟨?_, ?_, ?_, ?_, ?_⟩ <;> (go_keep; done)))
        refine wpAnyH_take (i := 0) (oi := { dst := some 17, op := Op.build 54 #[(0, Operand.const (Value.int IntKind.i64 6)), (1, Operand.const (Value.int IntKind.i64 1))], type := 54, pos := "law.go:19", after := #[], guard := none }) (v := ?_) rfl (by kernel_rfl) (by kernel_rfl) (by kernel_rfl) (fun _ _ _ h => h) (Or.inl ⟨by rfl, ?hy1⟩) hS0 ?_
        case hy1 => (intro w hSw; (try dsimp only at hSw); go_simp; try with_reducible rfl)
        try simp only [Act.put, List.setIfInBounds_toArray, List.set_cons_zero, List.set_cons_succ]
        refine wpAnyH_take (i := 1) (oi := { dst := some 18, op := Op.load 54 (Operand.tmp 1), type := 54, pos := "law.go:19", after := #[], guard := none }) (v := ?_) rfl (by kernel_rfl) (by kernel_rfl) (by kernel_rfl) (fun _ _ _ h => h) (Or.inl ⟨by rfl, ?hy2⟩) hS0 ?_
        case hy2 => (intro w hSw; (try dsimp only at hSw); go_simp; try with_reducible rfl)
        try simp only [Act.put, List.setIfInBounds_toArray, List.set_cons_zero, List.set_cons_succ]
        refine wpAnyH_take (i := 2) (oi := { dst := some 19, op := Op.build 54 #[(0, Operand.const (Value.int IntKind.i64 6)), (1, Operand.const (Value.int IntKind.i64 6))], type := 54, pos := "law.go:19", after := #[], guard := none }) (v := ?_) rfl (by kernel_rfl) (by kernel_rfl) (by kernel_rfl) (fun _ _ _ h => h) (Or.inl ⟨by rfl, ?hy3⟩) hS0 ?_
        case hy3 => (intro w hSw; (try dsimp only at hSw); go_simp; try with_reducible rfl)
        try simp only [Act.put, List.setIfInBounds_toArray, List.set_cons_zero, List.set_cons_succ]
        refine wpAnyH_take (i := 3) (oi := { dst := some 20, op := Op.build 54 #[(0, Operand.const (Value.int IntKind.i64 2))], type := 54, pos := "law.go:19", after := #[], guard := none }) (v := ?_) rfl (by kernel_rfl) (by kernel_rfl) (by kernel_rfl) (fun _ _ _ h => h) (Or.inl ⟨by rfl, ?hy4⟩) hS0 ?_
        case hy4 => (intro w hSw; (try dsimp only at hSw); go_simp; try with_reducible rfl)
        try simp only [Act.put, List.setIfInBounds_toArray, List.set_cons_zero, List.set_cons_succ]
        refine wpAnyH_take (i := 4) (oi := { dst := some 21, op := Op.build 54 #[(0, Operand.const (Value.int IntKind.i64 5))], type := 54, pos := "law.go:19", after := #[], guard := none }) (v := ?_) rfl (by kernel_rfl) (by kernel_rfl) (by kernel_rfl) (fun _ _ _ h => h) (Or.inl ⟨by rfl, ?hy5⟩) hS0 ?_
        case hy5 => (intro w hSw; (try dsimp only at hSw); go_simp; try with_reducible rfl)
        try simp only [Act.put, List.setIfInBounds_toArray, List.set_cons_zero, List.set_cons_succ]
        refine wpAnyH_ready (rs := [5, 6]) (by kernel_rfl) (by simp) ?_
        refine AllReadyH.cons (o := { dst := some 22, op := Op.buildSlice 39 5 #[(0, Operand.tmp 17), (1, Operand.tmp 18), (2, Operand.tmp 19), (3, Operand.tmp 20), (4, Operand.tmp 21)], type := 39, pos := "law.go:19", after := #[{ on := 0, ground := Ground.data }, { on := 1, ground := Ground.data }, { on := 2, ground := Ground.data }, { on := 3, ground := Ground.data }, { on := 4, ground := Ground.data }], guard := none }) rfl (fun K hK => ?_) ?_
        · go_simp
          refine hK.out _ _ ?hs6 (fun hS6 => ?_)
          case hs6 => ((try dsimp only); first | (go_keep; done) | (refine ⟨?_, ?_, ?_, ?_, ?_⟩ <;> (go_keep; done)))
          clear hK K hS0
          refine wpAnyH_ready (rs := [6]) (by kernel_rfl) (by simp) ?_
          refine AllReadyH.cons (o := { dst := some 23, op := Op.call { callee := Callee.value (Operand.func 47), args := #[Operand.const (Value.int IntKind.i64 6)], argTypes := #[2] }, type := 27, pos := "law.go:19", after := #[], guard := none }) rfl (fun K hK => ?_) ?_
          · go_simp; refine (one_abs _ _).mono ?_; rintro e w1q ⟨g, rfl, hE, hb⟩; have sK := keep5 hb (keep5_alloc c0 c1 c2 c3 c4 (.cells (ccells exb).toArray 54)); obtain ⟨c0, c1, c2, c3, c4⟩ := sK; go_simp
            refine hK.out _ _ ?hs7 (fun hS7 => ?_)
            case hs7 => ((try dsimp only); first | (go_keep; done) | (refine ⟨?_, ?_, ?_, ?_, ?_⟩ <;> (go_keep; done)))
            clear hK K hS6
            refine wpAnyH_ready (rs := [7]) (by kernel_rfl) (by simp) ?_
            refine AllReadyH.cons (o := { dst := some 24, op := Op.call { callee := Callee.value (Operand.func 23), args := #[Operand.tmp 22, Operand.tmp 23], argTypes := #[39, 27] }, type := 45, pos := "law.go:19", after := #[{ on := 5, ground := Ground.data }, { on := 6, ground := Ground.data }, { on := 6, ground := Ground.chain }], guard := none }) rfl (fun K hK => ?_) ?_
            · go_simp; refine (eval_b hE ((codes_newd w2 exb _ rfl).keep hb)).mono ?_; rintro e w2q ⟨rfl, hb2⟩; have sK := keep5 hb2 ⟨c0, c1, c2, c3, c4⟩; obtain ⟨c0, c1, c2, c3, c4⟩ := sK; have B2 := Lib.hid (((b0.alloc n0 (.cells (ccells exb).toArray 54)).drew.trans (hb.mono (Nat.le_trans n0 (le_alloc_drew _ _)))).trans (hb2.mono (Nat.le_trans n0 (Nat.le_trans (le_alloc_drew _ _) hb.size)))); go_simp
              refine hK.out _ _ ?hs8 (fun hS8 => ?_)
              case hs8 => ((try dsimp only); first | (go_keep; done) | (refine ⟨?_, ?_, ?_, ?_, ?_⟩ <;> (go_keep; done)))
              clear hK K hS7
              refine wpAnyH_take (i := 8) (oi := { dst := some 16, op := Op.move (Operand.tmp 24), type := 45, pos := "law.go:19", after := #[{ on := 7, ground := Ground.data }], guard := none }) (v := ?_) rfl (by kernel_rfl) (by kernel_rfl) (by kernel_rfl) (fun _ _ _ h => h) (Or.inl ⟨by rfl, ?hy9⟩) hS8 ?_
              case hy9 => (intro w hSw; (try dsimp only at hSw); go_simp; try with_reducible rfl)
              try simp only [Act.put, List.setIfInBounds_toArray, List.set_cons_zero, List.set_cons_succ]
              refine wpAnyH_take (i := 9) (oi := { dst := some 25, op := Op.extract (Operand.tmp 16) 0, type := 2, pos := "law.go:19", after := #[{ on := 8, ground := Ground.data }], guard := none }) (v := ?_) rfl (by kernel_rfl) (by kernel_rfl) (by kernel_rfl) (fun _ _ _ h => h) (Or.inl ⟨by rfl, ?hy10⟩) hS8 ?_
              case hy10 => (intro w hSw; (try dsimp only at hSw); go_simp; try with_reducible rfl)
              try simp only [Act.put, List.setIfInBounds_toArray, List.set_cons_zero, List.set_cons_succ]
              refine wpAnyH_take (i := 10) (oi := { dst := some 26, op := Op.extract (Operand.tmp 16) 1, type := 4, pos := "law.go:19", after := #[{ on := 8, ground := Ground.data }, { on := 11, ground := Ground.gcOnly Departure.lateStores }], guard := none }) (v := ?_) rfl (by kernel_rfl) (by kernel_rfl) (by kernel_rfl) (fun _ _ _ h => h) (Or.inl ⟨by rfl, ?hy11⟩) hS8 ?_
              case hy11 => (intro w hSw; (try dsimp only at hSw); go_simp; try with_reducible rfl)
              try simp only [Act.put, List.setIfInBounds_toArray, List.set_cons_zero, List.set_cons_succ]
              refine wpAnyH_take (i := 11) (oi := { dst := some 4, op := Op.assign (Operand.tmp 25), type := 2, pos := "law.go:19", after := #[{ on := 9, ground := Ground.data }, { on := 7, ground := Ground.chain }, { on := 0, ground := Ground.phase }, { on := 1, ground := Ground.phase }, { on := 2, ground := Ground.phase }, { on := 3, ground := Ground.phase }, { on := 4, ground := Ground.phase }, { on := 5, ground := Ground.phase }, { on := 6, ground := Ground.phase }, { on := 7, ground := Ground.phase }, { on := 8, ground := Ground.phase }, { on := 9, ground := Ground.phase }, { on := 10, ground := Ground.textOnly Departure.lateStores }], guard := none }) (v := ?_) rfl (by kernel_rfl) (by kernel_rfl) (by kernel_rfl) (fun _ _ _ h => h) (Or.inl ⟨by rfl, ?hy12⟩) hS8 ?_
              case hy12 => (intro w hSw; (try dsimp only at hSw); go_simp; try with_reducible rfl)
              try simp only [Act.put, List.setIfInBounds_toArray, List.set_cons_zero, List.set_cons_succ]
              refine wpAnyH_take (i := 12) (oi := { dst := some 5, op := Op.assign (Operand.tmp 26), type := 4, pos := "law.go:19", after := #[{ on := 10, ground := Ground.data }, { on := 11, ground := Ground.chain }, { on := 0, ground := Ground.phase }, { on := 1, ground := Ground.phase }, { on := 2, ground := Ground.phase }, { on := 3, ground := Ground.phase }, { on := 4, ground := Ground.phase }, { on := 5, ground := Ground.phase }, { on := 6, ground := Ground.phase }, { on := 7, ground := Ground.phase }, { on := 8, ground := Ground.phase }, { on := 9, ground := Ground.phase }, { on := 10, ground := Ground.phase }, { on := 11, ground := Ground.phase }], guard := none }) (v := ?_) rfl (by kernel_rfl) (by kernel_rfl) (by kernel_rfl) (fun _ _ _ h => h) (Or.inl ⟨by rfl, ?hy13⟩) hS8 ?_
              case hy13 => (intro w hSw; (try dsimp only at hSw); go_simp; try with_reducible rfl)
              try simp only [Act.put, List.setIfInBounds_toArray, List.set_cons_zero, List.set_cons_succ]
              refine wpAnyH_done (by kernel_rfl) ?_ _
              go_wp2
              go_ret
              exact ⟨rfl, B2.out⟩
            exact AllReadyH.nil
          exact AllReadyH.nil
        refine AllReadyH.cons (o := { dst := some 23, op := Op.call { callee := Callee.value (Operand.func 47), args := #[Operand.const (Value.int IntKind.i64 6)], argTypes := #[2] }, type := 27, pos := "law.go:19", after := #[], guard := none }) rfl (fun K hK => ?_) ?_
        · go_simp; refine (one_abs _ _).mono ?_; rintro e w1q ⟨g, rfl, hE, hb⟩; have sK := keep5 hb ⟨c0, c1, c2, c3, c4⟩; obtain ⟨c0, c1, c2, c3, c4⟩ := sK; go_simp
          refine hK.out _ _ ?hs14 (fun hS14 => ?_)
          case hs14 => ((try dsimp only); first | (go_keep; done) | (refine ⟨?_, ?_, ?_, ?_, ?_⟩ <;> (go_keep; done)))
          clear hK K hS0
          refine wpAnyH_ready (rs := [5]) (by kernel_rfl) (by simp) ?_
          refine AllReadyH.cons (o := { dst := some 22, op := Op.buildSlice 39 5 #[(0, Operand.tmp 17), (1, Operand.tmp 18), (2, Operand.tmp 19), (3, Operand.tmp 20), (4, Operand.tmp 21)], type := 39, pos := "law.go:19", after := #[{ on := 0, ground := Ground.data }, { on := 1, ground := Ground.data }, { on := 2, ground := Ground.data }, { on := 3, ground := Ground.data }, { on := 4, ground := Ground.data }], guard := none }) rfl (fun K hK => ?_) ?_
          · go_simp
            refine hK.out _ _ ?hs15 (fun hS15 => ?_)
            case hs15 => ((try dsimp only); first | (go_keep; done) | (refine ⟨?_, ?_, ?_, ?_, ?_⟩ <;> (go_keep; done)))
            clear hK K hS14
            refine wpAnyH_ready (rs := [7]) (by kernel_rfl) (by simp) ?_
            refine AllReadyH.cons (o := { dst := some 24, op := Op.call { callee := Callee.value (Operand.func 23), args := #[Operand.tmp 22, Operand.tmp 23], argTypes := #[39, 27] }, type := 45, pos := "law.go:19", after := #[{ on := 5, ground := Ground.data }, { on := 6, ground := Ground.data }, { on := 6, ground := Ground.chain }], guard := none }) rfl (fun K hK => ?_) ?_
            · go_simp; refine (eval_b (hE.new _) (codes_new w1q exb _ rfl)).mono ?_; rintro e w2q ⟨rfl, hb2⟩; have sK := keep5 hb2 (keep5_alloc c0 c1 c2 c3 c4 (.cells (ccells exb).toArray 54)); obtain ⟨c0, c1, c2, c3, c4⟩ := sK; have B2 := Lib.hid (((b0.drew.trans (hb.mono n0)).alloc (Nat.le_trans n0 hb.size) (.cells (ccells exb).toArray 54)).trans (hb2.mono (by rw [World.size_alloc]; have := hb.size; have e : w2.drew.heap.size = w2.heap.size := rfl; omega))); go_simp
              refine hK.out _ _ ?hs16 (fun hS16 => ?_)
              case hs16 => ((try dsimp only); first | (go_keep; done) | (refine ⟨?_, ?_, ?_, ?_, ?_⟩ <;> (go_keep; done)))
              clear hK K hS15
              refine wpAnyH_take (i := 8) (oi := { dst := some 16, op := Op.move (Operand.tmp 24), type := 45, pos := "law.go:19", after := #[{ on := 7, ground := Ground.data }], guard := none }) (v := ?_) rfl (by kernel_rfl) (by kernel_rfl) (by kernel_rfl) (fun _ _ _ h => h) (Or.inl ⟨by rfl, ?hy17⟩) hS16 ?_
              case hy17 => (intro w hSw; (try dsimp only at hSw); go_simp; try with_reducible rfl)
              try simp only [Act.put, List.setIfInBounds_toArray, List.set_cons_zero, List.set_cons_succ]
              refine wpAnyH_take (i := 9) (oi := { dst := some 25, op := Op.extract (Operand.tmp 16) 0, type := 2, pos := "law.go:19", after := #[{ on := 8, ground := Ground.data }], guard := none }) (v := ?_) rfl (by kernel_rfl) (by kernel_rfl) (by kernel_rfl) (fun _ _ _ h => h) (Or.inl ⟨by rfl, ?hy18⟩) hS16 ?_
              case hy18 => (intro w hSw; (try dsimp only at hSw); go_simp; try with_reducible rfl)
              try simp only [Act.put, List.setIfInBounds_toArray, List.set_cons_zero, List.set_cons_succ]
              refine wpAnyH_take (i := 10) (oi := { dst := some 26, op := Op.extract (Operand.tmp 16) 1, type := 4, pos := "law.go:19", after := #[{ on := 8, ground := Ground.data }, { on := 11, ground := Ground.gcOnly Departure.lateStores }], guard := none }) (v := ?_) rfl (by kernel_rfl) (by kernel_rfl) (by kernel_rfl) (fun _ _ _ h => h) (Or.inl ⟨by rfl, ?hy19⟩) hS16 ?_
              case hy19 => (intro w hSw; (try dsimp only at hSw); go_simp; try with_reducible rfl)
              try simp only [Act.put, List.setIfInBounds_toArray, List.set_cons_zero, List.set_cons_succ]
              refine wpAnyH_take (i := 11) (oi := { dst := some 4, op := Op.assign (Operand.tmp 25), type := 2, pos := "law.go:19", after := #[{ on := 9, ground := Ground.data }, { on := 7, ground := Ground.chain }, { on := 0, ground := Ground.phase }, { on := 1, ground := Ground.phase }, { on := 2, ground := Ground.phase }, { on := 3, ground := Ground.phase }, { on := 4, ground := Ground.phase }, { on := 5, ground := Ground.phase }, { on := 6, ground := Ground.phase }, { on := 7, ground := Ground.phase }, { on := 8, ground := Ground.phase }, { on := 9, ground := Ground.phase }, { on := 10, ground := Ground.textOnly Departure.lateStores }], guard := none }) (v := ?_) rfl (by kernel_rfl) (by kernel_rfl) (by kernel_rfl) (fun _ _ _ h => h) (Or.inl ⟨by rfl, ?hy20⟩) hS16 ?_
              case hy20 => (intro w hSw; (try dsimp only at hSw); go_simp; try with_reducible rfl)
              try simp only [Act.put, List.setIfInBounds_toArray, List.set_cons_zero, List.set_cons_succ]
              refine wpAnyH_take (i := 12) (oi := { dst := some 5, op := Op.assign (Operand.tmp 26), type := 4, pos := "law.go:19", after := #[{ on := 10, ground := Ground.data }, { on := 11, ground := Ground.chain }, { on := 0, ground := Ground.phase }, { on := 1, ground := Ground.phase }, { on := 2, ground := Ground.phase }, { on := 3, ground := Ground.phase }, { on := 4, ground := Ground.phase }, { on := 5, ground := Ground.phase }, { on := 6, ground := Ground.phase }, { on := 7, ground := Ground.phase }, { on := 8, ground := Ground.phase }, { on := 9, ground := Ground.phase }, { on := 10, ground := Ground.phase }, { on := 11, ground := Ground.phase }], guard := none }) (v := ?_) rfl (by kernel_rfl) (by kernel_rfl) (by kernel_rfl) (fun _ _ _ h => h) (Or.inl ⟨by rfl, ?hy21⟩) hS16 ?_
              case hy21 => (intro w hSw; (try dsimp only at hSw); go_simp; try with_reducible rfl)
              try simp only [Act.put, List.setIfInBounds_toArray, List.set_cons_zero, List.set_cons_succ]
              refine wpAnyH_done (by kernel_rfl) ?_ _
              go_wp2
              go_ret
              exact ⟨rfl, B2.out⟩
            exact AllReadyH.nil
          exact AllReadyH.nil
        exact AllReadyH.nil
        
      exact AllReadyH.nil
    exact AllReadyH.nil
  refine AllReadyH.cons (o := { dst := some 12, op := Op.call { callee := Callee.value (Operand.func 47), args := #[Operand.const (Value.int IntKind.i64 6)], argTypes := #[2] }, type := 27, pos := "law.go:18", after := #[], guard := none }) rfl (fun K hK => ?_) ?_
  · go_simp; refine (one_abs _ _).mono ?_; rintro e w1 ⟨g, rfl, hE, hb⟩; have sK := keep5 hb ⟨c0, c1, c2, c3, c4⟩; obtain ⟨c0, c1, c2, c3, c4⟩ := sK; go_simp
    refine hK.out _ _ ?hs12 (fun hS12 => ?_)
    case hs12 => ((try dsimp only); first | (go_keep; done) | (refine ⟨?_, ?_, ?_, ?_, ?_⟩ <;> (go_keep; done)))
    clear hK K hS0
    refine wpAnyH_ready (rs := [3]) (by kernel_rfl) (by simp) ?_
    refine AllReadyH.cons (o := { dst := some 11, op := Op.buildSlice 39 3 #[(0, Operand.tmp 8), (1, Operand.tmp 9), (2, Operand.tmp 10)], type := 39, pos := "law.go:18", after := #[{ on := 0, ground := Ground.data }, { on := 1, ground := Ground.data }, { on := 2, ground := Ground.data }], guard := none }) rfl (fun K hK => ?_) ?_
    · go_simp
      refine hK.out _ _ ?hs13 (fun hS13 => ?_)
      case hs13 => ((try dsimp only); first | (go_keep; done) | (refine ⟨?_, ?_, ?_, ?_, ?_⟩ <;> (go_keep; done)))
      clear hK K hS12
      refine wpAnyH_ready (rs := [5]) (by kernel_rfl) (by simp) ?_
      refine AllReadyH.cons (o := { dst := some 13, op := Op.call { callee := Callee.value (Operand.func 23), args := #[Operand.tmp 11, Operand.tmp 12], argTypes := #[39, 27] }, type := 45, pos := "law.go:18", after := #[{ on := 3, ground := Ground.data }, { on := 4, ground := Ground.data }, { on := 4, ground := Ground.chain }], guard := none }) rfl (fun K hK => ?_) ?_
      · go_simp; refine (eval_a (hE.new _) (codes_new w1 exa _ rfl)).mono ?_; rintro e w2 ⟨rfl, hb2⟩; have sK := keep5 hb2 (keep5_alloc c0 c1 c2 c3 c4 (.cells (ccells exa).toArray 54)); obtain ⟨c0, c1, c2, c3, c4⟩ := sK; have B2 := Lib.hid (((b0.drew.trans (hb.mono n0)).alloc (Nat.le_trans n0 hb.size) (.cells (ccells exa).toArray 54)).trans (hb2.mono (by rw [World.size_alloc]; have := hb.size; have e : W0.drew.heap.size = W0.heap.size := rfl; omega))); go_simp
        refine hK.out _ _ ?hs14 (fun hS14 => ?_)
        case hs14 => ((try dsimp only); first | (go_keep; done) | (refine ⟨?_, ?_, ?_, ?_, ?_⟩ <;> (go_keep; done)))
        clear hK K hS13
        refine wpAnyH_take (i := 6) (oi := { dst := some 7, op := Op.move (Operand.tmp 13), type := 45, pos := "law.go:18", after := #[{ on := 5, ground := Ground.data }], guard := none }) (v := ?_) rfl (by kernel_rfl) (by kernel_rfl) (by kernel_rfl) (fun _ _ _ h => h) (Or.inl ⟨by rfl, ?hy15⟩) hS14 ?_
        case hy15 => (intro w hSw; (try dsimp only at hSw); go_simp; try with_reducible rfl)
        try simp only [Act.put, List.setIfInBounds_toArray, List.set_cons_zero, List.set_cons_succ]
        refine wpAnyH_take (i := 7) (oi := { dst := some 14, op := Op.extract (Operand.tmp 7) 0, type := 2, pos := "law.go:18", after := #[{ on := 6, ground := Ground.data }], guard := none }) (v := ?_) rfl (by kernel_rfl) (by kernel_rfl) (by kernel_rfl) (fun _ _ _ h => h) (Or.inl ⟨by rfl, ?hy16⟩) hS14 ?_
        case hy16 => (intro w hSw; (try dsimp only at hSw); go_simp; try with_reducible rfl)
        try simp only [Act.put, List.setIfInBounds_toArray, List.set_cons_zero, List.set_cons_succ]
        refine wpAnyH_take (i := 8) (oi := { dst := some 15, op := Op.extract (Operand.tmp 7) 1, type := 4, pos := "law.go:18", after := #[{ on := 6, ground := Ground.data }, { on := 9, ground := Ground.gcOnly Departure.lateStores }], guard := none }) (v := ?_) rfl (by kernel_rfl) (by kernel_rfl) (by kernel_rfl) (fun _ _ _ h => h) (Or.inl ⟨by rfl, ?hy17⟩) hS14 ?_
        case hy17 => (intro w hSw; (try dsimp only at hSw); go_simp; try with_reducible rfl)
        try simp only [Act.put, List.setIfInBounds_toArray, List.set_cons_zero, List.set_cons_succ]
        refine wpAnyH_take (i := 9) (oi := { dst := some 2, op := Op.assign (Operand.tmp 14), type := 2, pos := "law.go:18", after := #[{ on := 7, ground := Ground.data }, { on := 5, ground := Ground.chain }, { on := 0, ground := Ground.phase }, { on := 1, ground := Ground.phase }, { on := 2, ground := Ground.phase }, { on := 3, ground := Ground.phase }, { on := 4, ground := Ground.phase }, { on := 5, ground := Ground.phase }, { on := 6, ground := Ground.phase }, { on := 7, ground := Ground.phase }, { on := 8, ground := Ground.textOnly Departure.lateStores }], guard := none }) (v := ?_) rfl (by kernel_rfl) (by kernel_rfl) (by kernel_rfl) (fun _ _ _ h => h) (Or.inl ⟨by rfl, ?hy18⟩) hS14 ?_
        case hy18 => (intro w hSw; (try dsimp only at hSw); go_simp; try with_reducible rfl)
        try simp only [Act.put, List.setIfInBounds_toArray, List.set_cons_zero, List.set_cons_succ]
        refine wpAnyH_take (i := 10) (oi := { dst := some 3, op := Op.assign (Operand.tmp 15), type := 4, pos := "law.go:18", after := #[{ on := 8, ground := Ground.data }, { on := 9, ground := Ground.chain }, { on := 0, ground := Ground.phase }, { on := 1, ground := Ground.phase }, { on := 2, ground := Ground.phase }, { on := 3, ground := Ground.phase }, { on := 4, ground := Ground.phase }, { on := 5, ground := Ground.phase }, { on := 6, ground := Ground.phase }, { on := 7, ground := Ground.phase }, { on := 8, ground := Ground.phase }, { on := 9, ground := Ground.phase }], guard := none }) (v := ?_) rfl (by kernel_rfl) (by kernel_rfl) (by kernel_rfl) (fun _ _ _ h => h) (Or.inl ⟨by rfl, ?hy19⟩) hS14 ?_
        case hy19 => (intro w hSw; (try dsimp only at hSw); go_simp; try with_reducible rfl)
        try simp only [Act.put, List.setIfInBounds_toArray, List.set_cons_zero, List.set_cons_succ]
        refine wpAnyH_done (by kernel_rfl) ?_ _
        go_wp2_with fail
        have b0 := B2.out
        have n0 := b0.size
        clear hE hb hb2 B2
        refine wp_region_held_drew (S := (fun w' => w'.cell? ⟨w.heap.size, 0, none⟩ = some (.int .i64 7) ∧ w'.cell? ⟨w.heap.size, 1, none⟩ = some (.int .i64 0) ∧ w'.cell? ⟨w.heap.size, 2, none⟩ = some (.string ⟨#[]⟩) ∧ w'.cell? ⟨w.heap.size, 3, none⟩ = some (.int .i64 0) ∧ w'.cell? ⟨w.heap.size, 4, none⟩ = some (.int .i64 0))) (by kernel_rfl) ?hs0 (fun hS0 => ?_)
        case hs0 => ((try dsimp only); first | (go_keep; done) | (refine ⟨?_, ?_, ?_, ?_, ?_⟩ <;> (go_keep; done)))
        refine wpAnyH_take (i := 0) (oi := { dst := some 17, op := Op.build 54 #[(0, Operand.const (Value.int IntKind.i64 6)), (1, Operand.const (Value.int IntKind.i64 1))], type := 54, pos := "law.go:19", after := #[], guard := none }) (v := ?_) rfl (by kernel_rfl) (by kernel_rfl) (by kernel_rfl) (fun _ _ _ h => h) (Or.inl ⟨by rfl, ?hy1⟩) hS0 ?_
        case hy1 => (intro w hSw; (try dsimp only at hSw); go_simp; try with_reducible rfl)
        try simp only [Act.put, List.setIfInBounds_toArray, List.set_cons_zero, List.set_cons_succ]
        refine wpAnyH_take (i := 1) (oi := { dst := some 18, op := Op.load 54 (Operand.tmp 1), type := 54, pos := "law.go:19", after := #[], guard := none }) (v := ?_) rfl (by kernel_rfl) (by kernel_rfl) (by kernel_rfl) (fun _ _ _ h => h) (Or.inl ⟨by rfl, ?hy2⟩) hS0 ?_
        case hy2 => (intro w hSw; (try dsimp only at hSw); go_simp; try with_reducible rfl)
        try simp only [Act.put, List.setIfInBounds_toArray, List.set_cons_zero, List.set_cons_succ]
        refine wpAnyH_take (i := 2) (oi := { dst := some 19, op := Op.build 54 #[(0, Operand.const (Value.int IntKind.i64 6)), (1, Operand.const (Value.int IntKind.i64 6))], type := 54, pos := "law.go:19", after := #[], guard := none }) (v := ?_) rfl (by kernel_rfl) (by kernel_rfl) (by kernel_rfl) (fun _ _ _ h => h) (Or.inl ⟨by rfl, ?hy3⟩) hS0 ?_
        case hy3 => (intro w hSw; (try dsimp only at hSw); go_simp; try with_reducible rfl)
        try simp only [Act.put, List.setIfInBounds_toArray, List.set_cons_zero, List.set_cons_succ]
        refine wpAnyH_take (i := 3) (oi := { dst := some 20, op := Op.build 54 #[(0, Operand.const (Value.int IntKind.i64 2))], type := 54, pos := "law.go:19", after := #[], guard := none }) (v := ?_) rfl (by kernel_rfl) (by kernel_rfl) (by kernel_rfl) (fun _ _ _ h => h) (Or.inl ⟨by rfl, ?hy4⟩) hS0 ?_
        case hy4 => (intro w hSw; (try dsimp only at hSw); go_simp; try with_reducible rfl)
        try simp only [Act.put, List.setIfInBounds_toArray, List.set_cons_zero, List.set_cons_succ]
        refine wpAnyH_take (i := 4) (oi := { dst := some 21, op := Op.build 54 #[(0, Operand.const (Value.int IntKind.i64 5))], type := 54, pos := "law.go:19", after := #[], guard := none }) (v := ?_) rfl (by kernel_rfl) (by kernel_rfl) (by kernel_rfl) (fun _ _ _ h => h) (Or.inl ⟨by rfl, ?hy5⟩) hS0 ?_
        case hy5 => (intro w hSw; (try dsimp only at hSw); go_simp; try with_reducible rfl)
        try simp only [Act.put, List.setIfInBounds_toArray, List.set_cons_zero, List.set_cons_succ]
        refine wpAnyH_ready (rs := [5, 6]) (by kernel_rfl) (by simp) ?_
        refine AllReadyH.cons (o := { dst := some 22, op := Op.buildSlice 39 5 #[(0, Operand.tmp 17), (1, Operand.tmp 18), (2, Operand.tmp 19), (3, Operand.tmp 20), (4, Operand.tmp 21)], type := 39, pos := "law.go:19", after := #[{ on := 0, ground := Ground.data }, { on := 1, ground := Ground.data }, { on := 2, ground := Ground.data }, { on := 3, ground := Ground.data }, { on := 4, ground := Ground.data }], guard := none }) rfl (fun K hK => ?_) ?_
        · go_simp
          refine hK.out _ _ ?hs6 (fun hS6 => ?_)
          case hs6 => ((try dsimp only); first | (go_keep; done) | (refine ⟨?_, ?_, ?_, ?_, ?_⟩ <;> (go_keep; done)))
          clear hK K hS0
          refine wpAnyH_ready (rs := [6]) (by kernel_rfl) (by simp) ?_
          refine AllReadyH.cons (o := { dst := some 23, op := Op.call { callee := Callee.value (Operand.func 47), args := #[Operand.const (Value.int IntKind.i64 6)], argTypes := #[2] }, type := 27, pos := "law.go:19", after := #[], guard := none }) rfl (fun K hK => ?_) ?_
          · go_simp; refine (one_abs _ _).mono ?_; rintro e w1q ⟨g, rfl, hE, hb⟩; have sK := keep5 hb (keep5_alloc c0 c1 c2 c3 c4 (.cells (ccells exb).toArray 54)); obtain ⟨c0, c1, c2, c3, c4⟩ := sK; go_simp
            refine hK.out _ _ ?hs7 (fun hS7 => ?_)
            case hs7 => ((try dsimp only); first | (go_keep; done) | (refine ⟨?_, ?_, ?_, ?_, ?_⟩ <;> (go_keep; done)))
            clear hK K hS6
            refine wpAnyH_ready (rs := [7]) (by kernel_rfl) (by simp) ?_
            refine AllReadyH.cons (o := { dst := some 24, op := Op.call { callee := Callee.value (Operand.func 23), args := #[Operand.tmp 22, Operand.tmp 23], argTypes := #[39, 27] }, type := 45, pos := "law.go:19", after := #[{ on := 5, ground := Ground.data }, { on := 6, ground := Ground.data }, { on := 6, ground := Ground.chain }], guard := none }) rfl (fun K hK => ?_) ?_
            · go_simp; refine (eval_b hE ((codes_newd w2 exb _ rfl).keep hb)).mono ?_; rintro e w2q ⟨rfl, hb2⟩; have sK := keep5 hb2 ⟨c0, c1, c2, c3, c4⟩; obtain ⟨c0, c1, c2, c3, c4⟩ := sK; have B2 := Lib.hid (((b0.alloc n0 (.cells (ccells exb).toArray 54)).drew.trans (hb.mono (Nat.le_trans n0 (le_alloc_drew _ _)))).trans (hb2.mono (Nat.le_trans n0 (Nat.le_trans (le_alloc_drew _ _) hb.size)))); go_simp
              refine hK.out _ _ ?hs8 (fun hS8 => ?_)
              case hs8 => ((try dsimp only); first | (go_keep; done) | (refine ⟨?_, ?_, ?_, ?_, ?_⟩ <;> (go_keep; done)))
              clear hK K hS7
              refine wpAnyH_take (i := 8) (oi := { dst := some 16, op := Op.move (Operand.tmp 24), type := 45, pos := "law.go:19", after := #[{ on := 7, ground := Ground.data }], guard := none }) (v := ?_) rfl (by kernel_rfl) (by kernel_rfl) (by kernel_rfl) (fun _ _ _ h => h) (Or.inl ⟨by rfl, ?hy9⟩) hS8 ?_
              case hy9 => (intro w hSw; (try dsimp only at hSw); go_simp; try with_reducible rfl)
              try simp only [Act.put, List.setIfInBounds_toArray, List.set_cons_zero, List.set_cons_succ]
              refine wpAnyH_take (i := 9) (oi := { dst := some 25, op := Op.extract (Operand.tmp 16) 0, type := 2, pos := "law.go:19", after := #[{ on := 8, ground := Ground.data }], guard := none }) (v := ?_) rfl (by kernel_rfl) (by kernel_rfl) (by kernel_rfl) (fun _ _ _ h => h) (Or.inl ⟨by rfl, ?hy10⟩) hS8 ?_
              case hy10 => (intro w hSw; (try dsimp only at hSw); go_simp; try with_reducible rfl)
              try simp only [Act.put, List.setIfInBounds_toArray, List.set_cons_zero, List.set_cons_succ]
              refine wpAnyH_take (i := 10) (oi := { dst := some 26, op := Op.extract (Operand.tmp 16) 1, type := 4, pos := "law.go:19", after := #[{ on := 8, ground := Ground.data }, { on := 11, ground := Ground.gcOnly Departure.lateStores }], guard := none }) (v := ?_) rfl (by kernel_rfl) (by kernel_rfl) (by kernel_rfl) (fun _ _ _ h => h) (Or.inl ⟨by rfl, ?hy11⟩) hS8 ?_
              case hy11 => (intro w hSw; (try dsimp only at hSw); go_simp; try with_reducible rfl)
              try simp only [Act.put, List.setIfInBounds_toArray, List.set_cons_zero, List.set_cons_succ]
              refine wpAnyH_take (i := 11) (oi := { dst := some 4, op := Op.assign (Operand.tmp 25), type := 2, pos := "law.go:19", after := #[{ on := 9, ground := Ground.data }, { on := 7, ground := Ground.chain }, { on := 0, ground := Ground.phase }, { on := 1, ground := Ground.phase }, { on := 2, ground := Ground.phase }, { on := 3, ground := Ground.phase }, { on := 4, ground := Ground.phase }, { on := 5, ground := Ground.phase }, { on := 6, ground := Ground.phase }, { on := 7, ground := Ground.phase }, { on := 8, ground := Ground.phase }, { on := 9, ground := Ground.phase }, { on := 10, ground := Ground.textOnly Departure.lateStores }], guard := none }) (v := ?_) rfl (by kernel_rfl) (by kernel_rfl) (by kernel_rfl) (fun _ _ _ h => h) (Or.inl ⟨by rfl, ?hy12⟩) hS8 ?_
              case hy12 => (intro w hSw; (try dsimp only at hSw); go_simp; try with_reducible rfl)
              try simp only [Act.put, List.setIfInBounds_toArray, List.set_cons_zero, List.set_cons_succ]
              refine wpAnyH_take (i := 12) (oi := { dst := some 5, op := Op.assign (Operand.tmp 26), type := 4, pos := "law.go:19", after := #[{ on := 10, ground := Ground.data }, { on := 11, ground := Ground.chain }, { on := 0, ground := Ground.phase }, { on := 1, ground := Ground.phase }, { on := 2, ground := Ground.phase }, { on := 3, ground := Ground.phase }, { on := 4, ground := Ground.phase }, { on := 5, ground := Ground.phase }, { on := 6, ground := Ground.phase }, { on := 7, ground := Ground.phase }, { on := 8, ground := Ground.phase }, { on := 9, ground := Ground.phase }, { on := 10, ground := Ground.phase }, { on := 11, ground := Ground.phase }], guard := none }) (v := ?_) rfl (by kernel_rfl) (by kernel_rfl) (by kernel_rfl) (fun _ _ _ h => h) (Or.inl ⟨by rfl, ?hy13⟩) hS8 ?_
              case hy13 => (intro w hSw; (try dsimp only at hSw); go_simp; try with_reducible rfl)
              try simp only [Act.put, List.setIfInBounds_toArray, List.set_cons_zero, List.set_cons_succ]
              refine wpAnyH_done (by kernel_rfl) ?_ _
              go_wp2
              go_ret
              exact ⟨rfl, B2.out⟩
            exact AllReadyH.nil
          exact AllReadyH.nil
        refine AllReadyH.cons (o := { dst := some 23, op := Op.call { callee := Callee.value (Operand.func 47), args := #[Operand.const (Value.int IntKind.i64 6)], argTypes := #[2] }, type := 27, pos := "law.go:19", after := #[], guard := none }) rfl (fun K hK => ?_) ?_
        · go_simp; refine (one_abs _ _).mono ?_; rintro e w1q ⟨g, rfl, hE, hb⟩; have sK := keep5 hb ⟨c0, c1, c2, c3, c4⟩; obtain ⟨c0, c1, c2, c3, c4⟩ := sK; go_simp
          refine hK.out _ _ ?hs14 (fun hS14 => ?_)
          case hs14 => ((try dsimp only); first | (go_keep; done) | (refine ⟨?_, ?_, ?_, ?_, ?_⟩ <;> (go_keep; done)))
          clear hK K hS0
          refine wpAnyH_ready (rs := [5]) (by kernel_rfl) (by simp) ?_
          refine AllReadyH.cons (o := { dst := some 22, op := Op.buildSlice 39 5 #[(0, Operand.tmp 17), (1, Operand.tmp 18), (2, Operand.tmp 19), (3, Operand.tmp 20), (4, Operand.tmp 21)], type := 39, pos := "law.go:19", after := #[{ on := 0, ground := Ground.data }, { on := 1, ground := Ground.data }, { on := 2, ground := Ground.data }, { on := 3, ground := Ground.data }, { on := 4, ground := Ground.data }], guard := none }) rfl (fun K hK => ?_) ?_
          · go_simp
            refine hK.out _ _ ?hs15 (fun hS15 => ?_)
            case hs15 => ((try dsimp only); first | (go_keep; done) | (refine ⟨?_, ?_, ?_, ?_, ?_⟩ <;> (go_keep; done)))
            clear hK K hS14
            refine wpAnyH_ready (rs := [7]) (by kernel_rfl) (by simp) ?_
            refine AllReadyH.cons (o := { dst := some 24, op := Op.call { callee := Callee.value (Operand.func 23), args := #[Operand.tmp 22, Operand.tmp 23], argTypes := #[39, 27] }, type := 45, pos := "law.go:19", after := #[{ on := 5, ground := Ground.data }, { on := 6, ground := Ground.data }, { on := 6, ground := Ground.chain }], guard := none }) rfl (fun K hK => ?_) ?_
            · go_simp; refine (eval_b (hE.new _) (codes_new w1q exb _ rfl)).mono ?_; rintro e w2q ⟨rfl, hb2⟩; have sK := keep5 hb2 (keep5_alloc c0 c1 c2 c3 c4 (.cells (ccells exb).toArray 54)); obtain ⟨c0, c1, c2, c3, c4⟩ := sK; have B2 := Lib.hid (((b0.drew.trans (hb.mono n0)).alloc (Nat.le_trans n0 hb.size) (.cells (ccells exb).toArray 54)).trans (hb2.mono (by rw [World.size_alloc]; have := hb.size; have e : w2.drew.heap.size = w2.heap.size := rfl; omega))); go_simp
              refine hK.out _ _ ?hs16 (fun hS16 => ?_)
              case hs16 => ((try dsimp only); first | (go_keep; done) | (refine ⟨?_, ?_, ?_, ?_, ?_⟩ <;> (go_keep; done)))
              clear hK K hS15
              refine wpAnyH_take (i := 8) (oi := { dst := some 16, op := Op.move (Operand.tmp 24), type := 45, pos := "law.go:19", after := #[{ on := 7, ground := Ground.data }], guard := none }) (v := ?_) rfl (by kernel_rfl) (by kernel_rfl) (by kernel_rfl) (fun _ _ _ h => h) (Or.inl ⟨by rfl, ?hy17⟩) hS16 ?_
              case hy17 => (intro w hSw; (try dsimp only at hSw); go_simp; try with_reducible rfl)
              try simp only [Act.put, List.setIfInBounds_toArray, List.set_cons_zero, List.set_cons_succ]
              refine wpAnyH_take (i := 9) (oi := { dst := some 25, op := Op.extract (Operand.tmp 16) 0, type := 2, pos := "law.go:19", after := #[{ on := 8, ground := Ground.data }], guard := none }) (v := ?_) rfl (by kernel_rfl) (by kernel_rfl) (by kernel_rfl) (fun _ _ _ h => h) (Or.inl ⟨by rfl, ?hy18⟩) hS16 ?_
              case hy18 => (intro w hSw; (try dsimp only at hSw); go_simp; try with_reducible rfl)
              try simp only [Act.put, List.setIfInBounds_toArray, List.set_cons_zero, List.set_cons_succ]
              refine wpAnyH_take (i := 10) (oi := { dst := some 26, op := Op.extract (Operand.tmp 16) 1, type := 4, pos := "law.go:19", after := #[{ on := 8, ground := Ground.data }, { on := 11, ground := Ground.gcOnly Departure.lateStores }], guard := none }) (v := ?_) rfl (by kernel_rfl) (by kernel_rfl) (by kernel_rfl) (fun _ _ _ h => h) (Or.inl ⟨by rfl, ?hy19⟩) hS16 ?_
              case hy19 => (intro w hSw; (try dsimp only at hSw); go_simp; try with_reducible rfl)
              try simp only [Act.put, List.setIfInBounds_toArray, List.set_cons_zero, List.set_cons_succ]
              refine wpAnyH_take (i := 11) (oi := { dst := some 4, op := Op.assign (Operand.tmp 25), type := 2, pos := "law.go:19", after := #[{ on := 9, ground := Ground.data }, { on := 7, ground := Ground.chain }, { on := 0, ground := Ground.phase }, { on := 1, ground := Ground.phase }, { on := 2, ground := Ground.phase }, { on := 3, ground := Ground.phase }, { on := 4, ground := Ground.phase }, { on := 5, ground := Ground.phase }, { on := 6, ground := Ground.phase }, { on := 7, ground := Ground.phase }, { on := 8, ground := Ground.phase }, { on := 9, ground := Ground.phase }, { on := 10, ground := Ground.textOnly Departure.lateStores }], guard := none }) (v := ?_) rfl (by kernel_rfl) (by kernel_rfl) (by kernel_rfl) (fun _ _ _ h => h) (Or.inl ⟨by rfl, ?hy20⟩) hS16 ?_
              case hy20 => (intro w hSw; (try dsimp only at hSw); go_simp; try with_reducible rfl)
              try simp only [Act.put, List.setIfInBounds_toArray, List.set_cons_zero, List.set_cons_succ]
              refine wpAnyH_take (i := 12) (oi := { dst := some 5, op := Op.assign (Operand.tmp 26), type := 4, pos := "law.go:19", after := #[{ on := 10, ground := Ground.data }, { on := 11, ground := Ground.chain }, { on := 0, ground := Ground.phase }, { on := 1, ground := Ground.phase }, { on := 2, ground := Ground.phase }, { on := 3, ground := Ground.phase }, { on := 4, ground := Ground.phase }, { on := 5, ground := Ground.phase }, { on := 6, ground := Ground.phase }, { on := 7, ground := Ground.phase }, { on := 8, ground := Ground.phase }, { on := 9, ground := Ground.phase }, { on := 10, ground := Ground.phase }, { on := 11, ground := Ground.phase }], guard := none }) (v := ?_) rfl (by kernel_rfl) (by kernel_rfl) (by kernel_rfl) (fun _ _ _ h => h) (Or.inl ⟨by rfl, ?hy21⟩) hS16 ?_
              case hy21 => (intro w hSw; (try dsimp only at hSw); go_simp; try with_reducible rfl)
              try simp only [Act.put, List.setIfInBounds_toArray, List.set_cons_zero, List.set_cons_succ]
              refine wpAnyH_done (by kernel_rfl) ?_ _
              go_wp2
              go_ret
              exact ⟨rfl, B2.out⟩
            exact AllReadyH.nil
          exact AllReadyH.nil
        exact AllReadyH.nil
        
      exact AllReadyH.nil
    exact AllReadyH.nil
  exact AllReadyH.nil

end Go.Proofs.Ytjfbjkgppnhaoaa
