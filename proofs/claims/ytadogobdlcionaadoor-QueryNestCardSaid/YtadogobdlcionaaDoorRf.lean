/-
  Where a text stands in a row of texts.
-/
import Derived.Test.YtadogobdlcionaaDoorRe
namespace Go.Proofs.YtadogobdlcionaaDoor
open Go.ChangeShapes Go.WideShapes Go.ChangeAt Go.RowKit Go.Shelf
set_option linter.unusedVariables false
/-- The place of a text in a row of texts, or -1. -/
def idxI (T : List ByteArray) (t : ByteArray) : Int := match T.findIdx? (fun x => decide (x = t)) with
  | some k => (k : Int)
  | none => -1
theorem idx_hit {T : List ByteArray} {t : ByteArray} {j : Nat} (hj : T[j]? = some t) (h : ∀ k, k < j → T[k]? ≠ some t) : idxI T t = (j : Int) := by
  unfold idxI
  obtain ⟨hl, he⟩ := List.getElem?_eq_some_iff.1 hj
  rw [show T.findIdx? (fun x => decide (x = t)) = some j from by
    rw [List.findIdx?_eq_some_iff_getElem]
    refine ⟨hl, by simp [he], fun k hk => ?_⟩
    have := h k hk
    rw [List.getElem?_eq_getElem (by omega)] at this
    simpa using fun e => this (by rw [e])]
theorem idx_miss {T : List ByteArray} {t : ByteArray} (h : ∀ k, k < T.length → T[k]? ≠ some t) : idxI T t = -1 := by
  unfold idxI
  rw [show T.findIdx? (fun x => decide (x = t)) = none from by
    rw [List.findIdx?_eq_none_iff]
    intro x hx
    obtain ⟨k, hk, rfl⟩ := List.getElem_of_mem hx
    have := h k hk
    rw [List.getElem?_eq_getElem hk] at this
    simpa using fun e => this (by rw [e])]
theorem wrap_one {a : Nat} (h : a ≤ 140737488355329) : wrap64 ((a : Int) + 1) = ((a + 1 : Nat) : Int) := by unfold wrap64; omega
theorem dec_ilt {a b : Nat} (h : a < b) : decide ((a : Int) < (b : Int)) = true := decide_eq_true (by omega)
theorem dec_inlt {a b : Nat} (h : ¬ a < b) : decide ((a : Int) < (b : Int)) = false := decide_eq_false (by omega)
theorem meas_j {j n : Nat} (h : j < n) : n + 1 - (intOf (.int .i64 ((j + 1 : Nat) : Int))).toNat < n + 1 - (intOf (.int .i64 (j : Int))).toNat := by simp only [intOf]; omega
def IxRel (w : World) (n : Nat) (T : List ByteArray) (t : ByteArray) (v : Value) (wr : World) : Prop := ∃ j : Nat, v = .int .i64 (j : Int) ∧ j ≤ n ∧ (∀ k, k < j → T[k]? ≠ some t) ∧ Turn (fun _ => False) w wr
set_option maxRecDepth 100000 in
set_option maxHeartbeats 2000000 in
theorem index_is {w : World} {g n cap : Nat} {T : List ByteArray} (hr : w.rangeAt g 0 (T.map Value.string)) (hT : T.length = n) (hn : n ≤ 100) (t : ByteArray) :
    Calls Tryd.prog 37 #[.slice (some ⟨g, 0, none⟩) n cap, .string t] w fun y w' => y = .returned (.int .i64 (idxI T t)) ∧ Turn (fun _ => False) w w' := by
  have H := Lib.hid (And.intro hr (And.intro hT hn))
  clear hr hT hn
  go_enter Tryd.func37, Tryd.ntmps37
  go_wp2_with fail
  go_loopw [8] (fun v wr => IxRel w n T t v wr) (fun v _ => n + 1 - (intOf v).toNat)
  case atStart => exact ⟨0, by simp, Nat.zero_le _, fun k hk => absurd hk (Nat.not_lt_zero k), Turn.refl _ _⟩
  case round =>
    obtain ⟨j, rfl, hj, hk, TT⟩ := hrel
    by_cases hjn : j < n
    · obtain ⟨x, hx⟩ : ∃ x, T[j]? = some x := ⟨_, List.getElem?_eq_getElem (by have := H.out.2.1; omega)⟩
      have p := TT.cell id (H.out.1 j (.string x) (by rw [List.getElem?_map, hx]; rfl))
      rw [Nat.zero_add] at p
      have u1 := dec_ilt hjn
      have u2 : decide (j < n) = true := decide_eq_true hjn
      have i0 : (0 : Int) ≤ (j : Int) := Int.natCast_nonneg j
      have i1 : (j : Int) < (n : Int) := Int.ofNat_lt.2 hjn
      have hw := wrap_one (a := j) (by have := H.out.2.2; omega)
      by_cases hxt : t = x
      · subst hxt
        have e1 : (t.toList == t.toList) = true := by rw [text_beq]; simp
        have FIN := Lib.hid (And.intro (idx_hit hx hk) TT)
        clear hx hj hjn TT hk
        go_wp2_with fail
        go_ret
        exact ⟨by rw [FIN.out.1]; rfl, FIN.out.2⟩
      · have e1 : (t.toList == x.toList) = false := by rw [text_beq]; simp [hxt]
        have FIN := Lib.hid (And.intro hjn (And.intro TT (show ∀ k, k < j + 1 → T[k]? ≠ some t from fun k hk' => by
          by_cases q : k = j
          · subst q; rw [hx]; intro e; exact hxt (Option.some.inj e).symm
          · exact hk k (by omega))))
        clear hx hj hjn TT hk hxt
        go_wp2_with fail
        exact ⟨by rw [hw]; exact ⟨j + 1, rfl, FIN.out.1, FIN.out.2.2, FIN.out.2.1⟩, by rw [hw]; exact meas_j FIN.out.1⟩
    · obtain rfl : j = n := by omega
      have u1 := dec_inlt hjn
      have u2 : decide (j < j) = false := decide_eq_false hjn
      have FIN := Lib.hid (And.intro (idx_miss (T := T) (t := t) (by rw [H.out.2.1]; exact hk)) TT)
      clear hj hjn TT hk
      go_wp2_with fail
      go_ret
      exact ⟨by rw [FIN.out.1]; rfl, FIN.out.2⟩
theorem idx_ge (T : List ByteArray) (t : ByteArray) : decide (idxI T t ≥ 0) = T.any (fun x => decide (x = t)) := by
  unfold idxI
  cases h : T.findIdx? (fun x => decide (x = t)) with
  | none =>
    rw [List.findIdx?_eq_none_iff] at h
    symm
    simp only [List.any_eq_false, Int.reduceNeg, Int.reduceGE, decide_false, Bool.not_eq_true]
    exact h
  | some k =>
    have := List.findIdx?_eq_some_iff_getElem.1 h
    obtain ⟨hk, e, -⟩ := this
    have hz : decide ((k : Int) ≥ 0) = true := decide_eq_true (Int.natCast_nonneg k)
    refine Eq.trans hz ?_
    symm
    rw [List.any_eq_true]
    exact ⟨_, List.getElem_mem hk, e⟩
set_option maxRecDepth 100000 in
set_option maxHeartbeats 2000000 in
theorem contains_is {w : World} {g n cap : Nat} {T : List ByteArray} (hr : w.rangeAt g 0 (T.map Value.string)) (hT : T.length = n) (hn : n ≤ 100) (t : ByteArray) :
    Calls Tryd.prog 61 #[.slice (some ⟨g, 0, none⟩) n cap, .string t] w fun y w' => y = .returned (.bool (T.any (fun x => decide (x = t)))) ∧ Turn (fun _ => False) w w' := by
  have IX := Lib.hid (index_is (cap := cap) hr hT hn t)
  rw [← idx_ge]
  obtain ⟨z, hzz⟩ : ∃ z, z = idxI T t := ⟨_, rfl⟩
  rw [← hzz] at IX ⊢
  clear hr hT hn hzz
  by_cases hz : z ≥ 0
  · rw [decide_eq_true hz]
    have u1 : decide (z ≥ 0) = true := decide_eq_true hz
    have u2 : decide (0 ≤ z) = true := decide_eq_true hz
    clear hz
    go_enter Tryd.func61, Tryd.ntmps61
    go_wp2_with fail
    with_reducible refine IX.out.mono ?_
    rintro y w1 ⟨rfl, T1⟩
    have F := Lib.hid T1
    clear T1
    go_wp2_with fail
    go_ret
    exact ⟨rfl, F.out⟩
  · rw [decide_eq_false hz]
    have u1 : decide (z ≥ 0) = false := decide_eq_false hz
    have u2 : decide (0 ≤ z) = false := decide_eq_false hz
    clear hz
    go_enter Tryd.func61, Tryd.ntmps61
    go_wp2_with fail
    with_reducible refine IX.out.mono ?_
    rintro y w1 ⟨rfl, T1⟩
    have F := Lib.hid T1
    clear T1
    go_wp2_with fail
    go_ret
    exact ⟨rfl, F.out⟩
def holdsT : List ByteArray := [⟨#[61]⟩, ⟨#[33, 61]⟩, ⟨#[60]⟩, ⟨#[60, 61]⟩, ⟨#[62]⟩, ⟨#[62, 61]⟩]
def lettersT : List ByteArray := [⟨#[120]⟩, ⟨#[121]⟩, ⟨#[122]⟩, ⟨#[119]⟩]
def reckonsT : List ByteArray := [⟨#[43]⟩, ⟨#[45]⟩, ⟨#[42]⟩, ⟨#[47]⟩, ⟨#[37]⟩]
/-- A row of texts that a function makes. -/
def RowT (T : List ByteArray) (w : World) (y : Ending) (w' : World) : Prop := ∃ g cap, y = .returned (.slice (some ⟨g, 0, none⟩) T.length cap) ∧ w'.rangeAt g 0 (T.map Value.string) ∧ Turn (fun _ => False) w w'
set_option maxRecDepth 100000 in
set_option maxHeartbeats 2000000 in
theorem holds_is (w : World) : Calls Tryd.prog 30 #[] w (RowT holdsT w) := by
  go_enter Tryd.func30, Tryd.ntmps30
  go_wp2_with fail
  go_ret
  exact ⟨w.heap.size, 6, rfl, range_new w (holdsT.map Value.string) 9, (Turn.refl _ _).alloc _⟩
set_option maxRecDepth 100000 in
set_option maxHeartbeats 2000000 in
theorem letters_is (w : World) : Calls Tryd.prog 63 #[] w (RowT lettersT w) := by
  go_enter Tryd.func63, Tryd.ntmps63
  go_wp2_with fail
  go_ret
  exact ⟨w.heap.size, 4, rfl, range_new w (lettersT.map Value.string) 9, (Turn.refl _ _).alloc _⟩
set_option maxRecDepth 100000 in
set_option maxHeartbeats 2000000 in
theorem reckons_is (w : World) : Calls Tryd.prog 64 #[] w (RowT reckonsT w) := by
  go_enter Tryd.func64, Tryd.ntmps64
  go_wp2_with fail
  go_ret
  exact ⟨w.heap.size, 5, rfl, range_new w (reckonsT.map Value.string) 9, (Turn.refl _ _).alloc _⟩
def inB (T : List ByteArray) (s : ByteArray) (x : Nat × Tok) : Bool := T.any (fun y => decide (y = textOf s x))
set_option maxRecDepth 100000 in
set_option maxHeartbeats 2000000 in
theorem hold_tells (s : ByteArray) : Tells 38 s (inB holdsT s) := by
  refine ⟨enters 38 Tryd.func38 (by kernel_rfl) rfl, fun w x => ?_⟩
  unfold tokC tokL inB
  rw [show s.extract x.1 (x.1 + x.2.len) = textOf s x from rfl]
  generalize textOf s x = tx at *
  obtain ⟨W, hW⟩ : ∃ W, W = w.alloc (.cells #[.int .i64 (x.2.kind : Int), .int .i64 (x.1 : Int), .string tx, .int .i64 (x.2.n : Int)] 67) := ⟨_, rfl⟩
  have T0 : Turn (fun _ => False) w W := by rw [hW]; exact (Turn.refl _ _).alloc _
  have c2 : W.cell? ⟨w.heap.size, 2, none⟩ = some (.string tx) := by rw [hW]; exact cell_new rfl rfl
  have sD : W.drew.cell? ⟨w.heap.size, 2, none⟩ = some (.string tx) := c2
  have HR := Lib.hid (fun W => holds_is W)
  have CN := Lib.hid (fun (W : World) (g cap : Nat) (h : W.rangeAt g 0 (holdsT.map Value.string)) => contains_is (cap := cap) h rfl (by decide) tx)
  have F := Lib.hid T0
  have HW := Lib.hid hW
  obtain ⟨bb, hbb⟩ : ∃ b, b = holdsT.any (fun y => decide (y = tx)) := ⟨_, rfl⟩
  rw [← hbb] at CN ⊢
  clear T0 hW hbb c2
  go_enter Tryd.func38, Tryd.ntmps38
  go_upto_region 1 with fail
  rw [← HW.out]
  refine wp_region_held_drew (S := fun w' => w'.cell? ⟨w.heap.size, 2, none⟩ = some (.string tx)) (by kernel_rfl) ?hs0 (fun hS0 => ?_)
  case hs0 => exact sD
  refine wpAnyH_take (i := 1) (oi := { dst := some 4, op := Op.fieldAddr 67 (Operand.tmp 1) 2, type := 0, pos := "parse.go:175", after := #[], guard := none }) (v := ?_) rfl (by kernel_rfl) (by kernel_rfl) (by kernel_rfl) (fun _ _ _ h => h) (Or.inl ⟨by rfl, ?hy1⟩) hS0 ?_
  case hy1 => (intro w hSw; (try dsimp only at hSw); go_simp; try with_reducible rfl)
  try simp only [Act.put, List.setIfInBounds_toArray, List.set_cons_zero, List.set_cons_succ]
  refine wpAnyH_take (i := 2) (oi := { dst := some 5, op := Op.load 9 (Operand.tmp 4), type := 9, pos := "parse.go:175", after := #[{ on := 1, ground := Ground.data }], guard := none }) (v := ?_) rfl (by kernel_rfl) (by kernel_rfl) (by kernel_rfl) (fun _ _ _ h => h) (Or.inl ⟨by rfl, ?hy2⟩) hS0 ?_
  case hy2 => (intro w hSw; (try dsimp only at hSw); go_simp; try with_reducible rfl)
  try simp only [Act.put, List.setIfInBounds_toArray, List.set_cons_zero, List.set_cons_succ]
  refine wpAnyH_ready (rs := [0]) (by kernel_rfl) (by simp) ?_
  refine AllReadyH.cons (o := { dst := some 3, op := Op.call { callee := Callee.value (Operand.func 30), args := #[], argTypes := #[] }, type := 79, pos := "parse.go:175", after := #[], guard := none }) rfl (fun K hK => ?_) AllReadyH.nil
  go_simp
  with_reducible refine (HR.out _).mono ?_
  rintro y w1 ⟨g, cap, rfl, R1, T1⟩
  have SC := T1.cell id sD
  have C1 := Lib.hid (CN.out w1 g cap R1)
  have G := Lib.hid ((F.out.trans ((Turn.refl _ _).drewN 1)).trans T1)
  clear T1 R1
  go_simp
  refine hK.out _ _ ?hs3 (fun hS3 => ?_)
  case hs3 => exact SC
  clear hK K hS0
  refine wpAnyH_ready (rs := [3]) (by kernel_rfl) (by simp) ?_
  refine AllReadyH.cons (o := { dst := some 6, op := Op.call { callee := Callee.value (Operand.func 61), args := #[Operand.tmp 3, Operand.tmp 5], argTypes := #[79, 9] }, type := 4, pos := "parse.go:175", after := #[{ on := 0, ground := Ground.data }, { on := 2, ground := Ground.data }, { on := 0, ground := Ground.chain }], guard := none }) rfl (fun K hK => ?_) AllReadyH.nil
  go_simp
  with_reducible refine C1.out.mono ?_
  rintro y w2 ⟨rfl, T2⟩
  have SC2 := T2.cell id SC
  have KT := Lib.hid (G.out.trans T2)
  clear T2
  go_simp
  refine hK.out _ _ ?hs4 (fun hS4 => ?_)
  case hs4 => exact SC2
  clear hK K hS3
  refine wpAnyH_take (i := 4) (oi := { dst := some 2, op := Op.assign (Operand.tmp 6), type := 4, pos := "parse.go:175", after := #[{ on := 3, ground := Ground.data }, { on := 3, ground := Ground.chain }, { on := 0, ground := Ground.phase }, { on := 1, ground := Ground.phase }, { on := 2, ground := Ground.phase }, { on := 3, ground := Ground.phase }], guard := none }) (v := ?_) rfl (by kernel_rfl) (by kernel_rfl) (by kernel_rfl) (fun _ _ _ h => h) (Or.inl ⟨by rfl, ?hy5⟩) hS4 ?_
  case hy5 => (intro w hSw; (try dsimp only at hSw); go_simp; try with_reducible rfl)
  try simp only [Act.put, List.setIfInBounds_toArray, List.set_cons_zero, List.set_cons_succ]
  refine wpAnyH_done (by kernel_rfl) ?_ _
  clear sD SC SC2 C1
  go_wp2_with fail
  go_ret
  exact ⟨rfl, KT.out⟩
set_option maxRecDepth 100000 in
set_option maxHeartbeats 2000000 in
theorem field_tells (s : ByteArray) : Tells 86 s (inB lettersT s) := by
  refine ⟨enters 86 Tryd.func86 (by kernel_rfl) rfl, fun w x => ?_⟩
  unfold tokC tokL inB
  rw [show s.extract x.1 (x.1 + x.2.len) = textOf s x from rfl]
  generalize textOf s x = tx at *
  obtain ⟨W, hW⟩ : ∃ W, W = w.alloc (.cells #[.int .i64 (x.2.kind : Int), .int .i64 (x.1 : Int), .string tx, .int .i64 (x.2.n : Int)] 67) := ⟨_, rfl⟩
  have T0 : Turn (fun _ => False) w W := by rw [hW]; exact (Turn.refl _ _).alloc _
  have c2 : W.cell? ⟨w.heap.size, 2, none⟩ = some (.string tx) := by rw [hW]; exact cell_new rfl rfl
  have sD : W.drew.cell? ⟨w.heap.size, 2, none⟩ = some (.string tx) := c2
  have HR := Lib.hid (fun W => letters_is W)
  have CN := Lib.hid (fun (W : World) (g cap : Nat) (h : W.rangeAt g 0 (lettersT.map Value.string)) => contains_is (cap := cap) h rfl (by decide) tx)
  have F := Lib.hid T0
  have HW := Lib.hid hW
  obtain ⟨bb, hbb⟩ : ∃ b, b = lettersT.any (fun y => decide (y = tx)) := ⟨_, rfl⟩
  rw [← hbb] at CN ⊢
  clear T0 hW hbb c2
  go_enter Tryd.func86, Tryd.ntmps86
  go_upto_region 1 with fail
  rw [← HW.out]
  refine wp_region_held_drew (S := fun w' => w'.cell? ⟨w.heap.size, 2, none⟩ = some (.string tx)) (by kernel_rfl) ?hs0 (fun hS0 => ?_)
  case hs0 => exact sD
  refine wpAnyH_take (i := 1) (oi := { dst := some 4, op := Op.fieldAddr 67 (Operand.tmp 1) 2, type := 0, pos := "parse.go:177", after := #[], guard := none }) (v := ?_) rfl (by kernel_rfl) (by kernel_rfl) (by kernel_rfl) (fun _ _ _ h => h) (Or.inl ⟨by rfl, ?hy1⟩) hS0 ?_
  case hy1 => (intro w hSw; (try dsimp only at hSw); go_simp; try with_reducible rfl)
  try simp only [Act.put, List.setIfInBounds_toArray, List.set_cons_zero, List.set_cons_succ]
  refine wpAnyH_take (i := 2) (oi := { dst := some 5, op := Op.load 9 (Operand.tmp 4), type := 9, pos := "parse.go:177", after := #[{ on := 1, ground := Ground.data }], guard := none }) (v := ?_) rfl (by kernel_rfl) (by kernel_rfl) (by kernel_rfl) (fun _ _ _ h => h) (Or.inl ⟨by rfl, ?hy2⟩) hS0 ?_
  case hy2 => (intro w hSw; (try dsimp only at hSw); go_simp; try with_reducible rfl)
  try simp only [Act.put, List.setIfInBounds_toArray, List.set_cons_zero, List.set_cons_succ]
  refine wpAnyH_ready (rs := [0]) (by kernel_rfl) (by simp) ?_
  refine AllReadyH.cons (o := { dst := some 3, op := Op.call { callee := Callee.value (Operand.func 63), args := #[], argTypes := #[] }, type := 79, pos := "parse.go:177", after := #[], guard := none }) rfl (fun K hK => ?_) AllReadyH.nil
  go_simp
  with_reducible refine (HR.out _).mono ?_
  rintro y w1 ⟨g, cap, rfl, R1, T1⟩
  have SC := T1.cell id sD
  have C1 := Lib.hid (CN.out w1 g cap R1)
  have G := Lib.hid ((F.out.trans ((Turn.refl _ _).drewN 1)).trans T1)
  clear T1 R1
  go_simp
  refine hK.out _ _ ?hs3 (fun hS3 => ?_)
  case hs3 => exact SC
  clear hK K hS0
  refine wpAnyH_ready (rs := [3]) (by kernel_rfl) (by simp) ?_
  refine AllReadyH.cons (o := { dst := some 6, op := Op.call { callee := Callee.value (Operand.func 61), args := #[Operand.tmp 3, Operand.tmp 5], argTypes := #[79, 9] }, type := 4, pos := "parse.go:177", after := #[{ on := 0, ground := Ground.data }, { on := 2, ground := Ground.data }, { on := 0, ground := Ground.chain }], guard := none }) rfl (fun K hK => ?_) AllReadyH.nil
  go_simp
  with_reducible refine C1.out.mono ?_
  rintro y w2 ⟨rfl, T2⟩
  have SC2 := T2.cell id SC
  have KT := Lib.hid (G.out.trans T2)
  clear T2
  go_simp
  refine hK.out _ _ ?hs4 (fun hS4 => ?_)
  case hs4 => exact SC2
  clear hK K hS3
  refine wpAnyH_take (i := 4) (oi := { dst := some 2, op := Op.assign (Operand.tmp 6), type := 4, pos := "parse.go:177", after := #[{ on := 3, ground := Ground.data }, { on := 3, ground := Ground.chain }, { on := 0, ground := Ground.phase }, { on := 1, ground := Ground.phase }, { on := 2, ground := Ground.phase }, { on := 3, ground := Ground.phase }], guard := none }) (v := ?_) rfl (by kernel_rfl) (by kernel_rfl) (by kernel_rfl) (fun _ _ _ h => h) (Or.inl ⟨by rfl, ?hy5⟩) hS4 ?_
  case hy5 => (intro w hSw; (try dsimp only at hSw); go_simp; try with_reducible rfl)
  try simp only [Act.put, List.setIfInBounds_toArray, List.set_cons_zero, List.set_cons_succ]
  refine wpAnyH_done (by kernel_rfl) ?_ _
  clear sD SC SC2 C1
  go_wp2_with fail
  go_ret
  exact ⟨rfl, KT.out⟩
end Go.Proofs.YtadogobdlcionaaDoor
