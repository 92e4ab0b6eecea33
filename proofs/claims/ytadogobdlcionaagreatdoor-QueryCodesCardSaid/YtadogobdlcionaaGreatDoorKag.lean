/-
  Where a text stands in a row of texts.
  What may begin a part that stands alone.
  How a sum is read: the program's parser told as a plain function, with fuel; a part that stands in a sign or a bracket.
  Rows of codes put behind one another; how many codes a part makes.
  A part's reading never goes beyond the tokens.
-/
import Derived.Test.YtadogobdlcionaaGreatDoorKaf
set_option linter.unusedSimpArgs false
namespace Go.Proofs.YtadogobdlcionaaGreatDoor
open Go.ChangeShapes Go.WideShapes Go.ChangeAt Go.RowKit Go.Shelf
set_option linter.unusedVariables false
/-- The place of a text in a row of texts, or -1. -/
def idxI (T : List ByteArray) (t : ByteArray) : Int := match T.findIdx? (fun x => decide (x = t)) with
  | some k => (k : Int)
  | none => -1
theorem idx_hit {T : List ByteArray} {t : ByteArray} {j : Nat} (hj : T[j]? = some t) (h : ∀ k, k < j → T[k]? ≠ some t) : idxI T t = (j : Int) := by
  unfold idxI
  obtain ⟨hl, he⟩ := List.getElem?_eq_some_iff.1 hj
  rw [show T.findIdx? (fun x => decide (x = t)) = some j from by
    rw [List.findIdx?_eq_some_iff_getElem]
    refine ⟨hl, by simp [he], fun k hk => ?_⟩
    have := h k hk
    rw [List.getElem?_eq_getElem (by omega)] at this
    simpa using fun e => this (by rw [e])]
theorem idx_miss {T : List ByteArray} {t : ByteArray} (h : ∀ k, k < T.length → T[k]? ≠ some t) : idxI T t = -1 := by
  unfold idxI
  rw [show T.findIdx? (fun x => decide (x = t)) = none from by
    rw [List.findIdx?_eq_none_iff]
    intro x hx
    obtain ⟨k, hk, rfl⟩ := List.getElem_of_mem hx
    have := h k hk
    rw [List.getElem?_eq_getElem hk] at this
    simpa using fun e => this (by rw [e])]
theorem wrap_one {a : Nat} (h : a ≤ 140737488355329) : wrap64 ((a : Int) + 1) = ((a + 1 : Nat) : Int) := by unfold wrap64; omega
theorem dec_ilt {a b : Nat} (h : a < b) : decide ((a : Int) < (b : Int)) = true := decide_eq_true (by omega)
theorem dec_inlt {a b : Nat} (h : ¬ a < b) : decide ((a : Int) < (b : Int)) = false := decide_eq_false (by omega)
theorem meas_j {j n : Nat} (h : j < n) : n + 1 - (intOf (.int .i64 ((j + 1 : Nat) : Int))).toNat < n + 1 - (intOf (.int .i64 (j : Int))).toNat := by simp only [intOf]; omega
def IxRel (w : World) (n : Nat) (T : List ByteArray) (t : ByteArray) (v : Value) (wr : World) : Prop := ∃ j : Nat, v = .int .i64 (j : Int) ∧ j ≤ n ∧ (∀ k, k < j → T[k]? ≠ some t) ∧ Turn (fun _ => False) w wr
set_option maxRecDepth 100000 in
set_option maxHeartbeats 2000000 in
theorem index_is {w : World} {g n cap : Nat} {T : List ByteArray} (hr : w.rangeAt g 0 (T.map Value.string)) (hT : T.length = n) (hn : n ≤ 100) (t : ByteArray) :
    Calls Tryz.prog 79 #[.slice (some ⟨g, 0, none⟩) n cap, .string t] w fun y w' => y = .returned (.int .i64 (idxI T t)) ∧ Turn (fun _ => False) w w' := by
  have H := Lib.hid (And.intro hr (And.intro hT hn))
  clear hr hT hn
  go_enter Tryz.func79, Tryz.ntmps79
  go_wp2_with fail
  go_loopw [8] (fun v wr => IxRel w n T t v wr) (fun v _ => n + 1 - (intOf v).toNat)
  case atStart => exact ⟨0, by simp, Nat.zero_le _, fun k hk => absurd hk (Nat.not_lt_zero k), Turn.refl _ _⟩
  case round =>
    obtain ⟨j, rfl, hj, hk, TT⟩ := hrel
    by_cases hjn : j < n
    · obtain ⟨x, hx⟩ : ∃ x, T[j]? = some x := ⟨_, List.getElem?_eq_getElem (by have := H.out.2.1; omega)⟩
      have p := TT.cell id (H.out.1 j (.string x) (by rw [List.getElem?_map, hx]; rfl))
      rw [Nat.zero_add] at p
      have u1 := dec_ilt hjn
      have u2 : decide (j < n) = true := decide_eq_true hjn
      have i0 : (0 : Int) ≤ (j : Int) := Int.natCast_nonneg j
      have i1 : (j : Int) < (n : Int) := Int.ofNat_lt.2 hjn
      have hw := wrap_one (a := j) (by have := H.out.2.2; omega)
      by_cases hxt : t = x
      · subst hxt
        have e1 : (t.toList == t.toList) = true := by rw [text_beq]; simp
        have FIN := Lib.hid (And.intro (idx_hit hx hk) TT)
        clear hx hj hjn TT hk
        go_wp2_with fail
        go_ret
        exact ⟨by rw [FIN.out.1]; rfl, FIN.out.2⟩
      · have e1 : (t.toList == x.toList) = false := by rw [text_beq]; simp [hxt]
        have FIN := Lib.hid (And.intro hjn (And.intro TT (show ∀ k, k < j + 1 → T[k]? ≠ some t from fun k hk' => by
          by_cases q : k = j
          · subst q; rw [hx]; intro e; exact hxt (Option.some.inj e).symm
          · exact hk k (by omega))))
        clear hx hj hjn TT hk hxt
        go_wp2_with fail
        exact ⟨by rw [hw]; exact ⟨j + 1, rfl, FIN.out.1, FIN.out.2.2, FIN.out.2.1⟩, by rw [hw]; exact meas_j FIN.out.1⟩
    · obtain rfl : j = n := by omega
      have u1 := dec_inlt hjn
      have u2 : decide (j < j) = false := decide_eq_false hjn
      have FIN := Lib.hid (And.intro (idx_miss (T := T) (t := t) (by rw [H.out.2.1]; exact hk)) TT)
      clear hj hjn TT hk
      go_wp2_with fail
      go_ret
      exact ⟨by rw [FIN.out.1]; rfl, FIN.out.2⟩
theorem idx_ge (T : List ByteArray) (t : ByteArray) : decide (idxI T t ≥ 0) = T.any (fun x => decide (x = t)) := by
  unfold idxI
  cases h : T.findIdx? (fun x => decide (x = t)) with
  | none =>
    rw [List.findIdx?_eq_none_iff] at h
    symm
    simp only [List.any_eq_false, Int.reduceNeg, Int.reduceGE, decide_false, Bool.not_eq_true]
    exact h
  | some k =>
    have := List.findIdx?_eq_some_iff_getElem.1 h
    obtain ⟨hk, e, -⟩ := this
    have hz : decide ((k : Int) ≥ 0) = true := decide_eq_true (Int.natCast_nonneg k)
    refine Eq.trans hz ?_
    symm
    rw [List.any_eq_true]
    exact ⟨_, List.getElem_mem hk, e⟩
set_option maxRecDepth 100000 in
set_option maxHeartbeats 2000000 in
theorem contains_is {w : World} {g n cap : Nat} {T : List ByteArray} (hr : w.rangeAt g 0 (T.map Value.string)) (hT : T.length = n) (hn : n ≤ 100) (t : ByteArray) :
    Calls Tryz.prog 100 #[.slice (some ⟨g, 0, none⟩) n cap, .string t] w fun y w' => y = .returned (.bool (T.any (fun x => decide (x = t)))) ∧ Turn (fun _ => False) w w' := by
  have IX := Lib.hid (index_is (cap := cap) hr hT hn t)
  rw [← idx_ge]
  obtain ⟨z, hzz⟩ : ∃ z, z = idxI T t := ⟨_, rfl⟩
  rw [← hzz] at IX ⊢
  clear hr hT hn hzz
  by_cases hz : z ≥ 0
  · rw [decide_eq_true hz]
    have u1 : decide (z ≥ 0) = true := decide_eq_true hz
    have u2 : decide (0 ≤ z) = true := decide_eq_true hz
    clear hz
    go_enter Tryz.func100, Tryz.ntmps100
    go_wp2_with fail
    with_reducible refine IX.out.mono ?_
    rintro y w1 ⟨rfl, T1⟩
    have F := Lib.hid T1
    clear T1
    go_wp2_with fail
    go_ret
    exact ⟨rfl, F.out⟩
  · rw [decide_eq_false hz]
    have u1 : decide (z ≥ 0) = false := decide_eq_false hz
    have u2 : decide (0 ≤ z) = false := decide_eq_false hz
    clear hz
    go_enter Tryz.func100, Tryz.ntmps100
    go_wp2_with fail
    with_reducible refine IX.out.mono ?_
    rintro y w1 ⟨rfl, T1⟩
    have F := Lib.hid T1
    clear T1
    go_wp2_with fail
    go_ret
    exact ⟨rfl, F.out⟩
def holdsT : List ByteArray := [⟨#[61]⟩, ⟨#[33, 61]⟩, ⟨#[60]⟩, ⟨#[60, 61]⟩, ⟨#[62]⟩, ⟨#[62, 61]⟩]
def lettersT : List ByteArray := [⟨#[120]⟩, ⟨#[121]⟩, ⟨#[122]⟩, ⟨#[119]⟩]
def reckonsT : List ByteArray := [⟨#[43]⟩, ⟨#[45]⟩, ⟨#[42]⟩, ⟨#[47]⟩, ⟨#[37]⟩]
/-- A row of texts that a function makes. -/
def RowT (T : List ByteArray) (w : World) (y : Ending) (w' : World) : Prop := ∃ g cap, y = .returned (.slice (some ⟨g, 0, none⟩) T.length cap) ∧ w'.rangeAt g 0 (T.map Value.string) ∧ Turn (fun _ => False) w w'
set_option maxRecDepth 100000 in
set_option maxHeartbeats 2000000 in
theorem holds_is (w : World) : Calls Tryz.prog 47 #[] w (RowT holdsT w) := by
  go_enter Tryz.func47, Tryz.ntmps47
  go_wp2_with fail
  go_ret
  exact ⟨w.heap.size, 6, rfl, range_new w (holdsT.map Value.string) 9, (Turn.refl _ _).alloc _⟩
set_option maxRecDepth 100000 in
set_option maxHeartbeats 2000000 in
theorem letters_is (w : World) : Calls Tryz.prog 83 #[] w (RowT lettersT w) := by
  go_enter Tryz.func83, Tryz.ntmps83
  go_wp2_with fail
  go_ret
  exact ⟨w.heap.size, 4, rfl, range_new w (lettersT.map Value.string) 9, (Turn.refl _ _).alloc _⟩
set_option maxRecDepth 100000 in
set_option maxHeartbeats 2000000 in
theorem reckons_is (w : World) : Calls Tryz.prog 84 #[] w (RowT reckonsT w) := by
  go_enter Tryz.func84, Tryz.ntmps84
  go_wp2_with fail
  go_ret
  exact ⟨w.heap.size, 5, rfl, range_new w (reckonsT.map Value.string) 9, (Turn.refl _ _).alloc _⟩
def inB (T : List ByteArray) (s : ByteArray) (x : Nat × Tok) : Bool := T.any (fun y => decide (y = textOf s x))
set_option maxRecDepth 100000 in
set_option maxHeartbeats 2000000 in
theorem hold_tells (s : ByteArray) : Tells 80 s (inB holdsT s) := by
  refine ⟨enters 80 Tryz.func80 (by kernel_rfl) rfl, fun w x => ?_⟩
  unfold tokC tokL inB
  rw [show s.extract x.1 (x.1 + x.2.len) = textOf s x from rfl]
  generalize textOf s x = tx at *
  obtain ⟨W, hW⟩ : ∃ W, W = w.alloc (.cells #[.int .i64 (x.2.kind : Int), .int .i64 (x.1 : Int), .string tx, .int .i64 (x.2.n : Int)] 65) := ⟨_, rfl⟩
  have T0 : Turn (fun _ => False) w W := by rw [hW]; exact (Turn.refl _ _).alloc _
  have c2 : W.cell? ⟨w.heap.size, 2, none⟩ = some (.string tx) := by rw [hW]; exact cell_new rfl rfl
  have sD : W.drew.cell? ⟨w.heap.size, 2, none⟩ = some (.string tx) := c2
  have HR := Lib.hid (fun W => holds_is W)
  have CN := Lib.hid (fun (W : World) (g cap : Nat) (h : W.rangeAt g 0 (holdsT.map Value.string)) => contains_is (cap := cap) h rfl (by decide) tx)
  have F := Lib.hid T0
  have HW := Lib.hid hW
  obtain ⟨bb, hbb⟩ : ∃ b, b = holdsT.any (fun y => decide (y = tx)) := ⟨_, rfl⟩
  rw [← hbb] at CN ⊢
  clear T0 hW hbb c2
  go_enter Tryz.func80, Tryz.ntmps80
  go_upto_region 1 with fail
  rw [← HW.out]
  refine wp_region_held_drew (S := fun w' => w'.cell? ⟨w.heap.size, 2, none⟩ = some (.string tx)) (by kernel_rfl) ?hs0 (fun hS0 => ?_)
  case hs0 => exact sD
  refine wpAnyH_take (i := 1) (oi := { dst := some 4, op := Op.fieldAddr 65 (Operand.tmp 1) 2, type := 0, pos := "parse.go:175", after := #[], guard := none }) (v := ?_) rfl (by kernel_rfl) (by kernel_rfl) (by kernel_rfl) (fun _ _ _ h => h) (Or.inl ⟨by rfl, ?hy1⟩) hS0 ?_
  case hy1 => (intro w hSw; (try dsimp only at hSw); go_simp; try with_reducible rfl)
  try simp only [Act.put, List.setIfInBounds_toArray, List.set_cons_zero, List.set_cons_succ]
  refine wpAnyH_take (i := 2) (oi := { dst := some 5, op := Op.load 9 (Operand.tmp 4), type := 9, pos := "parse.go:175", after := #[{ on := 1, ground := Ground.data }], guard := none }) (v := ?_) rfl (by kernel_rfl) (by kernel_rfl) (by kernel_rfl) (fun _ _ _ h => h) (Or.inl ⟨by rfl, ?hy2⟩) hS0 ?_
  case hy2 => (intro w hSw; (try dsimp only at hSw); go_simp; try with_reducible rfl)
  try simp only [Act.put, List.setIfInBounds_toArray, List.set_cons_zero, List.set_cons_succ]
  refine wpAnyH_ready (rs := [0]) (by kernel_rfl) (by simp) ?_
  refine AllReadyH.cons (o := { dst := some 3, op := Op.call { callee := Callee.value (Operand.func 47), args := #[], argTypes := #[] }, type := 41, pos := "parse.go:175", after := #[], guard := none }) rfl (fun K hK => ?_) AllReadyH.nil
  go_simp
  with_reducible refine (HR.out _).mono ?_
  rintro y w1 ⟨g, cap, rfl, R1, T1⟩
  have SC := T1.cell id sD
  have C1 := Lib.hid (CN.out w1 g cap R1)
  have G := Lib.hid ((F.out.trans ((Turn.refl _ _).drewN 1)).trans T1)
  clear T1 R1
  go_simp
  refine hK.out _ _ ?hs3 (fun hS3 => ?_)
  case hs3 => exact SC
  clear hK K hS0
  refine wpAnyH_ready (rs := [3]) (by kernel_rfl) (by simp) ?_
  refine AllReadyH.cons (o := { dst := some 6, op := Op.call { callee := Callee.value (Operand.func 100), args := #[Operand.tmp 3, Operand.tmp 5], argTypes := #[41, 9] }, type := 4, pos := "parse.go:175", after := #[{ on := 0, ground := Ground.data }, { on := 2, ground := Ground.data }, { on := 0, ground := Ground.chain }], guard := none }) rfl (fun K hK => ?_) AllReadyH.nil
  go_simp
  with_reducible refine C1.out.mono ?_
  rintro y w2 ⟨rfl, T2⟩
  have SC2 := T2.cell id SC
  have KT := Lib.hid (G.out.trans T2)
  clear T2
  go_simp
  refine hK.out _ _ ?hs4 (fun hS4 => ?_)
  case hs4 => exact SC2
  clear hK K hS3
  refine wpAnyH_take (i := 4) (oi := { dst := some 2, op := Op.assign (Operand.tmp 6), type := 4, pos := "parse.go:175", after := #[{ on := 3, ground := Ground.data }, { on := 3, ground := Ground.chain }, { on := 0, ground := Ground.phase }, { on := 1, ground := Ground.phase }, { on := 2, ground := Ground.phase }, { on := 3, ground := Ground.phase }], guard := none }) (v := ?_) rfl (by kernel_rfl) (by kernel_rfl) (by kernel_rfl) (fun _ _ _ h => h) (Or.inl ⟨by rfl, ?hy5⟩) hS4 ?_
  case hy5 => (intro w hSw; (try dsimp only at hSw); go_simp; try with_reducible rfl)
  try simp only [Act.put, List.setIfInBounds_toArray, List.set_cons_zero, List.set_cons_succ]
  refine wpAnyH_done (by kernel_rfl) ?_ _
  clear sD SC SC2 C1
  go_wp2_with fail
  go_ret
  exact ⟨rfl, KT.out⟩
set_option maxRecDepth 100000 in
set_option maxHeartbeats 2000000 in
theorem field_tells (s : ByteArray) : Tells 120 s (inB lettersT s) := by
  refine ⟨enters 120 Tryz.func120 (by kernel_rfl) rfl, fun w x => ?_⟩
  unfold tokC tokL inB
  rw [show s.extract x.1 (x.1 + x.2.len) = textOf s x from rfl]
  generalize textOf s x = tx at *
  obtain ⟨W, hW⟩ : ∃ W, W = w.alloc (.cells #[.int .i64 (x.2.kind : Int), .int .i64 (x.1 : Int), .string tx, .int .i64 (x.2.n : Int)] 65) := ⟨_, rfl⟩
  have T0 : Turn (fun _ => False) w W := by rw [hW]; exact (Turn.refl _ _).alloc _
  have c2 : W.cell? ⟨w.heap.size, 2, none⟩ = some (.string tx) := by rw [hW]; exact cell_new rfl rfl
  have sD : W.drew.cell? ⟨w.heap.size, 2, none⟩ = some (.string tx) := c2
  have HR := Lib.hid (fun W => letters_is W)
  have CN := Lib.hid (fun (W : World) (g cap : Nat) (h : W.rangeAt g 0 (lettersT.map Value.string)) => contains_is (cap := cap) h rfl (by decide) tx)
  have F := Lib.hid T0
  have HW := Lib.hid hW
  obtain ⟨bb, hbb⟩ : ∃ b, b = lettersT.any (fun y => decide (y = tx)) := ⟨_, rfl⟩
  rw [← hbb] at CN ⊢
  clear T0 hW hbb c2
  go_enter Tryz.func120, Tryz.ntmps120
  go_upto_region 1 with fail
  rw [← HW.out]
  refine wp_region_held_drew (S := fun w' => w'.cell? ⟨w.heap.size, 2, none⟩ = some (.string tx)) (by kernel_rfl) ?hs0 (fun hS0 => ?_)
  case hs0 => exact sD
  refine wpAnyH_take (i := 1) (oi := { dst := some 4, op := Op.fieldAddr 65 (Operand.tmp 1) 2, type := 0, pos := "parse.go:177", after := #[], guard := none }) (v := ?_) rfl (by kernel_rfl) (by kernel_rfl) (by kernel_rfl) (fun _ _ _ h => h) (Or.inl ⟨by rfl, ?hy1⟩) hS0 ?_
  case hy1 => (intro w hSw; (try dsimp only at hSw); go_simp; try with_reducible rfl)
  try simp only [Act.put, List.setIfInBounds_toArray, List.set_cons_zero, List.set_cons_succ]
  refine wpAnyH_take (i := 2) (oi := { dst := some 5, op := Op.load 9 (Operand.tmp 4), type := 9, pos := "parse.go:177", after := #[{ on := 1, ground := Ground.data }], guard := none }) (v := ?_) rfl (by kernel_rfl) (by kernel_rfl) (by kernel_rfl) (fun _ _ _ h => h) (Or.inl ⟨by rfl, ?hy2⟩) hS0 ?_
  case hy2 => (intro w hSw; (try dsimp only at hSw); go_simp; try with_reducible rfl)
  try simp only [Act.put, List.setIfInBounds_toArray, List.set_cons_zero, List.set_cons_succ]
  refine wpAnyH_ready (rs := [0]) (by kernel_rfl) (by simp) ?_
  refine AllReadyH.cons (o := { dst := some 3, op := Op.call { callee := Callee.value (Operand.func 83), args := #[], argTypes := #[] }, type := 41, pos := "parse.go:177", after := #[], guard := none }) rfl (fun K hK => ?_) AllReadyH.nil
  go_simp
  with_reducible refine (HR.out _).mono ?_
  rintro y w1 ⟨g, cap, rfl, R1, T1⟩
  have SC := T1.cell id sD
  have C1 := Lib.hid (CN.out w1 g cap R1)
  have G := Lib.hid ((F.out.trans ((Turn.refl _ _).drewN 1)).trans T1)
  clear T1 R1
  go_simp
  refine hK.out _ _ ?hs3 (fun hS3 => ?_)
  case hs3 => exact SC
  clear hK K hS0
  refine wpAnyH_ready (rs := [3]) (by kernel_rfl) (by simp) ?_
  refine AllReadyH.cons (o := { dst := some 6, op := Op.call { callee := Callee.value (Operand.func 100), args := #[Operand.tmp 3, Operand.tmp 5], argTypes := #[41, 9] }, type := 4, pos := "parse.go:177", after := #[{ on := 0, ground := Ground.data }, { on := 2, ground := Ground.data }, { on := 0, ground := Ground.chain }], guard := none }) rfl (fun K hK => ?_) AllReadyH.nil
  go_simp
  with_reducible refine C1.out.mono ?_
  rintro y w2 ⟨rfl, T2⟩
  have SC2 := T2.cell id SC
  have KT := Lib.hid (G.out.trans T2)
  clear T2
  go_simp
  refine hK.out _ _ ?hs4 (fun hS4 => ?_)
  case hs4 => exact SC2
  clear hK K hS3
  refine wpAnyH_take (i := 4) (oi := { dst := some 2, op := Op.assign (Operand.tmp 6), type := 4, pos := "parse.go:177", after := #[{ on := 3, ground := Ground.data }, { on := 3, ground := Ground.chain }, { on := 0, ground := Ground.phase }, { on := 1, ground := Ground.phase }, { on := 2, ground := Ground.phase }, { on := 3, ground := Ground.phase }], guard := none }) (v := ?_) rfl (by kernel_rfl) (by kernel_rfl) (by kernel_rfl) (fun _ _ _ h => h) (Or.inl ⟨by rfl, ?hy5⟩) hS4 ?_
  case hy5 => (intro w hSw; (try dsimp only at hSw); go_simp; try with_reducible rfl)
  try simp only [Act.put, List.setIfInBounds_toArray, List.set_cons_zero, List.set_cons_succ]
  refine wpAnyH_done (by kernel_rfl) ?_ _
  clear sD SC SC2 C1
  go_wp2_with fail
  go_ret
  exact ⟨rfl, KT.out⟩
end Go.Proofs.YtadogobdlcionaaGreatDoor
namespace Go.Proofs.YtadogobdlcionaaGreatDoor
open Go.ChangeShapes Go.WideShapes Go.ChangeAt Go.RowKit Go.Shelf
set_option linter.unusedVariables false
/-- May a part that stands alone begin so? -/
def unaryB (s : ByteArray) (x : Nat × Tok) : Bool := ((textOf s x).toList == [45]) || ((textOf s x).toList == [40]) || ((textOf s x).toList == [35]) || decide (x.2.kind = 3) || nameB s x
set_option maxRecDepth 100000 in
set_option maxHeartbeats 2000000 in
theorem unary_tells (s : ByteArray) : Tells 118 s (unaryB s) := by
  refine ⟨enters 118 Tryz.func118 (by kernel_rfl) rfl, fun w x => ?_⟩
  have NT := Lib.hid (fun w => (name_tells s).2 w x)
  unfold unaryB
  unfold tokC tokL at NT ⊢
  rw [show s.extract x.1 (x.1 + x.2.len) = textOf s x from rfl] at NT ⊢
  rw [← dec_int]
  generalize nameB s x = nb at *
  generalize textOf s x = tx at *
  obtain ⟨W, hW⟩ : ∃ W, W = w.alloc (.cells #[.int .i64 (x.2.kind : Int), .int .i64 (x.1 : Int), .string tx, .int .i64 (x.2.n : Int)] 65) := ⟨_, rfl⟩
  have T0 : Turn (fun _ => False) w W := by rw [hW]; exact (Turn.refl _ _).alloc _
  have c0 : W.cell? ⟨w.heap.size, 0, none⟩ = some (.int .i64 (x.2.kind : Int)) := by rw [hW]; exact cell_new rfl rfl
  have c1 : W.cell? ⟨w.heap.size, 1, none⟩ = some (.int .i64 (x.1 : Int)) := by rw [hW]; exact cell_new rfl rfl
  have c2 : W.cell? ⟨w.heap.size, 2, none⟩ = some (.string tx) := by rw [hW]; exact cell_new rfl rfl
  have c3 : W.cell? ⟨w.heap.size, 3, none⟩ = some (.int .i64 (x.2.n : Int)) := by rw [hW]; exact cell_new rfl rfl
  have F := Lib.hid T0
  have HW := Lib.hid hW
  clear T0 hW
  cases h1 : (tx.toList == [45]) with
  | true =>
    go_enter Tryz.func118, Tryz.ntmps118
    go_upto_region 1 with fail
    rw [← HW.out]
    go_wp2_with fail
    go_ret
    exact ⟨rfl, F.out⟩
  | false =>
    cases h2 : (tx.toList == [40]) with
    | true =>
      go_enter Tryz.func118, Tryz.ntmps118
      go_upto_region 1 with fail
      rw [← HW.out]
      go_wp2_with fail
      go_ret
      exact ⟨rfl, F.out⟩
    | false =>
      cases h3 : (tx.toList == [35]) with
      | true =>
        go_enter Tryz.func118, Tryz.ntmps118
        go_upto_region 1 with fail
        rw [← HW.out]
        go_wp2_with fail
        go_ret
        exact ⟨rfl, F.out⟩
      | false =>
        cases h4 : ((x.2.kind : Int) == ((3 : Nat) : Int)) with
        | true =>
          have h4 : ((x.2.kind : Int) == 3) = true := h4
          go_enter Tryz.func118, Tryz.ntmps118
          go_upto_region 1 with fail
          rw [← HW.out]
          go_wp2_with fail
          go_ret
          exact ⟨rfl, F.out⟩
        | false =>
          have h4 : ((x.2.kind : Int) == 3) = false := h4
          go_enter Tryz.func118, Tryz.ntmps118
          go_upto_region 1 with fail
          rw [← HW.out]
          go_wp2_with fail
          with_reducible refine (NT.out _).mono ?_
          rintro y w1 ⟨rfl, T1⟩
          have G := Lib.hid (F.out.trans T1)
          clear T1
          go_wp2_with fail
          go_ret
          exact ⟨rfl, G.out⟩
end Go.Proofs.YtadogobdlcionaaGreatDoor
namespace Go.Proofs.YtadogobdlcionaaGreatDoor
open Go.ChangeShapes Go.WideShapes Go.ChangeAt Go.RowKit Go.Shelf
set_option linter.unusedVariables false
/-- A code. -/
structure CD where
  op : Int
  n : Int
  var : ByteArray
  field : Int
def CD.cells (c : CD) : List Value := [.int .i64 c.op, .int .i64 c.n, .string c.var, .int .i64 c.field, .int .i64 0]
def cdsC (l : List CD) : List Value := (l.map CD.cells).flatten
/-- Codes in memory, in a block of their own. -/
def cdsV (b : Nat) (l : List CD) (w : World) (x : Value) : Prop := w.ownsRow b 45 5 x l.length (cdsC l)
/-- The text that stands there, or none. -/
def textAt (s : ByteArray) (L : List (Nat × Tok)) (i : Nat) : ByteArray := match L[i]? with
  | some x => textOf s x
  | none => ⟨#[]⟩
/-- Which sign stands there, by its number; 0: none. -/
def opAt (s : ByteArray) (L : List (Nat × Tok)) (i : Nat) : Int := 1 + idxI reckonsT (textAt s L i)
/-- What is read. -/
inductive Tg where
  | un
  | pr
  | su
  | lp (b : Bool) (l : List CD)
abbrev shut : ByteArray := ⟨#[41]⟩
abbrev dot : ByteArray := ⟨#[46]⟩
def zcd : CD := ⟨0, 0, ⟨#[]⟩, 0⟩
def readF (s : ByteArray) (L : List (Nat × Tok)) (e : Nat) : Nat → Tg → Nat → Nat → PA (List CD)
  | 0, _, _, _ => .out
  | f + 1, .su, nest, i => match readF s L e f .pr nest i with
    | .ok l j => readF s L e f (.lp true l) nest j
    | r => r
  | f + 1, .pr, nest, i => match readF s L e f .un nest i with
    | .ok l j => readF s L e f (.lp false l) nest j
    | r => r
  | f + 1, .lp b l, nest, i =>
    if (if b then 1 else 3) ≤ opAt s L i ∧ opAt s L i ≤ (if b then 2 else 5) then
      match readF s L e f (if b then .pr else .un) nest (i + 1) with
      | .ok r j => readF s L e f (.lp b (l ++ r ++ [{ zcd with op := opAt s L i }])) nest j
      | r => r
    else .ok l i
  | f + 1, .un, nest, i => match takeB (unaryB s) L i with
    | none => .stop (placeE L e i) 11
    | some x =>
      if (textOf s x).toList == [45] then
        if nest = 16 then .stop x.1 12 else match readF s L e f .un (nest + 1) (i + 1) with
          | .ok l j => .ok (l ++ [{ zcd with op := 9 }]) j
          | r => r
      else if (textOf s x).toList == [40] then
        if nest = 16 then .stop x.1 12 else match readF s L e f .su (nest + 1) (i + 1) with
          | .ok l j => if hasB s L shut j then .ok l (j + 1) else .stop (placeE L e j) 11
          | r => r
      else if (textOf s x).toList == [35] then match takeB (nameB s) L (i + 1) with
        | some y => .ok [{ zcd with op := 8, var := textOf s y }] (i + 2)
        | none => .stop (placeE L e (i + 1)) 11
      else if x.2.kind = 3 then .ok [{ zcd with op := 6, n := x.2.n }] (i + 1)
      else if hasB s L dot (i + 1) then match takeB (inB lettersT s) L (i + 2) with
        | some y => .ok [{ zcd with op := 7, var := textOf s x, field := idxI lettersT (textOf s y) }] (i + 3)
        | none => .stop (placeE L e (i + 2)) 11
      else .stop (placeE L e (i + 1)) 11
theorem ParAt.deep {W : World} {p base : Nat} {s : ByteArray} {L : List (Nat × Tok)} {v : Value} {i e nest : Nat} (h : ParAt W p base s L v i e nest) (k : Nat) : ParAt (W.setCell ⟨p, 3, none⟩ (.int .i64 (k : Int))) p base s L v i e k :=
  ⟨h.bl.set _ _, (cell_off _ _ _ _ _ (by decide)).trans h.c0, (cell_off _ _ _ _ _ (by decide)).trans h.c1, (cell_off _ _ _ _ _ (by decide)).trans h.c2, World.cell?_setCell_same _ _ _ h.c3,
    own_turn h.row (Turn.put W p 3 _) (fun k hk q => by
      obtain ⟨⟨cs, hb⟩, _⟩ := own_blk h.row hk
      obtain ⟨cs', hb'⟩ := h.bl
      rw [q, hb'] at hb
      cases hb), h.le⟩
theorem own_above {b e' sz n : Nat} {xs : List Value} {W : World} {x : Value} (h : W.ownsRow b e' sz x n xs) {k : Nat} (hk : x.ownBlock = some k) : b ≤ k := by
  rcases h.2 with ⟨rfl, rfl⟩ | ⟨g, cap, cur, rfl, hg, _⟩
  · cases hk
  · have : g = k := by simpa [Value.ownBlock] using hk
    omega
theorem cdsV.turn {b : Nat} {l : List CD} {W W' : World} {S : Nat → Prop} {x : Value} (h : cdsV b l W x) (T : Turn S W W') (hs : ∀ k, b ≤ k → ¬ S k) : cdsV b l W' x := own_turn h T (fun k hk q => hs k (own_above h hk) q)
theorem cdsV.low {b c : Nat} {l : List CD} {W : World} {x : Value} (h : cdsV b l W x) (hc : c ≤ b) : cdsV c l W x := by
  refine ⟨h.1, ?_⟩
  rcases h.2 with q | ⟨g, cap, cur, e1, hg, r⟩
  · exact .inl q
  · exact .inr ⟨g, cap, cur, e1, Nat.le_trans hc hg, r⟩
set_option maxRecDepth 100000 in
set_option maxHeartbeats 4000000 in
/-- Too deep. -/
theorem nested_no (w : World) {p base : Nat} {s : ByteArray} {L : List (Nat × Tok)} {v : Value} {i e : Nat} (h : ParAt w p base s L v i e 16) (x : Nat × Tok) (pt : Value) :
    Calls Tryz.prog 119 #[.pointer (some ⟨p, 0, none⟩), .agg (tokC s x).toArray, pt] w fun y w' => y = stopE x.1 12 ∧ Turn (fun k => k = p) w w' := by
  unfold tokC tokL
  generalize s.extract x.1 (x.1 + x.2.len) = tx at *
  obtain ⟨W, hW⟩ : ∃ W, W = w.alloc (.cells #[.int .i64 (x.2.kind : Int), .int .i64 (x.1 : Int), .string tx, .int .i64 (x.2.n : Int)] 65) := ⟨_, rfl⟩
  have T0 : Turn (fun _ => False) w W := by rw [hW]; exact (Turn.refl _ _).alloc _
  have d1 : W.cell? ⟨w.heap.size, 1, none⟩ = some (.int .i64 (x.1 : Int)) := by rw [hW]; exact cell_new rfl rfl
  have c3 : W.cell? ⟨p, 3, none⟩ = some (.int .i64 16) := T0.cell id h.c3
  have F := Lib.hid (T0.more (S' := fun k => k = p) (fun _ _ f => f.elim))
  have HW := Lib.hid hW
  clear T0 hW h
  unfold stopE
  go_enter Tryz.func119, Tryz.ntmps119
  go_upto_region 1 with fail
  rw [← HW.out]
  go_wp2_with fail
  exact ⟨rfl, rfl, F.out⟩
/-- A part's contract at a depth, as a part within speaks of it. -/
def Part (w : World) (p base : Nat) (s : ByteArray) (L : List (Nat × Tok)) (v : Value) (i e nest : Nat) (fn : Nat) (r : PA (List CD)) : Prop :=
  (∀ args w, (callFunc fn args).run Tryz.prog w = .ok (.enter fn args) w) ∧ ∀ W, Turn (fun k => k = p) w W → ParAt W p base s L v i e nest → Calls Tryz.prog fn #[.pointer (some ⟨p, 0, none⟩)] W (PaPost p base s L v e nest W (cdsV W.heap.size) r)
set_option maxRecDepth 100000 in
set_option maxHeartbeats 4000000 in
/-- A part that stands in a sign, or a bracket. -/
theorem nested_yes (w : World) {p base : Nat} {s : ByteArray} {L : List (Nat × Tok)} {v : Value} {i e nest : Nat} (h : ParAt w p base s L v i e nest) (hn : nest < 16) (x : Nat × Tok) {fn : Nat} {r : PA (List CD)} (hp : Part w p base s L v i e (nest + 1) fn r) :
    Calls Tryz.prog 119 #[.pointer (some ⟨p, 0, none⟩), .agg (tokC s x).toArray, .func (.func fn) #[.pointer (some ⟨p, 0, none⟩)] #[]] w (PaPost p base s L v e nest w (cdsV w.heap.size) r) := by
  obtain ⟨ent, hp⟩ := hp
  unfold tokC tokL
  generalize s.extract x.1 (x.1 + x.2.len) = tx at *
  obtain ⟨W, hW⟩ : ∃ W, W = w.alloc (.cells #[.int .i64 (x.2.kind : Int), .int .i64 (x.1 : Int), .string tx, .int .i64 (x.2.n : Int)] 65) := ⟨_, rfl⟩
  have T0 : Turn (fun _ => False) w W := by rw [hW]; exact (Turn.refl _ _).alloc _
  have P0 := h.turn T0
  have c3 := P0.c3
  have f3 := P0.bl.fz
  have u1 : ((nest : Int) == 16) = false := beq_eq_false_iff_ne.2 (by omega)
  have hw : wrap64 ((nest : Int) + 1) = ((nest + 1 : Nat) : Int) := by unfold wrap64; omega
  have hw2 : wrap64 (((nest + 1 : Nat) : Int) - 1) = (nest : Int) := by unfold wrap64; omega
  have P1 := P0.deep (nest + 1)
  have T1 := (T0.more (S' := fun k => k = p) (fun _ _ f => f.elim)).trans (Turn.put W p 3 (.int .i64 ((nest + 1 : Nat) : Int)))
  obtain ⟨z, hz⟩ : ∃ z : Int, z = ((nest + 1 : Nat) : Int) := ⟨_, rfl⟩
  rw [← hz] at hw hw2 T1 P1
  obtain ⟨W1, hW1⟩ : ∃ X, X = W.setCell ⟨p, 3, none⟩ (.int .i64 z) := ⟨_, rfl⟩
  rw [← hW1] at T1 P1
  have C := Lib.hid (hp W1 T1 P1)
  have F := Lib.hid T1
  have HW := Lib.hid hW
  have HW1 := Lib.hid hW1
  have HZ := Lib.hid hz
  have HL := Lib.hid h.bl.lt
  clear T0 hW h hp hW1 hz P0 T1 P1 hn
  go_enter Tryz.func119, Tryz.ntmps119
  go_upto_region 1 with fail
  rw [← HW.out]
  go_upto_region 4 with fail
  rw [← HW1.out]
  clear c3 f3
  go_wp2_with fail
  with_reducible refine C.out.mono ?_
  intro y w2 hy
  cases r with
  | out => exact hy.elim
  | stop a b =>
    obtain ⟨rfl, T2⟩ := hy
    have G := Lib.hid (F.out.trans T2)
    clear T2
    unfold stopE
    go_wp2_with fail
    exact ⟨rfl, rfl, G.out⟩
  | ok l j =>
    obtain ⟨xv, rfl, V2, T2, P2⟩ := hy
    have c3 := P2.c3
    have f3 := P2.bl.fz
    have P3 := P2.deep nest
    have T3 := (F.out.trans T2).trans (Turn.put w2 p 3 (.int .i64 (nest : Int)))
    rw [← HZ.out] at c3
    have V3 := (V2.turn (Turn.put w2 p 3 (.int .i64 (nest : Int))) (fun k hk q => by have := HL.out; have := F.out.size; omega)).low F.out.size
    have G := Lib.hid (And.intro V3 (And.intro T3 P3))
    clear P2 T2 V2 P3 T3 V3
    go_wp2_with fail
    go_ret
    exact ⟨_, rfl, G.out.1, G.out.2.1, G.out.2.2⟩
end Go.Proofs.YtadogobdlcionaaGreatDoor
namespace Go.Proofs.YtadogobdlcionaaGreatDoor
open Go.ChangeShapes Go.WideShapes Go.ChangeAt Go.RowKit Go.Shelf
set_option linter.unusedVariables false
theorem take_lt {pr : (Nat × Tok) → Bool} {L : List (Nat × Tok)} {i : Nat} {x : Nat × Tok} (h : takeB pr L i = some x) : i < L.length := by
  unfold takeB at h
  cases hx : L[i]? with
  | none => rw [hx] at h; cases h
  | some y => exact (List.getElem?_eq_some_iff.1 hx).1
/-- How many codes there are behind those that there were. -/
def Tg.len : Tg → Nat
  | .lp _ l => l.length
  | _ => 0
theorem read_len (s : ByteArray) (L : List (Nat × Tok)) (e : Nat) : ∀ (f : Nat) (t : Tg) (nest i : Nat) (l : List CD) (j : Nat), readF s L e f t nest i = .ok l j → i ≤ j ∧ l.length + i ≤ t.len + j
  | 0, t, nest, i, l, j, h => by cases h
  | f + 1, .su, nest, i, l, j, h => by
    unfold readF at h
    split at h
    · rename_i l1 j1 h1
      have a := read_len s L e f _ _ _ _ _ h1
      have b := read_len s L e f _ _ _ _ _ h
      simp only [Tg.len] at a b ⊢
      omega
    · rename_i h2
      exact absurd h (h2 _ _)
  | f + 1, .pr, nest, i, l, j, h => by
    unfold readF at h
    split at h
    · rename_i l1 j1 h1
      have a := read_len s L e f _ _ _ _ _ h1
      have b := read_len s L e f _ _ _ _ _ h
      simp only [Tg.len] at a b ⊢
      omega
    · rename_i h2
      exact absurd h (h2 _ _)
  | f + 1, .lp b l0, nest, i, l, j, h => by
    rw [readF] at h
    by_cases hc : (if b = true then (1 : Int) else 3) ≤ opAt s L i ∧ opAt s L i ≤ (if b = true then 2 else 5)
    · rw [if_pos hc] at h
      cases hq : readF s L e f (if b = true then Tg.pr else Tg.un) nest (i + 1) with
      | ok l1 j1 =>
        rw [hq] at h
        dsimp only at h
        have a := read_len s L e f _ _ _ _ _ hq
        have c := read_len s L e f _ _ _ _ _ h
        cases b <;> simp [Tg.len] at a c ⊢ <;> omega
      | stop x y => rw [hq] at h; cases h
      | out => rw [hq] at h; cases h
    · rw [if_neg hc] at h
      injection h with h1 h2
      subst h1 h2
      simp [Tg.len]
  | f + 1, .un, nest, i, l, j, h => by
    unfold readF at h
    simp only [Tg.len]
    split at h
    · cases h
    · split at h
      · split at h
        · cases h
        · split at h
          · rename_i l1 j1 h1
            have a := read_len s L e f _ _ _ _ _ h1
            injection h with h3 h4
            subst h3 h4
            simp [Tg.len] at a ⊢
            omega
          · rename_i h2
            exact absurd h (h2 _ _)
      · split at h
        · split at h
          · cases h
          · split at h
            · rename_i l1 j1 h1
              have a := read_len s L e f _ _ _ _ _ h1
              split at h
              · injection h with h3 h4
                subst h3 h4
                simp [Tg.len] at a ⊢
                omega
              · cases h
            · rename_i h2
              exact absurd h (h2 _ _)
        · split at h
          · split at h
            · injection h with h3 h4
              subst h3 h4
              simp
              omega
            · cases h
          · split at h
            · injection h with h3 h4
              subst h3 h4
              simp
              omega
            · split at h
              · split at h
                · injection h with h3 h4
                  subst h3 h4
                  simp
                  omega
                · cases h
              · cases h
theorem info95 : (Tryz.prog.info? 45).map (fun i => (i.zero, i.size, i.bytes)) = some (some (.agg #[.int .i64 0, .int .i64 0, .string ⟨#[]⟩, .int .i64 0, .int .i64 0]), 5, 48) := by kernel_rfl
theorem cdsC_app (l m : List CD) : cdsC (l ++ m) = cdsC l ++ cdsC m := by simp [cdsC]
theorem cdsC_one (l : List CD) : ∀ u ∈ cdsC l, u.oneCell' = true := by
  intro u hu
  unfold cdsC at hu
  rw [List.mem_flatten] at hu
  obtain ⟨y, hy, hu⟩ := hu
  obtain ⟨c, -, rfl⟩ := List.mem_map.1 hy
  simp only [CD.cells, List.mem_cons, List.not_mem_nil, or_false] at hu
  rcases hu with rfl | rfl | rfl | rfl | rfl <;> rfl
theorem cdsC_len : ∀ (l : List CD), (cdsC l).length = l.length * 5
  | [] => rfl
  | c :: r => by
    show (c.cells ++ cdsC r).length = _
    rw [List.length_append, cdsC_len r, List.length_cons]
    show 5 + _ = _
    omega
/-- Codes put behind codes. -/
theorem append_cds {w : World} {base b2 : Nat} {v v2 : Value} {l m : List CD} (h : cdsV base l w v) (h2 : cdsV b2 m w v2) (hb : base ≤ w.heap.size) (hl : l.length + m.length ≤ 1000000) :
    ∃ v' w', (Builtin.append_ #[39, 39] 39 #[v, v2]).run Tryz.prog w = .ok v' w' ∧ cdsV base (l ++ m) w' v' ∧ Turn (fun q => v.ownBlock = some q) w w' := by
  obtain ⟨i3, j1, j2, j3, j4⟩ := info_parts info95
  unfold cdsV at *
  rcases h2.2 with ⟨rfl, hn⟩ | ⟨g, cap, cur, rfl, hg, hgg, hc, hm, hcs, htk⟩
  · have hm0 : m = [] := List.length_eq_zero_iff.1 hn
    subst hm0
    exact ⟨v, w, run_append_owned_none w base 39 39 45 i3 5 Tryz.underlying39 j1 v l.length (cdsC l) h, by simpa using h, Turn.refl _ _⟩
  · obtain ⟨v', w', hr, ho, hg2, _⟩ := run_append_own w base 39 39 45 i3 _ 5 48 Tryz.underlying39 j1 j2 j3 j4 rfl (by decide) v l.length (cdsC l) h ⟨g, 0, none⟩ m.length cap (cdsC m) h2.1 (h2.cells rfl) (cdsC_one m) (by unfold maxLen; omega) (by omega) hb
    exact ⟨v', w', hr, by rw [List.length_append, cdsC_app]; exact ho, (Turn.refl _ _).grown hg2 (fun k hk => .inl hk)⟩
end Go.Proofs.YtadogobdlcionaaGreatDoor
namespace Go.Proofs.YtadogobdlcionaaGreatDoor
open Go.ChangeShapes Go.WideShapes Go.ChangeAt Go.RowKit Go.Shelf
set_option linter.unusedVariables false
theorem has_lt {s : ByteArray} {L : List (Nat × Tok)} {t : ByteArray} {i : Nat} (h : hasB s L t i = true) : i < L.length := by
  unfold hasB at h
  cases hx : L[i]? with
  | none => rw [hx] at h; cases h
  | some y => exact (List.getElem?_eq_some_iff.1 hx).1
theorem op_none {s : ByteArray} {L : List (Nat × Tok)} {i : Nat} (h : L[i]? = none) : opAt s L i = 0 := by
  unfold opAt textAt
  rw [h]
  rfl
theorem op_lt {s : ByteArray} {L : List (Nat × Tok)} {i : Nat} (h : 1 ≤ opAt s L i) : i < L.length := by
  cases hx : L[i]? with
  | none => rw [op_none hx] at h; omega
  | some y => exact (List.getElem?_eq_some_iff.1 hx).1
theorem read_le (s : ByteArray) (L : List (Nat × Tok)) (e : Nat) : ∀ (f : Nat) (t : Tg) (nest i : Nat) (l : List CD) (j : Nat), readF s L e f t nest i = .ok l j → i ≤ L.length → j ≤ L.length
  | 0, t, nest, i, l, j, h, hi => by cases h
  | f + 1, .su, nest, i, l, j, h, hi => by
    unfold readF at h
    split at h
    · rename_i l1 j1 h1
      exact read_le s L e f _ _ _ _ _ h (read_le s L e f _ _ _ _ _ h1 hi)
    · rename_i h2
      exact absurd h (h2 _ _)
  | f + 1, .pr, nest, i, l, j, h, hi => by
    unfold readF at h
    split at h
    · rename_i l1 j1 h1
      exact read_le s L e f _ _ _ _ _ h (read_le s L e f _ _ _ _ _ h1 hi)
    · rename_i h2
      exact absurd h (h2 _ _)
  | f + 1, .lp b l0, nest, i, l, j, h, hi => by
    rw [readF] at h
    by_cases hc : (if b = true then (1 : Int) else 3) ≤ opAt s L i ∧ opAt s L i ≤ (if b = true then 2 else 5)
    · have ho : 1 ≤ opAt s L i := by cases b <;> simp at hc <;> omega
      have hl := op_lt ho
      rw [if_pos hc] at h
      cases hq : readF s L e f (if b = true then Tg.pr else Tg.un) nest (i + 1) with
      | ok l1 j1 =>
        rw [hq] at h
        dsimp only at h
        exact read_le s L e f _ _ _ _ _ h (read_le s L e f _ _ _ _ _ hq hl)
      | stop x y => rw [hq] at h; cases h
      | out => rw [hq] at h; cases h
    · rw [if_neg hc] at h
      injection h with h1 h2
      omega
  | f + 1, .un, nest, i, l, j, h, hi => by
    unfold readF at h
    split at h
    · cases h
    · rename_i x hx
      have hl := take_lt hx
      split at h
      · split at h
        · cases h
        · split at h
          · rename_i l1 j1 h1
            have a := read_le s L e f _ _ _ _ _ h1 hl
            injection h with h3 h4
            omega
          · rename_i h2
            exact absurd h (h2 _ _)
      · split at h
        · split at h
          · cases h
          · split at h
            · rename_i l1 j1 h1
              have a := read_le s L e f _ _ _ _ _ h1 hl
              split at h
              · rename_i hb
                have := has_lt hb
                injection h with h3 h4
                omega
              · cases h
            · rename_i h2
              exact absurd h (h2 _ _)
        · split at h
          · split at h
            · rename_i y hy
              have := take_lt hy
              injection h with h3 h4
              omega
            · cases h
          · split at h
            · injection h with h3 h4
              omega
            · split at h
              · split at h
                · rename_i y hy
                  have := take_lt hy
                  injection h with h3 h4
                  omega
                · cases h
              · cases h
theorem one_cds (w : World) (c : CD) {b : Nat} (hb : b ≤ w.heap.size) : cdsV b [c] (w.alloc (.cells c.cells.toArray 45)) (.slice (some ⟨w.heap.size, 0, none⟩) 1 1) := by
  refine ⟨rfl, .inr ⟨w.heap.size, 1, c.cells.toArray, rfl, hb, ?_, Nat.le_refl _, by decide, rfl, rfl⟩⟩
  show (Array.push _ _)[_]? = _
  simp
end Go.Proofs.YtadogobdlcionaaGreatDoor
