/-
  Rows of numbers and steps that came in, with the bounds of their numbers; the sets and codes that are made of them; what they reckon to is a number of 64 bits.
-/
import Derived.Test.YtjfbjkgppnhaoaaSetsX
import Derived.Test.YtjfbjkgppnhaoaaApp
import Derived.Laws.BitsLemmas
namespace Go.Proofs.Ytjfbjkgppnhaoaa
open Go.ChangeShapes Go.WideShapes Go.ChangeAt Go.RowKit Go.Deep
set_option linter.unusedVariables false

def I64 (n : Int) : Prop := -9223372036854775808 ≤ n ∧ n ≤ 9223372036854775807
theorem i64_wf {n : Int} (h : (Lit.int .i64 n).wf = true) : I64 n := by
  simp only [Lit.wf, Bool.and_eq_true, decide_eq_true_eq] at h
  exact h
theorem i64_wrap (n : Int) : I64 (wrap64 n) := by unfold I64 wrap64; omega
theorem open_rows_x {H : Type} {enc : TypeId × Value → H} {W : World} {a : Option Addr} {len cap : Nat} {d : DataW H} {p : List MemPlace} (h : DataW.Trod enc Try.prog W 0 (fun _ => true) true 23 (.slice a len cap) d p) :
    ∃ L X, RowsX W a len L X ∧ ∀ r c, r < len → c < L r → I64 (X r c) := by
  by_cases h0 : len = 0
  · exact ⟨fun _ => 0, fun _ _ => 0, .inl h0, fun r c hr _ => by omega⟩
  obtain ⟨fuel, hf⟩ := h
  rcases open_int_rows Try.underlying23 Try.underlying98 Try.underlying2 (by kernel_rfl) (by kernel_rfl) hf with ⟨hcs, _⟩ | ⟨x, l, c, A, L, C, Z, hcs, _, hl, hm, _, hi⟩
  · simp [Value.cells] at hcs
    exact absurd hcs.2.1 h0
  · simp [Value.cells] at hcs
    obtain ⟨rfl, rfl, rfl⟩ := hcs
    obtain ⟨b, off, spot⟩ := x
    have z0 := (hi 0 (by omega)).1
    have hspot : spot = none := by simpa [Addr.add] using World.cell?_spot z0
    subst hspot
    refine ⟨L, fun r c => (Z r).getD c 0, .inr ⟨b, off, A, C, rfl, by unfold maxLen at hm; omega, fun r hr => ?_⟩, fun r c hr hc => ?_⟩
    · obtain ⟨y0, y1, y2, y3, _, y5, y6⟩ := hi r (by omega)
      rw [Go.WideShapes.add_plain] at y0
      refine ⟨y0, by unfold maxLen at y2; omega, fun hL => ?_⟩
      cases ha : A r with
      | none =>
        have := y5 ha
        omega
      | some ad =>
        obtain ⟨_, y7⟩ := y6 ad ha
        obtain ⟨rb, ro, rs⟩ := ad
        have q0 := y7 0 (by omega)
        have hrs : rs = none := by simpa [Addr.add] using World.cell?_spot q0
        subst hrs
        refine ⟨rb, ro, rfl, fun c hc => ?_⟩
        have := y7 c (by omega)
        rw [Go.WideShapes.add_plain] at this
        exact this
    · obtain ⟨_, y1, _, y3, y4, _, _⟩ := hi r (by omega)
      have hlt : c < (Z r).length := by omega
      have e : (Z r).getD c 0 = (Z r)[c] := by simp [List.getD, List.getElem?_eq_getElem hlt]
      show I64 ((Z r).getD c 0)
      rw [e]
      exact i64_wf (y4 _ (List.getElem_mem hlt))
def StepsX (W : World) (a : Option Addr) (len : Nat) : Prop :=
  StepsIn W a len ∧ ∀ b off i q, a = some ⟨b, off, none⟩ → i < len → W.cell? ⟨b, off + i * 4 + 3, none⟩ = some (.int .i64 q) → I64 q
theorem steps_trod_x {H : Type} {enc : TypeId × Value → H} {W : World} {a : Option Addr} {len cap fuel : Nat} {x : DataW H × List MemPlace} (hf : DataW.trod enc Try.prog W 0 (fun _ => true) true fuel 24 [.slice a len cap] = some x) : StepsX W a len := by
  refine ⟨steps_trod hf, fun b off i q ea hil hq => ?_⟩
  rcases open_sf4 Try.underlying24 Try.underlying119 (by kernel_rfl) (by kernel_rfl) hf with ⟨hcs, _⟩ | ⟨x, l, c, m, D, Pl, hcs, _, hl, hm, hmm, hi⟩
  · simp at hcs
    omega
  · simp at hcs
    obtain ⟨rfl, rfl, rfl⟩ := hcs
    simp only [if_true] at hmm
    subst hmm
    obtain ⟨ys, n', hfj⟩ := hi i (by omega)
    obtain ⟨v3, y3, c3, _, t3⟩ := hfj 3 _ rfl
    obtain ⟨k3, q3, _, w3⟩ := DataW.trod_int Try.underlying2 t3
    simp only [List.cons.injEq, and_true] at q3
    subst q3
    injection ea with ea
    subst ea
    have c3' : W.cell? ((⟨b, off, none⟩ : Addr).add (i * 4 + 3)) = some (.int .i64 k3) := c3
    rw [Go.WideShapes.add_plain] at c3'
    have f3 : off + (i * 4 + 3) = off + i * 4 + 3 := by omega
    rw [f3] at c3'
    rw [hq] at c3'
    injection c3' with e
    injection e with _ e
    rw [e]
    exact i64_wf w3
theorem open_steps_x {H : Type} {enc : TypeId × Value → H} {W : World} {a : Option Addr} {len cap : Nat} {d : DataW H} {p : List MemPlace} (h : DataW.Trod enc Try.prog W 0 (fun _ => true) true 24 (.slice a len cap) d p) : StepsX W a len := by
  obtain ⟨fuel, hf⟩ := h
  have e : (Value.slice a len cap).cells.toList = [.slice a len cap] := rfl
  rw [e] at hf
  exact steps_trod_x hf
theorem codes_any_x {w0 : World} {ad : Option Addr} {len : Nat} (h : StepsX w0 ad len) : ∃ cs : List Cd, cs.length ≤ 12 ∧ (∀ c ∈ cs, I64 c.n) ∧ ∀ w cap, Below w0.heap.size w0 w → Calls Try.prog 22 #[.slice ad len cap] w fun e w' => ∃ v, e = .returned v ∧ w'.ownsRow w.heap.size 54 5 v cs.length (ccells cs) ∧ Below w.heap.size w w' := by
  obtain ⟨h, hx⟩ := h
  rcases h with h0 | ⟨b, off, O, A, F, N, e, hl, h⟩
  · subst h0
    refine ⟨[], Nat.zero_le _, fun c hc => absurd hc (by simp), fun w cap _ => (codes_walk (b := 0) (off := 0) (O := fun _ => 0) (A := fun _ => 0) (F := fun _ => 0) (N := fun _ => 0) (fun h => absurd h (by omega)) (fun i hi => absurd hi (by omega)) (by omega)).mono fun e w' h => h⟩
  · refine ⟨codesOf O A F N (min len 12), by rw [codesOf_len]; omega, fun c hc => ?_, fun w cap hb => ?_⟩
    · unfold codesOf at hc
      obtain ⟨i, hi, rfl⟩ := List.mem_map.1 hc
      have hi' := List.mem_range.1 hi
      exact hx b off i (N i) e (by omega) (h i (by omega)).2.2.2
    · rw [codesOf_len]
      exact codes_walk (fun _ => e) (h.keep hb) hl
/-! ### The sets -/
def lsOf (len : Nat) (L : Nat → Nat) (X : Nat → Nat → Int) : List (List Ev) := (List.range (nSets len)).map (fun j => rowEv L X j (setLen L j))
theorem sets_any_x {w0 w : World} {a : Option Addr} {len : Nat} {L : Nat → Nat} {X : Nat → Nat → Int} (h : RowsX w0 a len L X) (hb : Below w0.heap.size w0 w) (cap : Nat) :
    Calls Try.prog 15 #[.slice a len cap] w fun e w' => ∃ v us, e = .returned v ∧ SetsAt w' w.heap.size v us (lsOf len L X) ∧ us.length = nSets len ∧ MadeX w' w.heap.size L X us ∧ Below w.heap.size w w' :=
  (sets_own_x (h.keep hb)).mono fun e w' ⟨v, us, he, hm, hrow, hmade, hb⟩ => by
    refine ⟨v, us, he, ⟨hrow, by simp [lsOf, hm], by rw [hm]; unfold nSets; split <;> omega, fun j u l hu hl => ?_⟩, hm, hmade, hb⟩
    have hj := (List.getElem?_eq_some_iff.1 hu).1
    unfold lsOf at hl
    rw [List.getElem?_map, List.getElem?_range (by omega)] at hl
    simp only [Option.map_some, Option.some.injEq] at hl
    subst hl
    rw [rowEv_len]
    exact ⟨hmade j u hu, setLen_le L j⟩
theorem evOf_in {n : Int} (h : I64 n) (f : Int) : I64 (fieldOf (evOf n) f) := by
  have h4 : bits BinOp.and IntKind.i64 n 3 = n % 4 := by
    have h3 : (BitVec.ofInt 64 3).toNat = 2 ^ 2 - 1 := by decide
    have key : (BitVec.ofInt 64 n &&& BitVec.ofInt 64 3).toNat = (n % ((2 ^ 64 : Nat) : Int)).toNat % 2 ^ 2 := by
      rw [BitVec.toNat_and, BitVec.toNat_ofInt, h3, Nat.and_two_pow_sub_one_eq_mod]
    show IntKind.i64.wrap ((BitVec.ofInt 64 n &&& BitVec.ofInt 64 3).toNat : Nat) = n % 4
    rw [key, IntKind.wrap_i64]
    omega
  unfold fieldOf evOf
  split
  · exact h
  · split
    · unfold I64 at *
      show _ ≤ n / 2 ∧ n / 2 ≤ _
      omega
    · split
      · exact i64_wrap _
      · show I64 (bits BinOp.and IntKind.i64 n 3)
        rw [h4]
        unfold I64
        omega
theorem env_in {len : Nat} {L : Nat → Nat} {X : Nat → Nat → Int} (hX : ∀ r c, r < len → c < L r → I64 (X r c)) (p f : Int) : I64 ((envOf (lsOf len L X)).last p f) := by
  show I64 (match (setOf (lsOf len L X) p).getLast? with | some q => fieldOf q f | none => 0)
  cases hq : (setOf (lsOf len L X) p).getLast? with
  | none => exact (show I64 0 from ⟨by decide, by decide⟩)
  | some q =>
    have hmem := List.mem_of_getLast? hq
    unfold setOf at hmem
    by_cases h0 : p < 0
    · rw [if_pos h0] at hmem
      cases hmem
    · rw [if_neg h0] at hmem
      cases hl : (lsOf len L X)[p.toNat]? with
      | none =>
        rw [hl] at hmem
        cases hmem
      | some l =>
        rw [hl] at hmem
        have hn : p.toNat < nSets len := by
          have := (List.getElem?_eq_some_iff.1 hl).1
          simpa [lsOf] using this
        unfold lsOf at hl
        rw [List.getElem?_map, List.getElem?_range hn] at hl
        simp only [Option.map_some, Option.some.injEq] at hl
        subst hl
        have hmem' : q ∈ rowEv L X p.toNat (setLen L p.toNat) := hmem
        unfold rowEv at hmem'
        obtain ⟨c, hc, rfl⟩ := List.mem_map.1 hmem'
        have hc' := List.mem_range.1 hc
        have a1 : p.toNat < len := by unfold nSets at hn; split at hn <;> omega
        have a2 : c < L p.toNat := by unfold setLen at hc'; split at hc' <;> omega
        exact evOf_in (hX _ _ a1 a2) f
/-! ### What is reckoned is a number of 64 bits -/
def AllIn (st : List Int) : Prop := ∀ x ∈ st, I64 x
theorem AllIn.cons {x : Int} {st : List Int} (h : I64 x) (hs : AllIn st) : AllIn (x :: st) := fun y hy => by
  rcases List.mem_cons.1 hy with e | e
  · rw [e]; exact h
  · exact hs y e
theorem doOp_in {op a b y : Int} (ha : I64 a) (hb : I64 b) (h : doOp op a b = some y) : I64 y := by
  unfold doOp at h
  split at h
  · injection h with h; rw [← h]; exact i64_wrap _
  split at h
  · injection h with h; rw [← h]; exact i64_wrap _
  split at h
  · injection h with h; rw [← h]; exact i64_wrap _
  split at h
  · split at h
    · cases h
    · injection h with h; rw [← h]; exact i64_wrap _
  split at h
  · split at h
    · cases h
    · rename_i hb0
      injection h with h
      rw [← h]
      unfold I64 at *
      have e : (a.tmod b).natAbs = a.natAbs % b.natAbs := Int.natAbs_tmod a b
      have e2 := Nat.mod_le a.natAbs b.natAbs
      have e3 : a.natAbs % b.natAbs < b.natAbs := Nat.mod_lt _ (by omega)
      omega
  · cases h
theorem step_in {v : Env} (hv : ∀ p f, I64 (v.last p f)) (hc1 : ∀ p, I64 (v.cnt p)) {c : Cd} (hn : I64 c.n) {st st' : List Int} (hs : AllIn st) (h : stepCd v st c = some st') : AllIn st' := by
  unfold stepCd at h
  split at h
  · injection h with h; rw [← h]; exact hs.cons hn
  split at h
  · injection h with h; rw [← h]; exact hs.cons (hc1 _)
  split at h
  · split at h
    · cases h
    · injection h with h; rw [← h]; exact hs.cons (hv _ _)
  split at h
  · cases st with
    | nil => simp [negTop] at h
    | cons b r =>
      simp only [negTop, Option.some.injEq] at h
      rw [← h]
      exact AllIn.cons (i64_wrap _) (fun y hy => hs y (List.mem_cons_of_mem _ hy))
  split at h
  · match st, hs, h with
    | [], hs, h => simp [opTop] at h
    | [_], hs, h => simp [opTop] at h
    | b :: a :: r, hs, h =>
      simp only [opTop, Option.map_eq_some_iff] at h
      obtain ⟨y, hy, rfl⟩ := h
      exact AllIn.cons (doOp_in (hs a (by simp)) (hs b (by simp)) hy) (fun z hz => hs z (by simp [hz]))
  · cases h
theorem evalSt_in {v : Env} (hv : ∀ p f, I64 (v.last p f)) (hc1 : ∀ p, I64 (v.cnt p)) : ∀ (l : List Cd) (st st' : List Int), (∀ c ∈ l, I64 c.n) → AllIn st → evalSt v l st = some st' → AllIn st'
  | [], st, st', _, hs, h => by
    simp only [evalSt, Option.some.injEq] at h
    rw [← h]
    exact hs
  | c :: l, st, st', hn, hs, h => by
    rw [evalSt] at h
    cases hq : stepCd v st c with
    | none => rw [hq] at h; cases h
    | some s1 =>
      rw [hq, Option.bind_some] at h
      exact evalSt_in hv hc1 l s1 st' (fun d hd => hn d (List.mem_cons_of_mem _ hd)) (step_in hv hc1 (hn c (List.mem_cons_self ..)) hs hq) h
theorem evalCd_in {v : Env} (hv : ∀ p f, I64 (v.last p f)) (hc1 : ∀ p, I64 (v.cnt p)) {l : List Cd} (hn : ∀ c ∈ l, I64 c.n) {x : Int} (h : evalCd v l = some x) : I64 x :=
  evalSt_in hv hc1 l [] [x] hn (fun y hy => by cases hy) (one_some h) x (List.mem_singleton.2 rfl)
end Go.Proofs.Ytjfbjkgppnhaoaa
