/-
  What holds of a ring, and of the document's own one, between two acts; what each act does to both; New at any size; the acts' numbers.
-/
import Derived.Test.YtjfbjkgppnhaoaaRefr3
import Derived.Test.YtjfbjkgppnhaoaaRefr4
import Derived.Test.YtjfbjkgppnhaoaaActR
import Derived.StillTailTactics
import Derived.Laws.MakeOwn
namespace Go.Proofs.Ytjfbjkgppnhaoaa
open Go.ChangeShapes Go.WideShapes Go.ChangeAt Go.RowKit
set_option linter.unusedVariables false

theorem Near.low {r pb : Nat} {a b c : World} (h : Near r pb a b) (k : Below a.heap.size b c) : Near r pb a c :=
  ⟨k.os.trans h.os, k.tape.trans h.tape, k.output.trans h.output, Nat.le_trans h.size k.size, fun i hi h1 h2 => (k.block i hi).trans (h.block i hi h1 h2)⟩
/-- The acts' places are numbers of 64 bits. -/
def ActsTop (w : World) (a : Option Addr) (len : Nat) : Prop := ∀ b off i q, a = some ⟨b, off, none⟩ → i < len → w.cell? ⟨b, off + i * 3 + 1, none⟩ = some (.int .i64 q) → q ≤ 9223372036854775807
theorem open_acts_top {H : Type} {enc : TypeId × Value → H} {W : World} {a : Option Addr} {len cap : Nat} {d : DataW H} {p : List MemPlace} (h : DataW.Trod enc Try.prog W 0 (fun _ => true) true 57 (.slice a len cap) d p) : ActsTop W a len := by
  intro b off i q ea hil hq
  obtain ⟨fuel, hf⟩ := h
  rcases open_sf Try.underlying57 Try.underlying66 (by kernel_rfl) (by kernel_rfl) hf with ⟨hcs, _⟩ | ⟨x, l, c, m, D, Pl, hcs, _, hl, hm, hmm, hi⟩
  · simp [Value.cells] at hcs
    omega
  · simp [Value.cells] at hcs
    obtain ⟨rfl, rfl, rfl⟩ := hcs
    simp only [if_true] at hmm
    subst hmm
    obtain ⟨ys, n', hfj⟩ := hi i (by omega)
    obtain ⟨v1, y1, c1, _, t1⟩ := hfj 1 _ rfl
    obtain ⟨k1, q1, _, w1⟩ := DataW.trod_int Try.underlying3 t1
    simp only [List.cons.injEq, and_true] at q1
    subst q1
    injection ea with ea
    subst ea
    have c1' : W.cell? ((⟨b, off, none⟩ : Addr).add (i * 3 + 1)) = some (.int .i64 k1) := c1
    rw [Go.WideShapes.add_plain, show off + (i * 3 + 1) = off + i * 3 + 1 from by omega, hq] at c1'
    injection c1' with e
    injection e with _ e
    subst e
    simp only [Lit.wf, Bool.and_eq_true, decide_eq_true_eq] at w1
    exact w1.2
set_option maxRecDepth 100000 in
theorem new_low (n : Int) (h : n < 1) (w : World) : Calls Try.prog 26 #[.int .i64 n] w fun e w' => e = .returned (.pointer none) ∧ Below w.heap.size w w' := by
  have t1 : decide (n < 1) = true := by simpa using h
  go_enter Try.func26, Try.ntmps26
  go_wp2_with fail
  go_ret
  exact ⟨rfl, Below.refl _ _⟩
set_option maxRecDepth 100000 in
theorem new_high (n : Int) (h : 4096 < n) (w : World) : Calls Try.prog 26 #[.int .i64 n] w fun e w' => e = .returned (.pointer none) ∧ Below w.heap.size w w' := by
  have t1 : decide (n < 1) = false := by simp; omega
  have t2 : decide (4096 < n) = true := by simpa using h
  go_enter Try.func26, Try.ntmps26
  go_wp2_with fail
  go_ret
  exact ⟨rfl, Below.refl _ _⟩
set_option maxRecDepth 100000 in
theorem new_mid (n : Int) (h1 : 1 ≤ n) (h2 : n ≤ 4096) (w : World) : Calls Try.prog 26 #[.int .i64 n] w fun e w' => e = .returned (.pointer (some ⟨w.heap.size + 1, 0, none⟩)) ∧ Below w.heap.size w w' := by
  have hinfo : (Try.prog.info? 134).map (fun i => (i.zero, i.size, i.bytes)) = some (some (.agg #[.int .i64 0, .bool false]), 2, 16) := by kernel_rfl
  obtain ⟨i, hi, he⟩ := Option.map_eq_some_iff.mp hinfo
  simp only [Prod.mk.injEq] at he
  obtain ⟨hz, hs, hb⟩ := he
  obtain ⟨k, rfl⟩ : ∃ k : Nat, n = (k : Int) := ⟨n.toNat, by omega⟩
  have hmk : ∀ w, (Instr.makeSlice 130 (.int .i64 (k : Int)) (.int .i64 (k : Int))).run Try.prog w = .ok (.slice (some ⟨w.heap.size, 0, none⟩) k k) (w.alloc (.cells (madeCells #[.int .i64 0, .bool false] (k * 2)) 134)) := fun w => by
    have := run_make (P := Try.prog) w 130 134 i (.agg #[.int .i64 0, .bool false]) Try.underlying130 hi hz .i64 .i64 (k : Int) (k : Int) (by omega) (by omega) (by rw [hb]; omega) (by omega)
    rw [hs] at this
    simpa [Value.cells] using this
  clear hinfo hi hz hs hb
  have c1 : ¬ (k : Int) < 1 := by omega
  have c2 : ¬ (4096 : Int) < (k : Int) := by omega
  go_enter Try.func26, Try.ntmps26
  go_wp2
  go_ret
  exact ⟨rfl, by go_grown⟩
theorem same_rowsP {w : World} {b1 b2 n1 n2 : Nat} {v1 v2 : Value} {l l' : List (Int × Int)} (h1 : w.ownsRow b1 77 2 v1 n1 (icells l)) (h2 : w.ownsRow b2 77 2 v2 n2 (icells l')) (hl : l.length = n1) (hl' : l'.length = n2) (e : l' = l) (hs : n1 ≤ 1000) :
    Calls Try.prog 33 #[v1, v2] w fun e w' => e = .returned (.bool true) ∧ ∃ d, w' = w.drewN d := by
  subst e
  obtain rfl : n1 = n2 := hl.symm.trans hl'
  exact same_eq h1 h2 hl hs
theorem RefAt.keep {w W : World} {base rr N L n : Nat} {v : Value} {l : List (Int × Int)} (h : RefAt w base rr N L v n l) (hr : W.heap[rr]? = w.heap[rr]?) (hk : ∀ k, base ≤ k → k < w.heap.size → W.heap[k]? = w.heap[k]?) : RefAt W base rr N L v n l :=
  ⟨(World.cell?_of_block (w := w) (a := ⟨rr, 0, none⟩) hr).trans h.c0, (World.cell?_of_block (w := w) (a := ⟨rr, 1, none⟩) hr).trans h.c1, (World.cell?_of_block (w := w) (a := ⟨rr, 2, none⟩) hr).trans h.c2,
    (World.frozen?_of_block (w := w) (a := ⟨rr, 1, none⟩) hr).trans h.f1, (World.frozen?_of_block (w := w) (a := ⟨rr, 2, none⟩) hr).trans h.f2, prow_keep (e := 0) h.row (fun k e => hk k (prow_lt h.row e).1 (prow_lt h.row e).2), h.len, h.lt⟩
/-- Both rings, between two calls. -/
structure PSt (W : World) (r pb rr N L : Nat) (x : Nat → Int) (t : Nat → Bool) (w2 : World) (base : Nat) : Prop where
  lv : Lv W r pb N L x t
  nr : Near r pb w2 W
  ref : ∃ v, RefAt W base rr N L v (its N L x t N).length (its N L x t N)
  hz : ∀ k, k < N → t k = false → x k = 0
  hr : r < rr
  hp : pb < rr
  hw : w2.heap.size ≤ rr
  hb : base ≤ W.heap.size
section
variable {W W' w2 : World} {r pb rr N L base : Nat} {x : Nat → Int} {t : Nat → Bool}
theorem PSt.rrb (h : PSt W r pb rr N L x t w2 base) : rr < base := by
  obtain ⟨v, hv⟩ := h.ref
  exact hv.lt
theorem PSt.below (h : PSt W r pb rr N L x t w2 base) (h1 : 1 ≤ N) (hb : Below W.heap.size W W') : PSt W' r pb rr N L x t w2 base := by
  obtain ⟨v, hv⟩ := h.ref
  have hrr : rr < W.heap.size := block_lt_of_cell hv.c0
  have bl := h.lv.blocks
  exact ⟨h.lv.below hb bl.1 (bl.2 (by omega)), ⟨hb.os.trans h.nr.os, hb.tape.trans h.nr.tape, hb.output.trans h.nr.output, Nat.le_trans h.nr.size hb.size, fun i hi a1 a2 => (hb.block i (Nat.lt_of_lt_of_le hi h.nr.size)).trans (h.nr.block i hi a1 a2)⟩, ⟨v, hv.keep (hb.block rr hrr) (fun k _ hk => hb.block k hk)⟩, h.hz, h.hr, h.hp, h.hw, Nat.le_trans h.hb hb.size⟩
theorem PSt.drewN (h : PSt W r pb rr N L x t w2 base) (d : Nat) : PSt (W.drewN d) r pb rr N L x t w2 base := by
  obtain ⟨v, hv⟩ := h.ref
  exact ⟨h.lv.drewN d, h.nr.trans (Near.drewN d), ⟨v, hv.drewN d⟩, h.hz, h.hr, h.hp, h.hw, h.hb⟩
/-- The ring has turned, then the document's one. -/
theorem PSt.next {W1 W2 : World} {L' : Nat} {x' : Nat → Int} {t' : Nat → Bool} (h : PSt W r pb rr N L x t w2 base) (h1 : 1 ≤ N) (hl : Lv W1 r pb N L' x' t') (n1 : Near r pb W W1) (n2 : Near rr rr W1 W2) (hv : ∃ v, RefAt W2 base rr N L' v (its N L' x' t' N).length (its N L' x' t' N)) (hz : ∀ k, k < N → t' k = false → x' k = 0) : PSt W2 r pb rr N L' x' t' w2 base := by
  have bl := hl.blocks
  have e1 := h.hr
  have e2 := h.hp
  have q := n1.size
  have q2 := n2.size
  exact ⟨Ringy.keep hl (n2.block r bl.1 (by omega) (by omega)) (n2.block pb (bl.2 (by omega)) (by omega) (by omega)), (h.nr.trans n1).low (n2.below h.hw h.hw (Nat.le_trans h.nr.size q)), hv, hz, h.hr, h.hp, h.hw, by have := h.hb; omega⟩
theorem PSt.refAt {W1 : World} {v : Value} {n : Nat} {l : List (Int × Int)} (h : PSt W r pb rr N L x t w2 base) (hv : RefAt W base rr N L v n l) (n1 : Near r pb W W1) : RefAt W1 base rr N L v n l := by
  have e1 := h.hr
  have e2 := h.hp
  have e3 := hv.lt
  have hrr : rr < W.heap.size := block_lt_of_cell hv.c0
  exact hv.keep (n1.block rr hrr (by omega) (by omega)) (fun k hk hl => n1.block k hl (by omega) (by omega))
theorem its_out {q : Int × Int} {a : Int} (h : q ∈ its N L x t N) (ha : a < (L : Int) ∨ (N : Int) ≤ a - (L : Int)) : q.1 ≠ a := by
  obtain ⟨i, hi, _, rfl⟩ := its_mem h
  show ((L + i : Nat) : Int) ≠ a
  omega
theorem its_off {q : Int × Int} {i : Nat} (h : q ∈ its N L x t N) (hf : t ((L + i) % N) = false) : q.1 ≠ ((L + i : Nat) : Int) := by
  obtain ⟨j, hj, ht, rfl⟩ := its_mem h
  intro e
  have e : ((L + j : Nat) : Int) = ((L + i : Nat) : Int) := e
  have : j = i := by omega
  subst this
  rw [hf] at ht
  cases ht
theorem its_hit_at {i : Nat} (hi : i < N) (ht : t ((L + i) % N) = true) : (its N L x t N)[(its N L x t i).length]? = some (((L + i : Nat) : Int), x ((L + i) % N)) := by
  rw [its_yes hi ht, List.getElem?_append_right (Nat.le_refl _), Nat.sub_self]
  rfl
theorem its_ahead {i j : Nat} {q : Int × Int} (hi : i < N) (hj : j < (its N L x t i).length) (hq : (its N L x t N)[j]? = some q) : q.1 ≠ ((L + i : Nat) : Int) := by
  have := (its_stops (x := x) (t := t) (L := L) hi).lt j q hj hq
  omega
theorem PSt.get (h : PSt W r pb rr N L x t w2 base) (hL : L ≤ 100) (h9 : N ≤ 9) {a : Int} (hb : a ≤ 9223372036854775807) :
    ∃ y ok, (∀ d, Calls Try.prog 31 #[.pointer (some ⟨r, 0, none⟩), .int .i64 a] (W.drewN d) fun e w' => e = .returned (.tuple #[.int .i64 y, .bool ok]) ∧ ∃ m, w' = (W.drewN d).drewN m) ∧
      (∀ d, Calls Try.prog 32 #[.pointer (some ⟨rr, 0, none⟩), .int .i64 a] (W.drewN d) fun e w' => e = .returned (.tuple #[.int .i64 y, .bool ok]) ∧ ∃ m, w' = (W.drewN d).drewN m) := by
  obtain ⟨v, hv⟩ := h.ref
  have hn : (its N L x t N).length ≤ 9 := Nat.le_trans its_len h9
  have none : (∀ q ∈ its N L x t N, q.1 ≠ a) → (∀ d, Calls Try.prog 64 #[.pointer (some ⟨r, 0, none⟩), .int .i64 a] (W.drewN d) fun e w' => e = .returned (.pointer none) ∧ ∃ k, w' = (W.drewN d).drewN k) → ∃ y ok, (∀ d, Calls Try.prog 31 #[.pointer (some ⟨r, 0, none⟩), .int .i64 a] (W.drewN d) fun e w' => e = .returned (.tuple #[.int .i64 y, .bool ok]) ∧ ∃ m, w' = (W.drewN d).drewN m) ∧
      (∀ d, Calls Try.prog 32 #[.pointer (some ⟨rr, 0, none⟩), .int .i64 a] (W.drewN d) fun e w' => e = .returned (.tuple #[.int .i64 y, .bool ok]) ∧ ∃ m, w' = (W.drewN d).drewN m) := fun hno HF =>
    ⟨0, false, fun d => (get_none _ a _ (HF d)).mono fun e w' ⟨he, k, hk⟩ => ⟨he, k, hk⟩, fun d => (ref_get_no (hv.drewN d) hno (by omega)).mono fun e w' ⟨he, hk⟩ => ⟨he, 0, hk.symm⟩⟩
  by_cases h1 : a < (L : Int)
  · exact none (fun q hq => its_out hq (.inl h1)) (fun d => find_low r pb N (L : Int) a _ (h.lv.drewN d).c0 (h.lv.drewN d).c1 h1)
  · by_cases h2 : (N : Int) ≤ a - (L : Int)
    · exact none (fun q hq => its_out hq (.inr h2)) (fun d => find_high r pb N (L : Int) a _ (h.lv.drewN d).c0 (h.lv.drewN d).c1 (by omega) (by omega) hb h2)
    · obtain ⟨i, rfl⟩ : ∃ i : Nat, a = ((L + i : Nat) : Int) := ⟨(a - L).toNat, by omega⟩
      have hi : i < N := by omega
      have ha := at_of (n := N) (L := L) (a := L + i) (by omega) (by omega) (by omega)
      cases hf : t ((L + i) % N) with
      | true =>
        refine ⟨x ((L + i) % N), true, fun d => ?_, fun d => ?_⟩
        · have := Ringy.get (h.lv.drewN d) ha
          rw [hf] at this
          exact this.mono fun e w' ⟨he, k, hk⟩ => ⟨he, k, hk⟩
        · exact (ref_get_yes (hv.drewN d) (its_hit_at hi hf) (fun j q hj hq => its_ahead hi hj hq) (by omega)).mono fun e w' ⟨he, hk⟩ => ⟨he, 0, hk.symm⟩
      | false =>
        refine ⟨0, false, fun d => ?_, fun d => ?_⟩
        · have := Ringy.get (h.lv.drewN d) ha
          rw [hf, h.hz _ (Nat.mod_lt _ (by omega)) hf] at this
          exact this.mono fun e w' ⟨he, k, hk⟩ => ⟨he, k, hk⟩
        · exact (ref_get_no (hv.drewN d) (fun q hq => its_off hq hf) (by omega)).mono fun e w' ⟨he, hk⟩ => ⟨he, 0, hk.symm⟩
theorem quiet_at {f : Nat} {args : Array Value} {res : Ending} (G : ∀ d, Calls Try.prog f args (W.drewN d) fun e w' => e = res ∧ ∃ m, w' = (W.drewN d).drewN m) {V : World} (hV : ∃ k, V = W.drewN k) (d : Nat) : Calls Try.prog f args (V.drewN d) fun e w' => e = res ∧ ∃ m, w' = V.drewN m := by
  obtain ⟨k, rfl⟩ := hV
  rw [World.drewN_drewN]
  exact (G _).mono fun e w' ⟨he, m, hm⟩ => ⟨he, d + m, by rw [hm, World.drewN_drewN, World.drewN_drewN, Nat.add_assoc]⟩
theorem quiet_on {f : Nat} {args : Array Value} {res : Ending} (G : ∀ d, Calls Try.prog f args (W.drewN d) fun e w' => e = res ∧ ∃ m, w' = (W.drewN d).drewN m) {V : World} (hV : ∃ k, V = W.drewN k) : Calls Try.prog f args V fun e w' => e = res ∧ ∃ k, w' = W.drewN k := by
  obtain ⟨k, rfl⟩ := hV
  exact (G _).mono fun e w' ⟨he, m, hm⟩ => ⟨he, k + m, by rw [hm, World.drewN_drewN]⟩
theorem quiet_more {V : World} (hV : ∃ k, V = W.drewN k) (d : Nat) : ∃ k, V.drewN d = W.drewN k := by
  obtain ⟨k, rfl⟩ := hV
  exact ⟨_, World.drewN_drewN ..⟩
/-- Three numbers in a block. -/
def C3 (W : World) (ab : Nat) (k a x : Int) : Prop := W.cell? ⟨ab, 0, none⟩ = some (.int .i64 k) ∧ W.cell? ⟨ab, 1, none⟩ = some (.int .i64 a) ∧ W.cell? ⟨ab, 2, none⟩ = some (.int .i64 x)
theorem C3.block {ab : Nat} {k a x : Int} (h : C3 W ab k a x) (hb : W'.heap[ab]? = W.heap[ab]?) : C3 W' ab k a x :=
  ⟨(World.cell?_of_block (w := W) (a := ⟨ab, 0, none⟩) hb).trans h.1, (World.cell?_of_block (w := W) (a := ⟨ab, 1, none⟩) hb).trans h.2.1, (World.cell?_of_block (w := W) (a := ⟨ab, 2, none⟩) hb).trans h.2.2⟩
theorem C3.near {ab r1 r2 : Nat} {k a x : Int} (h : C3 W ab k a x) (hn : Near r1 r2 W W') (h1 : ab ≠ r1) (h2 : ab ≠ r2) : C3 W' ab k a x := h.block (hn.block ab (block_lt_of_cell h.1) h1 h2)
/-- A Put at both. -/
theorem PSt.put (h : PSt W r pb rr N L x t w2 base) (hL : L ≤ 100) (hN1 : 1 ≤ N) (h9 : N ≤ 9) {a : Int} (hb : a ≤ 9223372036854775807) (v : Int) :
    ∃ ok x' t', ∀ d, Calls Try.prog 29 #[.pointer (some ⟨r, 0, none⟩), .int .i64 a, .int .i64 v] (W.drewN d) fun e W1 => e = .returned (.bool ok) ∧ Near r pb W W1 ∧ ∀ d2, Calls Try.prog 30 #[.pointer (some ⟨rr, 0, none⟩), .int .i64 a, .int .i64 v] (W1.drewN d2) fun e W2 => e = .returned (.bool ok) ∧ Near rr rr W1 W2 ∧ PSt W2 r pb rr N L x' t' w2 base := by
  obtain ⟨vr, hv⟩ := h.ref
  have hn : (its N L x t N).length ≤ 9 := Nat.le_trans its_len h9
  have no : (∀ d, Calls Try.prog 29 #[.pointer (some ⟨r, 0, none⟩), .int .i64 a, .int .i64 v] (W.drewN d) fun e w' => e = .returned (.bool false) ∧ ∃ k, w' = (W.drewN d).drewN k) → (∀ d, Calls Try.prog 30 #[.pointer (some ⟨rr, 0, none⟩), .int .i64 a, .int .i64 v] (W.drewN d) fun e w' => e = .returned (.bool false) ∧ ∃ k, w' = (W.drewN d).drewN k) →
      ∃ ok x' t', ∀ d, Calls Try.prog 29 #[.pointer (some ⟨r, 0, none⟩), .int .i64 a, .int .i64 v] (W.drewN d) fun e W1 => e = .returned (.bool ok) ∧ Near r pb W W1 ∧ ∀ d2, Calls Try.prog 30 #[.pointer (some ⟨rr, 0, none⟩), .int .i64 a, .int .i64 v] (W1.drewN d2) fun e W2 => e = .returned (.bool ok) ∧ Near rr rr W1 W2 ∧ PSt W2 r pb rr N L x' t' w2 base := fun h1 h2 =>
    ⟨false, x, t, fun d => (h1 d).mono fun e W1 ⟨he, k, hk⟩ => ⟨he, by rw [hk]; exact (Near.drewN d).trans (Near.drewN k), fun d2 => by
      rw [hk, World.drewN_drewN, World.drewN_drewN]
      exact (h2 _).mono fun e W2 ⟨he, m, hm⟩ => ⟨he, by rw [hm, World.drewN_drewN]; exact ⟨rfl, rfl, rfl, Nat.le_refl _, fun _ _ _ _ => rfl⟩, by rw [hm, World.drewN_drewN]; exact h.drewN _⟩⟩⟩
  by_cases h1 : a < (L : Int)
  · exact no (fun d => put_no _ a v _ (find_low r pb N (L : Int) a _ (h.lv.drewN d).c0 (h.lv.drewN d).c1 h1)) (fun d => ref_put_low (hv.drewN d) h1 v)
  · by_cases h2 : (N : Int) ≤ a - (L : Int)
    · exact no (fun d => put_no _ a v _ (find_high r pb N (L : Int) a _ (h.lv.drewN d).c0 (h.lv.drewN d).c1 (by omega) (by omega) hb h2)) (fun d => ref_put_high (hv.drewN d) (by omega) hb h2 v)
    · obtain ⟨i, rfl⟩ : ∃ i : Nat, a = ((L + i : Nat) : Int) := ⟨(a - L).toNat, by omega⟩
      have hi : i < N := by omega
      cases hf : t ((L + i) % N) with
      | true =>
        exact no (fun d => Ringy.put_used (h.lv.drewN d) (at_of (n := N) (L := L) (a := L + i) (by omega) (by omega) (by omega)) hf v) (fun d => ref_put_used (hv.drewN d) (its_hit_at hi hf) (fun j q hj hq => its_ahead hi hj hq) (by omega) (by show (L : Int) ≤ ((L + i : Nat) : Int); omega) hb (by show ((L + i : Nat) : Int) - (L : Int) < (N : Int); omega) v)
      | false =>
        have hnew := its_put (x := x) hi hf v
        have hold := its_no (x := x) hi hf
        refine ⟨true, upd x ((L + i) % N) v, upd t ((L + i) % N) true, fun d => ((h.lv.drewN d).put_in (by omega) h9 hi hf v).mono fun e W1 ⟨he, hl, hn1⟩ => ⟨he, (Near.drewN d).trans hn1, fun d2 => ?_⟩⟩
        have n1 : Near r pb W (W1.drewN d2) := ((Near.drewN d).trans hn1).trans (Near.drewN d2)
        have hv1 := h.refAt hv n1
        have hB : base ≤ (W1.drewN d2).heap.size := Nat.le_trans h.hb n1.size
        have hz' : ∀ k, k < N → upd t ((L + i) % N) true k = false → upd x ((L + i) % N) v k = 0 := fun k hk hf' => by
          by_cases e : k = (L + i) % N
          · subst e
            rw [upd_at] at hf'
            cases hf'
          · rw [upd_off _ _ e] at hf' ⊢
            exact h.hz k hk hf'
        have fin : ∀ W2, (∃ v', RefAt W2 base rr N L v' ((its N L x t i ++ itr N L x t (i + 1) (N - i - 1)).length + 1) (its N L x t i ++ (((L + i : Nat) : Int), v) :: itr N L x t (i + 1) (N - i - 1))) → Near rr rr (W1.drewN d2) W2 → Near rr rr W1 W2 ∧ PSt W2 r pb rr N L (upd x ((L + i) % N) v) (upd t ((L + i) % N) true) w2 base := fun W2 ⟨v', hv'⟩ hn2 =>
          ⟨(Near.drewN d2).trans hn2, h.next hN1 (hl.drewN d2) n1 hn2 ⟨v', by rw [hnew]; simpa [Nat.add_assoc] using hv'⟩ hz'⟩
        rcases hv1.row.2 with ⟨e1, e2⟩ | ⟨g, cap, cur, e1, _⟩
        · subst e1
          have en : its N L x t N = [] := List.length_eq_zero_iff.1 e2
          have e3 : its N L x t i = [] ∧ itr N L x t (i + 1) (N - i - 1) = [] := by rw [hold] at en; exact List.append_eq_nil_iff.1 en
          rw [en] at hv1
          refine (ref_put_none hv1 (by omega) hb (by omega) hB v).mono fun e W2 ⟨he, hv', hn2⟩ => ⟨he, fin W2 ?_ hn2⟩
          rw [e3.1, e3.2]
          exact hv'
        · subst e1
          refine (ref_put_some hv1 (its_stops hi) (fun q hq => its_off hq hf) (by omega) (by omega) hb (by omega) hB v).mono fun e W2 ⟨he, hv', hn2⟩ => ⟨he, fin W2 ?_ hn2⟩
          rw [hold] at hv'
          rw [List.take_left, List.drop_left] at hv'
          exact hv'
/-- A Drop at both. -/
theorem PSt.drop (h : PSt W r pb rr N L x t w2 base) (hL : L ≤ 100) (hN1 : 1 ≤ N) (h9 : N ≤ 9) :
    ∃ y ok L' x' t', L' ≤ L + 1 ∧ Calls Try.prog 27 #[.pointer (some ⟨r, 0, none⟩)] W fun e W1 => e = .returned (.tuple #[.int .i64 y, .bool ok]) ∧ Near r pb W W1 ∧ Calls Try.prog 28 #[.pointer (some ⟨rr, 0, none⟩)] W1 fun e W2 => e = .returned (.tuple #[.int .i64 y, .bool ok]) ∧ Near rr rr W1 W2 ∧ PSt W2 r pb rr N L' x' t' w2 base := by
  obtain ⟨vr, hv⟩ := h.ref
  have hn : (its N L x t N).length ≤ 9 := Nat.le_trans its_len h9
  cases ht : t (L % N) with
  | true =>
    have hdrop := its_drop (x := x) hN1 ht
    refine ⟨x (L % N), true, L + 1, upd x (L % N) 0, upd t (L % N) false, Nat.le_refl _, (h.lv.drop_yes (by omega) hN1 h9 ht).mono fun e W1 ⟨he, hl, n1⟩ => ⟨he, n1, ?_⟩⟩
    have hv1 := h.refAt hv n1
    rw [hdrop] at hv1 hn
    refine (ref_drop_yes hv1 (by simp at hn; omega) (by omega) (Nat.le_trans h.hb n1.size)).mono fun e W2 ⟨he, hv', n2⟩ => ⟨he, n2, h.next hN1 hl n1 n2 hv' (fun k hk hf' => ?_)⟩
    by_cases e : k = L % N
    · subst e
      rw [upd_at]
    · rw [upd_off _ _ e] at hf' ⊢
      exact h.hz k hk hf'
  | false =>
    refine ⟨0, false, L, x, t, Nat.le_succ _, (h.lv.drop_not (by omega) hN1 h9 ht).mono fun e W1 ⟨he, k, hk⟩ => ⟨he, by rw [hk]; exact Near.drewN k, ?_⟩⟩
    rw [hk]
    have hv1 := hv.drewN k
    have fin : ∀ e W2, (e = Ending.returned (.tuple #[.int .i64 0, .bool false]) ∧ ∃ d, W2 = (W.drewN k).drewN d) → (e = Ending.returned (.tuple #[.int .i64 0, .bool false]) ∧ Near rr rr (W.drewN k) W2 ∧ PSt W2 r pb rr N L x t w2 base) := fun e W2 ⟨he, d, hd⟩ => ⟨he, by rw [hd]; exact Near.drewN d, by rw [hd]; exact (h.drewN k).drewN d⟩
    cases hq : (its N L x t N)[0]? with
    | none =>
      have e0 : its N L x t N = [] := by
        rw [List.getElem?_eq_none_iff] at hq
        exact List.length_eq_zero_iff.1 (by omega)
      rw [e0] at hv1
      exact (ref_drop_nil hv1).mono fin
    | some q =>
      exact (ref_drop_no hv1 hq (fun e => its_off (i := 0) (List.mem_of_getElem? hq) (by simpa using ht) (by simpa using e)) (by omega)).mono fin
end
end Go.Proofs.Ytjfbjkgppnhaoaa
