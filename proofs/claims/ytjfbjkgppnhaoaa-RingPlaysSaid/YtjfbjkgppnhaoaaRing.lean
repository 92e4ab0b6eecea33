/-
  A ring of integers in memory, and what its functions answer: contracts for the walks of the statements of layer 10.
-/
import Derived.Test.YtjfbjkgppnhaoaaFind
import Derived.Lib.Hide
namespace Go.Proofs.Ytjfbjkgppnhaoaa
open Go.ChangeShapes Go.WideShapes Go.ChangeAt Go.RowKit
set_option linter.unusedVariables false

/-- Of what was there two blocks at most have turned. -/
structure Near (r pb : Nat) (w w' : World) : Prop where
  os : w'.os = w.os
  tape : w'.tape = w.tape
  output : w'.output = w.output
  size : w.heap.size ≤ w'.heap.size
  block : ∀ k, k < w.heap.size → k ≠ r → k ≠ pb → w'.heap[k]? = w.heap[k]?

theorem Near.refl (r pb : Nat) (w : World) : Near r pb w w := ⟨rfl, rfl, rfl, Nat.le_refl _, fun _ _ _ _ => rfl⟩
theorem Near.drewN {r pb : Nat} {w : World} (d : Nat) : Near r pb w (w.drewN d) := ⟨rfl, rfl, rfl, Nat.le_refl _, fun _ _ _ _ => rfl⟩
theorem Near.trans {r pb : Nat} {a b c : World} (h : Near r pb a b) (k : Near r pb b c) : Near r pb a c :=
  ⟨k.os.trans h.os, k.tape.trans h.tape, k.output.trans h.output, Nat.le_trans h.size k.size, fun i hi h1 h2 => (k.block i (Nat.lt_of_lt_of_le hi h.size) h1 h2).trans (h.block i hi h1 h2)⟩
theorem Near.setCell {r pb : Nat} {a w : World} (h : Near r pb a w) {p : Addr} (hp : p.block = r ∨ p.block = pb) (u : Value) : Near r pb a (w.setCell p u) :=
  h.trans ⟨rfl, rfl, rfl, by simp [World.setCell], fun k hk h1 h2 => Below.heap_setCell _ _ _ _ (by rcases hp with hp | hp <;> omega)⟩
theorem Near.place {r pb : Nat} {a w : World} (h : Near r pb a w) (i : Nat) (u : Value) : Near r pb a (w.setCell ⟨pb, i, none⟩ u) := h.setCell (p := ⟨pb, i, none⟩) (Or.inr rfl) u
theorem Near.ring {r pb : Nat} {a w : World} (h : Near r pb a w) (i : Nat) (u : Value) : Near r pb a (w.setCell ⟨r, i, none⟩ u) := h.setCell (p := ⟨r, i, none⟩) (Or.inl rfl) u
theorem Near.below {r pb B : Nat} {w w' : World} (h : Near r pb w w') (h1 : B ≤ r) (h2 : B ≤ pb) (h3 : B ≤ w.heap.size) : Below B w w' :=
  ⟨h.os, h.tape, h.output, h.size, fun k hk => h.block k (by omega) (by omega) (by omega)⟩

def upd {α : Type} (f : Nat → α) (k : Nat) (v : α) : Nat → α := fun j => if j = k then v else f j
theorem upd_at {α : Type} (f : Nat → α) (k : Nat) (v : α) : upd f k v k = v := by simp [upd]
theorem upd_off {α : Type} (f : Nat → α) {k j : Nat} (v : α) (h : j ≠ k) : upd f k v j = f j := by simp [upd, h]

/-- A ring of n places at block r, its places at block pb. -/
structure Ringy (w : World) (r pb n : Nat) (low there : Int) (x : Nat → Int) (t : Nat → Bool) : Prop where
  ne : r ≠ pb
  c0 : w.cell? ⟨r, 0, none⟩ = some (.slice (some ⟨pb, 0, none⟩) n n)
  c1 : w.cell? ⟨r, 1, none⟩ = some (.int .i64 low)
  c2 : w.cell? ⟨r, 2, none⟩ = some (.int .i64 there)
  cx : ∀ k, k < n → w.cell? ⟨pb, k * 2, none⟩ = some (.int .i64 (x k))
  ct : ∀ k, k < n → w.cell? ⟨pb, k * 2 + 1, none⟩ = some (.bool (t k))
  fr : ∀ i, w.frozen? ⟨r, i, none⟩ = false
  fp : ∀ i, w.frozen? ⟨pb, i, none⟩ = false

theorem Ringy.drewN {w : World} {r pb n : Nat} {low there : Int} {x : Nat → Int} {t : Nat → Bool} (h : Ringy w r pb n low there x t) (d : Nat) : Ringy (w.drewN d) r pb n low there x t :=
  ⟨h.ne, h.c0, h.c1, h.c2, h.cx, h.ct, h.fr, h.fp⟩

/-- .. in a world where neither of its blocks has turned. -/
theorem Ringy.keep {w w' : World} {r pb n : Nat} {low there : Int} {x : Nat → Int} {t : Nat → Bool} (h : Ringy w r pb n low there x t) (e1 : w'.heap[r]? = w.heap[r]?) (e2 : w'.heap[pb]? = w.heap[pb]?) : Ringy w' r pb n low there x t :=
  ⟨h.ne, (World.cell?_of_block (w := w) e1).trans h.c0, (World.cell?_of_block (w := w) e1).trans h.c1, (World.cell?_of_block (w := w) e1).trans h.c2,
   fun k hk => (World.cell?_of_block (w := w) e2).trans (h.cx k hk), fun k hk => (World.cell?_of_block (w := w) e2).trans (h.ct k hk),
   fun i => (World.frozen?_of_block (w := w) e1).trans (h.fr i), fun i => (World.frozen?_of_block (w := w) e2).trans (h.fp i)⟩

/-- .. with a place written. -/
theorem Ringy.set {w : World} {r pb n : Nat} {low there : Int} {x : Nat → Int} {t : Nat → Bool} (h : Ringy w r pb n low there x t) {k : Nat} (hk : k < n) (v : Int) (b : Bool) :
    Ringy ((w.setCell ⟨pb, k * 2, none⟩ (.int .i64 v)).setCell ⟨pb, k * 2 + 1, none⟩ (.bool b)) r pb n low there (upd x k v) (upd t k b) := by
  have far : ∀ (w : World) (i j : Nat) (u : Value), (w.setCell ⟨pb, i, none⟩ u).cell? ⟨r, j, none⟩ = w.cell? ⟨r, j, none⟩ := fun w i j u => World.cell?_setCell_other _ _ _ _ (by simp [Ne.symm h.ne])
  have off : ∀ (w : World) (i j : Nat) (u : Value), i ≠ j → (w.setCell ⟨pb, i, none⟩ u).cell? ⟨pb, j, none⟩ = w.cell? ⟨pb, j, none⟩ := fun w i j u hij => World.cell?_setCell_other _ _ _ _ (fun e => hij (by injection e))
  refine ⟨h.ne, by rw [far, far]; exact h.c0, by rw [far, far]; exact h.c1, by rw [far, far]; exact h.c2, fun j hj => ?_, fun j hj => ?_, fun i => by simpa using h.fr i, fun i => by simpa using h.fp i⟩
  · by_cases e : j = k
    · subst e
      rw [off _ _ _ _ (by omega), upd_at]
      exact World.cell?_setCell_same _ _ _ (h.cx j hj)
    · rw [off _ _ _ _ (by omega), off _ _ _ _ (by omega), upd_off _ _ e]
      exact h.cx j hj
  · by_cases e : j = k
    · subst e
      rw [upd_at]
      exact World.cell?_setCell_same _ _ _ ((off w (j * 2) (j * 2 + 1) _ (by omega)).trans (h.ct j hj))
    · rw [off _ _ _ _ (by omega), off _ _ _ _ (by omega), upd_off _ _ e]
      exact h.ct j hj

theorem Ringy.there {w : World} {r pb n : Nat} {low there : Int} {x : Nat → Int} {t : Nat → Bool} (h : Ringy w r pb n low there x t) (m : Int) : Ringy (w.setCell ⟨r, 2, none⟩ (.int .i64 m)) r pb n low m x t := by
  have far : ∀ (j : Nat), (w.setCell ⟨r, 2, none⟩ (.int .i64 m)).cell? ⟨pb, j, none⟩ = w.cell? ⟨pb, j, none⟩ := fun j => World.cell?_setCell_other _ _ _ _ (by simp [h.ne])
  have off : ∀ (j : Nat), 2 ≠ j → (w.setCell ⟨r, 2, none⟩ (.int .i64 m)).cell? ⟨r, j, none⟩ = w.cell? ⟨r, j, none⟩ := fun j hij => World.cell?_setCell_other _ _ _ _ (fun e => hij (by injection e))
  exact ⟨h.ne, (off 0 (by decide)).trans h.c0, (off 1 (by decide)).trans h.c1, World.cell?_setCell_same _ _ _ h.c2, fun k hk => (far _).trans (h.cx k hk), fun k hk => (far _).trans (h.ct k hk), fun i => by simpa using h.fr i, fun i => by simpa using h.fp i⟩

theorem Ringy.lows {w : World} {r pb n : Nat} {low there : Int} {x : Nat → Int} {t : Nat → Bool} (h : Ringy w r pb n low there x t) (m : Int) : Ringy (w.setCell ⟨r, 1, none⟩ (.int .i64 m)) r pb n m there x t := by
  have far : ∀ (j : Nat), (w.setCell ⟨r, 1, none⟩ (.int .i64 m)).cell? ⟨pb, j, none⟩ = w.cell? ⟨pb, j, none⟩ := fun j => World.cell?_setCell_other _ _ _ _ (by simp [h.ne])
  have off : ∀ (j : Nat), 1 ≠ j → (w.setCell ⟨r, 1, none⟩ (.int .i64 m)).cell? ⟨r, j, none⟩ = w.cell? ⟨r, j, none⟩ := fun j hij => World.cell?_setCell_other _ _ _ _ (fun e => hij (by injection e))
  exact ⟨h.ne, (off 0 (by decide)).trans h.c0, World.cell?_setCell_same _ _ _ h.c1, (off 2 (by decide)).trans h.c2, fun k hk => (far _).trans (h.cx k hk), fun k hk => (far _).trans (h.ct k hk), fun i => by simpa using h.fr i, fun i => by simpa using h.fp i⟩

theorem get_in (r pb n : Nat) (low at_ v0 : Int) (b : Bool) (w : World) (hr0 : w.cell? ⟨r, 0, none⟩ = some (.slice (some ⟨pb, 0, none⟩) n n)) (hr1 : w.cell? ⟨r, 1, none⟩ = some (.int .i64 low))
    (h0 : 0 ≤ low) (hle : low ≤ at_) (hb : at_ ≤ 9223372036854775807) (hlt : at_ - low < (n : Int)) (k : Nat) (hk : (at_ % n).toNat = k)
    (hx : w.cell? ⟨pb, k * 2, none⟩ = some (.int .i64 v0)) (ht : w.cell? ⟨pb, k * 2 + 1, none⟩ = some (.bool b)) :
    Calls Try.prog 31 #[.pointer (some ⟨r, 0, none⟩), .int .i64 at_] w fun e w' => e = .returned (.tuple #[.int .i64 v0, .bool b]) ∧ ∃ k, w' = w.drewN k := by
  have HF := find_in r pb n low at_ w hr0 hr1 h0 hle hb hlt
  rw [hk] at HF
  have H := Lib.hid HF
  clear HF hk h0 hle hb hlt
  go_enter Try.func31, Try.ntmps31
  go_wp2_with fail
  refine H.out.mono ?_
  rintro e w1 ⟨rfl, d, rfl⟩
  go_wp2_with fail
  go_quiet (fail)
  go_wp2
  go_ret2
  exact ⟨rfl, _, World.drewN_drewN ..⟩

theorem get_none (p : Option Addr) (at_ : Int) (w : World) (HF : Calls Try.prog 64 #[.pointer p, .int .i64 at_] w fun e w' => e = .returned (.pointer none) ∧ ∃ k, w' = w.drewN k) :
    Calls Try.prog 31 #[.pointer p, .int .i64 at_] w fun e w' => e = .returned (.tuple #[.int .i64 0, .bool false]) ∧ ∃ k, w' = w.drewN k := by
  have H := Lib.hid HF
  clear HF
  go_enter Try.func31, Try.ntmps31
  go_wp2_with fail
  refine H.out.mono ?_
  rintro e w1 ⟨rfl, d, rfl⟩
  go_wp2
  go_ret2
  exact ⟨rfl, _, rfl⟩
theorem put_no (p : Option Addr) (at_ v : Int) (w : World) (HF : Calls Try.prog 64 #[.pointer p, .int .i64 at_] w fun e w' => e = .returned (.pointer none) ∧ ∃ k, w' = w.drewN k) :
    Calls Try.prog 29 #[.pointer p, .int .i64 at_, .int .i64 v] w fun e w' => e = .returned (.bool false) ∧ ∃ k, w' = w.drewN k := by
  have H := Lib.hid HF
  clear HF
  go_enter Try.func29, Try.ntmps29
  go_wp2_with fail
  refine H.out.mono ?_
  rintro e w1 ⟨rfl, d, rfl⟩
  go_wp2
  go_ret
  exact ⟨rfl, _, rfl⟩

/-- A place is within the ring, and which one it is. -/
structure At (n : Nat) (low at_ : Int) (k : Nat) : Prop where
  h0 : 0 ≤ low
  le : low ≤ at_
  big : at_ ≤ 1000000
  lt : at_ - low < (n : Int)
  is : (at_ % (n : Int)).toNat = k
theorem At.kn {n : Nat} {low at_ : Int} {k : Nat} (h : At n low at_ k) : k < n := by
  have := h.h0; have := h.le; have := h.lt
  have m0 : 0 ≤ at_ % (n : Int) := Int.emod_nonneg _ (by omega)
  have m1 : at_ % (n : Int) < (n : Int) := Int.emod_lt_of_pos _ (by omega)
  have := h.is
  omega

section
variable {w : World} {r pb n : Nat} {low there : Int} {x : Nat → Int} {t : Nat → Bool}

theorem Ringy.find (h : Ringy w r pb n low there x t) {at_ : Int} {k : Nat} (ha : At n low at_ k) :
    Calls Try.prog 64 #[.pointer (some ⟨r, 0, none⟩), .int .i64 at_] w fun e w' => e = .returned (.pointer (some ⟨pb, k * 2, none⟩)) ∧ ∃ k, w' = w.drewN k := by
  have HF := find_in r pb n low at_ w h.c0 h.c1 ha.h0 ha.le (by have := ha.big; omega) ha.lt
  rw [ha.is] at HF
  exact HF

theorem Ringy.get (h : Ringy w r pb n low there x t) {at_ : Int} {k : Nat} (ha : At n low at_ k) :
    Calls Try.prog 31 #[.pointer (some ⟨r, 0, none⟩), .int .i64 at_] w fun e w' => e = .returned (.tuple #[.int .i64 (x k), .bool (t k)]) ∧ ∃ k, w' = w.drewN k :=
  get_in r pb n low at_ (x k) (t k) w h.c0 h.c1 ha.h0 ha.le (by have := ha.big; omega) ha.lt k ha.is (h.cx k ha.kn) (h.ct k ha.kn)

theorem Ringy.put_used (h : Ringy w r pb n low there x t) {at_ : Int} {k : Nat} (ha : At n low at_ k) (hu : t k = true) (v : Int) :
    Calls Try.prog 29 #[.pointer (some ⟨r, 0, none⟩), .int .i64 at_, .int .i64 v] w fun e w' => e = .returned (.bool false) ∧ ∃ k, w' = w.drewN k := by
  have H := Lib.hid (h.find ha)
  have ct := h.ct k ha.kn
  rw [hu] at ct
  clear h ha hu
  go_enter Try.func29, Try.ntmps29
  go_wp2_with fail
  refine H.out.mono ?_
  rintro e w1 ⟨rfl, d, rfl⟩
  go_wp2
  go_ret
  exact ⟨rfl, _, rfl⟩

theorem Ringy.put (h : Ringy w r pb n low there x t) {at_ : Int} {k : Nat} (ha : At n low at_ k) (hu : t k = false) (hth : 0 ≤ there ∧ there ≤ 1000000) (v : Int) :
    Calls Try.prog 29 #[.pointer (some ⟨r, 0, none⟩), .int .i64 at_, .int .i64 v] w fun e w' => e = .returned (.bool true) ∧ Ringy w' r pb n low (there + 1) (upd x k v) (upd t k true) ∧ Near r pb w w' := by
  have H := Lib.hid (h.find ha)
  have ct := h.ct k ha.kn
  have cx := h.cx k ha.kn
  have c2 := h.c2
  have fr := h.fr
  have fp := h.fp
  have ne := h.ne
  have ne2 := Ne.symm ne
  rw [hu] at ct
  have E := Lib.hid (And.intro h ha)
  clear h ha hu
  have l0 := hth.1
  have l1 := hth.2
  clear hth
  go_enter Try.func29, Try.ntmps29
  go_wp2_with fail
  refine H.out.mono ?_
  rintro e w1 ⟨rfl, d, rfl⟩
  go_wp2
  go_ret
  have h := E.out.1
  have kn := E.out.2.kn
  exact ⟨rfl, ((h.drewN d).set kn v true).there (there + 1), (((Near.drewN d).place _ _).place _ _).ring _ _⟩

theorem Ringy.low_is (h : Ringy w r pb n low there x t) : Calls Try.prog 35 #[.pointer (some ⟨r, 0, none⟩)] w fun e w' => e = .returned (.int .i64 low) ∧ w = w' := by
  have c1 := h.c1
  clear h
  go_enter Try.func35, Try.ntmps35
  go_wp2
  go_ret
  exact ⟨rfl, rfl⟩
theorem Ringy.len_is (h : Ringy w r pb n low there x t) : Calls Try.prog 36 #[.pointer (some ⟨r, 0, none⟩)] w fun e w' => e = .returned (.int .i64 there) ∧ w = w' := by
  have c2 := h.c2
  clear h
  go_enter Try.func36, Try.ntmps36
  go_wp2
  go_ret
  exact ⟨rfl, rfl⟩

theorem Ringy.drop_no (h : Ringy w r pb n low there x t) {k : Nat} (ha : At n low low k) (hu : t k = false) :
    Calls Try.prog 27 #[.pointer (some ⟨r, 0, none⟩)] w fun e w' => e = .returned (.tuple #[.int .i64 0, .bool false]) ∧ ∃ k, w' = w.drewN k := by
  have H := Lib.hid h.low_is
  have HG := h.get ha
  rw [hu] at HG
  have K := Lib.hid HG
  clear HG h ha hu
  go_enter Try.func27, Try.ntmps27
  go_wp2_with fail
  refine H.out.mono ?_
  rintro e w1 ⟨rfl, rfl⟩
  go_wp2_with fail
  refine K.out.mono ?_
  rintro e w1 ⟨rfl, d, rfl⟩
  go_wp2
  go_ret2
  exact ⟨rfl, _, rfl⟩

theorem Ringy.drop (h : Ringy w r pb n low there x t) {k : Nat} (ha : At n low low k) (hu : t k = true) (hth : 0 ≤ there ∧ there ≤ 1000000) :
    Calls Try.prog 27 #[.pointer (some ⟨r, 0, none⟩)] w fun e w' => e = .returned (.tuple #[.int .i64 (x k), .bool true]) ∧ Ringy w' r pb n (low + 1) (there - 1) (upd x k 0) (upd t k false) ∧ Near r pb w w' := by
  have H := Lib.hid h.low_is
  have HG := h.get ha
  rw [hu] at HG
  have K := Lib.hid HG
  have F : Hid (∀ d, Calls Try.prog 64 #[.pointer (some ⟨r, 0, none⟩), .int .i64 low] (w.drewN d) fun e w' => e = .returned (.pointer (some ⟨pb, k * 2, none⟩)) ∧ ∃ k, w' = (w.drewN d).drewN k) := fun d => (h.drewN d).find ha
  have ct := h.ct k ha.kn
  have cx := h.cx k ha.kn
  have c1 := h.c1
  have c2 := h.c2
  have fr := h.fr
  have fp := h.fp
  have ne := h.ne
  have ne2 := Ne.symm ne
  rw [hu] at ct
  have hl0 := ha.h0
  have hl1 := ha.big
  have E := Lib.hid (And.intro h ha)
  clear HG h ha hu
  have l0 := hth.1
  have l1 := hth.2
  clear hth
  go_enter Try.func27, Try.ntmps27
  go_wp2_with fail
  refine H.out.mono ?_
  rintro e w1 ⟨rfl, rfl⟩
  go_wp2_with fail
  refine K.out.mono ?_
  rintro e w1 ⟨rfl, d, rfl⟩
  go_wp2_with fail
  refine (F.out _).mono ?_
  rintro e w1 ⟨rfl, d2, rfl⟩
  go_wp2
  go_ret2
  have h := E.out.1
  have kn := E.out.2.kn
  exact ⟨rfl, (((h.drewN _).set kn 0 false).lows (low + 1)).there (there - 1), ((((Near.drewN _).place _ _).place _ _).ring _ _).ring _ _⟩
end
end Go.Proofs.Ytjfbjkgppnhaoaa
