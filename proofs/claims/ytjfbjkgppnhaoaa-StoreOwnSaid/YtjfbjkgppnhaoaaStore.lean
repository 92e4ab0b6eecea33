/-
  A store of events in memory: what lies where, and what of it stays when something else is laid or written.
-/
import Derived.Test.YtjfbjkgppnhaoaaRing
namespace Go.Proofs.Ytjfbjkgppnhaoaa
open Go.ChangeShapes Go.WideShapes Go.ChangeAt Go.RowKit
set_option linter.unusedVariables false

theorem Near.alloc {r pb : Nat} {a w : World} (h : Near r pb a w) (o : Obj) : Near r pb a (w.alloc o) :=
  h.trans ⟨rfl, rfl, rfl, by simp, fun k hk _ _ => ((Below.refl w.heap.size w).alloc (Nat.le_refl _) o).block k hk⟩
theorem Near.new {r pb : Nat} {a w : World} (h : Near r pb a w) {p : Addr} (hp : a.heap.size ≤ p.block) (u : Value) : Near r pb a (w.setCell p u) :=
  ⟨h.os, h.tape, h.output, by simpa [World.setCell] using h.size, fun k hk h1 h2 => (Below.heap_setCell _ _ _ _ (by omega)).trans (h.block k hk h1 h2)⟩
theorem Near.drew2 {r pb : Nat} {a w : World} (h : Near r pb a w) (d : Nat) : Near r pb a (w.drewN d) := h.trans (Near.drewN d)

/-- A store of n slots at block s, its slots at block sb: nine cells each: the event's six, used, the count, the gen. -/
structure Storey (w : World) (s sb n : Nat) (ev : Nat → Nat → Int) (used : Nat → Bool) (count gen : Nat → Int) : Prop where
  ne : s ≠ sb
  ls : s < w.heap.size
  lb : sb < w.heap.size
  c0 : w.cell? ⟨s, 0, none⟩ = some (.slice (some ⟨sb, 0, none⟩) n n)
  ce : ∀ k, k < n → ∀ j, j < 6 → w.cell? ⟨sb, k * 9 + j, none⟩ = some (.int .i64 (ev k j))
  cu : ∀ k, k < n → w.cell? ⟨sb, k * 9 + 6, none⟩ = some (.bool (used k))
  cc : ∀ k, k < n → w.cell? ⟨sb, k * 9 + 7, none⟩ = some (.int .i64 (count k))
  cg : ∀ k, k < n → w.cell? ⟨sb, k * 9 + 8, none⟩ = some (.int .i64 (gen k))
  fb : ∀ i, w.frozen? ⟨sb, i, none⟩ = false

section
variable {w w' : World} {s sb n : Nat} {ev : Nat → Nat → Int} {used : Nat → Bool} {count gen : Nat → Int}

theorem Storey.keep (h : Storey w s sb n ev used count gen) (e1 : w'.heap[s]? = w.heap[s]?) (e2 : w'.heap[sb]? = w.heap[sb]?) (hz : w.heap.size ≤ w'.heap.size) : Storey w' s sb n ev used count gen :=
  ⟨h.ne, Nat.lt_of_lt_of_le h.ls hz, Nat.lt_of_lt_of_le h.lb hz, (World.cell?_of_block (w := w) e1).trans h.c0,
   fun k hk j hj => (World.cell?_of_block (w := w) e2).trans (h.ce k hk j hj), fun k hk => (World.cell?_of_block (w := w) e2).trans (h.cu k hk),
   fun k hk => (World.cell?_of_block (w := w) e2).trans (h.cc k hk), fun k hk => (World.cell?_of_block (w := w) e2).trans (h.cg k hk),
   fun i => (World.frozen?_of_block (w := w) e2).trans (h.fb i)⟩

theorem Storey.alloc (h : Storey w s sb n ev used count gen) (o : Obj) : Storey (w.alloc o) s sb n ev used count gen :=
  h.keep (((Below.refl w.heap.size w).alloc (Nat.le_refl _) o).block s h.ls) (((Below.refl w.heap.size w).alloc (Nat.le_refl _) o).block sb h.lb) (by simp)
theorem Storey.drewN (h : Storey w s sb n ev used count gen) (d : Nat) : Storey (w.drewN d) s sb n ev used count gen := h.keep rfl rfl (Nat.le_refl _)
theorem Storey.other (h : Storey w s sb n ev used count gen) {p : Addr} (h1 : p.block ≠ s) (h2 : p.block ≠ sb) (u : Value) : Storey (w.setCell p u) s sb n ev used count gen :=
  h.keep (Below.heap_setCell _ _ _ _ (Ne.symm h1)) (Below.heap_setCell _ _ _ _ (Ne.symm h2)) (by simp [World.setCell])

theorem off_ne {k j a b : Nat} (ha : a < 9) (hb : b < 9) (h : k ≠ j ∨ a ≠ b) : k * 9 + a ≠ j * 9 + b := by omega

theorem cell_off (w : World) (sb i j : Nat) (u : Value) (h : i ≠ j) : (w.setCell ⟨sb, i, none⟩ u).cell? ⟨sb, j, none⟩ = w.cell? ⟨sb, j, none⟩ :=
  World.cell?_setCell_other _ _ _ _ (fun e => h (by injection e))

theorem Storey.setCount (h : Storey w s sb n ev used count gen) {k : Nat} (hk : k < n) (m : Int) : Storey (w.setCell ⟨sb, k * 9 + 7, none⟩ (.int .i64 m)) s sb n ev used (upd count k m) gen := by
  refine ⟨h.ne, by simpa using h.ls, by simpa using h.lb, (World.cell?_setCell_other _ _ _ _ (fun e => h.ne (by injection e with e1; exact e1.symm))).trans h.c0, fun j hj i hi => ?_, fun j hj => ?_, fun j hj => ?_, fun j hj => ?_, fun i => by simpa using h.fb i⟩
  · rw [cell_off _ _ _ _ _ (off_ne (by decide) (by omega) (Or.inr (by omega)))]
    exact h.ce j hj i hi
  · rw [cell_off _ _ _ _ _ (off_ne (by decide) (by decide) (Or.inr (by decide)))]
    exact h.cu j hj
  · by_cases e : j = k
    · subst e
      rw [upd_at]
      exact World.cell?_setCell_same _ _ _ (h.cc j hj)
    · rw [cell_off _ _ _ _ _ (off_ne (by decide) (by decide) (Or.inl (Ne.symm e))), upd_off _ _ e]
      exact h.cc j hj
  · rw [cell_off _ _ _ _ _ (off_ne (by decide) (by decide) (Or.inr (by decide)))]
    exact h.cg j hj

theorem Storey.row (h : Storey w s sb n ev used count gen) : Calls Try.prog 67 #[.pointer (some ⟨s, 0, none⟩)] w fun e w' => e = .returned (.slice (some ⟨sb, 0, none⟩) n n) ∧ w = w' := by
  have c0 := h.c0
  clear h
  go_enter Try.func67, Try.ntmps67
  go_wp2
  go_ret
  exact ⟨rfl, rfl⟩
end

/-- A ref counts. -/
structure Is (n : Nat) (used : Nat → Bool) (gen : Nat → Int) (S : Nat) (G : Int) : Prop where
  lt : S < n
  big : n ≤ 4096
  us : used S = true
  ge : gen S = G

theorem hmf (fn : Fn) (first cap : Array Value) (w : World) : (Instr.makeFunc fn first cap).run Try.prog w = .ok (.func fn first cap) w := rfl

theorem with_count (s sb n : Nat) (ev : Nat → Nat → Int) (used : Nat → Bool) (count gen : Nat → Int) (S : Nat) (G : Int) (w : World) (h : Storey w s sb n ev used count gen) (hi : Is n used gen S G) (p0 : Nat) (Q : World → Prop)
    (hq : ∀ d : Nat, Calls Try.prog 72 #[.pointer (some ⟨sb, S * 9, none⟩), .pointer (some ⟨p0, 0, none⟩)] ((w.alloc (.cells #[.int .i64 (S : Int), .int .i64 G] 87)).drewN d) fun e w' => e = .returned (.tuple #[]) ∧ Q w') :
    Calls Try.prog 68 #[.pointer (some ⟨s, 0, none⟩), .agg #[.int .i64 (S : Int), .int .i64 G], .func (.func 72) #[] #[.pointer (some ⟨p0, 0, none⟩)]] w fun e w' => e = .returned (.bool true) ∧ Q w' := by
  have hr := Lib.hid (fun o => (h.alloc o).row)
  have cu := h.cu S hi.lt
  have cg := h.cg S hi.lt
  rw [hi.us] at cu
  rw [hi.ge] at cg
  have lb := h.lb
  have lb1 : sb < w.heap.size + 1 := by omega
  have z0 : ¬ (S : Int) < 0 := by omega
  have hl := hi.lt
  have hb := hi.big
  have z1 : decide ((n : Int) ≤ (S : Int)) = false := by simp; omega
  have HQ := Lib.hid hq
  clear h hi hq
  go_enter Try.func68, Try.ntmps68
  go_wp2_with fail
  refine (hr.out _).mono ?_
  rintro e w1 ⟨rfl, rfl⟩
  go_wp2_with fail
  go_quiet (fail)
  go_wp2_with fail
  refine (HQ.out _).mono ?_
  rintro e w2 ⟨rfl, hw⟩
  go_wp2
  go_ret
  exact ⟨rfl, hw⟩

theorem with_free (s sb n : Nat) (ev : Nat → Nat → Int) (used : Nat → Bool) (count gen : Nat → Int) (S : Nat) (G : Int) (w : World) (h : Storey w s sb n ev used count gen) (hi : Is n used gen S G) (p0 : Nat) (Q : World → Prop)
    (hq : ∀ d : Nat, Calls Try.prog 69 #[.pointer (some ⟨sb, S * 9, none⟩), .pointer (some ⟨p0, 0, none⟩)] ((w.alloc (.cells #[.int .i64 (S : Int), .int .i64 G] 87)).drewN d) fun e w' => e = .returned (.tuple #[]) ∧ Q w') :
    Calls Try.prog 68 #[.pointer (some ⟨s, 0, none⟩), .agg #[.int .i64 (S : Int), .int .i64 G], .func (.func 69) #[] #[.pointer (some ⟨p0, 0, none⟩)]] w fun e w' => e = .returned (.bool true) ∧ Q w' := by
  have hr := Lib.hid (fun o => (h.alloc o).row)
  have cu := h.cu S hi.lt
  have cg := h.cg S hi.lt
  rw [hi.us] at cu
  rw [hi.ge] at cg
  have lb := h.lb
  have lb1 : sb < w.heap.size + 1 := by omega
  have z0 : ¬ (S : Int) < 0 := by omega
  have hl := hi.lt
  have hb := hi.big
  have z1 : decide ((n : Int) ≤ (S : Int)) = false := by simp; omega
  have HQ := Lib.hid hq
  clear h hi hq
  go_enter Try.func68, Try.ntmps68
  go_wp2_with fail
  refine (hr.out _).mono ?_
  rintro e w1 ⟨rfl, rfl⟩
  go_wp2_with fail
  go_quiet (fail)
  go_wp2_with fail
  refine (HQ.out _).mono ?_
  rintro e w2 ⟨rfl, hw⟩
  go_wp2
  go_ret
  exact ⟨rfl, hw⟩

theorem with_get (s sb n : Nat) (ev : Nat → Nat → Int) (used : Nat → Bool) (count gen : Nat → Int) (S : Nat) (G : Int) (w : World) (h : Storey w s sb n ev used count gen) (hi : Is n used gen S G) (p0 : Nat) (Q : World → Prop)
    (hq : ∀ d : Nat, Calls Try.prog 71 #[.pointer (some ⟨sb, S * 9, none⟩), .pointer (some ⟨p0, 0, none⟩)] ((w.alloc (.cells #[.int .i64 (S : Int), .int .i64 G] 87)).drewN d) fun e w' => e = .returned (.tuple #[]) ∧ Q w') :
    Calls Try.prog 68 #[.pointer (some ⟨s, 0, none⟩), .agg #[.int .i64 (S : Int), .int .i64 G], .func (.func 71) #[] #[.pointer (some ⟨p0, 0, none⟩)]] w fun e w' => e = .returned (.bool true) ∧ Q w' := by
  have hr := Lib.hid (fun o => (h.alloc o).row)
  have cu := h.cu S hi.lt
  have cg := h.cg S hi.lt
  rw [hi.us] at cu
  rw [hi.ge] at cg
  have lb := h.lb
  have lb1 : sb < w.heap.size + 1 := by omega
  have z0 : ¬ (S : Int) < 0 := by omega
  have hl := hi.lt
  have hb := hi.big
  have z1 : decide ((n : Int) ≤ (S : Int)) = false := by simp; omega
  have HQ := Lib.hid hq
  clear h hi hq
  go_enter Try.func68, Try.ntmps68
  go_wp2_with fail
  refine (hr.out _).mono ?_
  rintro e w1 ⟨rfl, rfl⟩
  go_wp2_with fail
  go_quiet (fail)
  go_wp2_with fail
  refine (HQ.out _).mono ?_
  rintro e w2 ⟨rfl, hw⟩
  go_wp2
  go_ret
  exact ⟨rfl, hw⟩

theorem with_add (s sb n : Nat) (ev : Nat → Nat → Int) (used : Nat → Bool) (count gen : Nat → Int) (S : Nat) (G : Int) (w : World) (h : Storey w s sb n ev used count gen) (hi : Is n used gen S G) (p0 p1 p2 : Nat) (Q : World → Prop)
    (hq : ∀ d : Nat, Calls Try.prog 70 #[.pointer (some ⟨sb, S * 9, none⟩), .pointer (some ⟨p0, 0, none⟩), .pointer (some ⟨p1, 0, none⟩), .pointer (some ⟨p2, 0, none⟩)] ((w.alloc (.cells #[.int .i64 (S : Int), .int .i64 G] 87)).drewN d) fun e w' => e = .returned (.tuple #[]) ∧ Q w') :
    Calls Try.prog 68 #[.pointer (some ⟨s, 0, none⟩), .agg #[.int .i64 (S : Int), .int .i64 G], .func (.func 70) #[] #[.pointer (some ⟨p0, 0, none⟩), .pointer (some ⟨p1, 0, none⟩), .pointer (some ⟨p2, 0, none⟩)]] w fun e w' => e = .returned (.bool true) ∧ Q w' := by
  have hr := Lib.hid (fun o => (h.alloc o).row)
  have cu := h.cu S hi.lt
  have cg := h.cg S hi.lt
  rw [hi.us] at cu
  rw [hi.ge] at cg
  have lb := h.lb
  have lb1 : sb < w.heap.size + 1 := by omega
  have z0 : ¬ (S : Int) < 0 := by omega
  have hl := hi.lt
  have hb := hi.big
  have z1 : decide ((n : Int) ≤ (S : Int)) = false := by simp; omega
  have HQ := Lib.hid hq
  clear h hi hq
  go_enter Try.func68, Try.ntmps68
  go_wp2_with fail
  refine (hr.out _).mono ?_
  rintro e w1 ⟨rfl, rfl⟩
  go_wp2_with fail
  go_quiet (fail)
  go_wp2_with fail
  refine (HQ.out _).mono ?_
  rintro e w2 ⟨rfl, hw⟩
  go_wp2
  go_ret
  exact ⟨rfl, hw⟩

end Go.Proofs.Ytjfbjkgppnhaoaa
