/-
  What StoreFull goes by: a store of n slots, of which the first i are used.
-/
import Derived.Test.YtjfbjkgppnhaoabStoreAwake
import Derived.Test.YtjfbjkgppnhaoabGet
import Derived.Laws.MakeOwn
namespace Go.Proofs.Ytjfbjkgppnhaoab
open Go.ChangeShapes Go.WideShapes Go.ChangeAt Go.RowKit
set_option linter.unusedVariables false

def zero9 : Array Value := #[.int .i64 0, .int .i64 0, .int .i64 0, .int .i64 0, .int .i64 0, .int .i64 0, .bool false, .int .i64 0, .int .i64 0]

theorem made_at (n k j : Nat) (hk : k < n) (hj : j < 9) : (madeCells zero9 (n * 9))[k * 9 + j]? = some (zero9[j]!) := by
  have h : k * 9 + j < n * 9 := by omega
  have e : (k * 9 + j) % 9 = j := by omega
  have hz : zero9.size = 9 := rfl
  simp [madeCells, h, hz, e]

theorem store_new (n : Nat) (h1 : 1 ≤ n) (h40 : n ≤ 40) (w : World) : Calls Try.prog 7 #[.int .i64 (n : Int)] w fun e w' => e = .returned (.pointer (some ⟨w.heap.size + 1, 0, none⟩)) ∧ Storey w' (w.heap.size + 1) w.heap.size n (fun _ _ => 0) (fun _ => false) (fun _ => 0) (fun _ => 0) ∧ Below w.heap.size w w' ∧ w'.heap.size = w.heap.size + 2 := by
  have hinfo : (Try.prog.info? 47).map (fun i => (i.zero, i.size, i.bytes)) = some (some (.agg zero9), 9, 72) := by kernel_rfl
  obtain ⟨i, hi, he⟩ := Option.map_eq_some_iff.mp hinfo
  simp only [Prod.mk.injEq] at he
  obtain ⟨hz, hs, hb⟩ := he
  have hmk : ∀ w, (Instr.makeSlice 42 (.int .i64 (n : Int)) (.int .i64 (n : Int))).run Try.prog w = .ok (.slice (some ⟨w.heap.size, 0, none⟩) n n) (w.alloc (.cells (madeCells zero9 (n * 9)) 47)) := fun w => by
    have := run_make (P := Try.prog) w 42 47 i (.agg zero9) Try.underlying42 hi hz .i64 .i64 (n : Int) (n : Int) (by omega) (by omega) (by rw [hb]; omega) (by omega)
    rw [hs] at this
    simpa [Value.cells] using this
  clear hinfo hi hz hs hb
  have c1 : ¬ (n : Int) < 1 := by omega
  have c2 : ¬ (4096 : Int) < (n : Int) := by omega
  go_enter Try.func7, Try.ntmps7
  go_wp2
  go_ret
  refine ⟨rfl, storey_new w n _ _ _ ?_, by go_grown, by simp⟩
  intro k hk
  refine ⟨fun j hj => ?_, made_at n k 6 hk (by decide), made_at n k 7 hk (by decide), made_at n k 8 hk (by decide)⟩
  have hj' : j = 0 ∨ j = 1 ∨ j = 2 ∨ j = 3 ∨ j = 4 ∨ j = 5 := by omega
  have := made_at n k j hk (by omega)
  rcases hj' with rfl | rfl | rfl | rfl | rfl | rfl <;> exact this

theorem cntB_first (p : Nat → Bool) (i m : Nat) (h : ∀ k, k < m → p k = decide (k < i)) : cntB p m = min m i := by
  induction m with
  | zero => simp [cntB]
  | succ m ih =>
    have e := ih (fun k hk => h k (by omega))
    have e2 := h m (by omega)
    unfold cntB
    rw [e, e2]
    by_cases hm : m < i
    · simp [hm]; omega
    · simp [hm]; omega

/-- The first i slots are used, each once. -/
structure Fill (s sb n : Nat) (wL : World) (i : Nat) (wr : World) : Prop where
  st : ∃ ev used count gen, Storey wr s sb n ev used count gen ∧ (∀ k, k < n → used k = decide (k < i)) ∧ (∀ k, k < i → count k = 1) ∧ (∀ k, gen k = 0)
  near : Near sb sb wL wr

/-- All slots are used; slot K has the count c. -/
structure Held (s sb n K : Nat) (wL : World) (c : Int) (wr : World) : Prop where
  st : ∃ ev used count gen, Storey wr s sb n ev used count gen ∧ (∀ k, k < n → used k = true) ∧ count K = c ∧ (∀ k, gen k = 0)
  near : Near sb sb wL wr
/-- Slot K alone is free, for the first time. -/
structure Hole (s sb n K : Nat) (wL : World) (wr : World) : Prop where
  st : ∃ ev used count gen, Storey wr s sb n ev used count gen ∧ (∀ k, k < n → k ≠ K → used k = true) ∧ used K = false ∧ gen K = 1
  near : Near sb sb wL wr
/-- Slot K has the event of key 99, of Gen 1. -/
structure Back (s sb n K : Nat) (wL : World) (wr : World) : Prop where
  st : ∃ ev used count gen, Storey wr s sb n ev used count gen ∧ used K = true ∧ gen K = 1 ∧ ev K 0 = 0 ∧ ev K 1 = 99 ∧ ev K 2 = 0 ∧ ev K 3 = 0 ∧ ev K 4 = 0 ∧ ev K 5 = 0
  near : Near sb sb wL wr

section
variable {s sb n K i : Nat} {wL wr : World} {c : Int}

theorem Fill.alloc (h : Fill s sb n wL i wr) (o : Obj) : Fill s sb n wL i (wr.alloc o) := by
  obtain ⟨⟨ev, used, count, gen, hs, r⟩, m⟩ := h
  exact ⟨⟨ev, used, count, gen, hs.alloc o, r⟩, m.alloc o⟩
theorem Held.alloc (h : Held s sb n K wL c wr) (o : Obj) : Held s sb n K wL c (wr.alloc o) := by
  obtain ⟨⟨ev, used, count, gen, hs, r⟩, m⟩ := h
  exact ⟨⟨ev, used, count, gen, hs.alloc o, r⟩, m.alloc o⟩
theorem Back.alloc (h : Back s sb n K wL wr) (o : Obj) : Back s sb n K wL (wr.alloc o) := by
  obtain ⟨⟨ev, used, count, gen, hs, r⟩, m⟩ := h
  exact ⟨⟨ev, used, count, gen, hs.alloc o, r⟩, m.alloc o⟩

theorem Fill.take (h : Fill s sb n wL i wr) (hi : i < n) (hn : n ≤ 40) (y : Int) :
    Calls Try.prog 8 #[.pointer (some ⟨s, 0, none⟩), .agg #[.int .i64 0, .int .i64 y, .int .i64 0, .int .i64 0, .int .i64 0, .int .i64 0]] wr fun e w' => e = .returned (.tuple #[.agg #[.int .i64 (i : Int), .int .i64 0], .bool true]) ∧ Fill s sb n wL (i + 1) w' ∧ Near sb sb wr w' := by
  obtain ⟨⟨ev, used, count, gen, hs, u, c, g⟩, m⟩ := h
  have T := hs.take i hi (by omega) (fun k hk => by rw [u k (by omega)]; simpa using hk) (by rw [u i hi]; simp) 0 y 0 0 0 0
  rw [g i] at T
  refine T.mono fun e w' ⟨a, ⟨ev2, _, h2⟩, m2⟩ => ⟨a, ⟨⟨ev2, _, _, _, h2, fun k hk => ?_, fun k hk => ?_, g⟩, m.trans m2⟩, m2⟩
  · by_cases e : k = i
    · subst e; rw [upd_at]; simp
    · rw [upd_off _ _ e, u k hk, Bool.eq_iff_iff]; simp; omega
  · by_cases e : k = i
    · subst e; rw [upd_at]
    · rw [upd_off _ _ e]; exact c k (by omega)

theorem Fill.used (h : Fill s sb n wL i wr) (hi : i ≤ n) (hn : n ≤ 40) : Calls Try.prog 9 #[.pointer (some ⟨s, 0, none⟩)] wr fun e w' => e = .returned (.int .i64 (i : Int)) ∧ Fill s sb n wL i w' ∧ Near sb sb wr w' := by
  obtain ⟨⟨ev, used, count, gen, hs, u, c, g⟩, m⟩ := h
  have T := hs.used_is (by omega)
  rw [cntB_first used i n u, Nat.min_eq_right hi] at T
  exact T.mono fun e w' ⟨a, b, m2⟩ => ⟨a, ⟨⟨ev, used, count, gen, b, u, c, g⟩, m.trans m2⟩, m2⟩

theorem Fill.held (h : Fill s sb n wL n wr) (hK : K < n) : Held s sb n K wL 1 wr := by
  obtain ⟨⟨ev, used, count, gen, hs, u, c, g⟩, m⟩ := h
  exact ⟨⟨ev, used, count, gen, hs, fun k hk => by rw [u k hk]; simpa using hk, c K hK, g⟩, m⟩

theorem Held.full (h : Held s sb n K wL c wr) (hn : n ≤ 40) :
    Calls Try.prog 8 #[.pointer (some ⟨s, 0, none⟩), .agg #[.int .i64 0, .int .i64 0, .int .i64 0, .int .i64 0, .int .i64 0, .int .i64 0]] wr fun e w' => e = .returned (.tuple #[.agg #[.int .i64 0, .int .i64 0], .bool false]) ∧ Held s sb n K wL c w' ∧ Near sb sb wr w' := by
  obtain ⟨⟨ev, used, count, gen, hs, u, cc, g⟩, m⟩ := h
  exact (hs.take_full n rfl (by omega) u 0 0 0 0 0 0).mono fun e w' ⟨a, b, m2⟩ => ⟨a, ⟨⟨ev, used, count, gen, b, u, cc, g⟩, m.trans m2⟩, m2⟩

theorem Held.early (h : Held s sb n K wL 1 wr) (hK : K < n) (hn : n ≤ 40) :
    Calls Try.prog 10 #[.pointer (some ⟨s, 0, none⟩), .agg #[.int .i64 (K : Int), .int .i64 0]] wr fun e w' => e = .returned (.bool false) ∧ Held s sb n K wL 1 w' ∧ Near sb sb wr w' := by
  obtain ⟨⟨ev, used, count, gen, hs, u, cc, g⟩, m⟩ := h
  exact (hs.free_live (S := K) (G := 0) ⟨hK, by omega, u K hK, g K⟩ (by omega)).mono fun e w' ⟨a, b, m2⟩ => ⟨a, ⟨⟨ev, used, count, gen, b, u, cc, g⟩, m.trans m2⟩, m2⟩

theorem Held.add (h : Held s sb n K wL 1 wr) (hK : K < n) (hn : n ≤ 40) :
    Calls Try.prog 11 #[.pointer (some ⟨s, 0, none⟩), .agg #[.int .i64 (K : Int), .int .i64 0], .int .i64 (-1)] wr fun e w' => e = .returned (.tuple #[.int .i64 0, .bool true]) ∧ Held s sb n K wL 0 w' ∧ Near sb sb wr w' := by
  obtain ⟨⟨ev, used, count, gen, hs, u, cc, g⟩, m⟩ := h
  exact (hs.add_yes (S := K) (G := 0) ⟨hK, by omega, u K hK, g K⟩ (-1) 1 cc (by decide) (by decide) (by decide) (by decide)).mono fun e w' ⟨a, b, m2⟩ => ⟨a, ⟨⟨ev, used, _, gen, b, u, upd_at _ _ _, g⟩, m.trans m2⟩, m2⟩

theorem Held.late (h : Held s sb n K wL 0 wr) (hK : K < n) (hn : n ≤ 40) :
    Calls Try.prog 10 #[.pointer (some ⟨s, 0, none⟩), .agg #[.int .i64 (K : Int), .int .i64 0]] wr fun e w' => e = .returned (.bool true) ∧ Hole s sb n K wL w' ∧ Near sb sb wr w' := by
  obtain ⟨⟨ev, used, count, gen, hs, u, cc, g⟩, m⟩ := h
  exact (hs.free_dead (S := K) (G := 0) ⟨hK, by omega, u K hK, g K⟩ cc (by decide)).mono fun e w' ⟨a, ⟨ev2, _, b⟩, m2⟩ => ⟨a, ⟨⟨ev2, _, _, _, b, fun k hk hkK => by rw [upd_off _ _ hkK]; exact u k hk, upd_at _ _ _, upd_at _ _ _⟩, m.trans m2⟩, m2⟩

theorem Hole.take (h : Hole s sb n K wL wr) (hK : K < n) (hn : n ≤ 40) :
    Calls Try.prog 8 #[.pointer (some ⟨s, 0, none⟩), .agg #[.int .i64 0, .int .i64 99, .int .i64 0, .int .i64 0, .int .i64 0, .int .i64 0]] wr fun e w' => e = .returned (.tuple #[.agg #[.int .i64 (K : Int), .int .i64 1], .bool true]) ∧ Back s sb n K wL w' ∧ Near sb sb wr w' := by
  obtain ⟨⟨ev, used, count, gen, hs, u, uK, g⟩, m⟩ := h
  have T := hs.take K hK (by omega) (fun k hk => u k (by omega) (by omega)) uK 0 99 0 0 0 0
  rw [g] at T
  exact T.mono fun e w' ⟨a, ⟨ev2, ⟨_, t0, t1, t2, t3, t4, t5⟩, h2⟩, m2⟩ => ⟨a, ⟨⟨ev2, _, _, _, h2, upd_at _ _ _, g, t0, t1, t2, t3, t4, t5⟩, m.trans m2⟩, m2⟩

theorem Back.get (h : Back s sb n K wL wr) (hK : K < n) (hn : n ≤ 40) :
    Calls Try.prog 12 #[.pointer (some ⟨s, 0, none⟩), .agg #[.int .i64 (K : Int), .int .i64 1]] wr fun e w' => e = .returned (.tuple #[.agg #[.int .i64 0, .int .i64 99, .int .i64 0, .int .i64 0, .int .i64 0, .int .i64 0], .bool true]) ∧ Near sb sb wL w' ∧ Near sb sb wr w' := by
  obtain ⟨⟨ev, used, count, gen, hs, u, g, t0, t1, t2, t3, t4, t5⟩, m⟩ := h
  have T := hs.get_yes (S := K) (G := 1) ⟨hK, by omega, u, g⟩
  rw [t0, t1, t2, t3, t4, t5] at T
  exact T.mono fun e w' ⟨a, b, m2⟩ => ⟨a, m.trans m2, m2⟩
end
end Go.Proofs.Ytjfbjkgppnhaoab
