/-
  What StoreTurns goes by: a store of one slot, idle or busy.
-/
import Derived.Test.YtjfbjkgppnhaoabStoreAwake
import Derived.Test.YtjfbjkgppnhaoabGet
namespace Go.Proofs.Ytjfbjkgppnhaoab
open Go.ChangeShapes Go.WideShapes Go.ChangeAt Go.RowKit
set_option linter.unusedVariables false

/-- The slot is free, for the G-th time. -/
structure Idle (s sb : Nat) (wL : World) (G : Int) (wr : World) : Prop where
  st : ∃ ev used count gen, Storey wr s sb 1 ev used count gen ∧ used 0 = false ∧ count 0 = 0 ∧ gen 0 = G
  near : Near sb sb wL wr
/-- The slot holds the event of key K, c times. -/
structure Busy (s sb : Nat) (wL : World) (G K c : Int) (wr : World) : Prop where
  st : ∃ ev used count gen, Storey wr s sb 1 ev used count gen ∧ used 0 = true ∧ count 0 = c ∧ gen 0 = G ∧ ev 0 0 = 0 ∧ ev 0 1 = K ∧ ev 0 2 = 0 ∧ ev 0 3 = 0 ∧ ev 0 4 = 0 ∧ ev 0 5 = 0
  near : Near sb sb wL wr

section
variable {s sb : Nat} {wL wr : World} {G K c : Int}

theorem Idle.alloc (h : Idle s sb wL G wr) (o : Obj) : Idle s sb wL G (wr.alloc o) := by
  obtain ⟨⟨ev, used, count, gen, hs, r⟩, n⟩ := h
  exact ⟨⟨ev, used, count, gen, hs.alloc o, r⟩, n.alloc o⟩
theorem Busy.alloc (h : Busy s sb wL G K c wr) (o : Obj) : Busy s sb wL G K c (wr.alloc o) := by
  obtain ⟨⟨ev, used, count, gen, hs, r⟩, n⟩ := h
  exact ⟨⟨ev, used, count, gen, hs.alloc o, r⟩, n.alloc o⟩

theorem Idle.take (h : Idle s sb wL G wr) (K : Int) :
    Calls Try.prog 8 #[.pointer (some ⟨s, 0, none⟩), .agg #[.int .i64 0, .int .i64 K, .int .i64 0, .int .i64 0, .int .i64 0, .int .i64 0]] wr fun e w' => e = .returned (.tuple #[.agg #[.int .i64 0, .int .i64 G], .bool true]) ∧ Busy s sb wL G K 1 w' ∧ Near sb sb wr w' := by
  obtain ⟨⟨ev, used, count, gen, hs, u0, c0, g0⟩, n⟩ := h
  have T := hs.take 0 (by decide) (by decide) (fun k hk => absurd hk (Nat.not_lt_zero k)) u0 0 K 0 0 0 0
  rw [g0] at T
  exact T.mono fun e w' ⟨a, ⟨ev2, ⟨_, t0, t1, t2, t3, t4, t5⟩, h2⟩, n2⟩ => ⟨a, ⟨⟨ev2, _, _, _, h2, upd_at _ _ _, upd_at _ _ _, g0, t0, t1, t2, t3, t4, t5⟩, n.trans n2⟩, n2⟩

theorem Busy.add (h : Busy s sb wL G K c wr) (y c2 : Int) (hp : 0 < c) (hb : c ≤ 1000) (hy : y ≤ 1000) (e : c + y = c2) (h2 : 0 ≤ c2) :
    Calls Try.prog 11 #[.pointer (some ⟨s, 0, none⟩), .agg #[.int .i64 0, .int .i64 G], .int .i64 y] wr fun e w' => e = .returned (.tuple #[.int .i64 c2, .bool true]) ∧ Busy s sb wL G K c2 w' ∧ Near sb sb wr w' := by
  subst e
  obtain ⟨⟨ev, used, count, gen, hs, u0, c0, g0, t⟩, n⟩ := h
  exact (hs.add_yes (S := 0) (G := G) ⟨by decide, by decide, u0, g0⟩ y c c0 hp (by omega) h2 (by omega)).mono fun e w' ⟨a, b, m⟩ => ⟨a, ⟨⟨ev, used, _, gen, b, u0, upd_at _ _ _, g0, t⟩, n.trans m⟩, m⟩

theorem Busy.free_live (h : Busy s sb wL G K c wr) (hp : 0 < c) :
    Calls Try.prog 10 #[.pointer (some ⟨s, 0, none⟩), .agg #[.int .i64 0, .int .i64 G]] wr fun e w' => e = .returned (.bool false) ∧ Busy s sb wL G K c w' ∧ Near sb sb wr w' := by
  obtain ⟨⟨ev, used, count, gen, hs, u0, c0, g0, t⟩, n⟩ := h
  exact (hs.free_live (S := 0) (G := G) ⟨by decide, by decide, u0, g0⟩ (by omega)).mono fun e w' ⟨a, b, m⟩ => ⟨a, ⟨⟨ev, used, _, gen, b, u0, c0, g0, t⟩, n.trans m⟩, m⟩

theorem Busy.free_dead (h : Busy s sb wL G K 0 wr) (hg : 0 ≤ G ∧ G ≤ 1000) :
    Calls Try.prog 10 #[.pointer (some ⟨s, 0, none⟩), .agg #[.int .i64 0, .int .i64 G]] wr fun e w' => e = .returned (.bool true) ∧ Idle s sb wL (G + 1) w' ∧ Near sb sb wr w' := by
  obtain ⟨⟨ev, used, count, gen, hs, u0, c0, g0, t⟩, n⟩ := h
  exact (hs.free_dead (S := 0) (G := G) ⟨by decide, by decide, u0, g0⟩ c0 (by omega)).mono fun e w' ⟨a, ⟨ev2, _, b⟩, m⟩ => ⟨a, ⟨⟨ev2, _, _, _, b, upd_at _ _ _, upd_at _ _ _, upd_at _ _ _⟩, n.trans m⟩, m⟩

theorem Busy.get (h : Busy s sb wL G K c wr) :
    Calls Try.prog 12 #[.pointer (some ⟨s, 0, none⟩), .agg #[.int .i64 0, .int .i64 G]] wr fun e w' => e = .returned (.tuple #[.agg #[.int .i64 0, .int .i64 K, .int .i64 0, .int .i64 0, .int .i64 0, .int .i64 0], .bool true]) ∧ Busy s sb wL G K c w' ∧ Near sb sb wr w' := by
  obtain ⟨⟨ev, used, count, gen, hs, u0, c0, g0, t0, t1, t2, t3, t4, t5⟩, n⟩ := h
  have T := hs.get_yes (S := 0) (G := G) ⟨by decide, by decide, u0, g0⟩
  rw [t0, t1, t2, t3, t4, t5] at T
  exact T.mono fun e w' ⟨a, b, m⟩ => ⟨a, ⟨⟨ev, used, _, gen, b, u0, c0, g0, t0, t1, t2, t3, t4, t5⟩, n.trans m⟩, m⟩

theorem Idle.get (h : Idle s sb wL G wr) (g : Int) :
    Calls Try.prog 12 #[.pointer (some ⟨s, 0, none⟩), .agg #[.int .i64 0, .int .i64 g]] wr fun e w' => e = .returned (.tuple #[.agg #[.int .i64 0, .int .i64 0, .int .i64 0, .int .i64 0, .int .i64 0, .int .i64 0], .bool false]) ∧ Idle s sb wL G w' ∧ Near sb sb wr w' := by
  obtain ⟨⟨ev, used, count, gen, hs, u0, c0, g0⟩, n⟩ := h
  exact (hs.get_no (S := 0) (G := g) (by decide) (by decide) (Or.inl u0)).mono fun e w' ⟨a, b, m⟩ => ⟨a, ⟨⟨ev, used, _, gen, b, u0, c0, g0⟩, n.trans m⟩, m⟩

theorem Idle.used (h : Idle s sb wL G wr) : Calls Try.prog 9 #[.pointer (some ⟨s, 0, none⟩)] wr fun e w' => e = .returned (.int .i64 0) ∧ Idle s sb wL G w' ∧ Near sb sb wr w' := by
  obtain ⟨⟨ev, used, count, gen, hs, u0, c0, g0⟩, n⟩ := h
  have T := hs.used_is (by decide)
  rw [show cntB used 1 = 0 from by simp [cntB, u0]] at T
  exact T.mono fun e w' ⟨a, b, m⟩ => ⟨a, ⟨⟨ev, used, _, gen, b, u0, c0, g0⟩, n.trans m⟩, m⟩
theorem Idle.live (h : Idle s sb wL G wr) : Calls Try.prog 13 #[.pointer (some ⟨s, 0, none⟩)] wr fun e w' => e = .returned (.int .i64 0) ∧ Idle s sb wL G w' ∧ Near sb sb wr w' := by
  obtain ⟨⟨ev, used, count, gen, hs, u0, c0, g0⟩, n⟩ := h
  have T := hs.live_is (by decide)
  rw [show cntB (fun k => decide (0 < count k)) 1 = 0 from by simp [cntB, c0]] at T
  exact T.mono fun e w' ⟨a, b, m⟩ => ⟨a, ⟨⟨ev, used, _, gen, b, u0, c0, g0⟩, n.trans m⟩, m⟩
end
end Go.Proofs.Ytjfbjkgppnhaoab
