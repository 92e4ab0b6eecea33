/-
  A log in memory.
-/
import Derived.Test.YtgfobgabdafclaaGreatLw
import Derived.Test.YtgfobgabdafclaaGreatLm
namespace Go.Proofs.YtgfobgabdafclaaGreat
open Go.ChangeShapes Go.WideShapes Go.ChangeAt Go.RowKit
set_option linter.unusedVariables false

/-- The cells of a command of a kind and a number. -/
def cmdL (p : Int × Int) : List Value := [.int .i64 p.1, .int .i64 0, .int .i64 p.2, .int .i64 0, .int .i64 0, .int .i64 0, .int .i64 0, .int .i64 0, .int .i64 0, .int .i64 0, .int .i64 0, .slice none 0 0, .int .i64 0, .bool false]
theorem cmdL_is (p : Int × Int) : IsCmd (cmdL p) := ⟨rfl, by simp [cmdL, Value.oneCell']⟩
theorem cmdL_zero : cmdL (0, 0) = zc := rfl
/-- The blocks of a log. -/
structure LB where
  l : Nat
  rc : Nat
  pc : Nat
  wb : Nat
  mb : Nat
  rw : Nat → Nat
  pw : Nat → Nat
  sp : Addr
  ep : Nat
structure Cf where
  sh : Nat
  ib : Nat
  sl : Int
  qu : Int
  ru : Int
  ou : Int
  st : Int
/-- What a log knows. -/
structure LSt where
  tail : Nat
  low : Nat
  closed : Bool
  X : Int → Option (Int × Int)
  cur : Nat → Nat
  left : Nat → Bool
  rl : Nat → Nat
  Y : Nat → Int → Option (Option Int)
  G : Int → Option Nd
  cnt : Nat
def LB.foot (B : LB) (n : Nat) (b : Nat) : Prop := b = B.l ∨ b = B.rc ∨ b = B.pc ∨ b = B.wb ∨ b = B.mb ∨ ∃ i, i < n ∧ (b = B.rw i ∨ b = B.pw i)
/-- What lies of what a worker told. -/
def OutR (w : World) : Option (List Value) → Option (Option Int) → Prop
  | none, none => True
  | some cs, some o => ∃ a n c, cs = [.slice none 0 0, .slice a n c, .slice none 0 0, .slice none 0 0] ∧ OutV w (.slice a n c) o
  | _, _ => False
theorem OutR.turn {S : Nat → Prop} {w w' : World} {x : Option (List Value)} {o : Option (Option Int)} (h : OutR w x o) (T : Turn S w w') (hs : ∀ b, Blk w b 3 → ¬ S b) : OutR w' x o := by
  cases x with
  | none => cases o with
    | none => trivial
    | some o => exact h.elim
  | some cs => cases o with
    | none => exact h.elim
    | some o =>
      obtain ⟨a, n, c, e, hv⟩ := h
      exact ⟨a, n, c, e, hv.turn T hs⟩
structure LogAt (w : World) (B : LB) (c : Cf) (s : LSt) : Prop where
  bl : Blk w B.l 133
  k0 : w.cell? ⟨B.l, 0, none⟩ = some (.int .i64 (c.sh : Int))
  k1 : w.cell? ⟨B.l, 1, none⟩ = some (.int .i64 (c.ib : Int))
  k2 : w.cell? ⟨B.l, 2, none⟩ = some (.int .i64 c.sl)
  k3 : w.cell? ⟨B.l, 3, none⟩ = some (.int .i64 c.qu)
  k4 : w.cell? ⟨B.l, 4, none⟩ = some (.int .i64 c.ru)
  k5 : w.cell? ⟨B.l, 5, none⟩ = some (.int .i64 c.ou)
  k6 : w.cell? ⟨B.l, 6, none⟩ = some (.int .i64 c.st)
  k7 : w.cell? ⟨B.l, 7, none⟩ = some (.pointer (some B.sp))
  k8 : w.cell? ⟨B.l, 8, none⟩ = some (.pointer (some ⟨B.ep, 0, none⟩))
  k9 : w.cell? ⟨B.l, 9, none⟩ = some (.int .i64 (s.tail : Int))
  k10 : w.cell? ⟨B.l, 10, none⟩ = some (.bool s.closed)
  k11 : w.cell? ⟨B.l, 11, none⟩ = some (.pointer (some ⟨B.rc, 0, none⟩))
  k12 : ∃ cap, w.cell? ⟨B.l, 12, none⟩ = some (.slice (some ⟨B.wb, 0, none⟩) c.sh cap)
  k13 : w.cell? ⟨B.l, 13, none⟩ = some (.map (some B.mb))
  sh1 : 1 ≤ c.sh
  sh2 : c.sh ≤ 15
  st2 : s.tail ≤ 1000
  com : CR w B.rc B.pc c.ib s.low (fun i => (s.X i).map cmdL)
  bw : Blk w B.wb 137
  w0 : ∀ i, i < c.sh → w.cell? ⟨B.wb, i * 3, none⟩ = some (.int .i64 (s.cur i : Int))
  w1 : ∀ i, i < c.sh → w.cell? ⟨B.wb, i * 3 + 1, none⟩ = some (.bool (s.left i))
  w2 : ∀ i, i < c.sh → w.cell? ⟨B.wb, i * 3 + 2, none⟩ = some (.pointer (some ⟨B.rw i, 0, none⟩))
  outs : ∃ V : Nat → Int → Option (List Value), (∀ i, i < c.sh → OR w (B.rw i) (B.pw i) c.ib (s.rl i) (V i)) ∧ ∀ i, i < c.sh → ∀ j, OutR w (V i j) (s.Y i j)
  apart : ∀ i j, i < c.sh → j < c.sh → i ≠ j → B.rw i ≠ B.rw j ∧ B.pw i ≠ B.pw j
  ans : ∃ n m, Nds Tryz.prog 3 w B.mb n m s.G ∧ n ≤ s.cnt
section
variable {w w' : World} {B : LB} {c : Cf} {s : LSt}
theorem Nds.ne {P : Program} {k : TypeId} {w : World} {mb n m : Nat} {G : Int → Option Nd} (h : Nds P k w mb n m G) {b : Nat} {t : TypeId} (hb : Blk w b t) : b ≠ mb := fun e => by
  obtain ⟨D, ⟨es, clock, h0, F, hs, hD⟩, h2⟩ := h.ex
  obtain ⟨cs, hb⟩ := hb
  rw [e] at hb
  rw [h0] at hb
  cases hb
theorem LogAt.foot_ne (h : LogAt w B c s) {b : Nat} {t : TypeId} (hb : Blk w b t) (h1 : t ≠ 133) (h2 : t ≠ 216) (h3 : t ≠ 227) (h4 : t ≠ 137) (h5 : t ≠ 219) (h6 : t ≠ 331) : ¬ B.foot c.sh b := fun e => by
  obtain ⟨n, m, ha, _⟩ := h.ans
  obtain ⟨V, hV, _⟩ := h.outs
  rcases e with e | e | e | e | e | ⟨i, hi, e | e⟩
  · exact hb.ne h.bl h1 e
  · exact hb.ne h.com.br h2 e
  · exact hb.ne h.com.bp h3 e
  · exact hb.ne h.bw h4 e
  · exact ha.ne hb e
  · exact hb.ne (hV i hi).br h5 e
  · exact hb.ne (hV i hi).bp h6 e
theorem LogAt.foot_lt (h : LogAt w B c s) {b : Nat} (hb : B.foot c.sh b) : b < w.heap.size := by
  obtain ⟨n, m, ha, _⟩ := h.ans
  obtain ⟨V, hV, _⟩ := h.outs
  rcases hb with e | e | e | e | e | ⟨i, hi, e | e⟩
  · rw [e]; exact h.bl.lt
  · rw [e]; exact h.com.br.lt
  · rw [e]; exact h.com.bp.lt
  · rw [e]; exact h.bw.lt
  · rw [e]; exact ha.lt
  · rw [e]; exact (hV i hi).br.lt
  · rw [e]; exact (hV i hi).bp.lt
/-- .. in a world where none of its blocks has turned. -/
theorem LogAt.turn {S : Nat → Prop} (h : LogAt w B c s) (T : Turn S w w') (hs : ∀ b, B.foot c.sh b → ¬ S b) (h3 : ∀ b, Blk w b 3 → ¬ S b) : LogAt w' B c s := by
  have hl : ¬ S B.l := hs _ (.inl rfl)
  have hw : ¬ S B.wb := hs _ (.inr (.inr (.inr (.inl rfl))))
  obtain ⟨cap, k12⟩ := h.k12
  obtain ⟨n, m, ha, hn⟩ := h.ans
  obtain ⟨V, hV, hO⟩ := h.outs
  exact ⟨h.bl.turn T hl, T.cell hl h.k0, T.cell hl h.k1, T.cell hl h.k2, T.cell hl h.k3, T.cell hl h.k4, T.cell hl h.k5, T.cell hl h.k6, T.cell hl h.k7, T.cell hl h.k8, T.cell hl h.k9, T.cell hl h.k10, T.cell hl h.k11, ⟨cap, T.cell hl k12⟩, T.cell hl h.k13,
    h.sh1, h.sh2, h.st2, h.com.turn T (hs _ (.inr (.inl rfl))) (hs _ (.inr (.inr (.inl rfl)))), h.bw.turn T hw, fun i hi => T.cell hw (h.w0 i hi), fun i hi => T.cell hw (h.w1 i hi), fun i hi => T.cell hw (h.w2 i hi),
    ⟨V, fun i hi => (hV i hi).turn T (hs _ (.inr (.inr (.inr (.inr (.inr ⟨i, hi, .inl rfl⟩)))))) (hs _ (.inr (.inr (.inr (.inr (.inr ⟨i, hi, .inr rfl⟩)))))), fun i hi j => (hO i hi j).turn T h3⟩,
    h.apart, ⟨n, m, ha.block (T.block _ ha.lt (hs _ (.inr (.inr (.inr (.inr (.inl rfl))))))), hn⟩⟩
theorem LogAt.keep (h : LogAt w B c s) (T : Turn (fun _ => False) w w') : LogAt w' B c s := h.turn T (fun _ _ f => f) (fun _ _ f => f)
set_option maxRecDepth 100000 in
theorem LogAt.low_is (h : LogAt w B c s) : Calls Tryz.prog 66 #[.pointer (some ⟨B.l, 0, none⟩)] w fun e w' => e = .returned (.int .i64 (s.low : Int)) ∧ w = w' := by
  have k11 := h.k11
  have H := Lib.hid h.com.low_is
  clear h
  go_enter Tryz.func66, Tryz.ntmps66
  go_wp2_with fail
  with_reducible refine H.out.mono ?_
  rintro e w1 ⟨rfl, rfl⟩
  go_wp2
  go_ret
  exact ⟨rfl, rfl⟩
set_option maxRecDepth 100000 in
set_option maxHeartbeats 1000000 in
theorem LogAt.find_yes (h : LogAt w B c s) {i : Nat} (hi : i < c.sh) (hl : s.left i = false) :
    Calls Tryz.prog 70 #[.pointer (some ⟨B.l, 0, none⟩), .int .i64 (i : Int)] w fun e w' => e = .returned (.pointer (some ⟨B.wb, i * 3, none⟩)) ∧ w = w' := by
  obtain ⟨cap, k12⟩ := h.k12
  have w1 := h.w1 i hi
  rw [hl] at w1
  have t1 : decide ((i : Int) < 0) = false := by simp
  have t2 : decide ((c.sh : Int) ≤ (i : Int)) = false := by simp; omega
  have t3 : decide (c.sh ≤ i) = false := by simp; omega
  have m1 : (0 : Int) ≤ (i : Int) := by omega
  have m2 : (i : Int) < (c.sh : Int) := by omega
  clear h hl
  generalize c.sh = n at *
  clear hi
  go_enter Tryz.func70, Tryz.ntmps70
  go_wp2
  go_ret
  exact ⟨rfl, rfl⟩
end
end Go.Proofs.YtgfobgabdafclaaGreat
