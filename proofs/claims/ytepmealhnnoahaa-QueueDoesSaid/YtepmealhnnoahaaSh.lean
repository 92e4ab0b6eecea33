/-
  Hits that are made anew; a row that is full grows into a block of its own.
-/
import Derived.Test.YtepmealhnnoahaaSg
namespace Go.Proofs.Ytepmealhnnoahaa
set_option linter.unusedSimpArgs false
open Go.ChangeShapes Go.WideShapes Go.ChangeAt Go.RowKit
set_option linter.unusedVariables false
/-- A full row grows: what it held and what came lie in a block that is new. -/
theorem app_full {W : World} (t e : TypeId) {i : TypeInfo} {z : Value} {size bytes : Nat} (ht : Try.prog.underlying t = some (.slice e)) (hi : Try.prog.info? e = some i) (hz : i.zero = some z) (hs : i.size = size) (hb : i.bytes = bytes) (hzs : z.cells.size = size)
    {s : Value} {n m c : Nat} {a : Addr} {olds news : List Value} (h0 : (s = .slice none 0 0 ∧ n = 0 ∧ olds = []) ∨ ∃ b, s = .slice (some b) n n ∧ ∀ j v, olds[j]? = some v → W.cell? (b.add j) = some v) (hlo : olds.length = n * size) (hl : news.length = m * size) (hnews : ∀ j v, news[j]? = some v → W.cell? (a.add j) = some v)
    (hm : 0 < m) (hn : n + m ≤ 1000000) (hbb : bytes ≤ 1000) :
    ∃ cap W', (Builtin.append_ #[t, t] t #[s, .slice (some a) m c]).run Try.prog W = .ok (.slice (some ⟨W.heap.size, 0, none⟩) (n + m) cap) W' ∧ W'.ownsRow W.heap.size e size (.slice (some ⟨W.heap.size, 0, none⟩) (n + m) cap) (n + m) (olds ++ news) ∧ Turn (fun _ => False) W W' := by
  subst hs; subst hb
  have hbm : (n + m) * i.bytes ≤ 1000000 * 1000 := Nat.mul_le_mul hn hbb
  have own : ∀ cap, n + m ≤ cap → cap ≤ maxLen → (W.drew.alloc (.cells (olds.toArray ++ news.toArray ++ Builtin.zeroCells z.cells (cap - (n + m))) e)).ownsRow W.heap.size e i.size (.slice (some ⟨W.heap.size, 0, none⟩) (n + m) cap) (n + m) (olds ++ news) := fun cap h1 h2 => by
    have hlen : (olds ++ news).length = (n + m) * i.size := by rw [List.length_append, hlo, hl, Nat.add_mul]
    refine ⟨hlen, .inr ⟨W.heap.size, cap, _, rfl, Nat.le_refl _, heap_alloc_new W.drew _, h1, h2, ?_, ?_⟩⟩
    · simp only [Array.size_append, List.size_toArray, size_zeroCells, hzs, hlo, hl, ← Nat.add_mul]
      rw [show n + m + (cap - (n + m)) = cap by omega]
    · simp only [Array.toList_append, List.append_assoc]
      rw [← List.append_assoc, ← hlen]
      exact List.take_left
  have tn : ∀ o, Turn (fun _ => False) W (W.drew.alloc o) := fun o => ((Turn.refl _ W).drewN 1).alloc o
  rcases h0 with ⟨rfl, rfl, rfl⟩ | ⟨b, rfl, hold⟩
  · have hr := run_append_nil (P := Try.prog) W t t e i z ht hi hz a m c news hl hnews hm (by omega) (by simp only [Nat.zero_add] at hbm; omega)
    have := own (grownCap W m 0 e) (by rw [Nat.zero_add]; exact grownCap_ge W m 0 e) (grownCap_le_maxLen W m 0 e (by unfold maxLen; omega))
    simp only [Nat.zero_add, List.nil_append, Array.empty_append] at this ⊢
    exact ⟨_, _, hr, this, tn _⟩
  · have hr := run_append_grow (P := Try.prog) W t t e i z ht hi hz b n n olds hlo hold a m c news hl hnews (by omega) (by omega) (growslice_fits (by omega) (by omega))
    exact ⟨_, _, hr, own _ (grownCap_ge W (n + m) n e) (grownCap_le_maxLen W (n + m) n e (by unfold maxLen; omega)), tn _⟩
/-- Nothing is put behind a row. -/
theorem app_none {W : World} (t e : TypeId) {i : TypeInfo} (ht : Try.prog.underlying t = some (.slice e)) (hi : Try.prog.info? e = some i) {base size n c : Nat} {v : Value} {xs : List Value} (hown : W.ownsRow base e size v n xs) : (Builtin.append_ #[t, t] t #[v, .slice none 0 c]).run Try.prog W = .ok v W := by
  rcases hown.2 with ⟨rfl, rfl⟩ | ⟨g, cap, cur, rfl, _, _, hnc, _⟩
  · simp [Builtin.append_, run_underlying ht, sizeOf, typeInfo, hi, Builtin.lenOf, Builtin.firstCells]
  · simp [Builtin.append_, run_underlying ht, sizeOf, typeInfo, hi, Builtin.lenOf, Builtin.firstCells, hnc, storeCells]
/-- What a hit finds: one event, and, if its number is odd, a second one. -/
def fndC (stamp : Int) (i : Nat) : Fnd := if i % 2 = 1 then ⟨[[10 * stamp + i], [1]], [(10 * stamp + i, 0), (1, stamp)]⟩ else fndN (10 * stamp + i)
/-- A hit as it is made: its three blocks. -/
def HitNew (w : World) (i n : Int) (e : Ending) (w' : World) : Prop :=
  ∃ b1 b2 b3 : Nat, e = .returned (.agg #[.int .i64 i, .slice (some ⟨b1, 0, none⟩) 1 1, .slice (some ⟨b3, 0, none⟩) 1 1]) ∧ w.heap.size ≤ b1 ∧ w.heap.size ≤ b2 ∧ w.heap.size ≤ b3 ∧ Blk w' b1 46 ∧ Blk w' b2 3 ∧ Blk w' b3 38 ∧
    w'.rangeAt b1 0 [.slice (some ⟨b2, 0, none⟩) 1 1] ∧ w'.rangeAt b2 0 [.int .i64 n] ∧ w'.rangeAt b3 0 [.int .i64 n, .int .i64 0] ∧ Turn (fun _ => False) w w'
set_option maxRecDepth 100000 in
set_option maxHeartbeats 4000000 in
theorem hit_new (w : World) (i n : Int) : Calls Try.prog 25 #[.int .i64 i, .int .i64 n] w (HitNew w i n) := by
  obtain ⟨c0, hc0⟩ : ∃ c0 : List Value, c0 = [.int .i64 i, .slice (some ⟨w.heap.size + 1 + 1, 0, none⟩) 1 1, .slice (some ⟨w.heap.size + 1 + 1 + 1, 0, none⟩) 1 1] := ⟨_, rfl⟩
  obtain ⟨W1, h1⟩ : ∃ W1, W1 = w.alloc (.cells c0.toArray 73) := ⟨_, rfl⟩
  obtain ⟨W2, h2⟩ : ∃ W2, W2 = W1.alloc (.cells #[.int .i64 n] 3) := ⟨_, rfl⟩
  obtain ⟨W3, h3⟩ : ∃ W3, W3 = W2.alloc (.cells #[.slice (some ⟨w.heap.size + 1, 0, none⟩) 1 1] 46) := ⟨_, rfl⟩
  obtain ⟨W4, h4⟩ : ∃ W4, W4 = W3.alloc (.cells #[.int .i64 n, .int .i64 0] 38) := ⟨_, rfl⟩
  have s1 : W1.heap.size = w.heap.size + 1 := by rw [h1, World.size_alloc]
  have s2 : W2.heap.size = w.heap.size + 1 + 1 := by rw [h2, World.size_alloc, s1]
  have s3 : W3.heap.size = w.heap.size + 1 + 1 + 1 := by rw [h3, World.size_alloc, s2]
  have T1 : Turn (fun _ => False) w W1 := by rw [h1]; exact (Turn.refl _ w).alloc _
  have T2 : Turn (fun _ => False) W1 W2 := by rw [h2]; exact (Turn.refl _ W1).alloc _
  have T3 : Turn (fun _ => False) W2 W3 := by rw [h3]; exact (Turn.refl _ W2).alloc _
  have T4 : Turn (fun _ => False) W3 W4 := by rw [h4]; exact (Turn.refl _ W3).alloc _
  have R1 : W1.rangeAt w.heap.size 0 c0 := by rw [h1]; exact range_new w c0 73
  have B2 : Blk W2 (w.heap.size + 1) 3 ∧ W2.rangeAt (w.heap.size + 1) 0 [.int .i64 n] := by rw [h2, ← s1]; exact ⟨Blk.new W1 [.int .i64 n] 3, range_new W1 [.int .i64 n] 3⟩
  have B3 : Blk W3 (w.heap.size + 1 + 1) 46 ∧ W3.rangeAt (w.heap.size + 1 + 1) 0 [.slice (some ⟨w.heap.size + 1, 0, none⟩) 1 1] := by rw [h3, ← s2]; exact ⟨Blk.new W2 [.slice (some ⟨w.heap.size + 1, 0, none⟩) 1 1] 46, range_new W2 [.slice (some ⟨w.heap.size + 1, 0, none⟩) 1 1] 46⟩
  have B4 : Blk W4 (w.heap.size + 1 + 1 + 1) 38 ∧ W4.rangeAt (w.heap.size + 1 + 1 + 1) 0 [.int .i64 n, .int .i64 0] := by rw [h4, ← s3]; exact ⟨Blk.new W3 [.int .i64 n, .int .i64 0] 38, range_new W3 [.int .i64 n, .int .i64 0] 38⟩
  have FIN := Lib.hid (show HitNew w i n (.returned (.agg #[.int .i64 i, .slice (some ⟨w.heap.size + 1 + 1, 0, none⟩) 1 1, .slice (some ⟨w.heap.size + 1 + 1 + 1, 0, none⟩) 1 1])) W4 from
    ⟨_, w.heap.size + 1, _, rfl, by omega, by omega, by omega, B3.1.turn T4 id, (B2.1.turn T3 id).turn T4 id, B4.1, range_turn B3.2 T4 id, range_turn (range_turn B2.2 T3 id) T4 id, B4.2, ((T1.trans T2).trans T3).trans T4⟩)
  have R4 := range_turn (range_turn (range_turn R1 T2 id) T3 id) T4 id
  have RR := Lib.hid (show W4.rangeAt w.heap.size 0 [.int .i64 i, .slice (some ⟨w.heap.size + 1 + 1, 0, none⟩) 1 1, .slice (some ⟨w.heap.size + 1 + 1 + 1, 0, none⟩) 1 1] from by rw [← hc0]; exact R4)
  have HW := Lib.hid (show W4 = (((w.alloc (.cells #[.int .i64 i, .slice (some ⟨w.heap.size + 1 + 1, 0, none⟩) 1 1, .slice (some ⟨w.heap.size + 1 + 1 + 1, 0, none⟩) 1 1] 73)).alloc (.cells #[.int .i64 n] 3)).alloc (.cells #[.slice (some ⟨w.heap.size + 1, 0, none⟩) 1 1] 46)).alloc (.cells #[.int .i64 n, .int .i64 0] 38) from by rw [h4, h3, h2, h1, hc0])
  clear hc0 h1 h2 h3 h4 s1 s2 s3 T1 T2 T3 T4 R1 B2 B3 B4 R4
  go_enter Try.func25, Try.ntmps25
  go_wp2_with fail
  rw [← HW.out]
  exact bodyPost_ret (v := .agg #[.int .i64 i, .slice (some ⟨w.heap.size + 1 + 1, 0, none⟩) 1 1, .slice (some ⟨w.heap.size + 1 + 1 + 1, 0, none⟩) 1 1]) (res_cell (a := 4) rfl rfl (run_loadVar_mid _ w.heap.size 0 73 _ _ RR.out Try.underlying73 rfl size73)) rfl FIN.out
end Go.Proofs.Ytepmealhnnoahaa
