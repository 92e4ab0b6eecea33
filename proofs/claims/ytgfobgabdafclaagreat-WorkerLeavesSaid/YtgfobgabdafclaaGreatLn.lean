/-
  New rings, stores, epochs.
-/
import Derived.Test.YtgfobgabdafclaaGreatLo
import Derived.Test.YtgfobgabdafclaaGreatEp
import Derived.Laws.MakeOwn
namespace Go.Proofs.YtgfobgabdafclaaGreat
open Go.ChangeShapes Go.WideShapes Go.ChangeAt Go.RowKit
set_option linter.unusedVariables false

def z132 : Array Value := #[.int .i64 0, .int .i64 0, .int .i64 0, .int .i64 0, .int .i64 0, .int .i64 0, .int .i64 0, .int .i64 0, .int .i64 0, .int .i64 0, .int .i64 0, .slice none 0 0, .int .i64 0, .bool false, .bool false]
theorem made132 (n k j : Nat) (hk : k < n) (hj : j < 15) : (madeCells z132 (n * 15))[k * 15 + j]? = some (z132[j]!) := by
  have h : k * 15 + j < n * 15 := by omega
  have e : (k * 15 + j) % 15 = j := by omega
  have hz : z132.size = 15 := rfl
  simp [madeCells, h, hz, e]
set_option maxRecDepth 100000 in
theorem cring_new (w : World) {n : Nat} (h1 : 1 ≤ n) (h2 : n ≤ 4096) : Calls Tryz.prog 61 #[.int .i64 (n : Int)] w fun e w' => e = .returned (.pointer (some ⟨w.heap.size + 1, 0, none⟩)) ∧ CR w' (w.heap.size + 1) w.heap.size n 0 (fun _ => none) ∧ Turn (fun _ => False) w w' := by
  have hinfo : (Tryz.prog.info? 227).map (fun i => (i.zero, i.size, i.bytes)) = some (some (.agg z132), 15, 136) := by kernel_rfl
  obtain ⟨i, hi, he⟩ := Option.map_eq_some_iff.mp hinfo
  simp only [Prod.mk.injEq] at he
  obtain ⟨hz, hs, hb⟩ := he
  have hmk : ∀ w, (Instr.makeSlice 214 (.int .i64 (n : Int)) (.int .i64 (n : Int))).run Tryz.prog w = .ok (.slice (some ⟨w.heap.size, 0, none⟩) n n) (w.alloc (.cells (madeCells z132 (n * 15)) 227)) := fun w => by
    have := run_make (P := Tryz.prog) w 214 227 i (.agg z132) Tryz.underlying214 hi hz .i64 .i64 (n : Int) (n : Int) (by omega) (by omega) (by rw [hb]; omega) (by omega)
    rw [hs] at this
    simpa [Value.cells] using this
  clear hinfo hi hz hs hb
  have c1 : ¬ (n : Int) < 1 := by omega
  have c2 : ¬ (4096 : Int) < (n : Int) := by omega
  go_enter Tryz.func61, Tryz.ntmps61
  go_wp2
  go_ret
  have T1 : Turn (fun _ => False) w (w.alloc (.cells (madeCells z132 (n * 15)) 227)) := (Turn.refl _ w).alloc _
  have T2 : Turn (fun _ => False) (w.alloc (.cells (madeCells z132 (n * 15)) 227)) ((w.alloc (.cells (madeCells z132 (n * 15)) 227)).alloc (.cells #[.slice (some ⟨w.heap.size, 0, none⟩) n n, .int .i64 0, .int .i64 0] 216)) := (Turn.refl _ _).alloc _
  have B1 : Blk (w.alloc (.cells (madeCells z132 (n * 15)) 227)) w.heap.size 227 := by
    have := Blk.new w (madeCells z132 (n * 15)).toList 227
    simpa using this
  have R1 := range_new w (madeCells z132 (n * 15)).toList 227
  have B2 := Blk.new (w.alloc (.cells (madeCells z132 (n * 15)) 227)) [.slice (some ⟨w.heap.size, 0, none⟩) n n, .int .i64 0, .int .i64 0] 216
  have R2 := range_new (w.alloc (.cells (madeCells z132 (n * 15)) 227)) [.slice (some ⟨w.heap.size, 0, none⟩) n n, .int .i64 0, .int .i64 0] 216
  rw [World.size_alloc] at B2 R2
  rw [Array.toArray_toList] at R1
  have R3 := range_turn R1 T2 (fun f => f)
  refine ⟨rfl, ⟨h1, h2, by omega, B2, B1.turn T2 (fun f => f), R2 0 _ rfl, R2 1 _ rfl, ⟨0, R2 2 _ rfl⟩, fun i hi => by simp at hi, fun i cs hi => (by cases hi), fun i h3 h4 => ?_⟩, T1.trans T2⟩
  have hin : i < n := by omega
  rw [Nat.mod_eq_of_lt hin]
  have key : ∀ j, j < 15 → ((w.alloc (.cells (madeCells z132 (n * 15)) 227)).alloc (.cells #[.slice (some ⟨w.heap.size, 0, none⟩) n n, .int .i64 0, .int .i64 0] 216)).cell? ⟨w.heap.size, i * 15 + j, none⟩ = some (z132[j]!) := fun j hj => by
    have := R3 (i * 15 + j) (z132[j]!) (by rw [Array.getElem?_toList]; exact made132 n i j hin hj)
    rwa [Nat.zero_add] at this
  refine ⟨fun j u hu => ?_, key 14 (by decide)⟩
  have hj : j < 14 := (List.getElem?_eq_some_iff.1 hu).1
  rw [key j (by omega)]
  have hj' : j = 0 ∨ j = 1 ∨ j = 2 ∨ j = 3 ∨ j = 4 ∨ j = 5 ∨ j = 6 ∨ j = 7 ∨ j = 8 ∨ j = 9 ∨ j = 10 ∨ j = 11 ∨ j = 12 ∨ j = 13 := by omega
  rcases hj' with rfl | rfl | rfl | rfl | rfl | rfl | rfl | rfl | rfl | rfl | rfl | rfl | rfl | rfl <;> exact hu

def z137 : Array Value := #[.slice none 0 0, .slice none 0 0, .slice none 0 0, .slice none 0 0, .bool false]
theorem made137 (n k j : Nat) (hk : k < n) (hj : j < 5) : (madeCells z137 (n * 5))[k * 5 + j]? = some (z137[j]!) := by
  have h : k * 5 + j < n * 5 := by omega
  have e : (k * 5 + j) % 5 = j := by omega
  have hz : z137.size = 5 := rfl
  simp [madeCells, h, hz, e]
set_option maxRecDepth 100000 in
theorem oring_new (w : World) {n : Nat} (h1 : 1 ≤ n) (h2 : n ≤ 4096) : Calls Tryz.prog 62 #[.int .i64 (n : Int)] w fun e w' => e = .returned (.pointer (some ⟨w.heap.size + 1, 0, none⟩)) ∧ OR w' (w.heap.size + 1) w.heap.size n 0 (fun _ => none) ∧ Turn (fun _ => False) w w' := by
  have hinfo : (Tryz.prog.info? 331).map (fun i => (i.zero, i.size, i.bytes)) = some (some (.agg z137), 5, 104) := by kernel_rfl
  obtain ⟨i, hi, he⟩ := Option.map_eq_some_iff.mp hinfo
  simp only [Prod.mk.injEq] at he
  obtain ⟨hz, hs, hb⟩ := he
  have hmk : ∀ w, (Instr.makeSlice 217 (.int .i64 (n : Int)) (.int .i64 (n : Int))).run Tryz.prog w = .ok (.slice (some ⟨w.heap.size, 0, none⟩) n n) (w.alloc (.cells (madeCells z137 (n * 5)) 331)) := fun w => by
    have := run_make (P := Tryz.prog) w 217 331 i (.agg z137) Tryz.underlying217 hi hz .i64 .i64 (n : Int) (n : Int) (by omega) (by omega) (by rw [hb]; omega) (by omega)
    rw [hs] at this
    simpa [Value.cells] using this
  clear hinfo hi hz hs hb
  have c1 : ¬ (n : Int) < 1 := by omega
  have c2 : ¬ (4096 : Int) < (n : Int) := by omega
  go_enter Tryz.func62, Tryz.ntmps62
  go_wp2
  go_ret
  have T1 : Turn (fun _ => False) w (w.alloc (.cells (madeCells z137 (n * 5)) 331)) := (Turn.refl _ w).alloc _
  have T2 : Turn (fun _ => False) (w.alloc (.cells (madeCells z137 (n * 5)) 331)) ((w.alloc (.cells (madeCells z137 (n * 5)) 331)).alloc (.cells #[.slice (some ⟨w.heap.size, 0, none⟩) n n, .int .i64 0, .int .i64 0] 219)) := (Turn.refl _ _).alloc _
  have B1 : Blk (w.alloc (.cells (madeCells z137 (n * 5)) 331)) w.heap.size 331 := by
    have := Blk.new w (madeCells z137 (n * 5)).toList 331
    simpa using this
  have R1 := range_new w (madeCells z137 (n * 5)).toList 331
  have B2 := Blk.new (w.alloc (.cells (madeCells z137 (n * 5)) 331)) [.slice (some ⟨w.heap.size, 0, none⟩) n n, .int .i64 0, .int .i64 0] 219
  have R2 := range_new (w.alloc (.cells (madeCells z137 (n * 5)) 331)) [.slice (some ⟨w.heap.size, 0, none⟩) n n, .int .i64 0, .int .i64 0] 219
  rw [World.size_alloc] at B2 R2
  rw [Array.toArray_toList] at R1
  have R3 := range_turn R1 T2 (fun f => f)
  refine ⟨rfl, ⟨h1, h2, by omega, B2, B1.turn T2 (fun f => f), R2 0 _ rfl, R2 1 _ rfl, ⟨0, R2 2 _ rfl⟩, fun i hi => by simp at hi, fun i cs hi => (by cases hi), fun i h3 h4 => ?_⟩, T1.trans T2⟩
  have hin : i < n := by omega
  rw [Nat.mod_eq_of_lt hin]
  have key : ∀ j, j < 5 → ((w.alloc (.cells (madeCells z137 (n * 5)) 331)).alloc (.cells #[.slice (some ⟨w.heap.size, 0, none⟩) n n, .int .i64 0, .int .i64 0] 219)).cell? ⟨w.heap.size, i * 5 + j, none⟩ = some (z137[j]!) := fun j hj => by
    have := R3 (i * 5 + j) (z137[j]!) (by rw [Array.getElem?_toList]; exact made137 n i j hin hj)
    rwa [Nat.zero_add] at this
  refine ⟨fun j u hu => ?_, key 4 (by decide)⟩
  have hj : j < 4 := (List.getElem?_eq_some_iff.1 hu).1
  rw [key j (by omega)]
  have hj' : j = 0 ∨ j = 1 ∨ j = 2 ∨ j = 3 := by omega
  rcases hj' with rfl | rfl | rfl | rfl <;> exact hu

theorem infoS : (Tryz.prog.info? 359).map (fun i => (i.zero, i.size, i.bytes)) = some (some (.agg #[.int .i64 0, .int .i64 0, .int .i64 0, .int .i64 0, .int .i64 0, .int .i64 0, .bool false, .int .i64 0, .int .i64 0]), 9, 72) := by kernel_rfl
theorem infoE : (Tryz.prog.info? 372).map (fun i => (i.zero, i.size, i.bytes)) = some (some (.slice none 0 0), 1, 24) := by kernel_rfl
set_option maxRecDepth 100000 in
theorem store_new (w : World) {n : Int} (h1 : 1 ≤ n) (h2 : n ≤ 4096) : Calls Tryz.prog 59 #[.int .i64 n] w fun e w' => (∃ p, e = .returned (.pointer (some p))) ∧ Turn (fun _ => False) w w' := by
  obtain ⟨m, rfl⟩ : ∃ m : Nat, n = (m : Int) := ⟨n.toNat, by omega⟩
  obtain ⟨i, hi, hz, hs, hb⟩ := info_parts infoS
  have hmk : ∀ w, ∃ cs, (Instr.makeSlice 207 (.int .i64 (m : Int)) (.int .i64 (m : Int))).run Tryz.prog w = .ok (.slice (some ⟨w.heap.size, 0, none⟩) m m) (w.alloc (.cells cs 359)) := fun w => by
    have := run_make (P := Tryz.prog) w 207 359 i _ Tryz.underlying207 hi hz .i64 .i64 (m : Int) (m : Int) (by omega) (by omega) (by rw [hb]; omega) (by omega)
    exact ⟨_, by simpa [Value.cells] using this⟩
  obtain ⟨cs, hmk⟩ := hmk w
  clear hi hz hs hb
  have c1 : ¬ (m : Int) < 1 := by omega
  have c2 : ¬ (4096 : Int) < (m : Int) := by omega
  go_enter Tryz.func59, Tryz.ntmps59
  go_wp2
  go_ret
  exact ⟨⟨_, rfl⟩, ((Turn.refl _ w).alloc _).alloc _⟩
end Go.Proofs.YtgfobgabdafclaaGreat
