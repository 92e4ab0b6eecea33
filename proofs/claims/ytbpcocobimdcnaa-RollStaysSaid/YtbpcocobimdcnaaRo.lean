/-
  Two tables held against each other, of layer 15: contracts for the walks.
-/
import Derived.Test.YtbpcocobimdcnaaRu
namespace Go.Proofs.Ytbpcocobimdcnaa
open Go.ChangeShapes Go.WideShapes Go.ChangeAt Go.RowKit
set_option linter.unusedVariables false

def ZRel (w : World) (v5 : Value) (wr : World) : Prop := v5 = .int .i64 0 ∧ wr = w
set_option maxRecDepth 100000 in
theorem sameRules_nil (w : World) : Calls Try.prog 37 #[.slice none 0 0, .slice none 0 0] w fun e w' => e = .returned (.bool true) ∧ w = w' := by
  have R0 : ZRel w (.int .i64 0) w := ⟨rfl, rfl⟩
  go_enter Try.func37, Try.ntmps37
  go_wp2_with fail
  go_loopg [5] 0 (fun gh v5 wr => ZRel w v5 wr)
  case atStart => exact R0
  case round =>
    clear R0
    obtain ⟨rfl, rfl⟩ := hrel
    go_wp2
    go_ret
    exact ⟨rfl, rfl⟩
def SRel (w1 : World) (N : Nat) (gh : Nat) (v5 : Value) (wr : World) : Prop :=
  ∃ i : Nat, v5 = .int .i64 (i : Int) ∧ i ≤ N ∧ gh = N - i ∧ Turn (fun _ => False) w1 wr
def Z9 (wo : World) (v9 : Value) (wr : World) : Prop := v9 = .int .i64 0 ∧ wr = wo
set_option maxRecDepth 100000 in
set_option maxHeartbeats 2000000 in
theorem sameTab_is {w : World} {cs1 cs2 : Value} {o : Option Int} {win : Int} (h1 : PlainTab 0 w cs1 o) (h2 : PlainTab 0 w cs2 o) :
    Calls Try.prog 25 #[.agg #[cs1, .int .i64 win, .bool false], .agg #[cs2, .int .i64 win, .bool false]] w fun e w' => e = .returned (.bool true) ∧ Turn (fun _ => False) w w' := by
  have SR := Lib.hid sameRules_nil
  have hww : (win != win) = false := by simp
  cases o with
  | none =>
    obtain rfl : cs1 = .slice none 0 0 := h1
    obtain rfl : cs2 = .slice none 0 0 := h2
    have T2 : Turn (fun _ => False) w ((w.alloc (.cells #[.slice none 0 0, .int .i64 win, .bool false] 38)).alloc (.cells #[.slice none 0 0, .int .i64 win, .bool false] 38)) := ((Turn.refl _ w).alloc _).alloc _
    have R0 : ZRel ((w.alloc (.cells #[.slice none 0 0, .int .i64 win, .bool false] 38)).alloc (.cells #[.slice none 0 0, .int .i64 win, .bool false] 38)) (.int .i64 0) ((w.alloc (.cells #[.slice none 0 0, .int .i64 win, .bool false] 38)).alloc (.cells #[.slice none 0 0, .int .i64 win, .bool false] 38)) := ⟨rfl, rfl⟩
    have TT := Lib.hid T2
    clear T2
    go_enter Try.func25, Try.ntmps25
    go_wp2_with fail
    go_loopg [5] 0 (fun gh v5 wr => ZRel ((w.alloc (.cells #[.slice none 0 0, .int .i64 win, .bool false] 38)).alloc (.cells #[.slice none 0 0, .int .i64 win, .bool false] 38)) v5 wr)
    case atStart => exact R0
    case round =>
      clear R0
      obtain ⟨rfl, rfl⟩ := hrel
      go_wp2
      go_ret
      exact ⟨rfl, TT.out⟩
  | some t =>
    obtain ⟨b1, c1, _, rfl, x0, x1, x2, x3⟩ := h1
    obtain ⟨b2, c2, _, rfl, y0, y1, y2, y3⟩ := h2
    have htt : (t != t) = false := by simp
    have T1 : Turn (fun _ => False) w (w.alloc (.cells #[.slice (some ⟨b1, 0, none⟩) 1 c1, .int .i64 win, .bool false] 38)) := (Turn.refl _ w).alloc _
    have z1 : (w.alloc (.cells #[.slice (some ⟨b1, 0, none⟩) 1 c1, .int .i64 win, .bool false] 38)).heap.size = w.heap.size + 1 := by simp
    have p := World.cell?_alloc_new w #[.slice (some ⟨b1, 0, none⟩) 1 c1, .int .i64 win, .bool false] 38
    have q := World.cell?_alloc_new (w.alloc (.cells #[.slice (some ⟨b1, 0, none⟩) 1 c1, .int .i64 win, .bool false] 38)) #[.slice (some ⟨b2, 0, none⟩) 1 c2, .int .i64 win, .bool false] 38
    rw [z1] at q
    obtain ⟨W, hW⟩ : ∃ W, W = (w.alloc (.cells #[.slice (some ⟨b1, 0, none⟩) 1 c1, .int .i64 win, .bool false] 38)).alloc (.cells #[.slice (some ⟨b2, 0, none⟩) 1 c2, .int .i64 win, .bool false] 38) := ⟨_, rfl⟩
    have T2 : Turn (fun _ => False) (w.alloc (.cells #[.slice (some ⟨b1, 0, none⟩) 1 c1, .int .i64 win, .bool false] 38)) W := by rw [hW]; exact (Turn.refl _ _).alloc _
    have T := T1.trans T2
    have zW : W.heap.size = w.heap.size + 2 := by rw [hW]; simp
    have p0 := T2.cell (fun f => f) (p 0)
    have p1 := T2.cell (fun f => f) (p 1)
    have p2 := T2.cell (fun f => f) (p 2)
    rw [← hW] at q
    have q0 : W.cell? ⟨w.heap.size + 1, 0, none⟩ = some (.slice (some ⟨b2, 0, none⟩) 1 c2) := q 0
    have q1 : W.cell? ⟨w.heap.size + 1, 1, none⟩ = some (.int .i64 win) := q 1
    have q2 : W.cell? ⟨w.heap.size + 1, 2, none⟩ = some (.bool false) := q 2
    have x0 := T.cell (fun f => f) x0
    have x1 := T.cell (fun f => f) x1
    have x2 := T.cell (fun f => f) x2
    have x3 := T.cell (fun f => f) x3
    have y0 := T.cell (fun f => f) y0
    have y1 := T.cell (fun f => f) y1
    have y2 := T.cell (fun f => f) y2
    have y3 := T.cell (fun f => f) y3
    have TT := Lib.hid T
    have R0 : SRel W 1 1 (.int .i64 0) W := ⟨0, rfl, by omega, rfl, Turn.refl _ _⟩
    clear p q T1 T2 T z1
    go_enter Try.func25, Try.ntmps25
    go_wp2_with fail
    rw [← hW]
    clear hW
    go_wp2_with fail
    go_loopg [5] 1 (fun gh v5 wr => SRel W 1 gh v5 wr)
    case atStart => exact R0
    case round =>
      clear R0
      obtain ⟨i, rfl, hi, hgh, Tr⟩ := hrel
      have p0 := Tr.cell (fun f => f) p0
      have q0 := Tr.cell (fun f => f) q0
      have x0 := Tr.cell (fun f => f) x0
      have x1 := Tr.cell (fun f => f) x1
      have x2 := Tr.cell (fun f => f) x2
      have x3 := Tr.cell (fun f => f) x3
      have y0 := Tr.cell (fun f => f) y0
      have y1 := Tr.cell (fun f => f) y1
      have y2 := Tr.cell (fun f => f) y2
      have y3 := Tr.cell (fun f => f) y3
      rcases Nat.eq_zero_or_pos i with rfl | hpos
      · skip
        have FIN := Lib.hid (fun (V : World) (t : Turn (fun b => wr.heap.size ≤ b) wr V) => show SRel W 1 0 (.int .i64 ((1 : Nat) : Int)) V from ⟨1, rfl, Nat.le_refl _, rfl, Tr.comp t (fun k hk e => by have := Tr.size; omega)⟩)
        clear hi Tr
        have q0 := past (o := .cells #[.int .i64 t, .bool false, .slice none 0 0, .slice none 0 0] 65) q0
        have y0 := past (o := .cells #[.int .i64 t, .bool false, .slice none 0 0, .slice none 0 0] 65) y0
        have y1 := past (o := .cells #[.int .i64 t, .bool false, .slice none 0 0, .slice none 0 0] 65) y1
        have y2 := past (o := .cells #[.int .i64 t, .bool false, .slice none 0 0, .slice none 0 0] 65) y2
        have y3 := past (o := .cells #[.int .i64 t, .bool false, .slice none 0 0, .slice none 0 0] 65) y3
        go_wp2_with fail
        have R9 : ∀ V : World, Z9 V (.int .i64 0) V := fun V => ⟨rfl, rfl⟩
        obtain ⟨V, hV⟩ : ∃ V, V = (wr.alloc (.cells #[.int .i64 t, .bool false, .slice none 0 0, .slice none 0 0] 65)).alloc (.cells #[.int .i64 t, .bool false, .slice none 0 0, .slice none 0 0] 65) := ⟨_, rfl⟩
        have e := World.cell?_alloc_new wr #[.int .i64 t, .bool false, .slice none 0 0, .slice none 0 0] 65
        have f := World.cell?_alloc_new (wr.alloc (.cells #[.int .i64 t, .bool false, .slice none 0 0, .slice none 0 0] 65)) #[.int .i64 t, .bool false, .slice none 0 0, .slice none 0 0] 65
        rw [World.size_alloc] at f
        have e0 := past (o := .cells #[.int .i64 t, .bool false, .slice none 0 0, .slice none 0 0] 65) (e 0)
        have e1 := past (o := .cells #[.int .i64 t, .bool false, .slice none 0 0, .slice none 0 0] 65) (e 1)
        have e3 := past (o := .cells #[.int .i64 t, .bool false, .slice none 0 0, .slice none 0 0] 65) (e 3)
        have F := Lib.hid (FIN.out ((wr.alloc (.cells #[.int .i64 t, .bool false, .slice none 0 0, .slice none 0 0] 65)).alloc (.cells #[.int .i64 t, .bool false, .slice none 0 0, .slice none 0 0] 65)) (((Turn.refl _ wr).alloc _).alloc _))
        rw [← hV] at e0 e1 e3 f F ⊢
        have f0 : V.cell? ⟨wr.heap.size + 1, 0, none⟩ = some (.int .i64 t) := f 0
        have f1 : V.cell? ⟨wr.heap.size + 1, 1, none⟩ = some (.bool false) := f 1
        have f3 : V.cell? ⟨wr.heap.size + 1, 3, none⟩ = some (.slice none 0 0) := f 3
        clear hV e f FIN q0 y0 y1 y2 y3 x0 x1 x2 x3 p0
        generalize wr.heap.size = eb at *
        refine (SR.out _).mono ?_
        rintro en V1 ⟨rfl, rfl⟩
        go_wp2_with fail
        go_loopg [9] 0 (fun gh v9 wx => Z9 V v9 wx)
        case atStart => exact R9 V
        case round =>
          obtain ⟨rfl, rfl⟩ := hrel
          clear R9
          go_wp2_with fail
          go_roundg 0
          case measure => omega
          case rel => exact F.out
      · obtain rfl : i = 1 := by omega
        have F := Lib.hid (TT.out.trans Tr)
        clear Tr hgh hi hpos
        go_wp2
        go_ret
        exact ⟨rfl, F.out⟩
end Go.Proofs.Ytbpcocobimdcnaa
