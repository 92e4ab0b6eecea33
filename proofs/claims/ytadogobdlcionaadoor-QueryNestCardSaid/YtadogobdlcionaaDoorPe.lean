/-
  A number is parsed.
-/
import Derived.Test.YtadogobdlcionaaDoorPd
namespace Go.Proofs.YtadogobdlcionaaDoor
open Go.ChangeShapes Go.WideShapes Go.ChangeAt Go.RowKit
set_option linter.unusedVariables false
/-- What the variable strconv.ErrRange holds is an interface value. -/
def ErrAt (w : World) : Prop := 3 ≤ w.heap.size ∧ ∃ tp p, w.cell? ⟨2, 0, none⟩ = some (.iface tp p)
theorem ErrAt.turn {S : Nat → Prop} {w w' : World} (h : ErrAt w) (T : Turn S w w') (hs : ¬ S 2) : ErrAt w' := by
  obtain ⟨h2, tp, p, hp⟩ := h
  exact ⟨Nat.le_trans h2 T.size, tp, p, T.cell hs hp⟩
theorem parse_ok (w : World) {t : ByteArray} {c : UInt8} {r : List UInt8} (hD : t.data.toList = c :: r) (hd : ∀ x ∈ c :: r, isDigit x = true) (hv : decV 0 (c :: r) < 9223372036854775808) (hs : t.size ≤ 140737488355328) :
    Calls Tryd.prog 56 #[.string t, .int .i64 10, .int .i64 64] w fun e w' => e = .returned (.tuple #[.int .i64 (decV 0 (c :: r) : Int), .nilIface]) ∧ Turn (fun _ => False) w w' := by
  have hp := parseI_digits hd
  rw [if_pos hv, ← hD] at hp
  refine (Tryd.strconv_ParseInt_10_at64_ok t (by omega) _ hp w).mono ?_
  rintro e w' ⟨rfl, h⟩
  rw [hD]
  refine ⟨rfl, ?_⟩
  rcases h with rfl | ⟨t', rfl⟩
  · exact Turn.refl _ _
  · exact Turn.of_below (Lib.bytesWorld_below w 5 t')
theorem parse_no (w : World) {t : ByteArray} {c : UInt8} {r : List UInt8} (hD : t.data.toList = c :: r) (hd : ∀ x ∈ c :: r, isDigit x = true) (hv : ¬ decV 0 (c :: r) < 9223372036854775808) (hs : t.size ≤ 140737488355328) (hE : ErrAt w) :
    Calls Tryd.prog 56 #[.string t, .int .i64 10, .int .i64 64] w fun e w' => (∃ v N, e = .returned (.tuple #[.int .i64 v, .iface 132 (.pointer (some ⟨N, 0, none⟩))])) ∧ Turn (fun _ => False) w w' := by
  have hp := parseI_digits hd
  rw [if_neg hv, ← hD] at hp
  obtain ⟨h2, tp, p, he⟩ := hE
  refine (Tryd.strconv_ParseInt_10_at64_range t (by omega) hp _ w he (.inr ⟨_, _, rfl⟩)).mono ?_
  rintro e w' ⟨N, rfl, _, _, B⟩
  exact ⟨⟨_, _, rfl⟩, Turn.of_below B⟩
end Go.Proofs.YtadogobdlcionaaDoor
