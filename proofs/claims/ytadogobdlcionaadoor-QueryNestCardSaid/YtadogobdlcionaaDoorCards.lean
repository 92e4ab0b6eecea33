/-
  DERIVED. GIVEN WITH THE SEED: THE CARDS: each row of YtadogobdlcionaaDoorRows.lean that lists a variable, with what it lists TIED to the program's text (the seventh form; the later family's looks); each row that meets fmt, with fmt's text TOLD by the authors' own Lean function (tested against real Go, not proved from fmt's source: count such statements apart). THE CARD IS WHAT COUNTS. Prove the row's statement (the work); the ties are given (YtadogobdlcionaaDoorTie.lean); close each card by the builder's one call (the guide's Derived/Test/ToyasCard.lean, 'card_holds'). Laid BY PROGRAM, IN A SANDBOX (cutbox-door.mjs). By AI agents, Wed Nov 11 2026. No macro, syntax, notation, axiom, sorry.
-/
import Derived.Test.YtadogobdlcionaaDoorRows
import GoSem.ClaimSeven
namespace Go.Proofs.YtadogobdlcionaaDoor
namespace Rows

/-- THE TIED CARD OF 'sibyllaw03.QueryNest'. -/
def queryNestCard : Claim7 := { stood := { row := queryNestRow, standIns := [], harness := (true, "b2e06249038c08b1d414ff5b7faf29bb95aec66754bde473edcc94fe1e3bc479"), looks := true }, kinds := [], alts := [], laidByText := true, laidKinds := [.data, .data, .data, .sentinel, .sentinel], laidTests := true, laidLooks := .later }
def QueryNestCardSaid : Prop := Claim7.holds Tryd.pinned (.plain (OpenSpec.ofChange queryNestSpec)) queryNestCard

/-- THE SECOND FORM's CARD OF 'sibyllaw03.QueryNest'. -/
def queryNestUptoCard : Claim7 := { stood := { row := queryNestUptoRow, standIns := [], harness := (true, "b2e06249038c08b1d414ff5b7faf29bb95aec66754bde473edcc94fe1e3bc479"), looks := true }, kinds := [], alts := [], laidByText := true, laidKinds := [.data, .data, .data, .sentinel, .sentinel], laidTests := true, laidLooks := .later }
def QueryNestUptoCardSaid : Prop := Claim7.holds Tryd.pinned (.plain (OpenSpec.upto queryNestSpec)) queryNestUptoCard
end Rows
end Go.Proofs.YtadogobdlcionaaDoor
