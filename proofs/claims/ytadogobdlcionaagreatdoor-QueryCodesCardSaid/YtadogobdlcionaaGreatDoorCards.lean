/-
  DERIVED. GIVEN WITH THE SEED: THE CARDS: each row of YtadogobdlcionaaGreatDoorRows.lean that lists a variable, with what it lists TIED to the program's text (the seventh form; the later family's looks); each row that meets fmt, with fmt's text TOLD by the authors' own Lean function (tested against real Go, not proved from fmt's source: count such statements apart). THE CARD IS WHAT COUNTS. Prove the row's statement (the work); the ties are given (YtadogobdlcionaaGreatDoorTie.lean); close each card by the builder's one call (the guide's Derived/Test/ToyasCard.lean, 'card_holds'). Laid BY PROGRAM, IN A SANDBOX (cutbox-door.mjs). By AI agents, Wed Nov 11 2026. No macro, syntax, notation, axiom, sorry.
-/
import Derived.Test.YtadogobdlcionaaGreatDoorRows
import GoSem.ClaimSeven
namespace Go.Proofs.YtadogobdlcionaaGreatDoor
namespace Rows

/-- THE TIED CARD OF 'sibyllaw03.QueryBack'. -/
def queryBackCard : Claim7 := { stood := { row := queryBackRow, standIns := [], harness := (true, "9eddf8f2305534c29b28eee3b5ecb4303af0ca24f3c8208b7296f7451d988fa5"), looks := true }, kinds := [], alts := [], laidByText := true, laidKinds := [.data, .data, .data, .sentinel, .sentinel], laidTests := true, laidLooks := .later }
def QueryBackCardSaid : Prop := Claim7.holds Tryz.pinned (.plain (OpenSpec.ofChange queryBackSpec)) queryBackCard

/-- THE TIED CARD OF 'sibyllaw03.QueryCodes'. -/
def queryCodesCard : Claim7 := { stood := { row := queryCodesRow, standIns := [], harness := (true, "9eddf8f2305534c29b28eee3b5ecb4303af0ca24f3c8208b7296f7451d988fa5"), looks := true }, kinds := [], alts := [], laidByText := true, laidKinds := [.data, .data, .data, .sentinel, .sentinel], laidTests := true, laidLooks := .later }
def QueryCodesCardSaid : Prop := Claim7.holds Tryz.pinned (.plain (OpenSpec.ofChange queryCodesSpec)) queryCodesCard

/-- THE TIED CARD OF 'sibyllaw03.QueryNames'. -/
def queryNamesCard : Claim7 := { stood := { row := queryNamesRow, standIns := [], harness := (true, "9eddf8f2305534c29b28eee3b5ecb4303af0ca24f3c8208b7296f7451d988fa5"), looks := true }, kinds := [], alts := [], laidByText := true, laidKinds := [.data, .data, .data, .sentinel, .sentinel], laidTests := true, laidLooks := .later }
def QueryNamesCardSaid : Prop := Claim7.holds Tryz.pinned (.plain (OpenSpec.ofChange queryNamesSpec)) queryNamesCard

/-- THE SECOND FORM's CARD OF 'sibyllaw03.QueryBack'. -/
def queryBackUptoCard : Claim7 := { stood := { row := queryBackUptoRow, standIns := [], harness := (true, "9eddf8f2305534c29b28eee3b5ecb4303af0ca24f3c8208b7296f7451d988fa5"), looks := true }, kinds := [], alts := [], laidByText := true, laidKinds := [.data, .data, .data, .sentinel, .sentinel], laidTests := true, laidLooks := .later }
def QueryBackUptoCardSaid : Prop := Claim7.holds Tryz.pinned (.plain (OpenSpec.upto queryBackSpec)) queryBackUptoCard

/-- THE SECOND FORM's CARD OF 'sibyllaw03.QueryCodes'. -/
def queryCodesUptoCard : Claim7 := { stood := { row := queryCodesUptoRow, standIns := [], harness := (true, "9eddf8f2305534c29b28eee3b5ecb4303af0ca24f3c8208b7296f7451d988fa5"), looks := true }, kinds := [], alts := [], laidByText := true, laidKinds := [.data, .data, .data, .sentinel, .sentinel], laidTests := true, laidLooks := .later }
def QueryCodesUptoCardSaid : Prop := Claim7.holds Tryz.pinned (.plain (OpenSpec.upto queryCodesSpec)) queryCodesUptoCard

/-- THE SECOND FORM's CARD OF 'sibyllaw03.QueryNames'. -/
def queryNamesUptoCard : Claim7 := { stood := { row := queryNamesUptoRow, standIns := [], harness := (true, "9eddf8f2305534c29b28eee3b5ecb4303af0ca24f3c8208b7296f7451d988fa5"), looks := true }, kinds := [], alts := [], laidByText := true, laidKinds := [.data, .data, .data, .sentinel, .sentinel], laidTests := true, laidLooks := .later }
def QueryNamesUptoCardSaid : Prop := Claim7.holds Tryz.pinned (.plain (OpenSpec.upto queryNamesSpec)) queryNamesUptoCard
end Rows
end Go.Proofs.YtadogobdlcionaaGreatDoor
