/-
  No cell of these rows narrows 'for every input' (looked for: loops, veiled, ifaces, maps, wideKeys, modest, calm, conditions, laid).
  DERIVED. THE GIVEN ROWS OF THIS SEAT. 10 by the template 'for every input the law returns true; each argument reads behind the call as it read before'; 0 by the template 'total and deterministic' (their statements: YteejfidkomhblaaTotals.lean).
  GIVEN WITH THE SEED: the statements are not yours to turn. If you find one false, say at which input.
  Laid BY PROGRAM, IN A SANDBOX (cutbox-rows.mjs): the forced cells as the released guide's own fill.sh prints them over the translation 5304ec412669b42a… (all of the seat's roots in one cut). By AI agents, Wed Nov 11 2026. No macro, syntax, notation, axiom, sorry.
-/
import Derived.Test.YteejfidkomhblaaChecked
import GoSem.Claim
import GoSem.ClaimJoined
import GoSem.ClaimMapViews
import Derived.JoinedTies
import Derived.KernelRfl
namespace Go.Proofs.Yteejfidkomhblaa
/- THE CELL 'sum', in the pinned program and in every row, IS THE sha256 OF THE DUMP (.gsa) THAT YteejfidkomhblaaProg.lean LOADS. Nothing in Lean hashes anything: it is a label: what it is worth is what the hold of that sum in a sandbox is worth. -/
noncomputable def Try.pinned : Pinned := { name := "yteejfidkomhblaa", sum := "5304ec412669b42a79133efc150bf98e2f69f6235e878ba0b425efc0d4b7f47f", checked := Try.checked }
namespace Rows
def none {H : Type} : Left H := { results := [], args := [] }

/-- 'sibyllaw01.NumTells': WHATEVER THE INPUT: true; the input reads as it did. -/
def numTellsSpec : ChangeSpec := { name := "numTells", fn := fun _ => fun
  | [d1, d2, d3] => { results := [.lit (.bool true)], args := [d1, d2, d3] }
  | _ => none }
def numTellsRow : OpenClaim := { program := "yteejfidkomhblaa", sum := "5304ec412669b42a79133efc150bf98e2f69f6235e878ba0b425efc0d4b7f47f", func := "sibyl/sibyllaw01.NumTells", spec := "numTells", apart := false }
def NumTellsSaid : Prop := numTellsRow.holds Try.pinned (OpenSpec.ofChange numTellsSpec)

/-- ITS FALSE NEIGHBOUR: 'it returns false'. Refute it at one input. -/
def numTellsWrong : ChangeSpec := { name := "numTells", fn := fun _ => fun
  | [d1, d2, d3] => { results := [.lit (.bool false)], args := [d1, d2, d3] }
  | _ => none }
def NumTellsWrongFalsely : Prop := numTellsRow.holds Try.pinned (OpenSpec.ofChange numTellsWrong)

/-- 'sibyllaw01.NumDivides': WHATEVER THE INPUT: true; the input reads as it did. -/
def numDividesSpec : ChangeSpec := { name := "numDivides", fn := fun _ => fun
  | [d1, d2] => { results := [.lit (.bool true)], args := [d1, d2] }
  | _ => none }
def numDividesRow : OpenClaim := { program := "yteejfidkomhblaa", sum := "5304ec412669b42a79133efc150bf98e2f69f6235e878ba0b425efc0d4b7f47f", func := "sibyl/sibyllaw01.NumDivides", spec := "numDivides", apart := false }
def NumDividesSaid : Prop := numDividesRow.holds Try.pinned (OpenSpec.ofChange numDividesSpec)

/-- ITS FALSE NEIGHBOUR: 'it returns false'. Refute it at one input. -/
def numDividesWrong : ChangeSpec := { name := "numDivides", fn := fun _ => fun
  | [d1, d2] => { results := [.lit (.bool false)], args := [d1, d2] }
  | _ => none }
def NumDividesWrongFalsely : Prop := numDividesRow.holds Try.pinned (OpenSpec.ofChange numDividesWrong)

/-- 'sibyllaw01.NumRing': WHATEVER THE INPUT: true; the input reads as it did. -/
def numRingSpec : ChangeSpec := { name := "numRing", fn := fun _ => fun
  | [d] => { results := [.lit (.bool true)], args := [d] }
  | _ => none }
def numRingRow : OpenClaim := { program := "yteejfidkomhblaa", sum := "5304ec412669b42a79133efc150bf98e2f69f6235e878ba0b425efc0d4b7f47f", func := "sibyl/sibyllaw01.NumRing", spec := "numRing", apart := false }
def NumRingSaid : Prop := numRingRow.holds Try.pinned (OpenSpec.ofChange numRingSpec)

/-- ITS FALSE NEIGHBOUR: 'it returns false'. Refute it at one input. -/
def numRingWrong : ChangeSpec := { name := "numRing", fn := fun _ => fun
  | [d] => { results := [.lit (.bool false)], args := [d] }
  | _ => none }
def NumRingWrongFalsely : Prop := numRingRow.holds Try.pinned (OpenSpec.ofChange numRingWrong)

/-- 'sibyllaw01.NumTests': WHATEVER THE INPUT: true; the input reads as it did. -/
def numTestsSpec : ChangeSpec := { name := "numTests", fn := fun _ => fun
  | [d1, d2] => { results := [.lit (.bool true)], args := [d1, d2] }
  | _ => none }
def numTestsRow : OpenClaim := { program := "yteejfidkomhblaa", sum := "5304ec412669b42a79133efc150bf98e2f69f6235e878ba0b425efc0d4b7f47f", func := "sibyl/sibyllaw01.NumTests", spec := "numTests", apart := false }
def NumTestsSaid : Prop := numTestsRow.holds Try.pinned (OpenSpec.ofChange numTestsSpec)

/-- ITS FALSE NEIGHBOUR: 'it returns false'. Refute it at one input. -/
def numTestsWrong : ChangeSpec := { name := "numTests", fn := fun _ => fun
  | [d1, d2] => { results := [.lit (.bool false)], args := [d1, d2] }
  | _ => none }
def NumTestsWrongFalsely : Prop := numTestsRow.holds Try.pinned (OpenSpec.ofChange numTestsWrong)

/-- 'sibyllaw01.NumClamps': WHATEVER THE INPUT: true; the input reads as it did. -/
def numClampsSpec : ChangeSpec := { name := "numClamps", fn := fun _ => fun
  | [d1, d2] => { results := [.lit (.bool true)], args := [d1, d2] }
  | _ => none }
def numClampsRow : OpenClaim := { program := "yteejfidkomhblaa", sum := "5304ec412669b42a79133efc150bf98e2f69f6235e878ba0b425efc0d4b7f47f", func := "sibyl/sibyllaw01.NumClamps", spec := "numClamps", apart := false }
def NumClampsSaid : Prop := numClampsRow.holds Try.pinned (OpenSpec.ofChange numClampsSpec)

/-- ITS FALSE NEIGHBOUR: 'it returns false'. Refute it at one input. -/
def numClampsWrong : ChangeSpec := { name := "numClamps", fn := fun _ => fun
  | [d1, d2] => { results := [.lit (.bool false)], args := [d1, d2] }
  | _ => none }
def NumClampsWrongFalsely : Prop := numClampsRow.holds Try.pinned (OpenSpec.ofChange numClampsWrong)

/-- 'sibyllaw01.NumSigns': WHATEVER THE INPUT: true; the input reads as it did. -/
def numSignsSpec : ChangeSpec := { name := "numSigns", fn := fun _ => fun
  | [d1, d2] => { results := [.lit (.bool true)], args := [d1, d2] }
  | _ => none }
def numSignsRow : OpenClaim := { program := "yteejfidkomhblaa", sum := "5304ec412669b42a79133efc150bf98e2f69f6235e878ba0b425efc0d4b7f47f", func := "sibyl/sibyllaw01.NumSigns", spec := "numSigns", apart := false }
def NumSignsSaid : Prop := numSignsRow.holds Try.pinned (OpenSpec.ofChange numSignsSpec)

/-- ITS FALSE NEIGHBOUR: 'it returns false'. Refute it at one input. -/
def numSignsWrong : ChangeSpec := { name := "numSigns", fn := fun _ => fun
  | [d1, d2] => { results := [.lit (.bool false)], args := [d1, d2] }
  | _ => none }
def NumSignsWrongFalsely : Prop := numSignsRow.holds Try.pinned (OpenSpec.ofChange numSignsWrong)

/-- 'sibyllaw16.RouteTells': WHATEVER THE INPUT: true; the input reads as it did. -/
def routeTellsSpec : ChangeSpec := { name := "routeTells", fn := fun _ => fun
  | [d1, d2] => { results := [.lit (.bool true)], args := [d1, d2] }
  | _ => none }
def routeTellsRow : OpenClaim := { program := "yteejfidkomhblaa", sum := "5304ec412669b42a79133efc150bf98e2f69f6235e878ba0b425efc0d4b7f47f", func := "sibyl/sibyllaw16.RouteTells", spec := "routeTells", unfollowed := true, recurses := true, apart := false }
def RouteTellsSaid : Prop := routeTellsRow.holds Try.pinned (OpenSpec.ofChange routeTellsSpec)

/-- ITS FALSE NEIGHBOUR: 'it returns false'. Refute it at one input. -/
def routeTellsWrong : ChangeSpec := { name := "routeTells", fn := fun _ => fun
  | [d1, d2] => { results := [.lit (.bool false)], args := [d1, d2] }
  | _ => none }
def RouteTellsWrongFalsely : Prop := routeTellsRow.holds Try.pinned (OpenSpec.ofChange routeTellsWrong)

/-- 'sibyllaw16.RouteApart': WHATEVER THE INPUT: true; the input reads as it did. -/
def routeApartSpec : ChangeSpec := { name := "routeApart", fn := fun _ => fun
  | [d1, d2] => { results := [.lit (.bool true)], args := [d1, d2] }
  | _ => none }
def routeApartRow : OpenClaim := { program := "yteejfidkomhblaa", sum := "5304ec412669b42a79133efc150bf98e2f69f6235e878ba0b425efc0d4b7f47f", func := "sibyl/sibyllaw16.RouteApart", spec := "routeApart", unfollowed := true, recurses := true, apart := false }
def RouteApartSaid : Prop := routeApartRow.holds Try.pinned (OpenSpec.ofChange routeApartSpec)

/-- ITS FALSE NEIGHBOUR: 'it returns false'. Refute it at one input. -/
def routeApartWrong : ChangeSpec := { name := "routeApart", fn := fun _ => fun
  | [d1, d2] => { results := [.lit (.bool false)], args := [d1, d2] }
  | _ => none }
def RouteApartWrongFalsely : Prop := routeApartRow.holds Try.pinned (OpenSpec.ofChange routeApartWrong)

/-- 'sibyllaw16.RouteWithin': WHATEVER THE INPUT: true; the input reads as it did. -/
def routeWithinSpec : ChangeSpec := { name := "routeWithin", fn := fun _ => fun
  | [d1, d2] => { results := [.lit (.bool true)], args := [d1, d2] }
  | _ => none }
def routeWithinRow : OpenClaim := { program := "yteejfidkomhblaa", sum := "5304ec412669b42a79133efc150bf98e2f69f6235e878ba0b425efc0d4b7f47f", func := "sibyl/sibyllaw16.RouteWithin", spec := "routeWithin", unfollowed := true, recurses := true, apart := false }
def RouteWithinSaid : Prop := routeWithinRow.holds Try.pinned (OpenSpec.ofChange routeWithinSpec)

/-- ITS FALSE NEIGHBOUR: 'it returns false'. Refute it at one input. -/
def routeWithinWrong : ChangeSpec := { name := "routeWithin", fn := fun _ => fun
  | [d1, d2] => { results := [.lit (.bool false)], args := [d1, d2] }
  | _ => none }
def RouteWithinWrongFalsely : Prop := routeWithinRow.holds Try.pinned (OpenSpec.ofChange routeWithinWrong)

/-- 'sibyllaw16.RouteNone': WHATEVER THE INPUT: true; the input reads as it did. -/
def routeNoneSpec : ChangeSpec := { name := "routeNone", fn := fun _ => fun
  | [d1, d2] => { results := [.lit (.bool true)], args := [d1, d2] }
  | _ => none }
def routeNoneRow : OpenClaim := { program := "yteejfidkomhblaa", sum := "5304ec412669b42a79133efc150bf98e2f69f6235e878ba0b425efc0d4b7f47f", func := "sibyl/sibyllaw16.RouteNone", spec := "routeNone", unfollowed := true, recurses := true, apart := false }
def RouteNoneSaid : Prop := routeNoneRow.holds Try.pinned (OpenSpec.ofChange routeNoneSpec)

/-- ITS FALSE NEIGHBOUR: 'it returns false'. Refute it at one input. -/
def routeNoneWrong : ChangeSpec := { name := "routeNone", fn := fun _ => fun
  | [d1, d2] => { results := [.lit (.bool false)], args := [d1, d2] }
  | _ => none }
def RouteNoneWrongFalsely : Prop := routeNoneRow.holds Try.pinned (OpenSpec.ofChange routeNoneWrong)

/- THE SECOND FORM. 'bulk': how many values and letters a reading holds, each counted each time it is reached (what is shared counts as often as it is met; a slice's spare places count too). A statement '..UptoSaid' is the law's where the arguments, and the package variables that the reading takes, are together of bulk at most 1048576: NARROWER than '..Said'. Prove '..Said' where nothing that the law and all that it calls make is longer than what came in: it says more and counts as full. Else prove '..UptoSaid'. A law counts once. -/
mutual
def uptoBulk {H : Type} : DataW H → Nat
  | .lit (.string bytes) => bytes.length + 1
  | .lit _ => 1
  | .nil => 1
  | .ptr d => uptoBulk d + 1
  | .slice elems spare => uptoBulkAll elems + uptoBulkAll spare + 1
  | .agg parts => uptoBulkAll parts + 1
  | .iface _ d => uptoBulk d + 1
  | .map entries => uptoBulkEntries entries + 1
  | .held _ => 1
def uptoBulkAll {H : Type} : List (DataW H) → Nat
  | [] => 0
  | d :: r => uptoBulk d + uptoBulkAll r
def uptoBulkEntries {H : Type} : List (Lit × DataW H) → Nat
  | [] => 0
  | x :: r => uptoBulkEntry x + uptoBulkEntries r
def uptoBulkEntry {H : Type} : Lit × DataW H → Nat
  | (.string bytes, d) => bytes.length + uptoBulk d + 1
  | (_, d) => uptoBulk d + 1
 end
def uptoSmall : (H : Type) → List (DataW H) → Bool := fun _ ds => decide (uptoBulkAll ds ≤ 1048576)
def OpenSpec.upto (s : _root_.Go.ChangeSpec) : _root_.Go.OpenSpec := { _root_.Go.OpenSpec.ofChange s with cond := some uptoSmall }

/-- 'sibyllaw01.NumTells', WHERE WHAT IT READS IS OF BULK AT MOST 1048576: true; the input reads as it did. -/
def numTellsUptoRow : OpenClaim := { program := "yteejfidkomhblaa", sum := "5304ec412669b42a79133efc150bf98e2f69f6235e878ba0b425efc0d4b7f47f", func := "sibyl/sibyllaw01.NumTells", spec := "numTells", apart := false, narrowed := true }
def NumTellsUptoSaid : Prop := numTellsUptoRow.holds Try.pinned (OpenSpec.upto numTellsSpec)

/-- 'sibyllaw01.NumDivides', WHERE WHAT IT READS IS OF BULK AT MOST 1048576: true; the input reads as it did. -/
def numDividesUptoRow : OpenClaim := { program := "yteejfidkomhblaa", sum := "5304ec412669b42a79133efc150bf98e2f69f6235e878ba0b425efc0d4b7f47f", func := "sibyl/sibyllaw01.NumDivides", spec := "numDivides", apart := false, narrowed := true }
def NumDividesUptoSaid : Prop := numDividesUptoRow.holds Try.pinned (OpenSpec.upto numDividesSpec)

/-- 'sibyllaw01.NumRing', WHERE WHAT IT READS IS OF BULK AT MOST 1048576: true; the input reads as it did. -/
def numRingUptoRow : OpenClaim := { program := "yteejfidkomhblaa", sum := "5304ec412669b42a79133efc150bf98e2f69f6235e878ba0b425efc0d4b7f47f", func := "sibyl/sibyllaw01.NumRing", spec := "numRing", apart := false, narrowed := true }
def NumRingUptoSaid : Prop := numRingUptoRow.holds Try.pinned (OpenSpec.upto numRingSpec)

/-- 'sibyllaw01.NumTests', WHERE WHAT IT READS IS OF BULK AT MOST 1048576: true; the input reads as it did. -/
def numTestsUptoRow : OpenClaim := { program := "yteejfidkomhblaa", sum := "5304ec412669b42a79133efc150bf98e2f69f6235e878ba0b425efc0d4b7f47f", func := "sibyl/sibyllaw01.NumTests", spec := "numTests", apart := false, narrowed := true }
def NumTestsUptoSaid : Prop := numTestsUptoRow.holds Try.pinned (OpenSpec.upto numTestsSpec)

/-- 'sibyllaw01.NumClamps', WHERE WHAT IT READS IS OF BULK AT MOST 1048576: true; the input reads as it did. -/
def numClampsUptoRow : OpenClaim := { program := "yteejfidkomhblaa", sum := "5304ec412669b42a79133efc150bf98e2f69f6235e878ba0b425efc0d4b7f47f", func := "sibyl/sibyllaw01.NumClamps", spec := "numClamps", apart := false, narrowed := true }
def NumClampsUptoSaid : Prop := numClampsUptoRow.holds Try.pinned (OpenSpec.upto numClampsSpec)

/-- 'sibyllaw01.NumSigns', WHERE WHAT IT READS IS OF BULK AT MOST 1048576: true; the input reads as it did. -/
def numSignsUptoRow : OpenClaim := { program := "yteejfidkomhblaa", sum := "5304ec412669b42a79133efc150bf98e2f69f6235e878ba0b425efc0d4b7f47f", func := "sibyl/sibyllaw01.NumSigns", spec := "numSigns", apart := false, narrowed := true }
def NumSignsUptoSaid : Prop := numSignsUptoRow.holds Try.pinned (OpenSpec.upto numSignsSpec)

/-- 'sibyllaw16.RouteTells', WHERE WHAT IT READS IS OF BULK AT MOST 1048576: true; the input reads as it did. -/
def routeTellsUptoRow : OpenClaim := { program := "yteejfidkomhblaa", sum := "5304ec412669b42a79133efc150bf98e2f69f6235e878ba0b425efc0d4b7f47f", func := "sibyl/sibyllaw16.RouteTells", spec := "routeTells", unfollowed := true, recurses := true, apart := false, narrowed := true }
def RouteTellsUptoSaid : Prop := routeTellsUptoRow.holds Try.pinned (OpenSpec.upto routeTellsSpec)

/-- 'sibyllaw16.RouteApart', WHERE WHAT IT READS IS OF BULK AT MOST 1048576: true; the input reads as it did. -/
def routeApartUptoRow : OpenClaim := { program := "yteejfidkomhblaa", sum := "5304ec412669b42a79133efc150bf98e2f69f6235e878ba0b425efc0d4b7f47f", func := "sibyl/sibyllaw16.RouteApart", spec := "routeApart", unfollowed := true, recurses := true, apart := false, narrowed := true }
def RouteApartUptoSaid : Prop := routeApartUptoRow.holds Try.pinned (OpenSpec.upto routeApartSpec)

/-- 'sibyllaw16.RouteWithin', WHERE WHAT IT READS IS OF BULK AT MOST 1048576: true; the input reads as it did. -/
def routeWithinUptoRow : OpenClaim := { program := "yteejfidkomhblaa", sum := "5304ec412669b42a79133efc150bf98e2f69f6235e878ba0b425efc0d4b7f47f", func := "sibyl/sibyllaw16.RouteWithin", spec := "routeWithin", unfollowed := true, recurses := true, apart := false, narrowed := true }
def RouteWithinUptoSaid : Prop := routeWithinUptoRow.holds Try.pinned (OpenSpec.upto routeWithinSpec)

/-- 'sibyllaw16.RouteNone', WHERE WHAT IT READS IS OF BULK AT MOST 1048576: true; the input reads as it did. -/
def routeNoneUptoRow : OpenClaim := { program := "yteejfidkomhblaa", sum := "5304ec412669b42a79133efc150bf98e2f69f6235e878ba0b425efc0d4b7f47f", func := "sibyl/sibyllaw16.RouteNone", spec := "routeNone", unfollowed := true, recurses := true, apart := false, narrowed := true }
def RouteNoneUptoSaid : Prop := routeNoneUptoRow.holds Try.pinned (OpenSpec.upto routeNoneSpec)

end Rows
end Go.Proofs.Yteejfidkomhblaa
