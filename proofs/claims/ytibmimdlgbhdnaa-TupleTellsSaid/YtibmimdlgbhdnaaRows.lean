/-
  No cell of these rows narrows 'for every input' (looked for: loops, veiled, ifaces, maps, wideKeys, modest, calm, conditions, laid).
  DERIVED. THE GIVEN ROWS OF THIS SEAT. 12 by the template 'for every input the law returns true; each argument reads behind the call as it read before'; 0 by the template 'total and deterministic' (their statements: YtibmimdlgbhdnaaTotals.lean).
  GIVEN WITH THE SEED: the statements are not yours to turn. If you find one false, say at which input.
  Laid BY PROGRAM, IN A SANDBOX (cutbox-rows.mjs): the forced cells as the released guide's own fill.sh prints them over the translation b9612fcea23c2c16… (all of the seat's roots in one cut). By AI agents, Wed Nov 11 2026. No macro, syntax, notation, axiom, sorry.
-/
import Derived.Test.YtibmimdlgbhdnaaChecked
import GoSem.Claim
import GoSem.ClaimJoined
import GoSem.ClaimMapViews
import Derived.JoinedTies
import Derived.KernelRfl
namespace Go.Proofs.Ytibmimdlgbhdnaa
/- THE CELL 'sum', in the pinned program and in every row, IS THE sha256 OF THE DUMP (.gsa) THAT YtibmimdlgbhdnaaProg.lean LOADS. Nothing in Lean hashes anything: it is a label: what it is worth is what the hold of that sum in a sandbox is worth. -/
noncomputable def Try.pinned : Pinned := { name := "ytibmimdlgbhdnaa", sum := "b9612fcea23c2c164109e1cefbbfbc32746e569e9b5ad15f87fdc049c617768a", checked := Try.checked }
namespace Rows
def none {H : Type} : Left H := { results := [], args := [] }

/-- 'sibyllaw06.TupleTells': WHATEVER THE INPUT: true; the input reads as it did. -/
def tupleTellsSpec : ChangeSpec := { name := "tupleTells", fn := fun _ => fun
  | [d] => { results := [.lit (.bool true)], args := [d] }
  | _ => none }
def tupleTellsRow : OpenClaim := { program := "ytibmimdlgbhdnaa", sum := "b9612fcea23c2c164109e1cefbbfbc32746e569e9b5ad15f87fdc049c617768a", func := "sibyl/sibyllaw06.TupleTells", spec := "tupleTells", unfollowed := true, recurses := true, apart := false }
def TupleTellsSaid : Prop := tupleTellsRow.holds Try.pinned (OpenSpec.ofChange tupleTellsSpec)

/-- ITS FALSE NEIGHBOUR: 'it returns false'. Refute it at one input. -/
def tupleTellsWrong : ChangeSpec := { name := "tupleTells", fn := fun _ => fun
  | [d] => { results := [.lit (.bool false)], args := [d] }
  | _ => none }
def TupleTellsWrongFalsely : Prop := tupleTellsRow.holds Try.pinned (OpenSpec.ofChange tupleTellsWrong)

/-- 'sibyllaw06.TupleOrder': WHATEVER THE INPUT: true; the input reads as it did. -/
def tupleOrderSpec : ChangeSpec := { name := "tupleOrder", fn := fun _ => fun
  | [d1, d2, d3] => { results := [.lit (.bool true)], args := [d1, d2, d3] }
  | _ => none }
def tupleOrderRow : OpenClaim := { program := "ytibmimdlgbhdnaa", sum := "b9612fcea23c2c164109e1cefbbfbc32746e569e9b5ad15f87fdc049c617768a", func := "sibyl/sibyllaw06.TupleOrder", spec := "tupleOrder", unfollowed := true, recurses := true, apart := false }
def TupleOrderSaid : Prop := tupleOrderRow.holds Try.pinned (OpenSpec.ofChange tupleOrderSpec)

/-- ITS FALSE NEIGHBOUR: 'it returns false'. Refute it at one input. -/
def tupleOrderWrong : ChangeSpec := { name := "tupleOrder", fn := fun _ => fun
  | [d1, d2, d3] => { results := [.lit (.bool false)], args := [d1, d2, d3] }
  | _ => none }
def TupleOrderWrongFalsely : Prop := tupleOrderRow.holds Try.pinned (OpenSpec.ofChange tupleOrderWrong)

/-- 'sibyllaw06.TupleSorts': WHATEVER THE INPUT: true; the input reads as it did. -/
def tupleSortsSpec : ChangeSpec := { name := "tupleSorts", fn := fun _ => fun
  | [d] => { results := [.lit (.bool true)], args := [d] }
  | _ => none }
def tupleSortsRow : OpenClaim := { program := "ytibmimdlgbhdnaa", sum := "b9612fcea23c2c164109e1cefbbfbc32746e569e9b5ad15f87fdc049c617768a", func := "sibyl/sibyllaw06.TupleSorts", spec := "tupleSorts", unfollowed := true, recurses := true, apart := false }
def TupleSortsSaid : Prop := tupleSortsRow.holds Try.pinned (OpenSpec.ofChange tupleSortsSpec)

/-- ITS FALSE NEIGHBOUR: 'it returns false'. Refute it at one input. -/
def tupleSortsWrong : ChangeSpec := { name := "tupleSorts", fn := fun _ => fun
  | [d] => { results := [.lit (.bool false)], args := [d] }
  | _ => none }
def TupleSortsWrongFalsely : Prop := tupleSortsRow.holds Try.pinned (OpenSpec.ofChange tupleSortsWrong)

/-- 'sibyllaw06.TupleOrdered': WHATEVER THE INPUT: true; the input reads as it did. -/
def tupleOrderedSpec : ChangeSpec := { name := "tupleOrdered", fn := fun _ => fun
  | [d] => { results := [.lit (.bool true)], args := [d] }
  | _ => none }
def tupleOrderedRow : OpenClaim := { program := "ytibmimdlgbhdnaa", sum := "b9612fcea23c2c164109e1cefbbfbc32746e569e9b5ad15f87fdc049c617768a", func := "sibyl/sibyllaw06.TupleOrdered", spec := "tupleOrdered", unfollowed := true, recurses := true, apart := false }
def TupleOrderedSaid : Prop := tupleOrderedRow.holds Try.pinned (OpenSpec.ofChange tupleOrderedSpec)

/-- ITS FALSE NEIGHBOUR: 'it returns false'. Refute it at one input. -/
def tupleOrderedWrong : ChangeSpec := { name := "tupleOrdered", fn := fun _ => fun
  | [d] => { results := [.lit (.bool false)], args := [d] }
  | _ => none }
def TupleOrderedWrongFalsely : Prop := tupleOrderedRow.holds Try.pinned (OpenSpec.ofChange tupleOrderedWrong)

/-- 'sibyllaw06.TupleTurned': WHATEVER THE INPUT: true; the input reads as it did. -/
def tupleTurnedSpec : ChangeSpec := { name := "tupleTurned", fn := fun _ => fun
  | [d] => { results := [.lit (.bool true)], args := [d] }
  | _ => none }
def tupleTurnedRow : OpenClaim := { program := "ytibmimdlgbhdnaa", sum := "b9612fcea23c2c164109e1cefbbfbc32746e569e9b5ad15f87fdc049c617768a", func := "sibyl/sibyllaw06.TupleTurned", spec := "tupleTurned", unfollowed := true, recurses := true, apart := false }
def TupleTurnedSaid : Prop := tupleTurnedRow.holds Try.pinned (OpenSpec.ofChange tupleTurnedSpec)

/-- ITS FALSE NEIGHBOUR: 'it returns false'. Refute it at one input. -/
def tupleTurnedWrong : ChangeSpec := { name := "tupleTurned", fn := fun _ => fun
  | [d] => { results := [.lit (.bool false)], args := [d] }
  | _ => none }
def TupleTurnedWrongFalsely : Prop := tupleTurnedRow.holds Try.pinned (OpenSpec.ofChange tupleTurnedWrong)

/-- 'sibyllaw12.EpochPlays': WHATEVER THE INPUT: true; the input reads as it did. -/
def epochPlaysSpec : ChangeSpec := { name := "epochPlays", fn := fun _ => fun
  | [d1, d2] => { results := [.lit (.bool true)], args := [d1, d2] }
  | _ => none }
def epochPlaysRow : OpenClaim := { program := "ytibmimdlgbhdnaa", sum := "b9612fcea23c2c164109e1cefbbfbc32746e569e9b5ad15f87fdc049c617768a", func := "sibyl/sibyllaw12.EpochPlays", spec := "epochPlays", unfollowed := true, recurses := true, apart := false }
def EpochPlaysSaid : Prop := epochPlaysRow.holds Try.pinned (OpenSpec.ofChange epochPlaysSpec)

/-- ITS FALSE NEIGHBOUR: 'it returns false'. Refute it at one input. -/
def epochPlaysWrong : ChangeSpec := { name := "epochPlays", fn := fun _ => fun
  | [d1, d2] => { results := [.lit (.bool false)], args := [d1, d2] }
  | _ => none }
def EpochPlaysWrongFalsely : Prop := epochPlaysRow.holds Try.pinned (OpenSpec.ofChange epochPlaysWrong)

/-- 'sibyllaw12.EpochSafe': WHATEVER THE INPUT: true; the input reads as it did. -/
def epochSafeSpec : ChangeSpec := { name := "epochSafe", fn := fun _ => fun
  | [d1, d2] => { results := [.lit (.bool true)], args := [d1, d2] }
  | _ => none }
def epochSafeRow : OpenClaim := { program := "ytibmimdlgbhdnaa", sum := "b9612fcea23c2c164109e1cefbbfbc32746e569e9b5ad15f87fdc049c617768a", func := "sibyl/sibyllaw12.EpochSafe", spec := "epochSafe", unfollowed := true, recurses := true, apart := false }
def EpochSafeSaid : Prop := epochSafeRow.holds Try.pinned (OpenSpec.ofChange epochSafeSpec)

/-- ITS FALSE NEIGHBOUR: 'it returns false'. Refute it at one input. -/
def epochSafeWrong : ChangeSpec := { name := "epochSafe", fn := fun _ => fun
  | [d1, d2] => { results := [.lit (.bool false)], args := [d1, d2] }
  | _ => none }
def EpochSafeWrongFalsely : Prop := epochSafeRow.holds Try.pinned (OpenSpec.ofChange epochSafeWrong)

/-- 'sibyllaw12.EpochRipe': WHATEVER THE INPUT: true; the input reads as it did. -/
def epochRipeSpec : ChangeSpec := { name := "epochRipe", fn := fun _ => fun
  | [d1, d2] => { results := [.lit (.bool true)], args := [d1, d2] }
  | _ => none }
def epochRipeRow : OpenClaim := { program := "ytibmimdlgbhdnaa", sum := "b9612fcea23c2c164109e1cefbbfbc32746e569e9b5ad15f87fdc049c617768a", func := "sibyl/sibyllaw12.EpochRipe", spec := "epochRipe", unfollowed := true, recurses := true, apart := false }
def EpochRipeSaid : Prop := epochRipeRow.holds Try.pinned (OpenSpec.ofChange epochRipeSpec)

/-- ITS FALSE NEIGHBOUR: 'it returns false'. Refute it at one input. -/
def epochRipeWrong : ChangeSpec := { name := "epochRipe", fn := fun _ => fun
  | [d1, d2] => { results := [.lit (.bool false)], args := [d1, d2] }
  | _ => none }
def EpochRipeWrongFalsely : Prop := epochRipeRow.holds Try.pinned (OpenSpec.ofChange epochRipeWrong)

/-- 'sibyllaw12.EpochWaits': WHATEVER THE INPUT: true; the input reads as it did. -/
def epochWaitsSpec : ChangeSpec := { name := "epochWaits", fn := fun _ => fun
  | [d1, d2, d3] => { results := [.lit (.bool true)], args := [d1, d2, d3] }
  | _ => none }
def epochWaitsRow : OpenClaim := { program := "ytibmimdlgbhdnaa", sum := "b9612fcea23c2c164109e1cefbbfbc32746e569e9b5ad15f87fdc049c617768a", func := "sibyl/sibyllaw12.EpochWaits", spec := "epochWaits", unfollowed := true, recurses := true, apart := false }
def EpochWaitsSaid : Prop := epochWaitsRow.holds Try.pinned (OpenSpec.ofChange epochWaitsSpec)

/-- ITS FALSE NEIGHBOUR: 'it returns false'. Refute it at one input. -/
def epochWaitsWrong : ChangeSpec := { name := "epochWaits", fn := fun _ => fun
  | [d1, d2, d3] => { results := [.lit (.bool false)], args := [d1, d2, d3] }
  | _ => none }
def EpochWaitsWrongFalsely : Prop := epochWaitsRow.holds Try.pinned (OpenSpec.ofChange epochWaitsWrong)

/-- 'sibyllaw12.EpochNil': WHATEVER THE INPUT: true; the input reads as it did. -/
def epochNilSpec : ChangeSpec := { name := "epochNil", fn := fun _ => fun
  | [d1, d2] => { results := [.lit (.bool true)], args := [d1, d2] }
  | _ => none }
def epochNilRow : OpenClaim := { program := "ytibmimdlgbhdnaa", sum := "b9612fcea23c2c164109e1cefbbfbc32746e569e9b5ad15f87fdc049c617768a", func := "sibyl/sibyllaw12.EpochNil", spec := "epochNil", unfollowed := true, recurses := true, apart := false }
def EpochNilSaid : Prop := epochNilRow.holds Try.pinned (OpenSpec.ofChange epochNilSpec)

/-- ITS FALSE NEIGHBOUR: 'it returns false'. Refute it at one input. -/
def epochNilWrong : ChangeSpec := { name := "epochNil", fn := fun _ => fun
  | [d1, d2] => { results := [.lit (.bool false)], args := [d1, d2] }
  | _ => none }
def EpochNilWrongFalsely : Prop := epochNilRow.holds Try.pinned (OpenSpec.ofChange epochNilWrong)

/-- 'sibyllaw12.EpochEach': WHATEVER THE INPUT: true; the input reads as it did. -/
def epochEachSpec : ChangeSpec := { name := "epochEach", fn := fun _ => fun
  | [d1, d2] => { results := [.lit (.bool true)], args := [d1, d2] }
  | _ => none }
def epochEachRow : OpenClaim := { program := "ytibmimdlgbhdnaa", sum := "b9612fcea23c2c164109e1cefbbfbc32746e569e9b5ad15f87fdc049c617768a", func := "sibyl/sibyllaw12.EpochEach", spec := "epochEach", unfollowed := true, recurses := true, apart := false }
def EpochEachSaid : Prop := epochEachRow.holds Try.pinned (OpenSpec.ofChange epochEachSpec)

/-- ITS FALSE NEIGHBOUR: 'it returns false'. Refute it at one input. -/
def epochEachWrong : ChangeSpec := { name := "epochEach", fn := fun _ => fun
  | [d1, d2] => { results := [.lit (.bool false)], args := [d1, d2] }
  | _ => none }
def EpochEachWrongFalsely : Prop := epochEachRow.holds Try.pinned (OpenSpec.ofChange epochEachWrong)

/-- 'sibyllaw13.ChainPlays': WHATEVER THE INPUT: true; the input reads as it did. -/
def chainPlaysSpec : ChangeSpec := { name := "chainPlays", fn := fun _ => fun
  | [d] => { results := [.lit (.bool true)], args := [d] }
  | _ => none }
def chainPlaysRow : OpenClaim := { program := "ytibmimdlgbhdnaa", sum := "b9612fcea23c2c164109e1cefbbfbc32746e569e9b5ad15f87fdc049c617768a", func := "sibyl/sibyllaw13.ChainPlays", spec := "chainPlays", unfollowed := true, recurses := true, apart := false }
def ChainPlaysSaid : Prop := chainPlaysRow.holds Try.pinned (OpenSpec.ofChange chainPlaysSpec)

/-- ITS FALSE NEIGHBOUR: 'it returns false'. Refute it at one input. -/
def chainPlaysWrong : ChangeSpec := { name := "chainPlays", fn := fun _ => fun
  | [d] => { results := [.lit (.bool false)], args := [d] }
  | _ => none }
def ChainPlaysWrongFalsely : Prop := chainPlaysRow.holds Try.pinned (OpenSpec.ofChange chainPlaysWrong)

/- THE SECOND FORM. 'bulk': how many values and letters a reading holds, each counted each time it is reached (what is shared counts as often as it is met; a slice's spare places count too). A statement '..UptoSaid' is the law's where the arguments, and the package variables that the reading takes, are together of bulk at most 1048576: NARROWER than '..Said'. Prove '..Said' where nothing that the law and all that it calls make is longer than what came in: it says more and counts as full. Else prove '..UptoSaid'. A law counts once. -/
mutual
def uptoBulk {H : Type} : DataW H → Nat
  | .lit (.string bytes) => bytes.length + 1
  | .lit _ => 1
  | .nil => 1
  | .ptr d => uptoBulk d + 1
  | .slice elems spare => uptoBulkAll elems + uptoBulkAll spare + 1
  | .agg parts => uptoBulkAll parts + 1
  | .iface _ d => uptoBulk d + 1
  | .map entries => uptoBulkEntries entries + 1
  | .held _ => 1
def uptoBulkAll {H : Type} : List (DataW H) → Nat
  | [] => 0
  | d :: r => uptoBulk d + uptoBulkAll r
def uptoBulkEntries {H : Type} : List (Lit × DataW H) → Nat
  | [] => 0
  | x :: r => uptoBulkEntry x + uptoBulkEntries r
def uptoBulkEntry {H : Type} : Lit × DataW H → Nat
  | (.string bytes, d) => bytes.length + uptoBulk d + 1
  | (_, d) => uptoBulk d + 1
 end
def uptoSmall : (H : Type) → List (DataW H) → Bool := fun _ ds => decide (uptoBulkAll ds ≤ 1048576)
def OpenSpec.upto (s : _root_.Go.ChangeSpec) : _root_.Go.OpenSpec := { _root_.Go.OpenSpec.ofChange s with cond := some uptoSmall }

/-- 'sibyllaw06.TupleTells', WHERE WHAT IT READS IS OF BULK AT MOST 1048576: true; the input reads as it did. -/
def tupleTellsUptoRow : OpenClaim := { program := "ytibmimdlgbhdnaa", sum := "b9612fcea23c2c164109e1cefbbfbc32746e569e9b5ad15f87fdc049c617768a", func := "sibyl/sibyllaw06.TupleTells", spec := "tupleTells", unfollowed := true, recurses := true, apart := false, narrowed := true }
def TupleTellsUptoSaid : Prop := tupleTellsUptoRow.holds Try.pinned (OpenSpec.upto tupleTellsSpec)

/-- 'sibyllaw06.TupleOrder', WHERE WHAT IT READS IS OF BULK AT MOST 1048576: true; the input reads as it did. -/
def tupleOrderUptoRow : OpenClaim := { program := "ytibmimdlgbhdnaa", sum := "b9612fcea23c2c164109e1cefbbfbc32746e569e9b5ad15f87fdc049c617768a", func := "sibyl/sibyllaw06.TupleOrder", spec := "tupleOrder", unfollowed := true, recurses := true, apart := false, narrowed := true }
def TupleOrderUptoSaid : Prop := tupleOrderUptoRow.holds Try.pinned (OpenSpec.upto tupleOrderSpec)

/-- 'sibyllaw06.TupleSorts', WHERE WHAT IT READS IS OF BULK AT MOST 1048576: true; the input reads as it did. -/
def tupleSortsUptoRow : OpenClaim := { program := "ytibmimdlgbhdnaa", sum := "b9612fcea23c2c164109e1cefbbfbc32746e569e9b5ad15f87fdc049c617768a", func := "sibyl/sibyllaw06.TupleSorts", spec := "tupleSorts", unfollowed := true, recurses := true, apart := false, narrowed := true }
def TupleSortsUptoSaid : Prop := tupleSortsUptoRow.holds Try.pinned (OpenSpec.upto tupleSortsSpec)

/-- 'sibyllaw06.TupleOrdered', WHERE WHAT IT READS IS OF BULK AT MOST 1048576: true; the input reads as it did. -/
def tupleOrderedUptoRow : OpenClaim := { program := "ytibmimdlgbhdnaa", sum := "b9612fcea23c2c164109e1cefbbfbc32746e569e9b5ad15f87fdc049c617768a", func := "sibyl/sibyllaw06.TupleOrdered", spec := "tupleOrdered", unfollowed := true, recurses := true, apart := false, narrowed := true }
def TupleOrderedUptoSaid : Prop := tupleOrderedUptoRow.holds Try.pinned (OpenSpec.upto tupleOrderedSpec)

/-- 'sibyllaw06.TupleTurned', WHERE WHAT IT READS IS OF BULK AT MOST 1048576: true; the input reads as it did. -/
def tupleTurnedUptoRow : OpenClaim := { program := "ytibmimdlgbhdnaa", sum := "b9612fcea23c2c164109e1cefbbfbc32746e569e9b5ad15f87fdc049c617768a", func := "sibyl/sibyllaw06.TupleTurned", spec := "tupleTurned", unfollowed := true, recurses := true, apart := false, narrowed := true }
def TupleTurnedUptoSaid : Prop := tupleTurnedUptoRow.holds Try.pinned (OpenSpec.upto tupleTurnedSpec)

/-- 'sibyllaw12.EpochPlays', WHERE WHAT IT READS IS OF BULK AT MOST 1048576: true; the input reads as it did. -/
def epochPlaysUptoRow : OpenClaim := { program := "ytibmimdlgbhdnaa", sum := "b9612fcea23c2c164109e1cefbbfbc32746e569e9b5ad15f87fdc049c617768a", func := "sibyl/sibyllaw12.EpochPlays", spec := "epochPlays", unfollowed := true, recurses := true, apart := false, narrowed := true }
def EpochPlaysUptoSaid : Prop := epochPlaysUptoRow.holds Try.pinned (OpenSpec.upto epochPlaysSpec)

/-- 'sibyllaw12.EpochSafe', WHERE WHAT IT READS IS OF BULK AT MOST 1048576: true; the input reads as it did. -/
def epochSafeUptoRow : OpenClaim := { program := "ytibmimdlgbhdnaa", sum := "b9612fcea23c2c164109e1cefbbfbc32746e569e9b5ad15f87fdc049c617768a", func := "sibyl/sibyllaw12.EpochSafe", spec := "epochSafe", unfollowed := true, recurses := true, apart := false, narrowed := true }
def EpochSafeUptoSaid : Prop := epochSafeUptoRow.holds Try.pinned (OpenSpec.upto epochSafeSpec)

/-- 'sibyllaw12.EpochRipe', WHERE WHAT IT READS IS OF BULK AT MOST 1048576: true; the input reads as it did. -/
def epochRipeUptoRow : OpenClaim := { program := "ytibmimdlgbhdnaa", sum := "b9612fcea23c2c164109e1cefbbfbc32746e569e9b5ad15f87fdc049c617768a", func := "sibyl/sibyllaw12.EpochRipe", spec := "epochRipe", unfollowed := true, recurses := true, apart := false, narrowed := true }
def EpochRipeUptoSaid : Prop := epochRipeUptoRow.holds Try.pinned (OpenSpec.upto epochRipeSpec)

/-- 'sibyllaw12.EpochWaits', WHERE WHAT IT READS IS OF BULK AT MOST 1048576: true; the input reads as it did. -/
def epochWaitsUptoRow : OpenClaim := { program := "ytibmimdlgbhdnaa", sum := "b9612fcea23c2c164109e1cefbbfbc32746e569e9b5ad15f87fdc049c617768a", func := "sibyl/sibyllaw12.EpochWaits", spec := "epochWaits", unfollowed := true, recurses := true, apart := false, narrowed := true }
def EpochWaitsUptoSaid : Prop := epochWaitsUptoRow.holds Try.pinned (OpenSpec.upto epochWaitsSpec)

/-- 'sibyllaw12.EpochNil', WHERE WHAT IT READS IS OF BULK AT MOST 1048576: true; the input reads as it did. -/
def epochNilUptoRow : OpenClaim := { program := "ytibmimdlgbhdnaa", sum := "b9612fcea23c2c164109e1cefbbfbc32746e569e9b5ad15f87fdc049c617768a", func := "sibyl/sibyllaw12.EpochNil", spec := "epochNil", unfollowed := true, recurses := true, apart := false, narrowed := true }
def EpochNilUptoSaid : Prop := epochNilUptoRow.holds Try.pinned (OpenSpec.upto epochNilSpec)

/-- 'sibyllaw12.EpochEach', WHERE WHAT IT READS IS OF BULK AT MOST 1048576: true; the input reads as it did. -/
def epochEachUptoRow : OpenClaim := { program := "ytibmimdlgbhdnaa", sum := "b9612fcea23c2c164109e1cefbbfbc32746e569e9b5ad15f87fdc049c617768a", func := "sibyl/sibyllaw12.EpochEach", spec := "epochEach", unfollowed := true, recurses := true, apart := false, narrowed := true }
def EpochEachUptoSaid : Prop := epochEachUptoRow.holds Try.pinned (OpenSpec.upto epochEachSpec)

/-- 'sibyllaw13.ChainPlays', WHERE WHAT IT READS IS OF BULK AT MOST 1048576: true; the input reads as it did. -/
def chainPlaysUptoRow : OpenClaim := { program := "ytibmimdlgbhdnaa", sum := "b9612fcea23c2c164109e1cefbbfbc32746e569e9b5ad15f87fdc049c617768a", func := "sibyl/sibyllaw13.ChainPlays", spec := "chainPlays", unfollowed := true, recurses := true, apart := false, narrowed := true }
def ChainPlaysUptoSaid : Prop := chainPlaysUptoRow.holds Try.pinned (OpenSpec.upto chainPlaysSpec)

end Rows
end Go.Proofs.Ytibmimdlgbhdnaa
