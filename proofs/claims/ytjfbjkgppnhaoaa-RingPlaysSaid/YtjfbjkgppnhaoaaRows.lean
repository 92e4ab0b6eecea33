/-
  No cell of these rows narrows 'for every input' (looked for: loops, veiled, ifaces, maps, wideKeys, modest, calm, conditions, laid).
  DERIVED. THE GIVEN ROWS OF THIS SEAT. 11 by the template 'for every input the law returns true; each argument reads behind the call as it read before'; 0 by the template 'total and deterministic' (their statements: YtjfbjkgppnhaoaaTotals.lean).
  GIVEN WITH THE SEED: the statements are not yours to turn. If you find one false, say at which input.
  Laid BY PROGRAM, IN A SANDBOX (cutbox-rows.mjs): the forced cells as the released guide's own fill.sh prints them over the translation 39a49ac83ef06c46… (all of the seat's roots in one cut). By AI agents, Wed Nov 11 2026. No macro, syntax, notation, axiom, sorry.
-/
import Derived.Test.YtjfbjkgppnhaoaaChecked
import GoSem.Claim
import GoSem.ClaimJoined
import GoSem.ClaimMapViews
import Derived.JoinedTies
import Derived.KernelRfl
namespace Go.Proofs.Ytjfbjkgppnhaoaa
/- THE CELL 'sum', in the pinned program and in every row, IS THE sha256 OF THE DUMP (.gsa) THAT YtjfbjkgppnhaoaaProg.lean LOADS. Nothing in Lean hashes anything: it is a label: what it is worth is what the hold of that sum in a sandbox is worth. -/
noncomputable def Try.pinned : Pinned := { name := "ytjfbjkgppnhaoaa", sum := "39a49ac83ef06c460813073a1327d52db0c60653c87af5476d31f380f058e9fe", checked := Try.checked }
namespace Rows
def none {H : Type} : Left H := { results := [], args := [] }

/-- 'sibyllaw05.PredHolds': WHATEVER THE INPUT: true; the input reads as it did. -/
def predHoldsSpec : ChangeSpec := { name := "predHolds", fn := fun _ => fun
  | [d1, d2, d3] => { results := [.lit (.bool true)], args := [d1, d2, d3] }
  | _ => none }
def predHoldsRow : OpenClaim := { program := "ytjfbjkgppnhaoaa", sum := "39a49ac83ef06c460813073a1327d52db0c60653c87af5476d31f380f058e9fe", func := "sibyl/sibyllaw05.PredHolds", spec := "predHolds", unfollowed := true, recurses := true, apart := false }
def PredHoldsSaid : Prop := predHoldsRow.holds Try.pinned (OpenSpec.ofChange predHoldsSpec)

/-- ITS FALSE NEIGHBOUR: 'it returns false'. Refute it at one input. -/
def predHoldsWrong : ChangeSpec := { name := "predHolds", fn := fun _ => fun
  | [d1, d2, d3] => { results := [.lit (.bool false)], args := [d1, d2, d3] }
  | _ => none }
def PredHoldsWrongFalsely : Prop := predHoldsRow.holds Try.pinned (OpenSpec.ofChange predHoldsWrong)

/-- 'sibyllaw05.PredNever': WHATEVER THE INPUT: true; the input reads as it did. -/
def predNeverSpec : ChangeSpec := { name := "predNever", fn := fun _ => fun
  | [d1, d2, d3] => { results := [.lit (.bool true)], args := [d1, d2, d3] }
  | _ => none }
def predNeverRow : OpenClaim := { program := "ytjfbjkgppnhaoaa", sum := "39a49ac83ef06c460813073a1327d52db0c60653c87af5476d31f380f058e9fe", func := "sibyl/sibyllaw05.PredNever", spec := "predNever", unfollowed := true, recurses := true, apart := false }
def PredNeverSaid : Prop := predNeverRow.holds Try.pinned (OpenSpec.ofChange predNeverSpec)

/-- ITS FALSE NEIGHBOUR: 'it returns false'. Refute it at one input. -/
def predNeverWrong : ChangeSpec := { name := "predNever", fn := fun _ => fun
  | [d1, d2, d3] => { results := [.lit (.bool false)], args := [d1, d2, d3] }
  | _ => none }
def PredNeverWrongFalsely : Prop := predNeverRow.holds Try.pinned (OpenSpec.ofChange predNeverWrong)

/-- 'sibyllaw05.PredLast': WHATEVER THE INPUT: true; the input reads as it did. -/
def predLastSpec : ChangeSpec := { name := "predLast", fn := fun _ => fun
  | [d1, d2, d3] => { results := [.lit (.bool true)], args := [d1, d2, d3] }
  | _ => none }
def predLastRow : OpenClaim := { program := "ytjfbjkgppnhaoaa", sum := "39a49ac83ef06c460813073a1327d52db0c60653c87af5476d31f380f058e9fe", func := "sibyl/sibyllaw05.PredLast", spec := "predLast", unfollowed := true, recurses := true, apart := false }
def PredLastSaid : Prop := predLastRow.holds Try.pinned (OpenSpec.ofChange predLastSpec)

/-- ITS FALSE NEIGHBOUR: 'it returns false'. Refute it at one input. -/
def predLastWrong : ChangeSpec := { name := "predLast", fn := fun _ => fun
  | [d1, d2, d3] => { results := [.lit (.bool false)], args := [d1, d2, d3] }
  | _ => none }
def PredLastWrongFalsely : Prop := predLastRow.holds Try.pinned (OpenSpec.ofChange predLastWrong)

/-- 'sibyllaw05.PredSigns': WHATEVER THE INPUT: true; the input reads as it did. -/
def predSignsSpec : ChangeSpec := { name := "predSigns", fn := fun _ => fun
  | [d1, d2, d3] => { results := [.lit (.bool true)], args := [d1, d2, d3] }
  | _ => none }
def predSignsRow : OpenClaim := { program := "ytjfbjkgppnhaoaa", sum := "39a49ac83ef06c460813073a1327d52db0c60653c87af5476d31f380f058e9fe", func := "sibyl/sibyllaw05.PredSigns", spec := "predSigns", unfollowed := true, recurses := true, apart := false }
def PredSignsSaid : Prop := predSignsRow.holds Try.pinned (OpenSpec.ofChange predSignsSpec)

/-- ITS FALSE NEIGHBOUR: 'it returns false'. Refute it at one input. -/
def predSignsWrong : ChangeSpec := { name := "predSigns", fn := fun _ => fun
  | [d1, d2, d3] => { results := [.lit (.bool false)], args := [d1, d2, d3] }
  | _ => none }
def PredSignsWrongFalsely : Prop := predSignsRow.holds Try.pinned (OpenSpec.ofChange predSignsWrong)

/-- 'sibyllaw05.PredCounts': WHATEVER THE INPUT: true; the input reads as it did. -/
def predCountsSpec : ChangeSpec := { name := "predCounts", fn := fun _ => fun
  | [d1, d2, d3] => { results := [.lit (.bool true)], args := [d1, d2, d3] }
  | _ => none }
def predCountsRow : OpenClaim := { program := "ytjfbjkgppnhaoaa", sum := "39a49ac83ef06c460813073a1327d52db0c60653c87af5476d31f380f058e9fe", func := "sibyl/sibyllaw05.PredCounts", spec := "predCounts", unfollowed := true, recurses := true, apart := false }
def PredCountsSaid : Prop := predCountsRow.holds Try.pinned (OpenSpec.ofChange predCountsSpec)

/-- ITS FALSE NEIGHBOUR: 'it returns false'. Refute it at one input. -/
def predCountsWrong : ChangeSpec := { name := "predCounts", fn := fun _ => fun
  | [d1, d2, d3] => { results := [.lit (.bool false)], args := [d1, d2, d3] }
  | _ => none }
def PredCountsWrongFalsely : Prop := predCountsRow.holds Try.pinned (OpenSpec.ofChange predCountsWrong)

/-- 'sibyllaw10.RingPlays': WHATEVER THE INPUT: true; the input reads as it did. -/
def ringPlaysSpec : ChangeSpec := { name := "ringPlays", fn := fun _ => fun
  | [d1, d2, d3] => { results := [.lit (.bool true)], args := [d1, d2, d3] }
  | _ => none }
def ringPlaysRow : OpenClaim := { program := "ytjfbjkgppnhaoaa", sum := "39a49ac83ef06c460813073a1327d52db0c60653c87af5476d31f380f058e9fe", func := "sibyl/sibyllaw10.RingPlays", spec := "ringPlays", unfollowed := true, recurses := true, apart := false }
def RingPlaysSaid : Prop := ringPlaysRow.holds Try.pinned (OpenSpec.ofChange ringPlaysSpec)

/-- ITS FALSE NEIGHBOUR: 'it returns false'. Refute it at one input. -/
def ringPlaysWrong : ChangeSpec := { name := "ringPlays", fn := fun _ => fun
  | [d1, d2, d3] => { results := [.lit (.bool false)], args := [d1, d2, d3] }
  | _ => none }
def RingPlaysWrongFalsely : Prop := ringPlaysRow.holds Try.pinned (OpenSpec.ofChange ringPlaysWrong)

/-- 'sibyllaw10.RingKeeps': WHATEVER THE INPUT: true; the input reads as it did. -/
def ringKeepsSpec : ChangeSpec := { name := "ringKeeps", fn := fun _ => fun
  | [d1, d2, d3] => { results := [.lit (.bool true)], args := [d1, d2, d3] }
  | _ => none }
def ringKeepsRow : OpenClaim := { program := "ytjfbjkgppnhaoaa", sum := "39a49ac83ef06c460813073a1327d52db0c60653c87af5476d31f380f058e9fe", func := "sibyl/sibyllaw10.RingKeeps", spec := "ringKeeps", apart := false }
def RingKeepsSaid : Prop := ringKeepsRow.holds Try.pinned (OpenSpec.ofChange ringKeepsSpec)

/-- ITS FALSE NEIGHBOUR: 'it returns false'. Refute it at one input. -/
def ringKeepsWrong : ChangeSpec := { name := "ringKeeps", fn := fun _ => fun
  | [d1, d2, d3] => { results := [.lit (.bool false)], args := [d1, d2, d3] }
  | _ => none }
def RingKeepsWrongFalsely : Prop := ringKeepsRow.holds Try.pinned (OpenSpec.ofChange ringKeepsWrong)

/-- 'sibyllaw10.RingBound': WHATEVER THE INPUT: true; the input reads as it did. -/
def ringBoundSpec : ChangeSpec := { name := "ringBound", fn := fun _ => fun
  | [d1, d2] => { results := [.lit (.bool true)], args := [d1, d2] }
  | _ => none }
def ringBoundRow : OpenClaim := { program := "ytjfbjkgppnhaoaa", sum := "39a49ac83ef06c460813073a1327d52db0c60653c87af5476d31f380f058e9fe", func := "sibyl/sibyllaw10.RingBound", spec := "ringBound", unfollowed := true, recurses := true, apart := false }
def RingBoundSaid : Prop := ringBoundRow.holds Try.pinned (OpenSpec.ofChange ringBoundSpec)

/-- ITS FALSE NEIGHBOUR: 'it returns false'. Refute it at one input. -/
def ringBoundWrong : ChangeSpec := { name := "ringBound", fn := fun _ => fun
  | [d1, d2] => { results := [.lit (.bool false)], args := [d1, d2] }
  | _ => none }
def RingBoundWrongFalsely : Prop := ringBoundRow.holds Try.pinned (OpenSpec.ofChange ringBoundWrong)

/-- 'sibyllaw10.RingNil': WHATEVER THE INPUT: true; the input reads as it did. -/
def ringNilSpec : ChangeSpec := { name := "ringNil", fn := fun _ => fun
  | [d1, d2] => { results := [.lit (.bool true)], args := [d1, d2] }
  | _ => none }
def ringNilRow : OpenClaim := { program := "ytjfbjkgppnhaoaa", sum := "39a49ac83ef06c460813073a1327d52db0c60653c87af5476d31f380f058e9fe", func := "sibyl/sibyllaw10.RingNil", spec := "ringNil", unfollowed := true, recurses := true, apart := false }
def RingNilSaid : Prop := ringNilRow.holds Try.pinned (OpenSpec.ofChange ringNilSpec)

/-- ITS FALSE NEIGHBOUR: 'it returns false'. Refute it at one input. -/
def ringNilWrong : ChangeSpec := { name := "ringNil", fn := fun _ => fun
  | [d1, d2] => { results := [.lit (.bool false)], args := [d1, d2] }
  | _ => none }
def RingNilWrongFalsely : Prop := ringNilRow.holds Try.pinned (OpenSpec.ofChange ringNilWrong)

/-- 'sibyllaw11.StoreOwn': WHATEVER THE INPUT: true; the input reads as it did. -/
def storeOwnSpec : ChangeSpec := { name := "storeOwn", fn := fun _ => fun
  | [d1, d2] => { results := [.lit (.bool true)], args := [d1, d2] }
  | _ => none }
def storeOwnRow : OpenClaim := { program := "ytjfbjkgppnhaoaa", sum := "39a49ac83ef06c460813073a1327d52db0c60653c87af5476d31f380f058e9fe", func := "sibyl/sibyllaw11.StoreOwn", spec := "storeOwn", unfollowed := true, recurses := true, apart := false }
def StoreOwnSaid : Prop := storeOwnRow.holds Try.pinned (OpenSpec.ofChange storeOwnSpec)

/-- ITS FALSE NEIGHBOUR: 'it returns false'. Refute it at one input. -/
def storeOwnWrong : ChangeSpec := { name := "storeOwn", fn := fun _ => fun
  | [d1, d2] => { results := [.lit (.bool false)], args := [d1, d2] }
  | _ => none }
def StoreOwnWrongFalsely : Prop := storeOwnRow.holds Try.pinned (OpenSpec.ofChange storeOwnWrong)

/-- 'sibyllaw11.StoreCounts': WHATEVER THE INPUT: true; the input reads as it did. -/
def storeCountsSpec : ChangeSpec := { name := "storeCounts", fn := fun _ => fun
  | [d] => { results := [.lit (.bool true)], args := [d] }
  | _ => none }
def storeCountsRow : OpenClaim := { program := "ytjfbjkgppnhaoaa", sum := "39a49ac83ef06c460813073a1327d52db0c60653c87af5476d31f380f058e9fe", func := "sibyl/sibyllaw11.StoreCounts", spec := "storeCounts", unfollowed := true, recurses := true, apart := false }
def StoreCountsSaid : Prop := storeCountsRow.holds Try.pinned (OpenSpec.ofChange storeCountsSpec)

/-- ITS FALSE NEIGHBOUR: 'it returns false'. Refute it at one input. -/
def storeCountsWrong : ChangeSpec := { name := "storeCounts", fn := fun _ => fun
  | [d] => { results := [.lit (.bool false)], args := [d] }
  | _ => none }
def StoreCountsWrongFalsely : Prop := storeCountsRow.holds Try.pinned (OpenSpec.ofChange storeCountsWrong)

/- THE SECOND FORM. 'bulk': how many values and letters a reading holds, each counted each time it is reached (what is shared counts as often as it is met; a slice's spare places count too). A statement '..UptoSaid' is the law's where the arguments, and the package variables that the reading takes, are together of bulk at most 1048576: NARROWER than '..Said'. Prove '..Said' where nothing that the law and all that it calls make is longer than what came in: it says more and counts as full. Else prove '..UptoSaid'. A law counts once. -/
mutual
def uptoBulk {H : Type} : DataW H → Nat
  | .lit (.string bytes) => bytes.length + 1
  | .lit _ => 1
  | .nil => 1
  | .ptr d => uptoBulk d + 1
  | .slice elems spare => uptoBulkAll elems + uptoBulkAll spare + 1
  | .agg parts => uptoBulkAll parts + 1
  | .iface _ d => uptoBulk d + 1
  | .map entries => uptoBulkEntries entries + 1
  | .held _ => 1
def uptoBulkAll {H : Type} : List (DataW H) → Nat
  | [] => 0
  | d :: r => uptoBulk d + uptoBulkAll r
def uptoBulkEntries {H : Type} : List (Lit × DataW H) → Nat
  | [] => 0
  | x :: r => uptoBulkEntry x + uptoBulkEntries r
def uptoBulkEntry {H : Type} : Lit × DataW H → Nat
  | (.string bytes, d) => bytes.length + uptoBulk d + 1
  | (_, d) => uptoBulk d + 1
 end
def uptoSmall : (H : Type) → List (DataW H) → Bool := fun _ ds => decide (uptoBulkAll ds ≤ 1048576)
def OpenSpec.upto (s : _root_.Go.ChangeSpec) : _root_.Go.OpenSpec := { _root_.Go.OpenSpec.ofChange s with cond := some uptoSmall }

/-- 'sibyllaw05.PredHolds', WHERE WHAT IT READS IS OF BULK AT MOST 1048576: true; the input reads as it did. -/
def predHoldsUptoRow : OpenClaim := { program := "ytjfbjkgppnhaoaa", sum := "39a49ac83ef06c460813073a1327d52db0c60653c87af5476d31f380f058e9fe", func := "sibyl/sibyllaw05.PredHolds", spec := "predHolds", unfollowed := true, recurses := true, apart := false, narrowed := true }
def PredHoldsUptoSaid : Prop := predHoldsUptoRow.holds Try.pinned (OpenSpec.upto predHoldsSpec)

/-- 'sibyllaw05.PredNever', WHERE WHAT IT READS IS OF BULK AT MOST 1048576: true; the input reads as it did. -/
def predNeverUptoRow : OpenClaim := { program := "ytjfbjkgppnhaoaa", sum := "39a49ac83ef06c460813073a1327d52db0c60653c87af5476d31f380f058e9fe", func := "sibyl/sibyllaw05.PredNever", spec := "predNever", unfollowed := true, recurses := true, apart := false, narrowed := true }
def PredNeverUptoSaid : Prop := predNeverUptoRow.holds Try.pinned (OpenSpec.upto predNeverSpec)

/-- 'sibyllaw05.PredLast', WHERE WHAT IT READS IS OF BULK AT MOST 1048576: true; the input reads as it did. -/
def predLastUptoRow : OpenClaim := { program := "ytjfbjkgppnhaoaa", sum := "39a49ac83ef06c460813073a1327d52db0c60653c87af5476d31f380f058e9fe", func := "sibyl/sibyllaw05.PredLast", spec := "predLast", unfollowed := true, recurses := true, apart := false, narrowed := true }
def PredLastUptoSaid : Prop := predLastUptoRow.holds Try.pinned (OpenSpec.upto predLastSpec)

/-- 'sibyllaw05.PredSigns', WHERE WHAT IT READS IS OF BULK AT MOST 1048576: true; the input reads as it did. -/
def predSignsUptoRow : OpenClaim := { program := "ytjfbjkgppnhaoaa", sum := "39a49ac83ef06c460813073a1327d52db0c60653c87af5476d31f380f058e9fe", func := "sibyl/sibyllaw05.PredSigns", spec := "predSigns", unfollowed := true, recurses := true, apart := false, narrowed := true }
def PredSignsUptoSaid : Prop := predSignsUptoRow.holds Try.pinned (OpenSpec.upto predSignsSpec)

/-- 'sibyllaw05.PredCounts', WHERE WHAT IT READS IS OF BULK AT MOST 1048576: true; the input reads as it did. -/
def predCountsUptoRow : OpenClaim := { program := "ytjfbjkgppnhaoaa", sum := "39a49ac83ef06c460813073a1327d52db0c60653c87af5476d31f380f058e9fe", func := "sibyl/sibyllaw05.PredCounts", spec := "predCounts", unfollowed := true, recurses := true, apart := false, narrowed := true }
def PredCountsUptoSaid : Prop := predCountsUptoRow.holds Try.pinned (OpenSpec.upto predCountsSpec)

/-- 'sibyllaw10.RingPlays', WHERE WHAT IT READS IS OF BULK AT MOST 1048576: true; the input reads as it did. -/
def ringPlaysUptoRow : OpenClaim := { program := "ytjfbjkgppnhaoaa", sum := "39a49ac83ef06c460813073a1327d52db0c60653c87af5476d31f380f058e9fe", func := "sibyl/sibyllaw10.RingPlays", spec := "ringPlays", unfollowed := true, recurses := true, apart := false, narrowed := true }
def RingPlaysUptoSaid : Prop := ringPlaysUptoRow.holds Try.pinned (OpenSpec.upto ringPlaysSpec)

/-- 'sibyllaw10.RingKeeps', WHERE WHAT IT READS IS OF BULK AT MOST 1048576: true; the input reads as it did. -/
def ringKeepsUptoRow : OpenClaim := { program := "ytjfbjkgppnhaoaa", sum := "39a49ac83ef06c460813073a1327d52db0c60653c87af5476d31f380f058e9fe", func := "sibyl/sibyllaw10.RingKeeps", spec := "ringKeeps", apart := false, narrowed := true }
def RingKeepsUptoSaid : Prop := ringKeepsUptoRow.holds Try.pinned (OpenSpec.upto ringKeepsSpec)

/-- 'sibyllaw10.RingBound', WHERE WHAT IT READS IS OF BULK AT MOST 1048576: true; the input reads as it did. -/
def ringBoundUptoRow : OpenClaim := { program := "ytjfbjkgppnhaoaa", sum := "39a49ac83ef06c460813073a1327d52db0c60653c87af5476d31f380f058e9fe", func := "sibyl/sibyllaw10.RingBound", spec := "ringBound", unfollowed := true, recurses := true, apart := false, narrowed := true }
def RingBoundUptoSaid : Prop := ringBoundUptoRow.holds Try.pinned (OpenSpec.upto ringBoundSpec)

/-- 'sibyllaw10.RingNil', WHERE WHAT IT READS IS OF BULK AT MOST 1048576: true; the input reads as it did. -/
def ringNilUptoRow : OpenClaim := { program := "ytjfbjkgppnhaoaa", sum := "39a49ac83ef06c460813073a1327d52db0c60653c87af5476d31f380f058e9fe", func := "sibyl/sibyllaw10.RingNil", spec := "ringNil", unfollowed := true, recurses := true, apart := false, narrowed := true }
def RingNilUptoSaid : Prop := ringNilUptoRow.holds Try.pinned (OpenSpec.upto ringNilSpec)

/-- 'sibyllaw11.StoreOwn', WHERE WHAT IT READS IS OF BULK AT MOST 1048576: true; the input reads as it did. -/
def storeOwnUptoRow : OpenClaim := { program := "ytjfbjkgppnhaoaa", sum := "39a49ac83ef06c460813073a1327d52db0c60653c87af5476d31f380f058e9fe", func := "sibyl/sibyllaw11.StoreOwn", spec := "storeOwn", unfollowed := true, recurses := true, apart := false, narrowed := true }
def StoreOwnUptoSaid : Prop := storeOwnUptoRow.holds Try.pinned (OpenSpec.upto storeOwnSpec)

/-- 'sibyllaw11.StoreCounts', WHERE WHAT IT READS IS OF BULK AT MOST 1048576: true; the input reads as it did. -/
def storeCountsUptoRow : OpenClaim := { program := "ytjfbjkgppnhaoaa", sum := "39a49ac83ef06c460813073a1327d52db0c60653c87af5476d31f380f058e9fe", func := "sibyl/sibyllaw11.StoreCounts", spec := "storeCounts", unfollowed := true, recurses := true, apart := false, narrowed := true }
def StoreCountsUptoSaid : Prop := storeCountsUptoRow.holds Try.pinned (OpenSpec.upto storeCountsSpec)

end Rows
end Go.Proofs.Ytjfbjkgppnhaoaa
