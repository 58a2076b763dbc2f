/-
  No cell of these rows narrows 'for every input' (looked for: loops, veiled, ifaces, maps, wideKeys, modest, calm, conditions, laid).
  DERIVED. THE GIVEN ROWS OF THIS SEAT. 7 by the template 'for every input the law returns true; each argument reads behind the call as it read before'; 0 by the template 'total and deterministic' (their statements: YtofolfnnjdccgaaTotals.lean).
  GIVEN WITH THE SEED: the statements are not yours to turn. If you find one false, say at which input.
  Laid BY PROGRAM, IN A SANDBOX (cutbox-rows.mjs): the forced cells as the released guide's own fill.sh prints them over the translation 86410d1c00228897… (all of the seat's roots in one cut). By AI agents, Wed Nov 11 2026. No macro, syntax, notation, axiom, sorry.
-/
import Derived.Test.YtofolfnnjdccgaaChecked
import GoSem.Claim
import GoSem.ClaimJoined
import GoSem.ClaimMapViews
import Derived.JoinedTies
import Derived.KernelRfl
namespace Go.Proofs.Ytofolfnnjdccgaa
/- THE CELL 'sum', in the pinned program and in every row, IS THE sha256 OF THE DUMP (.gsa) THAT YtofolfnnjdccgaaProg.lean LOADS. Nothing in Lean hashes anything: it is a label: what it is worth is what the hold of that sum in a sandbox is worth. -/
noncomputable def Try.pinned : Pinned := { name := "ytofolfnnjdccgaa", sum := "86410d1c002288970a40c97058054484ae1ffad19e6b50e28c111d750d5afd26", checked := Try.checked }
namespace Rows
def none {H : Type} : Left H := { results := [], args := [] }

/-- 'fullerlaw04.ElemTells': WHATEVER THE INPUT: true; the input reads as it did. -/
def elemTellsSpec : ChangeSpec := { name := "elemTells", fn := fun _ => fun
  | [d1, d2, d3] => { results := [.lit (.bool true)], args := [d1, d2, d3] }
  | _ => none }
def elemTellsRow : OpenClaim := { program := "ytofolfnnjdccgaa", sum := "86410d1c002288970a40c97058054484ae1ffad19e6b50e28c111d750d5afd26", func := "fuller/fullerlaw04.ElemTells", spec := "elemTells", inPlace := ["math/bits.Add64"], unfollowed := true, recurses := true, named := ["math/bits.divideError", "math/bits.overflowError"], apart := false }
def ElemTellsSaid : Prop := elemTellsRow.holds Try.pinned (OpenSpec.ofChange elemTellsSpec)

/-- ITS FALSE NEIGHBOUR: 'it returns false'. Refute it at one input. -/
def elemTellsWrong : ChangeSpec := { name := "elemTells", fn := fun _ => fun
  | [d1, d2, d3] => { results := [.lit (.bool false)], args := [d1, d2, d3] }
  | _ => none }
def ElemTellsWrongFalsely : Prop := elemTellsRow.holds Try.pinned (OpenSpec.ofChange elemTellsWrong)

/-- 'fullerlaw04.ElemTurns': WHATEVER THE INPUT: true; the input reads as it did. -/
def elemTurnsSpec : ChangeSpec := { name := "elemTurns", fn := fun _ => fun
  | [d1, d2] => { results := [.lit (.bool true)], args := [d1, d2] }
  | _ => none }
def elemTurnsRow : OpenClaim := { program := "ytofolfnnjdccgaa", sum := "86410d1c002288970a40c97058054484ae1ffad19e6b50e28c111d750d5afd26", func := "fuller/fullerlaw04.ElemTurns", spec := "elemTurns", inPlace := ["math/bits.Add64"], unfollowed := true, recurses := true, named := ["math/bits.divideError", "math/bits.overflowError"], apart := false }
def ElemTurnsSaid : Prop := elemTurnsRow.holds Try.pinned (OpenSpec.ofChange elemTurnsSpec)

/-- ITS FALSE NEIGHBOUR: 'it returns false'. Refute it at one input. -/
def elemTurnsWrong : ChangeSpec := { name := "elemTurns", fn := fun _ => fun
  | [d1, d2] => { results := [.lit (.bool false)], args := [d1, d2] }
  | _ => none }
def ElemTurnsWrongFalsely : Prop := elemTurnsRow.holds Try.pinned (OpenSpec.ofChange elemTurnsWrong)

/-- 'fullerlaw04.ElemPlaces': WHATEVER THE INPUT: true; the input reads as it did. -/
def elemPlacesSpec : ChangeSpec := { name := "elemPlaces", fn := fun _ => fun
  | [d1, d2, d3] => { results := [.lit (.bool true)], args := [d1, d2, d3] }
  | _ => none }
def elemPlacesRow : OpenClaim := { program := "ytofolfnnjdccgaa", sum := "86410d1c002288970a40c97058054484ae1ffad19e6b50e28c111d750d5afd26", func := "fuller/fullerlaw04.ElemPlaces", spec := "elemPlaces", inPlace := ["math/bits.Add64"], unfollowed := true, recurses := true, named := ["math/bits.divideError", "math/bits.overflowError"], apart := false }
def ElemPlacesSaid : Prop := elemPlacesRow.holds Try.pinned (OpenSpec.ofChange elemPlacesSpec)

/-- ITS FALSE NEIGHBOUR: 'it returns false'. Refute it at one input. -/
def elemPlacesWrong : ChangeSpec := { name := "elemPlaces", fn := fun _ => fun
  | [d1, d2, d3] => { results := [.lit (.bool false)], args := [d1, d2, d3] }
  | _ => none }
def ElemPlacesWrongFalsely : Prop := elemPlacesRow.holds Try.pinned (OpenSpec.ofChange elemPlacesWrong)

/-- 'fullerlaw04.ElemOnes': WHATEVER THE INPUT: true; the input reads as it did. -/
def elemOnesSpec : ChangeSpec := { name := "elemOnes", fn := fun _ => fun
  | [d] => { results := [.lit (.bool true)], args := [d] }
  | _ => none }
def elemOnesRow : OpenClaim := { program := "ytofolfnnjdccgaa", sum := "86410d1c002288970a40c97058054484ae1ffad19e6b50e28c111d750d5afd26", func := "fuller/fullerlaw04.ElemOnes", spec := "elemOnes", inPlace := ["math/bits.Add64"], unfollowed := true, recurses := true, named := ["math/bits.divideError", "math/bits.overflowError"], apart := false }
def ElemOnesSaid : Prop := elemOnesRow.holds Try.pinned (OpenSpec.ofChange elemOnesSpec)

/-- ITS FALSE NEIGHBOUR: 'it returns false'. Refute it at one input. -/
def elemOnesWrong : ChangeSpec := { name := "elemOnes", fn := fun _ => fun
  | [d] => { results := [.lit (.bool false)], args := [d] }
  | _ => none }
def ElemOnesWrongFalsely : Prop := elemOnesRow.holds Try.pinned (OpenSpec.ofChange elemOnesWrong)

/-- 'fullerlaw04.ElemDoubles': WHATEVER THE INPUT: true; the input reads as it did. -/
def elemDoublesSpec : ChangeSpec := { name := "elemDoubles", fn := fun _ => fun
  | [d1, d2] => { results := [.lit (.bool true)], args := [d1, d2] }
  | _ => none }
def elemDoublesRow : OpenClaim := { program := "ytofolfnnjdccgaa", sum := "86410d1c002288970a40c97058054484ae1ffad19e6b50e28c111d750d5afd26", func := "fuller/fullerlaw04.ElemDoubles", spec := "elemDoubles", inPlace := ["math/bits.Add64"], unfollowed := true, recurses := true, named := ["math/bits.divideError", "math/bits.overflowError"], apart := false }
def ElemDoublesSaid : Prop := elemDoublesRow.holds Try.pinned (OpenSpec.ofChange elemDoublesSpec)

/-- ITS FALSE NEIGHBOUR: 'it returns false'. Refute it at one input. -/
def elemDoublesWrong : ChangeSpec := { name := "elemDoubles", fn := fun _ => fun
  | [d1, d2] => { results := [.lit (.bool false)], args := [d1, d2] }
  | _ => none }
def ElemDoublesWrongFalsely : Prop := elemDoublesRow.holds Try.pinned (OpenSpec.ofChange elemDoublesWrong)

/-- 'fullerlaw04.ElemSpreads': WHATEVER THE INPUT: true; the input reads as it did. -/
def elemSpreadsSpec : ChangeSpec := { name := "elemSpreads", fn := fun _ => fun
  | [d1, d2, d3] => { results := [.lit (.bool true)], args := [d1, d2, d3] }
  | _ => none }
def elemSpreadsRow : OpenClaim := { program := "ytofolfnnjdccgaa", sum := "86410d1c002288970a40c97058054484ae1ffad19e6b50e28c111d750d5afd26", func := "fuller/fullerlaw04.ElemSpreads", spec := "elemSpreads", inPlace := ["math/bits.Add64"], unfollowed := true, recurses := true, named := ["math/bits.divideError", "math/bits.overflowError"], apart := false }
def ElemSpreadsSaid : Prop := elemSpreadsRow.holds Try.pinned (OpenSpec.ofChange elemSpreadsSpec)

/-- ITS FALSE NEIGHBOUR: 'it returns false'. Refute it at one input. -/
def elemSpreadsWrong : ChangeSpec := { name := "elemSpreads", fn := fun _ => fun
  | [d1, d2, d3] => { results := [.lit (.bool false)], args := [d1, d2, d3] }
  | _ => none }
def ElemSpreadsWrongFalsely : Prop := elemSpreadsRow.holds Try.pinned (OpenSpec.ofChange elemSpreadsWrong)

/-- 'fullerlaw04.ElemThree': WHATEVER THE INPUT: true; the input reads as it did. -/
def elemThreeSpec : ChangeSpec := { name := "elemThree", fn := fun _ => fun
  | [d1, d2, d3] => { results := [.lit (.bool true)], args := [d1, d2, d3] }
  | _ => none }
def elemThreeRow : OpenClaim := { program := "ytofolfnnjdccgaa", sum := "86410d1c002288970a40c97058054484ae1ffad19e6b50e28c111d750d5afd26", func := "fuller/fullerlaw04.ElemThree", spec := "elemThree", inPlace := ["math/bits.Add64"], unfollowed := true, recurses := true, named := ["math/bits.divideError", "math/bits.overflowError"], apart := false }
def ElemThreeSaid : Prop := elemThreeRow.holds Try.pinned (OpenSpec.ofChange elemThreeSpec)

/-- ITS FALSE NEIGHBOUR: 'it returns false'. Refute it at one input. -/
def elemThreeWrong : ChangeSpec := { name := "elemThree", fn := fun _ => fun
  | [d1, d2, d3] => { results := [.lit (.bool false)], args := [d1, d2, d3] }
  | _ => none }
def ElemThreeWrongFalsely : Prop := elemThreeRow.holds Try.pinned (OpenSpec.ofChange elemThreeWrong)

/- THE SECOND FORM. 'bulk': how many values and letters a reading holds, each counted each time it is reached (what is shared counts as often as it is met; a slice's spare places count too). A statement '..UptoSaid' is the law's where the arguments, and the package variables that the reading takes, are together of bulk at most 1048576: NARROWER than '..Said'. Prove '..Said' where nothing that the law and all that it calls make is longer than what came in: it says more and counts as full. Else prove '..UptoSaid'. A law counts once. -/
mutual
def uptoBulk {H : Type} : DataW H → Nat
  | .lit (.string bytes) => bytes.length + 1
  | .lit _ => 1
  | .nil => 1
  | .ptr d => uptoBulk d + 1
  | .slice elems spare => uptoBulkAll elems + uptoBulkAll spare + 1
  | .agg parts => uptoBulkAll parts + 1
  | .iface _ d => uptoBulk d + 1
  | .map entries => uptoBulkEntries entries + 1
  | .held _ => 1
def uptoBulkAll {H : Type} : List (DataW H) → Nat
  | [] => 0
  | d :: r => uptoBulk d + uptoBulkAll r
def uptoBulkEntries {H : Type} : List (Lit × DataW H) → Nat
  | [] => 0
  | x :: r => uptoBulkEntry x + uptoBulkEntries r
def uptoBulkEntry {H : Type} : Lit × DataW H → Nat
  | (.string bytes, d) => bytes.length + uptoBulk d + 1
  | (_, d) => uptoBulk d + 1
 end
def uptoSmall : (H : Type) → List (DataW H) → Bool := fun _ ds => decide (uptoBulkAll ds ≤ 1048576)
def OpenSpec.upto (s : _root_.Go.ChangeSpec) : _root_.Go.OpenSpec := { _root_.Go.OpenSpec.ofChange s with cond := some uptoSmall }

/-- 'fullerlaw04.ElemTells', WHERE WHAT IT READS IS OF BULK AT MOST 1048576: true; the input reads as it did. -/
def elemTellsUptoRow : OpenClaim := { program := "ytofolfnnjdccgaa", sum := "86410d1c002288970a40c97058054484ae1ffad19e6b50e28c111d750d5afd26", func := "fuller/fullerlaw04.ElemTells", spec := "elemTells", inPlace := ["math/bits.Add64"], unfollowed := true, recurses := true, named := ["math/bits.divideError", "math/bits.overflowError"], apart := false, narrowed := true }
def ElemTellsUptoSaid : Prop := elemTellsUptoRow.holds Try.pinned (OpenSpec.upto elemTellsSpec)

/-- 'fullerlaw04.ElemTurns', WHERE WHAT IT READS IS OF BULK AT MOST 1048576: true; the input reads as it did. -/
def elemTurnsUptoRow : OpenClaim := { program := "ytofolfnnjdccgaa", sum := "86410d1c002288970a40c97058054484ae1ffad19e6b50e28c111d750d5afd26", func := "fuller/fullerlaw04.ElemTurns", spec := "elemTurns", inPlace := ["math/bits.Add64"], unfollowed := true, recurses := true, named := ["math/bits.divideError", "math/bits.overflowError"], apart := false, narrowed := true }
def ElemTurnsUptoSaid : Prop := elemTurnsUptoRow.holds Try.pinned (OpenSpec.upto elemTurnsSpec)

/-- 'fullerlaw04.ElemPlaces', WHERE WHAT IT READS IS OF BULK AT MOST 1048576: true; the input reads as it did. -/
def elemPlacesUptoRow : OpenClaim := { program := "ytofolfnnjdccgaa", sum := "86410d1c002288970a40c97058054484ae1ffad19e6b50e28c111d750d5afd26", func := "fuller/fullerlaw04.ElemPlaces", spec := "elemPlaces", inPlace := ["math/bits.Add64"], unfollowed := true, recurses := true, named := ["math/bits.divideError", "math/bits.overflowError"], apart := false, narrowed := true }
def ElemPlacesUptoSaid : Prop := elemPlacesUptoRow.holds Try.pinned (OpenSpec.upto elemPlacesSpec)

/-- 'fullerlaw04.ElemOnes', WHERE WHAT IT READS IS OF BULK AT MOST 1048576: true; the input reads as it did. -/
def elemOnesUptoRow : OpenClaim := { program := "ytofolfnnjdccgaa", sum := "86410d1c002288970a40c97058054484ae1ffad19e6b50e28c111d750d5afd26", func := "fuller/fullerlaw04.ElemOnes", spec := "elemOnes", inPlace := ["math/bits.Add64"], unfollowed := true, recurses := true, named := ["math/bits.divideError", "math/bits.overflowError"], apart := false, narrowed := true }
def ElemOnesUptoSaid : Prop := elemOnesUptoRow.holds Try.pinned (OpenSpec.upto elemOnesSpec)

/-- 'fullerlaw04.ElemDoubles', WHERE WHAT IT READS IS OF BULK AT MOST 1048576: true; the input reads as it did. -/
def elemDoublesUptoRow : OpenClaim := { program := "ytofolfnnjdccgaa", sum := "86410d1c002288970a40c97058054484ae1ffad19e6b50e28c111d750d5afd26", func := "fuller/fullerlaw04.ElemDoubles", spec := "elemDoubles", inPlace := ["math/bits.Add64"], unfollowed := true, recurses := true, named := ["math/bits.divideError", "math/bits.overflowError"], apart := false, narrowed := true }
def ElemDoublesUptoSaid : Prop := elemDoublesUptoRow.holds Try.pinned (OpenSpec.upto elemDoublesSpec)

/-- 'fullerlaw04.ElemSpreads', WHERE WHAT IT READS IS OF BULK AT MOST 1048576: true; the input reads as it did. -/
def elemSpreadsUptoRow : OpenClaim := { program := "ytofolfnnjdccgaa", sum := "86410d1c002288970a40c97058054484ae1ffad19e6b50e28c111d750d5afd26", func := "fuller/fullerlaw04.ElemSpreads", spec := "elemSpreads", inPlace := ["math/bits.Add64"], unfollowed := true, recurses := true, named := ["math/bits.divideError", "math/bits.overflowError"], apart := false, narrowed := true }
def ElemSpreadsUptoSaid : Prop := elemSpreadsUptoRow.holds Try.pinned (OpenSpec.upto elemSpreadsSpec)

/-- 'fullerlaw04.ElemThree', WHERE WHAT IT READS IS OF BULK AT MOST 1048576: true; the input reads as it did. -/
def elemThreeUptoRow : OpenClaim := { program := "ytofolfnnjdccgaa", sum := "86410d1c002288970a40c97058054484ae1ffad19e6b50e28c111d750d5afd26", func := "fuller/fullerlaw04.ElemThree", spec := "elemThree", inPlace := ["math/bits.Add64"], unfollowed := true, recurses := true, named := ["math/bits.divideError", "math/bits.overflowError"], apart := false, narrowed := true }
def ElemThreeUptoSaid : Prop := elemThreeUptoRow.holds Try.pinned (OpenSpec.upto elemThreeSpec)

end Rows
end Go.Proofs.Ytofolfnnjdccgaa
