/-
  No cell of these rows narrows 'for every input' (looked for: loops, veiled, ifaces, maps, wideKeys, modest, calm, conditions, laid).
  DERIVED. THE GIVEN ROWS OF THIS SEAT. 6 by the template 'for every input the law returns true; each argument reads behind the call as it read before'; 0 by the template 'total and deterministic' (their statements: YtepnhmdjglpmeaaTotals.lean).
  GIVEN WITH THE SEED: the statements are not yours to turn. If you find one false, say at which input.
  Laid BY PROGRAM, IN A SANDBOX (cutbox-rows.mjs): the forced cells as the released guide's own fill.sh prints them over the translation 9b1ecb0e71a60187… (all of the seat's roots in one cut). By AI agents, Wed Nov 11 2026. No macro, syntax, notation, axiom, sorry.
-/
import Derived.Test.YtepnhmdjglpmeaaChecked
import GoSem.Claim
import GoSem.ClaimJoined
import GoSem.ClaimMapViews
import Derived.JoinedTies
import Derived.KernelRfl
namespace Go.Proofs.Ytepnhmdjglpmeaa
/- THE CELL 'sum', in the pinned program and in every row, IS THE sha256 OF THE DUMP (.gsa) THAT YtepnhmdjglpmeaaProg.lean LOADS. Nothing in Lean hashes anything: it is a label: what it is worth is what the hold of that sum in a sandbox is worth. -/
noncomputable def Try.pinned : Pinned := { name := "ytepnhmdjglpmeaa", sum := "9b1ecb0e71a60187ebd51576514d5614073654a7cc5e3647770cce5765e46579", checked := Try.checked }
namespace Rows
def none {H : Type} : Left H := { results := [], args := [] }

/-- 'fullerlaw07.MatmulTells': WHATEVER THE INPUT: true; the input reads as it did. -/
def matmulTellsSpec : ChangeSpec := { name := "matmulTells", fn := fun _ => fun
  | [d1, d2] => { results := [.lit (.bool true)], args := [d1, d2] }
  | _ => none }
def matmulTellsRow : OpenClaim := { program := "ytepnhmdjglpmeaa", sum := "9b1ecb0e71a60187ebd51576514d5614073654a7cc5e3647770cce5765e46579", func := "fuller/fullerlaw07.MatmulTells", spec := "matmulTells", inPlace := ["math/bits.Add64"], unfollowed := true, recurses := true, named := ["math/bits.divideError", "math/bits.overflowError"], apart := false }
def MatmulTellsSaid : Prop := matmulTellsRow.holds Try.pinned (OpenSpec.ofChange matmulTellsSpec)

/-- ITS FALSE NEIGHBOUR: 'it returns false'. Refute it at one input. -/
def matmulTellsWrong : ChangeSpec := { name := "matmulTells", fn := fun _ => fun
  | [d1, d2] => { results := [.lit (.bool false)], args := [d1, d2] }
  | _ => none }
def MatmulTellsWrongFalsely : Prop := matmulTellsRow.holds Try.pinned (OpenSpec.ofChange matmulTellsWrong)

/-- 'fullerlaw07.MatmulUnit': WHATEVER THE INPUT: true; the input reads as it did. -/
def matmulUnitSpec : ChangeSpec := { name := "matmulUnit", fn := fun _ => fun
  | [d] => { results := [.lit (.bool true)], args := [d] }
  | _ => none }
def matmulUnitRow : OpenClaim := { program := "ytepnhmdjglpmeaa", sum := "9b1ecb0e71a60187ebd51576514d5614073654a7cc5e3647770cce5765e46579", func := "fuller/fullerlaw07.MatmulUnit", spec := "matmulUnit", inPlace := ["math/bits.Add64"], unfollowed := true, recurses := true, named := ["math/bits.divideError", "math/bits.overflowError"], apart := false }
def MatmulUnitSaid : Prop := matmulUnitRow.holds Try.pinned (OpenSpec.ofChange matmulUnitSpec)

/-- ITS FALSE NEIGHBOUR: 'it returns false'. Refute it at one input. -/
def matmulUnitWrong : ChangeSpec := { name := "matmulUnit", fn := fun _ => fun
  | [d] => { results := [.lit (.bool false)], args := [d] }
  | _ => none }
def MatmulUnitWrongFalsely : Prop := matmulUnitRow.holds Try.pinned (OpenSpec.ofChange matmulUnitWrong)

/-- 'fullerlaw07.MatmulTurns': WHATEVER THE INPUT: true; the input reads as it did. -/
def matmulTurnsSpec : ChangeSpec := { name := "matmulTurns", fn := fun _ => fun
  | [d1, d2] => { results := [.lit (.bool true)], args := [d1, d2] }
  | _ => none }
def matmulTurnsRow : OpenClaim := { program := "ytepnhmdjglpmeaa", sum := "9b1ecb0e71a60187ebd51576514d5614073654a7cc5e3647770cce5765e46579", func := "fuller/fullerlaw07.MatmulTurns", spec := "matmulTurns", inPlace := ["math/bits.Add64"], unfollowed := true, recurses := true, named := ["math/bits.divideError", "math/bits.overflowError"], apart := false }
def MatmulTurnsSaid : Prop := matmulTurnsRow.holds Try.pinned (OpenSpec.ofChange matmulTurnsSpec)

/-- ITS FALSE NEIGHBOUR: 'it returns false'. Refute it at one input. -/
def matmulTurnsWrong : ChangeSpec := { name := "matmulTurns", fn := fun _ => fun
  | [d1, d2] => { results := [.lit (.bool false)], args := [d1, d2] }
  | _ => none }
def MatmulTurnsWrongFalsely : Prop := matmulTurnsRow.holds Try.pinned (OpenSpec.ofChange matmulTurnsWrong)

/-- 'fullerlaw07.MatmulRows': WHATEVER THE INPUT: true; the input reads as it did. -/
def matmulRowsSpec : ChangeSpec := { name := "matmulRows", fn := fun _ => fun
  | [d1, d2, d3] => { results := [.lit (.bool true)], args := [d1, d2, d3] }
  | _ => none }
def matmulRowsRow : OpenClaim := { program := "ytepnhmdjglpmeaa", sum := "9b1ecb0e71a60187ebd51576514d5614073654a7cc5e3647770cce5765e46579", func := "fuller/fullerlaw07.MatmulRows", spec := "matmulRows", inPlace := ["math/bits.Add64"], unfollowed := true, recurses := true, named := ["math/bits.divideError", "math/bits.overflowError"], apart := false }
def MatmulRowsSaid : Prop := matmulRowsRow.holds Try.pinned (OpenSpec.ofChange matmulRowsSpec)

/-- ITS FALSE NEIGHBOUR: 'it returns false'. Refute it at one input. -/
def matmulRowsWrong : ChangeSpec := { name := "matmulRows", fn := fun _ => fun
  | [d1, d2, d3] => { results := [.lit (.bool false)], args := [d1, d2, d3] }
  | _ => none }
def MatmulRowsWrongFalsely : Prop := matmulRowsRow.holds Try.pinned (OpenSpec.ofChange matmulRowsWrong)

/-- 'fullerlaw07.MatmulZero': WHATEVER THE INPUT: true; the input reads as it did. -/
def matmulZeroSpec : ChangeSpec := { name := "matmulZero", fn := fun _ => fun
  | [d1, d2] => { results := [.lit (.bool true)], args := [d1, d2] }
  | _ => none }
def matmulZeroRow : OpenClaim := { program := "ytepnhmdjglpmeaa", sum := "9b1ecb0e71a60187ebd51576514d5614073654a7cc5e3647770cce5765e46579", func := "fuller/fullerlaw07.MatmulZero", spec := "matmulZero", inPlace := ["math/bits.Add64"], unfollowed := true, recurses := true, named := ["math/bits.divideError", "math/bits.overflowError"], apart := false }
def MatmulZeroSaid : Prop := matmulZeroRow.holds Try.pinned (OpenSpec.ofChange matmulZeroSpec)

/-- ITS FALSE NEIGHBOUR: 'it returns false'. Refute it at one input. -/
def matmulZeroWrong : ChangeSpec := { name := "matmulZero", fn := fun _ => fun
  | [d1, d2] => { results := [.lit (.bool false)], args := [d1, d2] }
  | _ => none }
def MatmulZeroWrongFalsely : Prop := matmulZeroRow.holds Try.pinned (OpenSpec.ofChange matmulZeroWrong)

/-- 'fullerlaw07.MatmulJoins': WHATEVER THE INPUT: true; the input reads as it did. -/
def matmulJoinsSpec : ChangeSpec := { name := "matmulJoins", fn := fun _ => fun
  | [d1, d2, d3] => { results := [.lit (.bool true)], args := [d1, d2, d3] }
  | _ => none }
def matmulJoinsRow : OpenClaim := { program := "ytepnhmdjglpmeaa", sum := "9b1ecb0e71a60187ebd51576514d5614073654a7cc5e3647770cce5765e46579", func := "fuller/fullerlaw07.MatmulJoins", spec := "matmulJoins", inPlace := ["math/bits.Add64"], unfollowed := true, recurses := true, named := ["math/bits.divideError", "math/bits.overflowError"], apart := false }
def MatmulJoinsSaid : Prop := matmulJoinsRow.holds Try.pinned (OpenSpec.ofChange matmulJoinsSpec)

/-- ITS FALSE NEIGHBOUR: 'it returns false'. Refute it at one input. -/
def matmulJoinsWrong : ChangeSpec := { name := "matmulJoins", fn := fun _ => fun
  | [d1, d2, d3] => { results := [.lit (.bool false)], args := [d1, d2, d3] }
  | _ => none }
def MatmulJoinsWrongFalsely : Prop := matmulJoinsRow.holds Try.pinned (OpenSpec.ofChange matmulJoinsWrong)

/- THE SECOND FORM. 'bulk': how many values and letters a reading holds, each counted each time it is reached (what is shared counts as often as it is met; a slice's spare places count too). A statement '..UptoSaid' is the law's where the arguments, and the package variables that the reading takes, are together of bulk at most 1048576: NARROWER than '..Said'. Prove '..Said' where nothing that the law and all that it calls make is longer than what came in: it says more and counts as full. Else prove '..UptoSaid'. A law counts once. -/
mutual
def uptoBulk {H : Type} : DataW H → Nat
  | .lit (.string bytes) => bytes.length + 1
  | .lit _ => 1
  | .nil => 1
  | .ptr d => uptoBulk d + 1
  | .slice elems spare => uptoBulkAll elems + uptoBulkAll spare + 1
  | .agg parts => uptoBulkAll parts + 1
  | .iface _ d => uptoBulk d + 1
  | .map entries => uptoBulkEntries entries + 1
  | .held _ => 1
def uptoBulkAll {H : Type} : List (DataW H) → Nat
  | [] => 0
  | d :: r => uptoBulk d + uptoBulkAll r
def uptoBulkEntries {H : Type} : List (Lit × DataW H) → Nat
  | [] => 0
  | x :: r => uptoBulkEntry x + uptoBulkEntries r
def uptoBulkEntry {H : Type} : Lit × DataW H → Nat
  | (.string bytes, d) => bytes.length + uptoBulk d + 1
  | (_, d) => uptoBulk d + 1
 end
def uptoSmall : (H : Type) → List (DataW H) → Bool := fun _ ds => decide (uptoBulkAll ds ≤ 1048576)
def OpenSpec.upto (s : _root_.Go.ChangeSpec) : _root_.Go.OpenSpec := { _root_.Go.OpenSpec.ofChange s with cond := some uptoSmall }

/-- 'fullerlaw07.MatmulTells', WHERE WHAT IT READS IS OF BULK AT MOST 1048576: true; the input reads as it did. -/
def matmulTellsUptoRow : OpenClaim := { program := "ytepnhmdjglpmeaa", sum := "9b1ecb0e71a60187ebd51576514d5614073654a7cc5e3647770cce5765e46579", func := "fuller/fullerlaw07.MatmulTells", spec := "matmulTells", inPlace := ["math/bits.Add64"], unfollowed := true, recurses := true, named := ["math/bits.divideError", "math/bits.overflowError"], apart := false, narrowed := true }
def MatmulTellsUptoSaid : Prop := matmulTellsUptoRow.holds Try.pinned (OpenSpec.upto matmulTellsSpec)

/-- 'fullerlaw07.MatmulUnit', WHERE WHAT IT READS IS OF BULK AT MOST 1048576: true; the input reads as it did. -/
def matmulUnitUptoRow : OpenClaim := { program := "ytepnhmdjglpmeaa", sum := "9b1ecb0e71a60187ebd51576514d5614073654a7cc5e3647770cce5765e46579", func := "fuller/fullerlaw07.MatmulUnit", spec := "matmulUnit", inPlace := ["math/bits.Add64"], unfollowed := true, recurses := true, named := ["math/bits.divideError", "math/bits.overflowError"], apart := false, narrowed := true }
def MatmulUnitUptoSaid : Prop := matmulUnitUptoRow.holds Try.pinned (OpenSpec.upto matmulUnitSpec)

/-- 'fullerlaw07.MatmulTurns', WHERE WHAT IT READS IS OF BULK AT MOST 1048576: true; the input reads as it did. -/
def matmulTurnsUptoRow : OpenClaim := { program := "ytepnhmdjglpmeaa", sum := "9b1ecb0e71a60187ebd51576514d5614073654a7cc5e3647770cce5765e46579", func := "fuller/fullerlaw07.MatmulTurns", spec := "matmulTurns", inPlace := ["math/bits.Add64"], unfollowed := true, recurses := true, named := ["math/bits.divideError", "math/bits.overflowError"], apart := false, narrowed := true }
def MatmulTurnsUptoSaid : Prop := matmulTurnsUptoRow.holds Try.pinned (OpenSpec.upto matmulTurnsSpec)

/-- 'fullerlaw07.MatmulRows', WHERE WHAT IT READS IS OF BULK AT MOST 1048576: true; the input reads as it did. -/
def matmulRowsUptoRow : OpenClaim := { program := "ytepnhmdjglpmeaa", sum := "9b1ecb0e71a60187ebd51576514d5614073654a7cc5e3647770cce5765e46579", func := "fuller/fullerlaw07.MatmulRows", spec := "matmulRows", inPlace := ["math/bits.Add64"], unfollowed := true, recurses := true, named := ["math/bits.divideError", "math/bits.overflowError"], apart := false, narrowed := true }
def MatmulRowsUptoSaid : Prop := matmulRowsUptoRow.holds Try.pinned (OpenSpec.upto matmulRowsSpec)

/-- 'fullerlaw07.MatmulZero', WHERE WHAT IT READS IS OF BULK AT MOST 1048576: true; the input reads as it did. -/
def matmulZeroUptoRow : OpenClaim := { program := "ytepnhmdjglpmeaa", sum := "9b1ecb0e71a60187ebd51576514d5614073654a7cc5e3647770cce5765e46579", func := "fuller/fullerlaw07.MatmulZero", spec := "matmulZero", inPlace := ["math/bits.Add64"], unfollowed := true, recurses := true, named := ["math/bits.divideError", "math/bits.overflowError"], apart := false, narrowed := true }
def MatmulZeroUptoSaid : Prop := matmulZeroUptoRow.holds Try.pinned (OpenSpec.upto matmulZeroSpec)

/-- 'fullerlaw07.MatmulJoins', WHERE WHAT IT READS IS OF BULK AT MOST 1048576: true; the input reads as it did. -/
def matmulJoinsUptoRow : OpenClaim := { program := "ytepnhmdjglpmeaa", sum := "9b1ecb0e71a60187ebd51576514d5614073654a7cc5e3647770cce5765e46579", func := "fuller/fullerlaw07.MatmulJoins", spec := "matmulJoins", inPlace := ["math/bits.Add64"], unfollowed := true, recurses := true, named := ["math/bits.divideError", "math/bits.overflowError"], apart := false, narrowed := true }
def MatmulJoinsUptoSaid : Prop := matmulJoinsUptoRow.holds Try.pinned (OpenSpec.upto matmulJoinsSpec)

end Rows
end Go.Proofs.Ytepnhmdjglpmeaa
