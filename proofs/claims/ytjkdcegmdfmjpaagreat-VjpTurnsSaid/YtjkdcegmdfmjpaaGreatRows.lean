/-
  No cell of these rows narrows 'for every input' (looked for: loops, veiled, ifaces, maps, wideKeys, modest, calm, conditions, laid).
  DERIVED. THE GIVEN ROWS OF THIS SEAT. 3 by the template 'for every input the law returns true; each argument reads behind the call as it read before'; 0 by the template 'total and deterministic' (their statements: YtjkdcegmdfmjpaaGreatTotals.lean).
  GIVEN WITH THE SEED: the statements are not yours to turn. If you find one false, say at which input.
  Laid BY PROGRAM, IN A SANDBOX (cutbox-rows.mjs): the forced cells as the released guide's own fill.sh prints them over the translation bf7d689c1c9f92df… (all of the seat's roots in one cut). By AI agents, Wed Nov 11 2026. No macro, syntax, notation, axiom, sorry.
-/
import Derived.Test.YtjkdcegmdfmjpaaGreatChecked
import GoSem.Claim
import GoSem.ClaimJoined
import GoSem.ClaimMapViews
import Derived.JoinedTies
import Derived.KernelRfl
namespace Go.Proofs.YtjkdcegmdfmjpaaGreat
/- THE CELL 'sum', in the pinned program and in every row, IS THE sha256 OF THE DUMP (.gsa) THAT YtjkdcegmdfmjpaaGreatProg.lean LOADS. Nothing in Lean hashes anything: it is a label: what it is worth is what the hold of that sum in a sandbox is worth. -/
noncomputable def Tryz.pinned : Pinned := { name := "ytjkdcegmdfmjpaagreat", sum := "bf7d689c1c9f92dfe3b851ce03647d760c81ac87ffb401bdef53d855b8d1c026", checked := Tryz.checked }
namespace Rows
def none {H : Type} : Left H := { results := [], args := [] }

/-- 'fullerlaw14.VjpShapes': WHATEVER THE INPUT: true; the input reads as it did. -/
def vjpShapesSpec : ChangeSpec := { name := "vjpShapes", fn := fun _ => fun
  | [d1, d2, d3] => { results := [.lit (.bool true)], args := [d1, d2, d3] }
  | _ => none }
def vjpShapesRow : OpenClaim := { program := "ytjkdcegmdfmjpaagreat", sum := "bf7d689c1c9f92dfe3b851ce03647d760c81ac87ffb401bdef53d855b8d1c026", func := "fuller/fullerlaw14.VjpShapes", spec := "vjpShapes", inPlace := ["math/bits.Add64", "slices.overlaps[int]"], unfollowed := true, recurses := true, named := ["math/bits.divideError", "math/bits.overflowError"], apart := false }
def VjpShapesSaid : Prop := vjpShapesRow.holds Tryz.pinned (OpenSpec.ofChange vjpShapesSpec)

/-- ITS FALSE NEIGHBOUR: 'it returns false'. Refute it at one input. -/
def vjpShapesWrong : ChangeSpec := { name := "vjpShapes", fn := fun _ => fun
  | [d1, d2, d3] => { results := [.lit (.bool false)], args := [d1, d2, d3] }
  | _ => none }
def VjpShapesWrongFalsely : Prop := vjpShapesRow.holds Tryz.pinned (OpenSpec.ofChange vjpShapesWrong)

/-- 'fullerlaw14.VjpAdds': WHATEVER THE INPUT: true; the input reads as it did. -/
def vjpAddsSpec : ChangeSpec := { name := "vjpAdds", fn := fun _ => fun
  | [d1, d2, d3, d4] => { results := [.lit (.bool true)], args := [d1, d2, d3, d4] }
  | _ => none }
def vjpAddsRow : OpenClaim := { program := "ytjkdcegmdfmjpaagreat", sum := "bf7d689c1c9f92dfe3b851ce03647d760c81ac87ffb401bdef53d855b8d1c026", func := "fuller/fullerlaw14.VjpAdds", spec := "vjpAdds", inPlace := ["math/bits.Add64", "slices.overlaps[int]"], unfollowed := true, recurses := true, named := ["math/bits.divideError", "math/bits.overflowError"], apart := false }
def VjpAddsSaid : Prop := vjpAddsRow.holds Tryz.pinned (OpenSpec.ofChange vjpAddsSpec)

/-- ITS FALSE NEIGHBOUR: 'it returns false'. Refute it at one input. -/
def vjpAddsWrong : ChangeSpec := { name := "vjpAdds", fn := fun _ => fun
  | [d1, d2, d3, d4] => { results := [.lit (.bool false)], args := [d1, d2, d3, d4] }
  | _ => none }
def VjpAddsWrongFalsely : Prop := vjpAddsRow.holds Tryz.pinned (OpenSpec.ofChange vjpAddsWrong)

/-- 'fullerlaw14.VjpTurns': WHATEVER THE INPUT: true; the input reads as it did. -/
def vjpTurnsSpec : ChangeSpec := { name := "vjpTurns", fn := fun _ => fun
  | [d1, d2, d3, d4, d5] => { results := [.lit (.bool true)], args := [d1, d2, d3, d4, d5] }
  | _ => none }
def vjpTurnsRow : OpenClaim := { program := "ytjkdcegmdfmjpaagreat", sum := "bf7d689c1c9f92dfe3b851ce03647d760c81ac87ffb401bdef53d855b8d1c026", func := "fuller/fullerlaw14.VjpTurns", spec := "vjpTurns", inPlace := ["math/bits.Add64", "slices.overlaps[int]"], unfollowed := true, recurses := true, named := ["math/bits.divideError", "math/bits.overflowError"], apart := false }
def VjpTurnsSaid : Prop := vjpTurnsRow.holds Tryz.pinned (OpenSpec.ofChange vjpTurnsSpec)

/-- ITS FALSE NEIGHBOUR: 'it returns false'. Refute it at one input. -/
def vjpTurnsWrong : ChangeSpec := { name := "vjpTurns", fn := fun _ => fun
  | [d1, d2, d3, d4, d5] => { results := [.lit (.bool false)], args := [d1, d2, d3, d4, d5] }
  | _ => none }
def VjpTurnsWrongFalsely : Prop := vjpTurnsRow.holds Tryz.pinned (OpenSpec.ofChange vjpTurnsWrong)

/- THE SECOND FORM. 'bulk': how many values and letters a reading holds, each counted each time it is reached (what is shared counts as often as it is met; a slice's spare places count too). A statement '..UptoSaid' is the law's where the arguments, and the package variables that the reading takes, are together of bulk at most 1048576: NARROWER than '..Said'. Prove '..Said' where nothing that the law and all that it calls make is longer than what came in: it says more and counts as full. Else prove '..UptoSaid'. A law counts once. -/
mutual
def uptoBulk {H : Type} : DataW H → Nat
  | .lit (.string bytes) => bytes.length + 1
  | .lit _ => 1
  | .nil => 1
  | .ptr d => uptoBulk d + 1
  | .slice elems spare => uptoBulkAll elems + uptoBulkAll spare + 1
  | .agg parts => uptoBulkAll parts + 1
  | .iface _ d => uptoBulk d + 1
  | .map entries => uptoBulkEntries entries + 1
  | .held _ => 1
def uptoBulkAll {H : Type} : List (DataW H) → Nat
  | [] => 0
  | d :: r => uptoBulk d + uptoBulkAll r
def uptoBulkEntries {H : Type} : List (Lit × DataW H) → Nat
  | [] => 0
  | x :: r => uptoBulkEntry x + uptoBulkEntries r
def uptoBulkEntry {H : Type} : Lit × DataW H → Nat
  | (.string bytes, d) => bytes.length + uptoBulk d + 1
  | (_, d) => uptoBulk d + 1
 end
def uptoSmall : (H : Type) → List (DataW H) → Bool := fun _ ds => decide (uptoBulkAll ds ≤ 1048576)
def OpenSpec.upto (s : _root_.Go.ChangeSpec) : _root_.Go.OpenSpec := { _root_.Go.OpenSpec.ofChange s with cond := some uptoSmall }

/-- 'fullerlaw14.VjpShapes', WHERE WHAT IT READS IS OF BULK AT MOST 1048576: true; the input reads as it did. -/
def vjpShapesUptoRow : OpenClaim := { program := "ytjkdcegmdfmjpaagreat", sum := "bf7d689c1c9f92dfe3b851ce03647d760c81ac87ffb401bdef53d855b8d1c026", func := "fuller/fullerlaw14.VjpShapes", spec := "vjpShapes", inPlace := ["math/bits.Add64", "slices.overlaps[int]"], unfollowed := true, recurses := true, named := ["math/bits.divideError", "math/bits.overflowError"], apart := false, narrowed := true }
def VjpShapesUptoSaid : Prop := vjpShapesUptoRow.holds Tryz.pinned (OpenSpec.upto vjpShapesSpec)

/-- 'fullerlaw14.VjpAdds', WHERE WHAT IT READS IS OF BULK AT MOST 1048576: true; the input reads as it did. -/
def vjpAddsUptoRow : OpenClaim := { program := "ytjkdcegmdfmjpaagreat", sum := "bf7d689c1c9f92dfe3b851ce03647d760c81ac87ffb401bdef53d855b8d1c026", func := "fuller/fullerlaw14.VjpAdds", spec := "vjpAdds", inPlace := ["math/bits.Add64", "slices.overlaps[int]"], unfollowed := true, recurses := true, named := ["math/bits.divideError", "math/bits.overflowError"], apart := false, narrowed := true }
def VjpAddsUptoSaid : Prop := vjpAddsUptoRow.holds Tryz.pinned (OpenSpec.upto vjpAddsSpec)

/-- 'fullerlaw14.VjpTurns', WHERE WHAT IT READS IS OF BULK AT MOST 1048576: true; the input reads as it did. -/
def vjpTurnsUptoRow : OpenClaim := { program := "ytjkdcegmdfmjpaagreat", sum := "bf7d689c1c9f92dfe3b851ce03647d760c81ac87ffb401bdef53d855b8d1c026", func := "fuller/fullerlaw14.VjpTurns", spec := "vjpTurns", inPlace := ["math/bits.Add64", "slices.overlaps[int]"], unfollowed := true, recurses := true, named := ["math/bits.divideError", "math/bits.overflowError"], apart := false, narrowed := true }
def VjpTurnsUptoSaid : Prop := vjpTurnsUptoRow.holds Tryz.pinned (OpenSpec.upto vjpTurnsSpec)

end Rows
end Go.Proofs.YtjkdcegmdfmjpaaGreat
