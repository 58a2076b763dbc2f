/-
  No cell of these rows narrows 'for every input' (looked for: loops, veiled, ifaces, maps, wideKeys, modest, calm, conditions, laid).
  DERIVED. THE GIVEN ROWS OF THIS SEAT. 4 by the template 'for every input the law returns true; each argument reads behind the call as it read before'; 0 by the template 'total and deterministic' (their statements: YtdbncanedokinaaGreatTotals.lean).
  GIVEN WITH THE SEED: the statements are not yours to turn. If you find one false, say at which input.
  Laid BY PROGRAM, IN A SANDBOX (cutbox-rows.mjs): the forced cells as the released guide's own fill.sh prints them over the translation cf208eb76e494f44… (all of the seat's roots in one cut). By AI agents, Wed Nov 11 2026. No macro, syntax, notation, axiom, sorry.
-/
import Derived.Test.YtdbncanedokinaaGreatChecked
import GoSem.Claim
import GoSem.ClaimJoined
import GoSem.ClaimMapViews
import Derived.JoinedTies
import Derived.KernelRfl
namespace Go.Proofs.YtdbncanedokinaaGreat
/- THE CELL 'sum', in the pinned program and in every row, IS THE sha256 OF THE DUMP (.gsa) THAT YtdbncanedokinaaGreatProg.lean LOADS. Nothing in Lean hashes anything: it is a label: what it is worth is what the hold of that sum in a sandbox is worth. -/
noncomputable def Tryz.pinned : Pinned := { name := "ytdbncanedokinaagreat", sum := "cf208eb76e494f440a0342442e7451417c87ace0f0b299d17396b3b2d2e5bcc3", checked := Tryz.checked }
namespace Rows
def none {H : Type} : Left H := { results := [], args := [] }

/-- 'fullerlaw13.EvalCuts': WHATEVER THE INPUT: true; the input reads as it did. -/
def evalCutsSpec : ChangeSpec := { name := "evalCuts", fn := fun _ => fun
  | [d1, d2, d3, d4] => { results := [.lit (.bool true)], args := [d1, d2, d3, d4] }
  | _ => none }
def evalCutsRow : OpenClaim := { program := "ytdbncanedokinaagreat", sum := "cf208eb76e494f440a0342442e7451417c87ace0f0b299d17396b3b2d2e5bcc3", func := "fuller/fullerlaw13.EvalCuts", spec := "evalCuts", inPlace := ["math/bits.Add64"], unfollowed := true, recurses := true, named := ["math/bits.divideError", "math/bits.overflowError"], apart := false }
def EvalCutsSaid : Prop := evalCutsRow.holds Tryz.pinned (OpenSpec.ofChange evalCutsSpec)

/-- ITS FALSE NEIGHBOUR: 'it returns false'. Refute it at one input. -/
def evalCutsWrong : ChangeSpec := { name := "evalCuts", fn := fun _ => fun
  | [d1, d2, d3, d4] => { results := [.lit (.bool false)], args := [d1, d2, d3, d4] }
  | _ => none }
def EvalCutsWrongFalsely : Prop := evalCutsRow.holds Tryz.pinned (OpenSpec.ofChange evalCutsWrong)

/-- 'fullerlaw13.EvalNames': WHATEVER THE INPUT: true; the input reads as it did. -/
def evalNamesSpec : ChangeSpec := { name := "evalNames", fn := fun _ => fun
  | [d1, d2, d3, d4] => { results := [.lit (.bool true)], args := [d1, d2, d3, d4] }
  | _ => none }
def evalNamesRow : OpenClaim := { program := "ytdbncanedokinaagreat", sum := "cf208eb76e494f440a0342442e7451417c87ace0f0b299d17396b3b2d2e5bcc3", func := "fuller/fullerlaw13.EvalNames", spec := "evalNames", inPlace := ["math/bits.Add64"], unfollowed := true, recurses := true, named := ["math/bits.divideError", "math/bits.overflowError"], apart := false }
def EvalNamesSaid : Prop := evalNamesRow.holds Tryz.pinned (OpenSpec.ofChange evalNamesSpec)

/-- ITS FALSE NEIGHBOUR: 'it returns false'. Refute it at one input. -/
def evalNamesWrong : ChangeSpec := { name := "evalNames", fn := fun _ => fun
  | [d1, d2, d3, d4] => { results := [.lit (.bool false)], args := [d1, d2, d3, d4] }
  | _ => none }
def EvalNamesWrongFalsely : Prop := evalNamesRow.holds Tryz.pinned (OpenSpec.ofChange evalNamesWrong)

/-- 'fullerlaw13.EvalAgain': WHATEVER THE INPUT: true; the input reads as it did. -/
def evalAgainSpec : ChangeSpec := { name := "evalAgain", fn := fun _ => fun
  | [d1, d2, d3] => { results := [.lit (.bool true)], args := [d1, d2, d3] }
  | _ => none }
def evalAgainRow : OpenClaim := { program := "ytdbncanedokinaagreat", sum := "cf208eb76e494f440a0342442e7451417c87ace0f0b299d17396b3b2d2e5bcc3", func := "fuller/fullerlaw13.EvalAgain", spec := "evalAgain", inPlace := ["math/bits.Add64"], unfollowed := true, recurses := true, named := ["math/bits.divideError", "math/bits.overflowError"], apart := false }
def EvalAgainSaid : Prop := evalAgainRow.holds Tryz.pinned (OpenSpec.ofChange evalAgainSpec)

/-- ITS FALSE NEIGHBOUR: 'it returns false'. Refute it at one input. -/
def evalAgainWrong : ChangeSpec := { name := "evalAgain", fn := fun _ => fun
  | [d1, d2, d3] => { results := [.lit (.bool false)], args := [d1, d2, d3] }
  | _ => none }
def EvalAgainWrongFalsely : Prop := evalAgainRow.holds Tryz.pinned (OpenSpec.ofChange evalAgainWrong)

/-- 'fullerlaw13.EvalOther': WHATEVER THE INPUT: true; the input reads as it did. -/
def evalOtherSpec : ChangeSpec := { name := "evalOther", fn := fun _ => fun
  | [d1, d2, d3] => { results := [.lit (.bool true)], args := [d1, d2, d3] }
  | _ => none }
def evalOtherRow : OpenClaim := { program := "ytdbncanedokinaagreat", sum := "cf208eb76e494f440a0342442e7451417c87ace0f0b299d17396b3b2d2e5bcc3", func := "fuller/fullerlaw13.EvalOther", spec := "evalOther", inPlace := ["math/bits.Add64"], unfollowed := true, recurses := true, named := ["math/bits.divideError", "math/bits.overflowError"], apart := false }
def EvalOtherSaid : Prop := evalOtherRow.holds Tryz.pinned (OpenSpec.ofChange evalOtherSpec)

/-- ITS FALSE NEIGHBOUR: 'it returns false'. Refute it at one input. -/
def evalOtherWrong : ChangeSpec := { name := "evalOther", fn := fun _ => fun
  | [d1, d2, d3] => { results := [.lit (.bool false)], args := [d1, d2, d3] }
  | _ => none }
def EvalOtherWrongFalsely : Prop := evalOtherRow.holds Tryz.pinned (OpenSpec.ofChange evalOtherWrong)

/- THE SECOND FORM. 'bulk': how many values and letters a reading holds, each counted each time it is reached (what is shared counts as often as it is met; a slice's spare places count too). A statement '..UptoSaid' is the law's where the arguments, and the package variables that the reading takes, are together of bulk at most 1048576: NARROWER than '..Said'. Prove '..Said' where nothing that the law and all that it calls make is longer than what came in: it says more and counts as full. Else prove '..UptoSaid'. A law counts once. -/
mutual
def uptoBulk {H : Type} : DataW H → Nat
  | .lit (.string bytes) => bytes.length + 1
  | .lit _ => 1
  | .nil => 1
  | .ptr d => uptoBulk d + 1
  | .slice elems spare => uptoBulkAll elems + uptoBulkAll spare + 1
  | .agg parts => uptoBulkAll parts + 1
  | .iface _ d => uptoBulk d + 1
  | .map entries => uptoBulkEntries entries + 1
  | .held _ => 1
def uptoBulkAll {H : Type} : List (DataW H) → Nat
  | [] => 0
  | d :: r => uptoBulk d + uptoBulkAll r
def uptoBulkEntries {H : Type} : List (Lit × DataW H) → Nat
  | [] => 0
  | x :: r => uptoBulkEntry x + uptoBulkEntries r
def uptoBulkEntry {H : Type} : Lit × DataW H → Nat
  | (.string bytes, d) => bytes.length + uptoBulk d + 1
  | (_, d) => uptoBulk d + 1
 end
def uptoSmall : (H : Type) → List (DataW H) → Bool := fun _ ds => decide (uptoBulkAll ds ≤ 1048576)
def OpenSpec.upto (s : _root_.Go.ChangeSpec) : _root_.Go.OpenSpec := { _root_.Go.OpenSpec.ofChange s with cond := some uptoSmall }

/-- 'fullerlaw13.EvalCuts', WHERE WHAT IT READS IS OF BULK AT MOST 1048576: true; the input reads as it did. -/
def evalCutsUptoRow : OpenClaim := { program := "ytdbncanedokinaagreat", sum := "cf208eb76e494f440a0342442e7451417c87ace0f0b299d17396b3b2d2e5bcc3", func := "fuller/fullerlaw13.EvalCuts", spec := "evalCuts", inPlace := ["math/bits.Add64"], unfollowed := true, recurses := true, named := ["math/bits.divideError", "math/bits.overflowError"], apart := false, narrowed := true }
def EvalCutsUptoSaid : Prop := evalCutsUptoRow.holds Tryz.pinned (OpenSpec.upto evalCutsSpec)

/-- 'fullerlaw13.EvalNames', WHERE WHAT IT READS IS OF BULK AT MOST 1048576: true; the input reads as it did. -/
def evalNamesUptoRow : OpenClaim := { program := "ytdbncanedokinaagreat", sum := "cf208eb76e494f440a0342442e7451417c87ace0f0b299d17396b3b2d2e5bcc3", func := "fuller/fullerlaw13.EvalNames", spec := "evalNames", inPlace := ["math/bits.Add64"], unfollowed := true, recurses := true, named := ["math/bits.divideError", "math/bits.overflowError"], apart := false, narrowed := true }
def EvalNamesUptoSaid : Prop := evalNamesUptoRow.holds Tryz.pinned (OpenSpec.upto evalNamesSpec)

/-- 'fullerlaw13.EvalAgain', WHERE WHAT IT READS IS OF BULK AT MOST 1048576: true; the input reads as it did. -/
def evalAgainUptoRow : OpenClaim := { program := "ytdbncanedokinaagreat", sum := "cf208eb76e494f440a0342442e7451417c87ace0f0b299d17396b3b2d2e5bcc3", func := "fuller/fullerlaw13.EvalAgain", spec := "evalAgain", inPlace := ["math/bits.Add64"], unfollowed := true, recurses := true, named := ["math/bits.divideError", "math/bits.overflowError"], apart := false, narrowed := true }
def EvalAgainUptoSaid : Prop := evalAgainUptoRow.holds Tryz.pinned (OpenSpec.upto evalAgainSpec)

/-- 'fullerlaw13.EvalOther', WHERE WHAT IT READS IS OF BULK AT MOST 1048576: true; the input reads as it did. -/
def evalOtherUptoRow : OpenClaim := { program := "ytdbncanedokinaagreat", sum := "cf208eb76e494f440a0342442e7451417c87ace0f0b299d17396b3b2d2e5bcc3", func := "fuller/fullerlaw13.EvalOther", spec := "evalOther", inPlace := ["math/bits.Add64"], unfollowed := true, recurses := true, named := ["math/bits.divideError", "math/bits.overflowError"], apart := false, narrowed := true }
def EvalOtherUptoSaid : Prop := evalOtherUptoRow.holds Tryz.pinned (OpenSpec.upto evalOtherSpec)

end Rows
end Go.Proofs.YtdbncanedokinaaGreat
