import Derived.Test.YtjkdcegmdfmjpaaGreatTk
import Derived.Test.YtjkdcegmdfmjpaaGreatEvPl
import Derived.Test.YtjkdcegmdfmjpaaGreatInM
import Derived.Test.YtjkdcegmdfmjpaaGreatImM
set_option maxHeartbeats 16000000
set_option maxRecDepth 100000
set_option linter.unusedVariables false
set_option linter.unusedSimpArgs false
namespace Go.Proofs.EvM
open Go.Proofs.ShM Go.Proofs.FixM Go.Proofs.GrM Go.Proofs.InM Go.Proofs.ImM
abbrev Ev := T × Int
def eT : T := ([], [])
def tnE (r : Tn) : Ev := ((r.1, r.2.1), r.2.2)
def givenV (t : T) (s : List Int) : Ev := if tokT t = true ∧ t.1 = s then (t, 0) else (eT, 130)
def parT (ps : List T) (p : Int) : T := if 0 ≤ p then ps.getD p.toNat eT else eT
def moreE (op : Int) (nums : List Int) (a b : T) : Ev :=
 if op = 30 then tnE (matV a.1 a.2 b.1 b.2) else if op = 40 then tnE (reshapeV a.1 a.2 nums) else if op = 41 then tnE (turnV a.1 a.2) else
 if op = 42 then tnE (sliceV a.1 a.2 (nums.getD 0 0) (nums.getD 1 0) (nums.getD 2 0)) else if op = 43 then tnE (glueV a.1 a.2 b.1 b.2 (nums.getD 0 0)) else
 if op = 50 then tnE (sumV a.1 a.2 (nums.getD 0 0)) else if op = 51 then tnE (meanV a.1 a.2 (nums.getD 0 0)) else tnE (maxV a.1 a.2 (nums.getD 0 0))
def kindE (op : Int) (nums : List Int) (a b : T) (s : List Int) (inp : T) (ps : List T) : Ev :=
 if op = 1 then givenV inp s else if op = 2 then givenV (parT ps (nums.getD 0 0)) s else if op = 3 then tnE (fullV [] (nums.getD 0 0)) else
 if 10 ≤ op ∧ op ≤ 13 then tnE (twoV op a.1 a.2 b.1 b.2) else if 20 ≤ op ∧ op ≤ 23 then tnE (oneV op a.1 a.2) else moreE op nums a b
def shT (ts : List T) : List (List Int) := ts.map (·.1)
def nodeE (op : Int) (nums : List Int) (ts : List T) (inp : T) (ps : List T) : Ev :=
 if ts.all tokT = false then (eT, 30) else if (nodeV op nums (shT ts)).2 = 0 then kindE op nums (ts.getD 0 eT) (ts.getD 1 eT) (nodeV op nums (shT ts)).1 inp ps else (eT, (nodeV op nums (shT ts)).2)
theorem getD_sh (ts : List T) (k : Nat) : (shT ts).getD k [] = (ts.getD k eT).1 := by
 unfold shT
 rw [List.getD_eq_getElem?_getD, List.getD_eq_getElem?_getD, List.getElem?_map]
 cases ts[k]? <;> rfl
end Go.Proofs.EvM
