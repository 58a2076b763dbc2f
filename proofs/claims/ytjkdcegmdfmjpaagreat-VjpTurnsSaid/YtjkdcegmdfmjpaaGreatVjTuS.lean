import Derived.Test.YtjkdcegmdfmjpaaGreatTk
import Derived.Test.YtjkdcegmdfmjpaaGreatVjAw
import Derived.Test.YtjkdcegmdfmjpaaGreatVjN
set_option maxHeartbeats 16000000
set_option maxRecDepth 100000
set_option linter.unusedVariables false
set_option linter.unusedSimpArgs false
namespace Go.Proofs.YtjkdcegmdfmjpaaGreat
open Go.RowKit Go.Proofs.ShM Go.Proofs.GrM Go.Proofs.InM Go.Proofs.ImM Go.Proofs.EvM
theorem sm_e : SmT eT := ⟨by decide, by decide, (fun _ h => by cases h), fun _ h => by cases h⟩
theorem sm_none : SmTs [] := ⟨by decide, fun _ h => by cases h⟩
theorem sm_node {op : Int} {nums : List Int} {ts : List T} {r : Ev} (h : nodeE op nums ts eT [] = r) (h1 : SmTs ts) (h4 : N64 nums) : SmT r.1 := by
 rw [← h]
 exact node_few (fun t ht => (h1.2 t ht).2.2.2) n64_nil (fun _ h => by cases h) h4
end Go.Proofs.YtjkdcegmdfmjpaaGreat
