import Derived.Test.YtjkdcegmdfmjpaaGreatTk
import Derived.Test.YtjkdcegmdfmjpaaGreatPkAll
import Derived.Test.YtjkdcegmdfmjpaaGreatTnAll
set_option maxHeartbeats 16000000
set_option maxRecDepth 100000
set_option linter.unusedVariables false
set_option linter.unusedSimpArgs false
namespace Go.Proofs.ImM
open Go.Proofs.PkM Go.Proofs.ShM
abbrev T := List Int × List Int
def tokT (t : T) : Bool := tokV t.1 t.2
def N64 (l : List Int) : Prop := ∀ n ∈ l, -9223372036854775808 ≤ n ∧ n ≤ 9223372036854775807
theorem tok_iff {t : T} : tokT t = true ↔ okS t.1 = true ∧ (t.2.length : Int) = sizeV t.1 := by unfold tokT tokV; simp
theorem ok_len {s : List Int} (h : okS s = true) : s.length ≤ 3 := (ok_iff.1 h).1
theorem tok_size {t : T} (h : tokT t = true) : t.2.length ≤ 64 ∧ 1 ≤ t.2.length ∧ t.1.length ≤ 3 := by
 obtain ⟨h1, h2⟩ := tok_iff.1 h
 rw [size_ok h1] at h2
 have := ok_prod h1
 exact ⟨by omega, by omega, ok_len h1⟩
end Go.Proofs.ImM
