import Derived.Test.YtjkdcegmdfmjpaaGreatTk
import Derived.Test.YtjkdcegmdfmjpaaGreatInMem
import Derived.BigQuiet
import Derived.Deep.RegionLaw
import Derived.Deep.RegionHeld3
import Derived.Deep.DeepCutAuto
import Derived.Test.YtjkdcegmdfmjpaaGreatInMex
set_option maxHeartbeats 16000000
set_option maxRecDepth 100000
set_option linter.unusedVariables false
set_option linter.unusedSimpArgs false
namespace Go.Proofs.YtjkdcegmdfmjpaaGreat
open Go.RowKit Go.Proofs.ShM Go.Proofs.GrM Go.Proofs.InM
def RetW (xs : List Int) (w : World) (e : Ending) (w' : World) : Prop := ∃ A c, e = .returned (.slice A xs.length c) ∧ Own w.heap.size w' (.slice A xs.length c) xs ∧ Kp w w'
theorem RetW.on {xs : List Int} {n c : Nat} {A : Option Addr} {w w' : World} (hn : n = xs.length) (h : Own w.heap.size w' (.slice A n c) xs) (k : Kp w w') : RetW xs w (.returned (.slice A n c)) w' := by
 subst hn; exact ⟨A, c, rfl, h, k⟩
section
variable {w : World} {A : Option Addr} {x : List Int}
def cutI (A : Option Addr) (c j : Nat) : Option Addr := if c = j then A else A.map (·.add j)
theorem Rd.cutI (h : Rd w A x) {c j : Nat} (hc : x.length ≤ c) : Rd w (cutI A c j) (x.drop j) := by
 unfold Go.Proofs.YtjkdcegmdfmjpaaGreat.cutI
 split
 ·rename_i e
  rw [List.drop_eq_nil_of_le (by omega)]; exact Rd.nil _ _
 ·refine ⟨by have := h.1; simp; omega, fun hp => ?_⟩
  obtain ⟨ad, rfl, hb, hcs⟩ := h.2 (by simp at hp; omega)
  refine ⟨ad.add j, rfl, by rw [block_of_add]; exact hb, fun i u hu => ?_⟩
  rw [List.getElem?_drop] at hu
  rw [add_of_add]
  exact hcs _ _ hu
theorem run_cutI (W : World) (A : Option Addr) (n c j : Nat) (hj : j ≤ n) : (Instr.sliceAt 22 (.slice A n c) (some (.int .i64 (j : Int))) none none).run Tryz.prog W = .ok (.slice (cutI A c j) (n - j) (c - j)) W := by
 have hu : Tryz.prog.underlying 22 = some (.slice (Tryz.prog.elem 22)) := by kernel_rfl
 have hsz : ((sizeOf (Tryz.prog.elem 22)).run Tryz.prog W) = .ok 1 W := by
  obtain ⟨i, hi, _, h1, _⟩ := info_parts int_info
  simp [sizeOf, typeInfo, show Tryz.prog.elem 22 = 3 by kernel_rfl, hi, h1]
 rw [run_sliceAt_slice W _ _ _ _ _ hu, run_slice_l W _ A n c hu .i64 j (by omega) (by omega), hsz]
 simp [Result.andThen, sliced, cutI]
end
end Go.Proofs.YtjkdcegmdfmjpaaGreat
