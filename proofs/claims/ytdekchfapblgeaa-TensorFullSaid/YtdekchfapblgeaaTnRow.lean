/- From a law's walk to its row: a tensor opened. -/
import Derived.Test.YtdekchfapblgeaaShRow
import Derived.Test.YtdekchfapblgeaaTnBk
import Derived.Lib.SmallJoins
namespace Go.Proofs.Ytdekchfapblgeaa
open Go.ChangeShapes Go.WideShapes Go.ChangeAt Go.RowKit Go.Proofs.ShM

section
variable {H : Type} {enc : TypeId × Value → H}
theorem i64_of {n : Int} (h : (Lit.int .i64 n).wf = true) : -9223372036854775808 ≤ n ∧ n ≤ 9223372036854775807 := by
  simp [Lit.wf, IntKind.min, IntKind.max, IntKind.signed, IntKind.bits] at h
  omega
/-- A field []int is there, as a list of numbers. -/
theorem rd_cells {W : World} {v : Value} {n : Nat} {y : DataW H × List MemPlace} (h : DataW.trod enc Try.prog W 0 (fun _ => true) true n 22 [v] = some y) :
    ∃ A m c, v = .slice A m c ∧ ∃ xs : List Int, m = xs.length ∧ Rd W A xs ∧ I64s xs := by
  rcases open_ints Try.underlying22 Try.underlying3 int_cells h with ⟨hcs, _⟩ | ⟨a', len, cap, zs, hcs, _, hl, hm, hz, _, hcell, hwf⟩
  · injection hcs with hcs _
    exact ⟨none, 0, 0, hcs, [], rfl, Rd.nil _ _, I64s.nil_⟩
  · injection hcs with hcs _
    simp only [if_true] at hz
    have ln : (zs.take len).length = len := by simp; omega
    refine ⟨some a', len, cap, hcs, zs.take len, ln.symm, ⟨by unfold maxLen at hm; omega, fun hp => ⟨a', rfl, ?_, fun j u hj => ?_⟩⟩, fun x hx => i64_of (hwf x (List.mem_of_mem_take hx))⟩
    · have := lt_of_cell (hcell 0 (by omega))
      rwa [block_of_add] at this
    · have hj' : j < len := by have := (List.getElem?_eq_some_iff.1 hj).1; omega
      rw [hcell j (by omega)]
      rw [List.getElem?_take, if_pos hj'] at hj
      simp [List.getD, hj]
/-- An argument tensor is there. -/
theorem tn_of {W : World} {r : Reach} {b : Nat} {v : Value} {d : DataW H} {p : List MemPlace} (hv : Value.okWide Try.prog W r b 24 v) (h : DataW.Trod enc Try.prog W 0 (fun _ => true) true 24 v d p) :
    ∃ A n c B m e, v = .agg #[.slice A n c, .slice B m e] ∧ ∃ s xs : List Int, n = s.length ∧ m = xs.length ∧ TR W A s B xs ∧ I64s xs := by
  obtain ⟨v0, v1, y0, y1, n, rfl, _, _, h0, h1⟩ := Go.Joins.open_agg2 Try.underlying24 (by kernel_rfl) (by kernel_rfl) hv h
  obtain ⟨A, n0, c, rfl, s, e1, r1, _⟩ := rd_cells h0
  obtain ⟨B, m0, e, rfl, xs, e2, r2, i2⟩ := rd_cells h1
  exact ⟨A, n0, c, B, m0, e, rfl, s, xs, e1, e2, ⟨r1, r2⟩, i2⟩
end
end Go.Proofs.Ytdekchfapblgeaa
