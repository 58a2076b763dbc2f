/- From a law's walk to its row: arguments []int, []byte opened, all arguments read as they did. -/
import Derived.Test.YtngdblojglcfpaaPkC
import Derived.ProofKit
import Derived.OpenShut
import Derived.Carry
namespace Go.Proofs.Ytngdblojglcfpaa
open Go.ChangeShapes Go.WideShapes Go.ChangeAt Go.RowKit Go.Proofs.ShM Go.Proofs.PkM

theorem laid_out : laidOutB Try.prog = true := by kernel_rfl
theorem int_cells : Try.prog.cellsOf 3 = 1 := by kernel_rfl
theorem byte_cells : Try.prog.cellsOf 5 = 1 := by kernel_rfl

section
variable {H : Type} {enc : TypeId × Value → H}
theorem lt_of_cell {w : World} {a : Addr} {v : Value} (h : w.cell? a = some v) : a.block < w.heap.size := by
  rcases Nat.lt_or_ge a.block w.heap.size with hl | hl
  · exact hl
  · simp [World.cell?, Array.getElem?_eq_none hl] at h
theorem i64_of {n : Int} (h : (Lit.int .i64 n).wf = true) : I64 n := by
  simp [Lit.wf, IntKind.min, IntKind.max, IntKind.signed, IntKind.bits] at h
  unfold I64
  omega
theorem byte_of {n : Int} (h : (Lit.int .u8 n).wf = true) : 0 ≤ n ∧ n ≤ 255 := by
  simp [Lit.wf, IntKind.min, IntKind.max, IntKind.signed, IntKind.bits] at h
  omega

/-- An argument []int is there, as a list of numbers. -/
theorem rd_l {W : World} {a : Option Addr} {n c : Nat} {d : DataW H} {p : List MemPlace} (h : DataW.Trod enc Try.prog W 0 (fun _ => true) true 22 (.slice a n c) d p) :
    ∃ xs : List Int, n = xs.length ∧ Rd W a xs ∧ I64l xs := by
  obtain ⟨fuel, hf⟩ := h
  rcases open_ints Try.underlying22 Try.underlying3 int_cells hf with ⟨hcs, _⟩ | ⟨a', len, cap, zs, hcs, _, hl, hm, hz, _, hcell, hwf⟩
  · simp [Value.cells] at hcs
    obtain ⟨rfl, rfl, rfl⟩ := hcs
    exact ⟨[], rfl, Rd.nil _ _, fun _ h => by cases h⟩
  · simp [Value.cells] at hcs
    obtain ⟨rfl, rfl, rfl⟩ := hcs
    simp only [if_true] at hz
    have ln : (zs.take n).length = n := by simp; omega
    have hm' : c ≤ 9223372036854775807 := by unfold maxLen at hm; omega
    refine ⟨zs.take n, ln.symm, ⟨by omega, fun hp => ⟨a', rfl, ?_, fun j u hj => ?_⟩⟩, fun x hx => i64_of (hwf x (List.mem_of_mem_take hx))⟩
    · have := lt_of_cell (hcell 0 (by omega))
      rwa [block_of_add] at this
    · have hj' : j < n := by have := (List.getElem?_eq_some_iff.1 hj).1; omega
      rw [hcell j (by omega)]
      rw [List.getElem?_take, if_pos hj'] at hj
      simp [List.getD, hj]
/-- An argument []byte is there, as a list of bytes, with room. -/
theorem rd_y {W : World} {a : Option Addr} {n c : Nat} {d : DataW H} {p : List MemPlace} (h : DataW.Trod enc Try.prog W 0 (fun _ => true) true 23 (.slice a n c) d p) :
    ∃ xs : List Int, n = xs.length ∧ B8.Rd W a xs ∧ Bytes xs ∧ xs.length ≤ c ∧ c ≤ 9223372036854775807 := by
  obtain ⟨fuel, hf⟩ := h
  rcases open_ints Try.underlying23 Try.underlying5 byte_cells hf with ⟨hcs, _⟩ | ⟨a', len, cap, zs, hcs, _, hl, hm, hz, _, hcell, hwf⟩
  · simp [Value.cells] at hcs
    obtain ⟨rfl, rfl, rfl⟩ := hcs
    exact ⟨[], rfl, B8.Rd.nil _ _, (fun _ h => by cases h), by simp, by omega⟩
  · simp [Value.cells] at hcs
    obtain ⟨rfl, rfl, rfl⟩ := hcs
    simp only [if_true] at hz
    have ln : (zs.take n).length = n := by simp; omega
    have hm' : c ≤ 9223372036854775807 := by unfold maxLen at hm; omega
    refine ⟨zs.take n, ln.symm, ⟨by omega, fun hp => ⟨a', rfl, ?_, fun j u hj => ?_⟩⟩, fun x hx => byte_of (hwf x (List.mem_of_mem_take hx)), by omega, hm'⟩
    · have := lt_of_cell (hcell 0 (by omega))
      rwa [block_of_add] at this
    · have hj' : j < n := by have := (List.getElem?_eq_some_iff.1 hj).1; omega
      rw [hcell j (by omega)]
      rw [List.getElem?_take, if_pos hj'] at hj
      simp [List.getD, hj]

/-- All arguments read as they did, through the same places. -/
theorem all_stays {W W' : World} (hb : Below W.heap.size W W') : ∀ (ts : List TypeId) (vs : List Value) (ds : List (DataW H)) (ps : List MemPlace), (ts.all fun t => Try.prog.readableRec t && decide (t < Try.prog.types.size)) = true →
    DataW.TrodAll enc Try.prog W 0 (fun _ => true) true ts vs ds ps → (∀ x ∈ ps, x.block < W.heap.size) → DataW.TrodAll enc Try.prog W' 0 (fun b => decide (b < W.heap.size)) true ts vs ds ps := by
  intro ts
  induction ts with
  | nil =>
    intro vs ds ps _ h _
    obtain ⟨rfl, rfl, rfl⟩ := trodAll_nil h
    exact trodAll_mk0
  | cons t ts ih =>
    intro vs ds ps hr h hlt
    obtain ⟨v, vs', d, ds', p, q, rfl, rfl, rfl, h1, h2⟩ := trodAll_cons h
    simp only [List.all_cons, Bool.and_eq_true, decide_eq_true_eq] at hr
    exact trodAll_cons_mk (Below.trod laid_out hr.1.1 hr.1.2 h1 hb fun x hx => hlt x (by simp [hx])) (ih _ _ _ hr.2 h2 fun x hx => hlt x (by simp [hx]))
end
end Go.Proofs.Ytngdblojglcfpaa
