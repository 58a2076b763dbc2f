/- From a law's walk to its row: arguments []int with room, api.Node, [][]int opened. -/
import Derived.Test.YtnkkkpanlnencaaInMem
import Derived.ProofKit
import Derived.OpenShut
import Derived.Carry
import Derived.Deep.Strs
import Derived.Lib.SmallJoins
namespace Go.Proofs.Ytnkkkpanlnencaa
open Go.ChangeShapes Go.WideShapes Go.ChangeAt Go.RowKit Go.Proofs.ShM Go.Proofs.GrM

section
variable {H : Type} {enc : TypeId × Value → H}
/-- An argument []int is there, as a list of numbers with room. -/
theorem rd_s {W : World} {a : Option Addr} {n c : Nat} {d : DataW H} {p : List MemPlace} (h : DataW.Trod enc Try.prog W 0 (fun _ => true) true 23 (.slice a n c) d p) :
    ∃ xs : List Int, n = xs.length ∧ Rd W a xs ∧ (xs.length ≤ c ∧ c ≤ 9223372036854775807) ∧ W64 xs := by
  obtain ⟨fuel, hf⟩ := h
  obtain ⟨A, c', xs, e, r, l, m, i⟩ := rd_cell (v := .slice a n c) (by simpa [Value.cells] using hf)
  injection e with e1 e2 e3
  subst e1 e2 e3
  exact ⟨xs, rfl, r, ⟨l, m⟩, i⟩
/-- An argument api.Node is there, as a node with room. -/
theorem nd_arg {W : World} {r : Reach} {b : Nat} {v : Value} {d : DataW H} {p : List MemPlace} (hv : Value.okWide Try.prog W r b 25 v) (h : DataW.Trod enc Try.prog W 0 (fun _ => true) true 25 v d p) :
    ∃ P Q c e, ∃ t : Nd, v = .agg #[.int .i64 t.1, .slice P t.2.1.length c, .slice Q t.2.2.length e] ∧ Rd W P t.2.1 ∧ Rd W Q t.2.2 ∧ (t.2.1.length ≤ c ∧ c ≤ 9223372036854775807) ∧ (t.2.2.length ≤ e ∧ e ≤ 9223372036854775807) ∧ Nd64 t := by
  obtain ⟨v0, v1, v2, y0, y1, y2, n, rfl, _, _, h0, h1, h2⟩ := Go.Joins.open_agg3 Try.underlying25 (by kernel_rfl) (by kernel_rfl) hv h
  obtain ⟨op, e0, _, i0⟩ := DataW.trod_int (k := .i64) Try.underlying3 h0
  obtain ⟨A, c, a, e1, r1, l1, m1, i1⟩ := rd_cell h1
  obtain ⟨B, g, b', e2, r2, l2, m2, i2⟩ := rd_cell h2
  have e0' : v0 = .int .i64 op := by simpa using e0
  refine ⟨A, B, c, g, (op, a, b'), by rw [e0', e1, e2], r1, r2, ⟨l1, m1⟩, ⟨l2, m2⟩, ?_, i1, i2⟩
  intro x hx
  have : x = op := by simpa using hx
  rw [this]; exact w64_of i0
/-- An argument [][]int is there, as lists of numbers with room. -/
theorem rd_ls {W : World} {a : Option Addr} {n c : Nat} {d : DataW H} {p : List MemPlace} (h : DataW.Trod enc Try.prog W 0 (fun _ => true) true 26 (.slice a n c) d p) :
    ∃ gs : List (List Int), n = gs.length ∧ RdL W a gs ∧ (gs.length ≤ c ∧ c ≤ 9223372036854775807) ∧ ∀ s ∈ gs, W64 s := by
  obtain ⟨fuel, hf⟩ := h
  rcases DataW.trod_slice Try.underlying26 hf with ⟨hcs, _⟩ | ⟨a', len, cap, elems, rest, m, _, hcs, _, _, hl, hm, hlen, hel, _, _⟩
  · simp [Value.cells] at hcs
    obtain ⟨rfl, rfl, rfl⟩ := hcs
    exact ⟨[], rfl, RdLX.nil_ _ _ _, ⟨by simp, by omega⟩, fun _ h => by cases h⟩
  · simp [Value.cells] at hcs
    obtain ⟨rfl, rfl, rfl⟩ := hcs
    have hm' : c ≤ 9223372036854775807 := by unfold maxLen at hm; omega
    rw [ints_cells] at hel
    have each : ∀ i : Nat, i < n → ∃ (q : Value) (t : List Int), W.cell? (a'.add i) = some q ∧ Vl W (fun _ => True) q t ∧ W64 t := by
      intro i hi
      have h1 := hel i hi
      rw [List.getElem?_eq_getElem (by omega), Option.bind_eq_some_iff] at h1
      obtain ⟨cs, hc, ht⟩ := h1
      obtain ⟨_, hl2, hcc⟩ := World.cells?_some hc
      match cs, hl2 with
      | [c0], _ =>
        obtain ⟨A, g, t, e, r, l1, m1, i1⟩ := rd_cell ht
        refine ⟨c0, t, ?_, ⟨A, g, e, l1, m1, r, fun _ _ _ => trivial⟩, i1⟩
        have := hcc 0 (by omega)
        rw [Addr.add_add] at this
        simpa using this
    have hQ : ∃ f : Nat → Value × List Int, ∀ i, i < n → W.cell? (a'.add i) = some (f i).1 ∧ Vl W (fun _ => True) (f i).1 (f i).2 ∧ W64 (f i).2 := by
      refine ⟨fun i => if hi : i < n then ((each i hi).choose, (each i hi).choose_spec.choose) else (.nilIface, []), fun i hi => ?_⟩
      simp only [dif_pos hi]
      exact (each i hi).choose_spec.choose_spec
    obtain ⟨f, hf⟩ := hQ
    have lt : ((List.range n).map fun i => (f i).2).length = n := by simp
    refine ⟨(List.range n).map fun i => (f i).2, lt.symm, ⟨by omega, (List.range n).map fun i => (f i).1, ⟨by simp, fun j p t h1 h2 => ?_⟩, fun hp => ⟨a', rfl, ?_, fun j u hu => ?_⟩⟩, ⟨by omega, hm'⟩, fun t ht => ?_⟩
    · rw [List.getElem?_map, Option.map_eq_some_iff] at h1 h2
      obtain ⟨i, h3, rfl⟩ := h1
      obtain ⟨i', h4, rfl⟩ := h2
      obtain ⟨h5, h6⟩ := List.getElem?_eq_some_iff.1 h3
      obtain ⟨h7, h8⟩ := List.getElem?_eq_some_iff.1 h4
      simp at h6 h8 h5
      subst h6 h8
      exact (hf j h5).2.1
    · have := lt_of_cell (hf 0 (by omega)).1
      rwa [block_of_add] at this
    · rw [List.getElem?_map, Option.map_eq_some_iff] at hu
      obtain ⟨i, h3, rfl⟩ := hu
      obtain ⟨h5, h6⟩ := List.getElem?_eq_some_iff.1 h3
      simp at h6 h5
      subst h6
      exact (hf j h5).1
    · rw [List.mem_map] at ht
      obtain ⟨i, hi, rfl⟩ := ht
      exact (hf i (by simpa using hi)).2.2
end
end Go.Proofs.Ytnkkkpanlnencaa
