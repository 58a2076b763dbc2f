/- From a law's walk to its row: arguments []byte, []api.Tensor, api.Tensor opened. -/
import Derived.Test.YtlbnbamgfffahaaImC
import Derived.ProofKit
import Derived.OpenShut
import Derived.Carry
namespace Go.Proofs.Ytlbnbamgfffahaa
open Go.ChangeShapes Go.WideShapes Go.ChangeAt Go.RowKit Go.Proofs.ShM Go.Proofs.PkM Go.Proofs.ImM

theorem byte_cells9 : Try.prog.cellsOf 5 = 1 := by kernel_rfl
theorem ints_cells9 : Try.prog.cellsOf 24 = 1 := by kernel_rfl
theorem tn_cells9 : Try.prog.cellsOf 26 = 2 := by kernel_rfl
section
variable {H : Type} {enc : TypeId × Value → H}
theorem byte_of9 {n : Int} (h : (Lit.int .u8 n).wf = true) : 0 ≤ n ∧ n ≤ 255 := by
  simp [Lit.wf, IntKind.min, IntKind.max, IntKind.signed, IntKind.bits] at h
  omega
/-- An argument []byte is there, as a list of bytes, with room. -/
theorem rd_y {W : World} {a : Option Addr} {n c : Nat} {d : DataW H} {p : List MemPlace} (h : DataW.Trod enc Try.prog W 0 (fun _ => true) true 22 (.slice a n c) d p) :
    ∃ xs : List Int, n = xs.length ∧ B8.Rd W a xs ∧ Bytes xs ∧ xs.length ≤ c ∧ c ≤ 9223372036854775807 := by
  obtain ⟨fuel, hf⟩ := h
  rcases open_ints Try.underlying22 Try.underlying5 byte_cells9 hf with ⟨hcs, _⟩ | ⟨a', len, cap, zs, hcs, _, hl, hm, hz, _, hcell, hwf⟩
  · simp [Value.cells] at hcs
    obtain ⟨rfl, rfl, rfl⟩ := hcs
    exact ⟨[], rfl, B8.Rd.nil _ _, (fun _ h => by cases h), by simp, by omega⟩
  · simp [Value.cells] at hcs
    obtain ⟨rfl, rfl, rfl⟩ := hcs
    simp only [if_true] at hz
    have ln : (zs.take n).length = n := by simp; omega
    have hm' : c ≤ 9223372036854775807 := by unfold maxLen at hm; omega
    refine ⟨zs.take n, ln.symm, ⟨by omega, fun hp => ⟨a', rfl, ?_, fun j u hj => ?_⟩⟩, fun x hx => byte_of9 (hwf x (List.mem_of_mem_take hx)), by omega, hm'⟩
    · have := lt_of_cell (hcell 0 (by omega))
      rwa [block_of_add] at this
    · have hj' : j < n := by have := (List.getElem?_eq_some_iff.1 hj).1; omega
      rw [hcell j (by omega)]
      rw [List.getElem?_take, if_pos hj'] at hj
      simp [List.getD, hj]
/-- A tensor's two cells are there, as a tensor. -/
theorem tn_cells {W : World} {c0 c1 : Value} {n : Nat} {y : DataW H × List MemPlace} (h : DataW.trod enc Try.prog W 0 (fun _ => true) true n 26 [c0, c1] = some y) :
    ∃ t : T, Vt W (fun _ => True) (c0, c1) t ∧ N64 t.1 ∧ N64 t.2 := by
  obtain ⟨y0, y1, m, _, _, h0, h1⟩ := trod_struct2 Try.underlying26 h
  rw [ints_cells9] at h0 h1
  obtain ⟨A, n0, c, e0, s, l0, r0, i0⟩ := rd_cells (v := c0) h0
  obtain ⟨B, n1, d, e1, xs, l1, r1, i1⟩ := rd_cells (v := c1) h1
  exact ⟨(s, xs), ⟨A, c, B, d, by rw [e0, e1, l0, l1], ⟨r0, r1⟩, fun _ _ _ => trivial, fun _ _ _ => trivial⟩, i0, i1⟩
/-- An argument tensor is there. -/
theorem tn_t {W : World} {r : Reach} {b : Nat} {v : Value} {d : DataW H} {p : List MemPlace} (hv : Value.okWide Try.prog W r b 26 v) (h : DataW.Trod enc Try.prog W 0 (fun _ => true) true 26 v d p) :
    ∃ A n c B m e, v = .agg #[.slice A n c, .slice B m e] ∧ ∃ t : T, n = t.1.length ∧ m = t.2.length ∧ TR W A t.1 B t.2 ∧ N64 t.1 ∧ N64 t.2 := by
  obtain ⟨v0, v1, y0, y1, n, rfl, _, _, h0, h1⟩ := Go.Joins.open_agg2 Try.underlying26 (by kernel_rfl) (by kernel_rfl) hv h
  obtain ⟨A, n0, c, rfl, s, e1, r1, i1⟩ := rd_cells h0
  obtain ⟨B, m0, e, rfl, xs, e2, r2, i2⟩ := rd_cells h1
  exact ⟨A, n0, c, B, m0, e, rfl, (s, xs), e1, e2, ⟨r1, r2⟩, i1, i2⟩
/-- An argument []api.Tensor is there, as a list of tensors, with room. -/
theorem rd_ts {W : World} {a : Option Addr} {n c : Nat} {d : DataW H} {p : List MemPlace} (h : DataW.Trod enc Try.prog W 0 (fun _ => true) true 23 (.slice a n c) d p) :
    ∃ ts : List T, n = ts.length ∧ RdT W a ts ∧ (∀ t ∈ ts, N64 t.1 ∧ N64 t.2) ∧ ts.length ≤ c ∧ c ≤ 9223372036854775807 := by
  obtain ⟨fuel, hf⟩ := h
  rcases DataW.trod_slice Try.underlying23 hf with ⟨hcs, _⟩ | ⟨a', len, cap, elems, rest, m, _, hcs, _, _, hl, hm, hlen, hel, _, _⟩
  · simp [Value.cells] at hcs
    obtain ⟨rfl, rfl, rfl⟩ := hcs
    exact ⟨[], rfl, RdX.nil_ _ _ _, (fun _ h => by cases h), by simp, by omega⟩
  · simp [Value.cells] at hcs
    obtain ⟨rfl, rfl, rfl⟩ := hcs
    have hm' : c ≤ 9223372036854775807 := by unfold maxLen at hm; omega
    rw [tn_cells9] at hel
    have each : ∀ i : Nat, i < n → ∃ (q : V2) (t : T), W.cell? (a'.add (i * 2)) = some q.1 ∧ W.cell? (a'.add (i * 2 + 1)) = some q.2 ∧ Vt W (fun _ => True) q t ∧ N64 t.1 ∧ N64 t.2 := by
      intro i hi
      have h1 := hel i hi
      rw [List.getElem?_eq_getElem (by omega), Option.bind_eq_some_iff] at h1
      obtain ⟨cs, hc, ht⟩ := h1
      obtain ⟨_, hl2, hcc⟩ := World.cells?_some hc
      match cs, hl2 with
      | [c0, c1], _ =>
        obtain ⟨t, hv, g1, g2⟩ := tn_cells ht
        refine ⟨(c0, c1), t, ?_, ?_, hv, g1, g2⟩
        · have := hcc 0 (by omega)
          rw [Addr.add_add] at this
          simpa using this
        · have := hcc 1 (by omega)
          rw [Addr.add_add] at this
          simpa using this
    have hQ : ∃ f : Nat → V2 × T, ∀ i, i < n → W.cell? (a'.add (i * 2)) = some (f i).1.1 ∧ W.cell? (a'.add (i * 2 + 1)) = some (f i).1.2 ∧ Vt W (fun _ => True) (f i).1 (f i).2 ∧ N64 (f i).2.1 ∧ N64 (f i).2.2 := by
      refine ⟨fun i => if hi : i < n then ((each i hi).choose, (each i hi).choose_spec.choose) else ((.nilIface, .nilIface), ([], [])), fun i hi => ?_⟩
      simp only [dif_pos hi]
      exact (each i hi).choose_spec.choose_spec
    obtain ⟨f, hf⟩ := hQ
    have lt : ((List.range n).map fun i => (f i).2).length = n := by simp
    refine ⟨(List.range n).map fun i => (f i).2, lt.symm, ⟨by omega, (List.range n).map fun i => (f i).1, ⟨by simp, fun j p t h1 h2 => ?_⟩, fun hp => ⟨a', rfl, ?_, fun j u hu => ?_⟩⟩, fun t ht => ?_, by omega, hm'⟩
    · rw [List.getElem?_map, Option.map_eq_some_iff] at h1 h2
      obtain ⟨i, h3, rfl⟩ := h1
      obtain ⟨i', h4, rfl⟩ := h2
      obtain ⟨h5, h6⟩ := List.getElem?_eq_some_iff.1 h3
      obtain ⟨h7, h8⟩ := List.getElem?_eq_some_iff.1 h4
      simp at h6 h8 h5
      subst h6 h8
      exact (hf j h5).2.2.1
    · have := lt_of_cell (hf 0 (by omega)).1
      rwa [block_of_add] at this
    · have hfl : ∀ j, j < n → (flat ((List.range n).map fun i => (f i).1))[j * 2]? = some (f j).1.1 ∧ (flat ((List.range n).map fun i => (f i).1))[j * 2 + 1]? = some (f j).1.2 := fun j hj => flat_at (by simp [hj])
      have hjl : j < n * 2 := by have := (List.getElem?_eq_some_iff.1 hu).1; rw [flat_len] at this; simpa using this
      obtain ⟨i, hi⟩ : ∃ i, j = i * 2 ∨ j = i * 2 + 1 := ⟨j / 2, by omega⟩
      rcases hi with rfl | rfl
      · rw [(hfl i (by omega)).1] at hu
        rw [(hf i (by omega)).1]; exact hu
      · rw [(hfl i (by omega)).2] at hu
        rw [(hf i (by omega)).2.1]; exact hu
    · rw [List.mem_map] at ht
      obtain ⟨i, hi, rfl⟩ := ht
      exact (hf i (by simpa using hi)).2.2.2
end
end Go.Proofs.Ytlbnbamgfffahaa
