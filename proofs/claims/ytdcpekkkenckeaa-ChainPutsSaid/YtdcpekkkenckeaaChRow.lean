/- From layer 17's laws' walks to their rows: arguments []api.Version, api.Tensor opened. -/
import Derived.Test.YtdcpekkkenckeaaChC
import Derived.ProofKit
import Derived.OpenShut
import Derived.Carry
import Derived.Deep.Strs
import Derived.Lib.SmallJoins
set_option maxRecDepth 100000
namespace Go.Proofs.Ytdcpekkkenckeaa
open Go.ChangeShapes Go.WideShapes Go.ChangeAt Go.RowKit Go.Proofs.ShM Go.Proofs.GrM Go.Proofs.ImM

theorem ints_cells : Try.prog.cellsOf 23 = 1 := by kernel_rfl
theorem tn_cells17 : Try.prog.cellsOf 25 = 2 := by kernel_rfl
theorem ver_cells17 : Try.prog.cellsOf 41 = 3 := by kernel_rfl
abbrev Vr64 (v : Nd) : Prop := In64 v.1 ∧ N64 v.2.1 ∧ N64 v.2.2

section
variable {H : Type} {enc : TypeId × Value → H}
theorem w64_of {n : Int} (h : (Lit.int .i64 n).wf = true) : -9223372036854775808 ≤ n ∧ n ≤ 9223372036854775807 := by
  simp [Lit.wf, IntKind.min, IntKind.max, IntKind.signed, IntKind.bits] at h
  omega
/-- A field []int is there, as a list of numbers with room. -/
theorem rd_cell {W : World} {v : Value} {n : Nat} {y : DataW H × List MemPlace} (h : DataW.trod enc Try.prog W 0 (fun _ => true) true n 23 [v] = some y) :
    ∃ A c, ∃ xs : List Int, v = .slice A xs.length c ∧ Rd W A xs ∧ xs.length ≤ c ∧ c ≤ 9223372036854775807 ∧ N64 xs := by
  rcases open_ints Try.underlying23 Try.underlying3 int_cells h with ⟨hcs, _⟩ | ⟨a', len, cap, zs, hcs, _, hl, hm, hz, _, hcell, hwf⟩
  · injection hcs with hcs _
    exact ⟨none, 0, [], hcs, Rd.nil _ _, by simp, by omega, fun _ h => by cases h⟩
  · injection hcs with hcs _
    simp only [if_true] at hz
    have ln : (zs.take len).length = len := by simp; omega
    have hm' : cap ≤ 9223372036854775807 := by unfold maxLen at hm; omega
    refine ⟨some a', cap, zs.take len, by rw [ln]; exact hcs, ⟨by omega, fun hp => ⟨a', rfl, ?_, fun j u hj => ?_⟩⟩, by omega, hm', fun x hx => w64_of (hwf x (List.mem_of_mem_take hx))⟩
    · have := lt_of_cell (hcell 0 (by omega))
      rwa [block_of_add] at this
    · have hj' : j < len := by have := (List.getElem?_eq_some_iff.1 hj).1; omega
      rw [hcell j (by omega)]
      rw [List.getElem?_take, if_pos hj'] at hj
      simp [List.getD, hj]
/-- A version's three cells are there, as a version. -/
theorem ver_of {W : World} {c0 c1 c2 : Value} {n : Nat} {y : DataW H × List MemPlace} (h : DataW.trod enc Try.prog W 0 (fun _ => true) true n 41 [c0, c1, c2] = some y) :
    ∃ t : Nd, Vn W (fun _ => True) (c0, c1, c2) t ∧ Vr64 t := by
  obtain ⟨y0, y1, m, _, _, h0, h1⟩ := trod_struct2 Try.underlying41 h
  rw [int_cells] at h0
  rw [tn_cells17] at h1
  obtain ⟨op, e0, _, i0⟩ := DataW.trod_int (k := .i64) Try.underlying3 h0
  have h1' : DataW.trod enc Try.prog W 0 (fun _ => true) true m 25 [c1, c2] = some y1 := by simpa using h1
  obtain ⟨y2, y3, q, _, _, h2, h3⟩ := trod_struct2 Try.underlying25 h1'
  rw [ints_cells] at h2 h3
  obtain ⟨A, c, a, e1, r1, l1, m1, i1⟩ := rd_cell (v := c1) h2
  obtain ⟨B, d, b, e2, r2, l2, m2, i2⟩ := rd_cell (v := c2) h3
  have e0' : c0 = .int .i64 op := by simpa using e0
  refine ⟨(op, a, b), ⟨A, c, B, d, by rw [e0', e1, e2], l1, m1, l2, m2, ⟨r1, r2, fun _ _ _ => trivial, fun _ _ _ => trivial⟩⟩, w64_of i0, i1, i2⟩
/-- An argument []api.Version is there, as a list of versions, with room. -/
theorem rd_vers {W : World} {a : Option Addr} {n c : Nat} {d : DataW H} {p : List MemPlace} (h : DataW.Trod enc Try.prog W 0 (fun _ => true) true 22 (.slice a n c) d p) :
    ∃ ts : List Nd, n = ts.length ∧ RdG W a ts ∧ (∀ t ∈ ts, Vr64 t) ∧ ts.length ≤ c ∧ c ≤ 9223372036854775807 := by
  obtain ⟨fuel, hf⟩ := h
  rcases DataW.trod_slice Try.underlying22 hf with ⟨hcs, _⟩ | ⟨a', len, cap, elems, rest, m, _, hcs, _, _, hl, hm, hlen, hel, _, _⟩
  · simp [Value.cells] at hcs
    obtain ⟨rfl, rfl, rfl⟩ := hcs
    exact ⟨[], rfl, RdN.nil_ _ _ _, (fun _ h => by cases h), by simp, by omega⟩
  · simp [Value.cells] at hcs
    obtain ⟨rfl, rfl, rfl⟩ := hcs
    have hm' : c ≤ 9223372036854775807 := by unfold maxLen at hm; omega
    rw [ver_cells17] at hel
    have each : ∀ i : Nat, i < n → ∃ (q : V3) (t : Nd), W.cell? (a'.add (i * 3)) = some q.1 ∧ W.cell? (a'.add (i * 3 + 1)) = some q.2.1 ∧ W.cell? (a'.add (i * 3 + 2)) = some q.2.2 ∧ Vn W (fun _ => True) q t ∧ Vr64 t := by
      intro i hi
      have h1 := hel i hi
      rw [List.getElem?_eq_getElem (by omega), Option.bind_eq_some_iff] at h1
      obtain ⟨cs, hc, ht⟩ := h1
      obtain ⟨_, hl2, hcc⟩ := World.cells?_some hc
      match cs, hl2 with
      | [c0, c1, c2], _ =>
        obtain ⟨t, hv, g1⟩ := ver_of ht
        refine ⟨(c0, c1, c2), t, ?_, ?_, ?_, hv, g1⟩
        · have := hcc 0 (by omega)
          rw [Addr.add_add] at this
          simpa using this
        · have := hcc 1 (by omega)
          rw [Addr.add_add] at this
          simpa using this
        · have := hcc 2 (by omega)
          rw [Addr.add_add] at this
          simpa using this
    have hQ : ∃ f : Nat → V3 × Nd, ∀ i, i < n → W.cell? (a'.add (i * 3)) = some (f i).1.1 ∧ W.cell? (a'.add (i * 3 + 1)) = some (f i).1.2.1 ∧ W.cell? (a'.add (i * 3 + 2)) = some (f i).1.2.2 ∧ Vn W (fun _ => True) (f i).1 (f i).2 ∧ Vr64 (f i).2 := by
      refine ⟨fun i => if hi : i < n then ((each i hi).choose, (each i hi).choose_spec.choose) else ((.nilIface, .nilIface, .nilIface), (0, [], [])), fun i hi => ?_⟩
      simp only [dif_pos hi]
      exact (each i hi).choose_spec.choose_spec
    obtain ⟨f, hf⟩ := hQ
    have lt : ((List.range n).map fun i => (f i).2).length = n := by simp
    refine ⟨(List.range n).map fun i => (f i).2, lt.symm, ⟨by omega, (List.range n).map fun i => (f i).1, ⟨by simp, fun j p t h1 h2 => ?_⟩, fun hp => ⟨a', rfl, ?_, fun j u hu => ?_⟩⟩, fun t ht => ?_, by omega, hm'⟩
    · rw [List.getElem?_map, Option.map_eq_some_iff] at h1 h2
      obtain ⟨i, h3, rfl⟩ := h1
      obtain ⟨i', h4, rfl⟩ := h2
      obtain ⟨h5, h6⟩ := List.getElem?_eq_some_iff.1 h3
      obtain ⟨h7, h8⟩ := List.getElem?_eq_some_iff.1 h4
      simp at h6 h8 h5
      subst h6 h8
      exact (hf j h5).2.2.2.1
    · have := lt_of_cell (hf 0 (by omega)).1
      rwa [block_of_add] at this
    · have hfl : ∀ j, j < n → (flatN ((List.range n).map fun i => (f i).1))[j * 3]? = some (f j).1.1 ∧ (flatN ((List.range n).map fun i => (f i).1))[j * 3 + 1]? = some (f j).1.2.1 ∧ (flatN ((List.range n).map fun i => (f i).1))[j * 3 + 2]? = some (f j).1.2.2 := fun j hj => flatN_at (by simp [hj])
      have hjl : j < n * 3 := by have := (List.getElem?_eq_some_iff.1 hu).1; rw [flatN_len] at this; simpa using this
      obtain ⟨i, hi⟩ : ∃ i, j = i * 3 ∨ j = i * 3 + 1 ∨ j = i * 3 + 2 := ⟨j / 3, by omega⟩
      rcases hi with rfl | rfl | rfl
      · rw [(hfl i (by omega)).1] at hu
        rw [(hf i (by omega)).1]; exact hu
      · rw [(hfl i (by omega)).2.1] at hu
        rw [(hf i (by omega)).2.1]; exact hu
      · rw [(hfl i (by omega)).2.2] at hu
        rw [(hf i (by omega)).2.2.1]; exact hu
    · rw [List.mem_map] at ht
      obtain ⟨i, hi, rfl⟩ := ht
      exact (hf i (by simpa using hi)).2.2.2.2

/-- An argument tensor is there, with room. -/
theorem tn_c {W : World} {r : Reach} {b : Nat} {v : Value} {d : DataW H} {p : List MemPlace} (hv : Value.okWide Try.prog W r b 25 v) (h : DataW.Trod enc Try.prog W 0 (fun _ => true) true 25 v d p) :
    ∃ A n c B m e, v = .agg #[.slice A n c, .slice B m e] ∧ ∃ t : T, n = t.1.length ∧ m = t.2.length ∧ TRm W A c B e t ∧ (N64 t.1 ∧ N64 t.2) := by
  obtain ⟨v0, v1, y0, y1, n, rfl, _, _, h0, h1⟩ := Go.Joins.open_agg2 Try.underlying25 (by kernel_rfl) (by kernel_rfl) hv h
  obtain ⟨A, c, s, rfl, r1, l1, m1, i1⟩ := rd_cell h0
  obtain ⟨B, e, xs, rfl, r2, l2, m2, i2⟩ := rd_cell h1
  exact ⟨A, s.length, c, B, xs.length, e, rfl, (s, xs), rfl, rfl, ⟨⟨r1, r2⟩, ⟨l1, m1⟩, ⟨l2, m2⟩⟩, i1, i2⟩
end
end Go.Proofs.Ytdcpekkkenckeaa
