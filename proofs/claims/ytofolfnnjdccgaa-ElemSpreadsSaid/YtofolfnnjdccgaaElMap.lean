/- A map of an int that the call itself made: what stands in it, as a list; a new key put into it; what is read of it. And the kinds of layer 4. -/
import Derived.Test.YtofolfnnjdccgaaTnAll
import Derived.Carry
import Derived.MapKept
import Derived.ChangeMaps5
import Derived.Maps.OwnOps
namespace Go.Proofs.Ytofolfnnjdccgaa
open Go.RowKit Go.Proofs.ShM Go.ChangeMaps

/-- What stands at a key. -/
def atM : List (Int × Value) → Int → Option Value
  | [], _ => none
  | (j, v) :: L, k => if k = j then some v else atM L k
/-- Block g is a map with these entries. -/
def Md (W : World) (g : Nat) (L : List (Int × Value)) : Prop :=
  ∃ es clock, W.heap[g]? = some (.map es clock) ∧ es.toList.map (fun e => (e.key, e.val)) = L.map (fun x => (Value.int .i64 x.1, x.2))

section
variable {P : Program} {W W' : World} {g : Nat} {L : List (Int × Value)} {k : Int}
theorem Md.lt (h : Md W g L) : g < W.heap.size := by obtain ⟨es, c, h, _⟩ := h; exact (Array.getElem?_eq_some_iff.1 h).1
theorem Md.kp (h : Md W g L) (kp : Kp W W') : Md W' g L := by
  have hl := h.lt
  obtain ⟨es, c, h, e⟩ := h
  exact ⟨es, c, (kp.block g hl).trans h, e⟩
theorem Md.new (W : World) : Md (W.alloc (.map #[] 0)) W.heap.size [] := ⟨#[], 0, by show (W.heap.push _)[W.heap.size]? = _; simp, rfl⟩
theorem find_now (k : Int) : ∀ (es : List MapEntry) (L : List (Int × Value)) (i : Nat), es.map (fun e => (e.key, e.val)) = L.map (fun x => (Value.int .i64 x.1, x.2)) →
    ∃ r, Instr.findNow (.int .i64) (.int .i64 k) es i = some r ∧ r.map (·.2) = atM L k := by
  intro es
  induction es with
  | nil =>
    intro L i h
    cases L with
    | nil => exact ⟨none, rfl, rfl⟩
    | cons x L => simp at h
  | cons e es ih =>
    intro L i h
    cases L with
    | nil => simp at h
    | cons x L =>
      simp only [List.map_cons, List.cons.injEq, Prod.mk.injEq] at h
      obtain ⟨⟨h1, h2⟩, h3⟩ := h
      by_cases hk : k = x.1
      · refine ⟨some (i, e.val), ?_, ?_⟩
        · simp [Instr.findNow, Instr.sameNow, h1, hk]
        · simp [atM, hk, h2]
      · obtain ⟨r, q1, q2⟩ := ih L (i + 1) h3
        refine ⟨r, ?_, ?_⟩
        · have hf : (k == x.1) = false := by simpa using hk
          simp [Instr.findNow, Instr.sameNow, h1, hf, q1]
        · simp [atM, hk, q2]
theorem run_findM {kt : TypeId} (hk : P.underlying kt = some (.int .i64)) {es : Array MapEntry} (h : es.toList.map (fun e => (e.key, e.val)) = L.map (fun x => (Value.int .i64 x.1, x.2))) (k : Int) :
    ∃ r, (Instr.findKey kt (.int .i64 k) es.toList).run P W = .ok r W ∧ r.map (·.2) = atM L k := by
  obtain ⟨r, q1, q2⟩ := find_now k es.toList L 0 h
  refine ⟨r, ?_, q2⟩
  simp [Instr.findKey, run_underlying hk, q1, Result.andThen]
/-- A key that is not there, put. -/
theorem Md.put {t kt et : TypeId} (h : Md W g L) (ht : P.underlying t = some (.map kt et)) (hk : P.underlying kt = some (.int .i64)) (hn : atM L k = none) (v : Value) :
    ∃ W', (Instr.mapUpdate t (.map (some g)) (.int .i64 k) v).run P W = .ok () W' ∧ Md W' g (L ++ [(k, v)]) ∧ ∀ B, B ≤ g → Below B W W' := by
  obtain ⟨es, c, hb, e⟩ := h
  obtain ⟨r, q1, q2⟩ := run_findM (P := P) (W := W) hk e k
  rw [hn] at q2
  have hr : r = none := by cases r with | none => rfl | some x => simp at q2
  subst hr
  refine ⟨setBlock W g (.map (es.push ⟨.int .i64 k, v, c⟩) (c + 1)), ?_, ⟨_, _, heap_setBlock_same hb _, ?_⟩, fun B hB => ?_⟩
  · simp [Instr.mapUpdate, run_underlying ht, MapKept.run_getObj_map hb, MapKept.run_checkKey (e := false) (n := 9999) hk (show MapKept.IsKey (.int .i64) (.int .i64 k) from rfl), q1, MapKept.run_setObj_map _ hb, Result.andThen, setBlock]
  · simp [e]
  · exact ⟨rfl, rfl, rfl, by simp [setBlock], fun j hj => heap_setBlock_other hb _ (by omega)⟩
/-- What is read. -/
theorem Md.get {t kt et : TypeId} (h : Md W g L) (ht : P.underlying t = some (.map kt et)) (hk : P.underlying kt = some (.int .i64)) {z : Value} (hz : (zeroValue et).run P W = .ok z W) (k : Int) :
    (Instr.lookup t (.map (some g)) (.int .i64 k) false).run P W = .ok ((atM L k).getD z) W := by
  obtain ⟨es, c, hb, e⟩ := h
  obtain ⟨r, q1, q2⟩ := run_findM (P := P) (W := W) hk e k
  rw [← q2]
  cases r with
  | none => simp [Instr.lookup, run_underlying ht, MapKept.run_getObj_map hb, MapKept.run_checkKey (n := 9999) hk (show MapKept.IsKey (.int .i64) (.int .i64 k) from rfl), q1, hz, Result.andThen]
  | some x => simp [Instr.lookup, run_underlying ht, MapKept.run_getObj_map hb, MapKept.run_checkKey (n := 9999) hk (show MapKept.IsKey (.int .i64) (.int .i64 k) from rfl), q1, Result.andThen]
end

theorem kind_zero (W : World) : (zeroValue 44).run Try.prog W = .ok (.agg #[.nilFunc, .nilFunc]) W := by
  obtain ⟨i, hi, hz⟩ : ∃ i, Try.prog.info? 44 = some i ∧ i.zero = some (.agg #[.nilFunc, .nilFunc]) := by
    have h : (Try.prog.info? 44).map (fun i => i.zero) = some (some (.agg #[.nilFunc, .nilFunc])) := by kernel_rfl
    cases hi : Try.prog.info? 44 with
    | none => rw [hi] at h; cases h
    | some i => rw [hi] at h; exact ⟨i, rfl, by injection h⟩
  simp [zeroValue, typeInfo, hi, hz]
end Go.Proofs.Ytofolfnnjdccgaa
