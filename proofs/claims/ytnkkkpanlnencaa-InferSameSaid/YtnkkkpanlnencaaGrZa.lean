/- The landed graph: a map of ints that the call itself made; of how many nodes each op is reckoned. -/
import Derived.Test.YtnkkkpanlnencaaGrAll
import Derived.Carry
import Derived.MapKept
import Derived.ChangeMaps5
import Derived.Maps.OwnOps
namespace Go.Proofs.Ytnkkkpanlnencaa.Gz
open Go.RowKit Go.Proofs.ShM Go.Proofs.GrM Go.ChangeMaps
set_option linter.unusedVariables false
set_option linter.unusedSimpArgs false

/-- What stands at a key. -/
def atM : List (Int × Value) → Int → Option Value
  | [], _ => none
  | (j, v) :: L, k => if k = j then some v else atM L k
/-- Block g is a map with these entries. -/
def Md (W : World) (g : Nat) (L : List (Int × Value)) : Prop :=
  ∃ es clock, W.heap[g]? = some (.map es clock) ∧ es.toList.map (fun e => (e.key, e.val)) = L.map (fun x => (Value.int .i64 x.1, x.2))

section
variable {P : Program} {W W' : World} {g : Nat} {L : List (Int × Value)} {k : Int}
theorem Md.lt (h : Md W g L) : g < W.heap.size := by obtain ⟨es, c, h, _⟩ := h; exact (Array.getElem?_eq_some_iff.1 h).1
theorem Md.kp (h : Md W g L) (kp : Kp W W') : Md W' g L := by
  have hl := h.lt
  obtain ⟨es, c, h, e⟩ := h
  exact ⟨es, c, (kp.block g hl).trans h, e⟩
theorem Md.new (W : World) : Md (W.alloc (.map #[] 0)) W.heap.size [] := ⟨#[], 0, by show (W.heap.push _)[W.heap.size]? = _; simp, rfl⟩
theorem find_now (k : Int) : ∀ (es : List MapEntry) (L : List (Int × Value)) (i : Nat), es.map (fun e => (e.key, e.val)) = L.map (fun x => (Value.int .i64 x.1, x.2)) →
    ∃ r, Instr.findNow (.int .i64) (.int .i64 k) es i = some r ∧ r.map (·.2) = atM L k := by
  intro es
  induction es with
  | nil =>
    intro L i h
    cases L with
    | nil => exact ⟨none, rfl, rfl⟩
    | cons x L => simp at h
  | cons e es ih =>
    intro L i h
    cases L with
    | nil => simp at h
    | cons x L =>
      simp only [List.map_cons, List.cons.injEq, Prod.mk.injEq] at h
      obtain ⟨⟨h1, h2⟩, h3⟩ := h
      by_cases hk : k = x.1
      · refine ⟨some (i, e.val), ?_, ?_⟩
        · simp [Instr.findNow, Instr.sameNow, h1, hk]
        · simp [atM, hk, h2]
      · obtain ⟨r, q1, q2⟩ := ih L (i + 1) h3
        refine ⟨r, ?_, ?_⟩
        · have hf : (k == x.1) = false := by simpa using hk
          simp [Instr.findNow, Instr.sameNow, h1, hf, q1]
        · simp [atM, hk, q2]
theorem run_findM {kt : TypeId} (hk : P.underlying kt = some (.int .i64)) {es : Array MapEntry} (h : es.toList.map (fun e => (e.key, e.val)) = L.map (fun x => (Value.int .i64 x.1, x.2))) (k : Int) :
    ∃ r, (Instr.findKey kt (.int .i64 k) es.toList).run P W = .ok r W ∧ r.map (·.2) = atM L k := by
  obtain ⟨r, q1, q2⟩ := find_now k es.toList L 0 h
  refine ⟨r, ?_, q2⟩
  simp [Instr.findKey, run_underlying hk, q1, Result.andThen]
/-- A key that is not there, put. -/
theorem Md.put {t kt et : TypeId} (h : Md W g L) (ht : P.underlying t = some (.map kt et)) (hk : P.underlying kt = some (.int .i64)) (hn : atM L k = none) (v : Value) :
    ∃ W', (Instr.mapUpdate t (.map (some g)) (.int .i64 k) v).run P W = .ok () W' ∧ Md W' g (L ++ [(k, v)]) ∧ ∀ B, B ≤ g → Below B W W' := by
  obtain ⟨es, c, hb, e⟩ := h
  obtain ⟨r, q1, q2⟩ := run_findM (P := P) (W := W) hk e k
  rw [hn] at q2
  have hr : r = none := by cases r with | none => rfl | some x => simp at q2
  subst hr
  refine ⟨setBlock W g (.map (es.push ⟨.int .i64 k, v, c⟩) (c + 1)), ?_, ⟨_, _, heap_setBlock_same hb _, ?_⟩, fun B hB => ?_⟩
  · simp [Instr.mapUpdate, run_underlying ht, MapKept.run_getObj_map hb, MapKept.run_checkKey (e := false) (n := 9999) hk (show MapKept.IsKey (.int .i64) (.int .i64 k) from rfl), q1, MapKept.run_setObj_map _ hb, Result.andThen, setBlock]
  · simp [e]
  · exact ⟨rfl, rfl, rfl, by simp [setBlock], fun j hj => heap_setBlock_other hb _ (by omega)⟩
/-- What is read, and whether it is there. -/
theorem Md.get2 {t kt et : TypeId} (h : Md W g L) (ht : P.underlying t = some (.map kt et)) (hk : P.underlying kt = some (.int .i64)) {z : Value} (hz : (zeroValue et).run P W = .ok z W) (k : Int) :
    (Instr.lookup t (.map (some g)) (.int .i64 k) true).run P W = .ok (.tuple #[(atM L k).getD z, .bool (atM L k).isSome]) W := by
  obtain ⟨es, c, hb, e⟩ := h
  obtain ⟨r, q1, q2⟩ := run_findM (P := P) (W := W) hk e k
  rw [← q2]
  cases r with
  | none => simp [Instr.lookup, run_underlying ht, MapKept.run_getObj_map hb, MapKept.run_checkKey (n := 9999) hk (show MapKept.IsKey (.int .i64) (.int .i64 k) from rfl), q1, hz, Result.andThen]
  | some x => simp [Instr.lookup, run_underlying ht, MapKept.run_getObj_map hb, MapKept.run_checkKey (n := 9999) hk (show MapKept.IsKey (.int .i64) (.int .i64 k) from rfl), q1, Result.andThen]
end
theorem int_zero (W : World) : (zeroValue 3).run Try.prog W = .ok (.int .i64 0) W := by
  obtain ⟨i, hi, hz, _⟩ := info_parts int_info
  simp [zeroValue, typeInfo, hi, hz]

theorem wpList_insM {W : World} {g : Nat} {L : List (Int × Value)} {ops : Array Oper} {rest : List Oper} {o : Oper} {a : Act} {Q : Exit → Act → World → Prop} (hg : o.guard = none) (m x v : Operand)
    (hop : o.op = Op.insert 54 m x v) (k : Int) (val : Value) (hm : a.eval m = .map (some g)) (hx : a.eval x = .int .i64 k) (hv : a.eval v = val) (h : Md W g L) (hn : atM L k = none)
    (hK : ∀ W', Md W' g (L ++ [(k, val)]) → (∀ B, B ≤ g → Below B W W') → wpList Try.prog ops Q rest (a.put o.dst undef) W') : wpList Try.prog ops Q (o :: rest) a W := by
  refine wpList_plain hg fun K' hK' => ?_
  obtain ⟨W', hrun, r1, r2⟩ := h.put Try.underlying54 Try.underlying3 hn val
  unfold Oper.wp
  simp [execOp, hop, hm, hx, hv, hrun, Result.andThen]
  exact hK' _ _ (hK W' r1 r2)
/-- Of how many nodes each op is reckoned. -/
def arL : List (Int × Value) :=
  [(1, .int .i64 0), (2, .int .i64 0), (3, .int .i64 0), (10, .int .i64 2), (11, .int .i64 2), (12, .int .i64 2), (13, .int .i64 2), (20, .int .i64 1), (21, .int .i64 1), (22, .int .i64 1), (23, .int .i64 1), (30, .int .i64 2), (40, .int .i64 1), (41, .int .i64 1), (42, .int .i64 1), (43, .int .i64 2), (50, .int .i64 1), (51, .int .i64 1), (52, .int .i64 1)]
theorem ar_at (op : Int) : atM arL op = if 0 ≤ arityV op then some (.int .i64 (arityV op)) else none := by
  by_cases h0 : op = 1
  · subst h0; simp [atM, arL, arityV]
  by_cases h1 : op = 2
  · subst h1; simp [atM, arL, arityV]
  by_cases h2 : op = 3
  · subst h2; simp [atM, arL, arityV]
  by_cases h3 : op = 10
  · subst h3; simp [atM, arL, arityV]
  by_cases h4 : op = 11
  · subst h4; simp [atM, arL, arityV]
  by_cases h5 : op = 12
  · subst h5; simp [atM, arL, arityV]
  by_cases h6 : op = 13
  · subst h6; simp [atM, arL, arityV]
  by_cases h7 : op = 20
  · subst h7; simp [atM, arL, arityV]
  by_cases h8 : op = 21
  · subst h8; simp [atM, arL, arityV]
  by_cases h9 : op = 22
  · subst h9; simp [atM, arL, arityV]
  by_cases h10 : op = 23
  · subst h10; simp [atM, arL, arityV]
  by_cases h11 : op = 30
  · subst h11; simp [atM, arL, arityV]
  by_cases h12 : op = 40
  · subst h12; simp [atM, arL, arityV]
  by_cases h13 : op = 41
  · subst h13; simp [atM, arL, arityV]
  by_cases h14 : op = 42
  · subst h14; simp [atM, arL, arityV]
  by_cases h15 : op = 43
  · subst h15; simp [atM, arL, arityV]
  by_cases h16 : op = 50
  · subst h16; simp [atM, arL, arityV]
  by_cases h17 : op = 51
  · subst h17; simp [atM, arL, arityV]
  by_cases h18 : op = 52
  · subst h18; simp [atM, arL, arityV]
  have hv : arityV op = -1 := by
    unfold arityV
    rw [if_neg (by omega), if_neg (by omega), if_neg (by omega)]
  rw [hv]
  simp [atM, arL, h0, h1, h2, h3, h4, h5, h6, h7, h8, h9, h10, h11, h12, h13, h14, h15, h16, h17, h18]
set_option maxHeartbeats 4000000 in
set_option maxRecDepth 100000 in
theorem arities_any (w : World) : Calls Try.prog 30 #[] w fun e w' => ∃ g, e = .returned (.map (some g)) ∧ Md w' g arL ∧ Kp w w' := by
  have hmm := @run_makeMap Try.prog
  have h0 := Md.new w
  go_enter Try.func30, Try.ntmps30
  go_wp2_with (first
    | (refine wpList_insM (L := arL.take 0) rfl _ _ _ rfl 1 (.int .i64 0) rfl rfl rfl h0 rfl ?_; intro w1 h1 b1)
    | (refine wpList_insM (L := arL.take 1) rfl _ _ _ rfl 2 (.int .i64 0) rfl rfl rfl h1 rfl ?_; intro w2 h2 b2)
    | (refine wpList_insM (L := arL.take 2) rfl _ _ _ rfl 3 (.int .i64 0) rfl rfl rfl h2 rfl ?_; intro w3 h3 b3)
    | (refine wpList_insM (L := arL.take 3) rfl _ _ _ rfl 10 (.int .i64 2) rfl rfl rfl h3 rfl ?_; intro w4 h4 b4)
    | (refine wpList_insM (L := arL.take 4) rfl _ _ _ rfl 11 (.int .i64 2) rfl rfl rfl h4 rfl ?_; intro w5 h5 b5)
    | (refine wpList_insM (L := arL.take 5) rfl _ _ _ rfl 12 (.int .i64 2) rfl rfl rfl h5 rfl ?_; intro w6 h6 b6)
    | (refine wpList_insM (L := arL.take 6) rfl _ _ _ rfl 13 (.int .i64 2) rfl rfl rfl h6 rfl ?_; intro w7 h7 b7)
    | (refine wpList_insM (L := arL.take 7) rfl _ _ _ rfl 20 (.int .i64 1) rfl rfl rfl h7 rfl ?_; intro w8 h8 b8)
    | (refine wpList_insM (L := arL.take 8) rfl _ _ _ rfl 21 (.int .i64 1) rfl rfl rfl h8 rfl ?_; intro w9 h9 b9)
    | (refine wpList_insM (L := arL.take 9) rfl _ _ _ rfl 22 (.int .i64 1) rfl rfl rfl h9 rfl ?_; intro w10 h10 b10)
    | (refine wpList_insM (L := arL.take 10) rfl _ _ _ rfl 23 (.int .i64 1) rfl rfl rfl h10 rfl ?_; intro w11 h11 b11)
    | (refine wpList_insM (L := arL.take 11) rfl _ _ _ rfl 30 (.int .i64 2) rfl rfl rfl h11 rfl ?_; intro w12 h12 b12)
    | (refine wpList_insM (L := arL.take 12) rfl _ _ _ rfl 40 (.int .i64 1) rfl rfl rfl h12 rfl ?_; intro w13 h13 b13)
    | (refine wpList_insM (L := arL.take 13) rfl _ _ _ rfl 41 (.int .i64 1) rfl rfl rfl h13 rfl ?_; intro w14 h14 b14)
    | (refine wpList_insM (L := arL.take 14) rfl _ _ _ rfl 42 (.int .i64 1) rfl rfl rfl h14 rfl ?_; intro w15 h15 b15)
    | (refine wpList_insM (L := arL.take 15) rfl _ _ _ rfl 43 (.int .i64 2) rfl rfl rfl h15 rfl ?_; intro w16 h16 b16)
    | (refine wpList_insM (L := arL.take 16) rfl _ _ _ rfl 50 (.int .i64 1) rfl rfl rfl h16 rfl ?_; intro w17 h17 b17)
    | (refine wpList_insM (L := arL.take 17) rfl _ _ _ rfl 51 (.int .i64 1) rfl rfl rfl h17 rfl ?_; intro w18 h18 b18)
    | (refine wpList_insM (L := arL.take 18) rfl _ _ _ rfl 52 (.int .i64 1) rfl rfl rfl h18 rfl ?_; intro w19 h19 b19))
  go_ret
  have n := Nat.le_refl w.heap.size
  exact ⟨_, rfl, h19, (Kp.alloc_ _ _).trans (((((((((((((((((((b1 _ n).trans (b2 _ n)).trans (b3 _ n)).trans (b4 _ n)).trans (b5 _ n)).trans (b6 _ n)).trans (b7 _ n)).trans (b8 _ n)).trans (b9 _ n)).trans (b10 _ n)).trans (b11 _ n)).trans (b12 _ n)).trans (b13 _ n)).trans (b14 _ n)).trans (b15 _ n)).trans (b16 _ n)).trans (b17 _ n)).trans (b18 _ n)).trans (b19 _ n))⟩

theorem arity_any (op v : Int) (w : World) (hv : arityV op = v) :
    Calls Try.prog 32 #[.int .i64 op] w fun e w' => e = .returned (.int .i64 v) ∧ Kp w w' := by
  have HAR := Lib.hid (arities_any w)
  have HAT := Lib.hid (ar_at op)
  rw [hv] at HAT
  have h1 : v = -1 ∨ 0 ≤ v := by rw [← hv]; unfold arityV; repeat' split <;> omega
  clear hv
  by_cases h : 0 ≤ v
  · have HA2 : Hid (atM arL op = some (.int .i64 v)) := by show _ = _; rw [HAT.out, if_pos h]
    go_enter Try.func32, Try.ntmps32
    go_wp2_with fail
    refine HAR.out.mono ?_; rintro e w1 ⟨g, rfl, hm, hk⟩
    have hlk := hm.get2 (P := Try.prog) Try.underlying54 Try.underlying3 (int_zero w1) op
    rw [HA2.out] at hlk
    simp only [Option.getD_some, Option.isSome_some] at hlk
    have K1 := Lib.hid hk
    clear hm hk h1
    go_wp2
    go_ret
    exact ⟨rfl, K1.out⟩
  · have hv1 : v = -1 := by omega
    have HA2 : Hid (atM arL op = none) := by show _ = _; rw [HAT.out, if_neg h]
    subst hv1
    clear h h1
    go_enter Try.func32, Try.ntmps32
    go_wp2_with fail
    refine HAR.out.mono ?_; rintro e w1 ⟨g, rfl, hm, hk⟩
    have hlk := hm.get2 (P := Try.prog) Try.underlying54 Try.underlying3 (int_zero w1) op
    rw [HA2.out] at hlk
    simp only [Option.getD_none, Option.isSome_none] at hlk
    have K1 := Lib.hid hk
    clear hm hk
    go_wp2
    go_ret
    exact ⟨rfl, K1.out⟩
end Go.Proofs.Ytnkkkpanlnencaa.Gz
