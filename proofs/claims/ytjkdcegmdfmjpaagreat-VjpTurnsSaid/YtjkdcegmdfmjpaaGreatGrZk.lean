import Derived.Test.YtjkdcegmdfmjpaaGreatTk
import Derived.Test.YtjkdcegmdfmjpaaGreatTnAll
import Derived.Test.YtjkdcegmdfmjpaaGreatGrAll
import Derived.Carry
import Derived.MapKept
import Derived.ChangeMaps5
import Derived.Maps.OwnOps
import Derived.Conc.MuLone
import Derived.Deep.RegionHeld3
import Derived.Deep.RegionWith
import Derived.Deep.DeepCutAuto
set_option maxHeartbeats 16000000
set_option maxRecDepth 100000
set_option linter.unusedVariables false
set_option linter.unusedSimpArgs false
namespace Go.Proofs.YtjkdcegmdfmjpaaGreat.Gz
open Go.RowKit Go.Proofs.ShM Go.Proofs.GrM Go.ChangeMaps
def atM : List (Int × Value) → Int → Option Value
 | [], _ => none
 | (j, v) :: L, k => if k = j then some v else atM L k
def Md (W : World) (g : Nat) (L : List (Int × Value)) : Prop :=
 ∃ es clock, W.heap[g]? = some (.map es clock) ∧ es.toList.map (fun e => (e.key, e.val)) = L.map (fun x => (Value.int .i64 x.1, x.2))
section
variable {P : Program} {W W' : World} {g : Nat} {L : List (Int × Value)} {k : Int}
theorem Md.lt (h : Md W g L) : g < W.heap.size := by obtain ⟨es, c, h, _⟩ := h; exact (Array.getElem?_eq_some_iff.1 h).1
theorem Md.kp (h : Md W g L) (kp : Kp W W') : Md W' g L := by
 have hl := h.lt
 obtain ⟨es, c, h, e⟩ := h
 exact ⟨es, c, (kp.block g hl).trans h, e⟩
theorem Md.new (W : World) : Md (W.alloc (.map #[] 0)) W.heap.size [] := ⟨#[], 0, by show (W.heap.push _)[W.heap.size]? = _; simp, rfl⟩
theorem find_now (k : Int) : ∀ (es : List MapEntry) (L : List (Int × Value)) (i : Nat), es.map (fun e => (e.key, e.val)) = L.map (fun x => (Value.int .i64 x.1, x.2)) →
  ∃ r, Instr.findNow (.int .i64) (.int .i64 k) es i = some r ∧ r.map (·.2) = atM L k := by
 intro es
 induction es with
 | nil =>
  intro L i h
  cases L with
  | nil => exact ⟨none, rfl, rfl⟩
  | cons x L => simp at h
 | cons e es ih =>
  intro L i h
  cases L with
  | nil => simp at h
  | cons x L =>
   simp only [List.map_cons, List.cons.injEq, Prod.mk.injEq] at h
   obtain ⟨⟨h1, h2⟩, h3⟩ := h
   by_cases hk : k = x.1
   ·refine ⟨some (i, e.val), ?_, ?_⟩
    ·simp [Instr.findNow, Instr.sameNow, h1, hk]
    ·simp [atM, hk, h2]
   ·obtain ⟨r, q1, q2⟩ := ih L (i + 1) h3
    refine ⟨r, ?_, ?_⟩
    ·have hf : (k == x.1) = false := by simpa using hk
     simp [Instr.findNow, Instr.sameNow, h1, hf, q1]
    ·simp [atM, hk, q2]
theorem run_findM {kt : TypeId} (hk : P.underlying kt = some (.int .i64)) {es : Array MapEntry} (h : es.toList.map (fun e => (e.key, e.val)) = L.map (fun x => (Value.int .i64 x.1, x.2))) (k : Int) :
  ∃ r, (Instr.findKey kt (.int .i64 k) es.toList).run P W = .ok r W ∧ r.map (·.2) = atM L k := by
 obtain ⟨r, q1, q2⟩ := find_now k es.toList L 0 h
 refine ⟨r, ?_, q2⟩
 simp [Instr.findKey, run_underlying hk, q1, Result.andThen]
theorem Md.put {t kt et : TypeId} (h : Md W g L) (ht : P.underlying t = some (.map kt et)) (hk : P.underlying kt = some (.int .i64)) (hn : atM L k = none) (v : Value) :
  ∃ W', (Instr.mapUpdate t (.map (some g)) (.int .i64 k) v).run P W = .ok () W' ∧ Md W' g (L ++ [(k, v)]) ∧ ∀ B, B ≤ g → Below B W W' := by
 obtain ⟨es, c, hb, e⟩ := h
 obtain ⟨r, q1, q2⟩ := run_findM (P := P) (W := W) hk e k
 rw [hn] at q2
 have hr : r = none := by cases r with | none => rfl | some x => simp at q2
 subst hr
 refine ⟨setBlock W g (.map (es.push ⟨.int .i64 k, v, c⟩) (c + 1)), ?_, ⟨_, _, heap_setBlock_same hb _, ?_⟩, fun B hB => ?_⟩
 ·simp [Instr.mapUpdate, run_underlying ht, MapKept.run_getObj_map hb, MapKept.run_checkKey (e := false) (n := 9999) hk (show MapKept.IsKey (.int .i64) (.int .i64 k) from rfl), q1, MapKept.run_setObj_map _ hb, Result.andThen, setBlock]
 ·simp [e]
 ·exact ⟨rfl, rfl, rfl, by simp [setBlock], fun j hj => heap_setBlock_other hb _ (by omega)⟩
theorem Md.get2 {t kt et : TypeId} (h : Md W g L) (ht : P.underlying t = some (.map kt et)) (hk : P.underlying kt = some (.int .i64)) {z : Value} (hz : (zeroValue et).run P W = .ok z W) (k : Int) :
  (Instr.lookup t (.map (some g)) (.int .i64 k) true).run P W = .ok (.tuple #[(atM L k).getD z, .bool (atM L k).isSome]) W := by
 obtain ⟨es, c, hb, e⟩ := h
 obtain ⟨r, q1, q2⟩ := run_findM (P := P) (W := W) hk e k
 rw [← q2]
 cases r with
 | none => simp [Instr.lookup, run_underlying ht, MapKept.run_getObj_map hb, MapKept.run_checkKey (n := 9999) hk (show MapKept.IsKey (.int .i64) (.int .i64 k) from rfl), q1, hz, Result.andThen]
 | some x => simp [Instr.lookup, run_underlying ht, MapKept.run_getObj_map hb, MapKept.run_checkKey (n := 9999) hk (show MapKept.IsKey (.int .i64) (.int .i64 k) from rfl), q1, Result.andThen]
end
theorem int_zero (W : World) : (zeroValue 3).run Tryz.prog W = .ok (.int .i64 0) W := by
 obtain ⟨i, hi, hz, _⟩ := info_parts int_info
 simp [zeroValue, typeInfo, hi, hz]
theorem wpList_insM {W : World} {g : Nat} {L : List (Int × Value)} {ops : Array Oper} {rest : List Oper} {o : Oper} {a : Act} {Q : Exit → Act → World → Prop} (hg : o.guard = none) (m x v : Operand)
  (hop : o.op = Op.insert 152 m x v) (k : Int) (val : Value) (hm : a.eval m = .map (some g)) (hx : a.eval x = .int .i64 k) (hv : a.eval v = val) (h : Md W g L) (hn : atM L k = none)
  (hK : ∀ W', Md W' g (L ++ [(k, val)]) → (∀ B, B ≤ g → Below B W W') → wpList Tryz.prog ops Q rest (a.put o.dst undef) W') : wpList Tryz.prog ops Q (o :: rest) a W := by
 refine wpList_plain hg fun K' hK' => ?_
 obtain ⟨W', hrun, r1, r2⟩ := h.put Tryz.underlying152 Tryz.underlying3 hn val
 unfold Oper.wp
 simp [execOp, hop, hm, hx, hv, hrun, Result.andThen]
 exact hK' _ _ (hK W' r1 r2)
def arL : List (Int × Value) :=
 [(1, .int .i64 0), (2, .int .i64 0), (3, .int .i64 0), (10, .int .i64 2), (11, .int .i64 2), (12, .int .i64 2), (13, .int .i64 2), (20, .int .i64 1), (21, .int .i64 1), (22, .int .i64 1), (23, .int .i64 1), (30, .int .i64 2), (40, .int .i64 1), (41, .int .i64 1), (42, .int .i64 1), (43, .int .i64 2), (50, .int .i64 1), (51, .int .i64 1), (52, .int .i64 1)]
theorem ar_at (op : Int) : atM arL op = if 0 ≤ arityV op then some (.int .i64 (arityV op)) else none := by
 by_cases h0 : op = 1
 ·subst h0; simp [atM, arL, arityV]
 by_cases h1 : op = 2
 ·subst h1; simp [atM, arL, arityV]
 by_cases h2 : op = 3
 ·subst h2; simp [atM, arL, arityV]
 by_cases h3 : op = 10
 ·subst h3; simp [atM, arL, arityV]
 by_cases h4 : op = 11
 ·subst h4; simp [atM, arL, arityV]
 by_cases h5 : op = 12
 ·subst h5; simp [atM, arL, arityV]
 by_cases h6 : op = 13
 ·subst h6; simp [atM, arL, arityV]
 by_cases h7 : op = 20
 ·subst h7; simp [atM, arL, arityV]
 by_cases h8 : op = 21
 ·subst h8; simp [atM, arL, arityV]
 by_cases h9 : op = 22
 ·subst h9; simp [atM, arL, arityV]
 by_cases h10 : op = 23
 ·subst h10; simp [atM, arL, arityV]
 by_cases h11 : op = 30
 ·subst h11; simp [atM, arL, arityV]
 by_cases h12 : op = 40
 ·subst h12; simp [atM, arL, arityV]
 by_cases h13 : op = 41
 ·subst h13; simp [atM, arL, arityV]
 by_cases h14 : op = 42
 ·subst h14; simp [atM, arL, arityV]
 by_cases h15 : op = 43
 ·subst h15; simp [atM, arL, arityV]
 by_cases h16 : op = 50
 ·subst h16; simp [atM, arL, arityV]
 by_cases h17 : op = 51
 ·subst h17; simp [atM, arL, arityV]
 by_cases h18 : op = 52
 ·subst h18; simp [atM, arL, arityV]
 have hv : arityV op = -1 := by
  unfold arityV
  rw [if_neg (by omega), if_neg (by omega), if_neg (by omega)]
 rw [hv]
 simp [atM, arL, h0, h1, h2, h3, h4, h5, h6, h7, h8, h9, h10, h11, h12, h13, h14, h15, h16, h17, h18]
theorem arities_any (w : World) : Calls Tryz.prog 154 #[] w fun e w' => ∃ g, e = .returned (.map (some g)) ∧ Md w' g arL ∧ Kp w w' := by
 have hmm := @run_makeMap Tryz.prog
 have h0 := Md.new w
 go_enter Tryz.func154, Tryz.ntmps154
 go_wp2_with (first
  | (refine wpList_insM (L := arL.take 0) rfl _ _ _ rfl 1 (.int .i64 0) rfl rfl rfl h0 rfl ?_; intro w1 h1 b1)
  | (refine wpList_insM (L := arL.take 1) rfl _ _ _ rfl 2 (.int .i64 0) rfl rfl rfl h1 rfl ?_; intro w2 h2 b2)
  | (refine wpList_insM (L := arL.take 2) rfl _ _ _ rfl 3 (.int .i64 0) rfl rfl rfl h2 rfl ?_; intro w3 h3 b3)
  | (refine wpList_insM (L := arL.take 3) rfl _ _ _ rfl 10 (.int .i64 2) rfl rfl rfl h3 rfl ?_; intro w4 h4 b4)
  | (refine wpList_insM (L := arL.take 4) rfl _ _ _ rfl 11 (.int .i64 2) rfl rfl rfl h4 rfl ?_; intro w5 h5 b5)
  | (refine wpList_insM (L := arL.take 5) rfl _ _ _ rfl 12 (.int .i64 2) rfl rfl rfl h5 rfl ?_; intro w6 h6 b6)
  | (refine wpList_insM (L := arL.take 6) rfl _ _ _ rfl 13 (.int .i64 2) rfl rfl rfl h6 rfl ?_; intro w7 h7 b7)
  | (refine wpList_insM (L := arL.take 7) rfl _ _ _ rfl 20 (.int .i64 1) rfl rfl rfl h7 rfl ?_; intro w8 h8 b8)
  | (refine wpList_insM (L := arL.take 8) rfl _ _ _ rfl 21 (.int .i64 1) rfl rfl rfl h8 rfl ?_; intro w9 h9 b9)
  | (refine wpList_insM (L := arL.take 9) rfl _ _ _ rfl 22 (.int .i64 1) rfl rfl rfl h9 rfl ?_; intro w10 h10 b10)
  | (refine wpList_insM (L := arL.take 10) rfl _ _ _ rfl 23 (.int .i64 1) rfl rfl rfl h10 rfl ?_; intro w11 h11 b11)
  | (refine wpList_insM (L := arL.take 11) rfl _ _ _ rfl 30 (.int .i64 2) rfl rfl rfl h11 rfl ?_; intro w12 h12 b12)
  | (refine wpList_insM (L := arL.take 12) rfl _ _ _ rfl 40 (.int .i64 1) rfl rfl rfl h12 rfl ?_; intro w13 h13 b13)
  | (refine wpList_insM (L := arL.take 13) rfl _ _ _ rfl 41 (.int .i64 1) rfl rfl rfl h13 rfl ?_; intro w14 h14 b14)
  | (refine wpList_insM (L := arL.take 14) rfl _ _ _ rfl 42 (.int .i64 1) rfl rfl rfl h14 rfl ?_; intro w15 h15 b15)
  | (refine wpList_insM (L := arL.take 15) rfl _ _ _ rfl 43 (.int .i64 2) rfl rfl rfl h15 rfl ?_; intro w16 h16 b16)
  | (refine wpList_insM (L := arL.take 16) rfl _ _ _ rfl 50 (.int .i64 1) rfl rfl rfl h16 rfl ?_; intro w17 h17 b17)
  | (refine wpList_insM (L := arL.take 17) rfl _ _ _ rfl 51 (.int .i64 1) rfl rfl rfl h17 rfl ?_; intro w18 h18 b18)
  | (refine wpList_insM (L := arL.take 18) rfl _ _ _ rfl 52 (.int .i64 1) rfl rfl rfl h18 rfl ?_; intro w19 h19 b19))
 go_ret
 have n := Nat.le_refl w.heap.size
 exact ⟨_, rfl, h19, (Kp.alloc_ _ _).trans (((((((((((((((((((b1 _ n).trans (b2 _ n)).trans (b3 _ n)).trans (b4 _ n)).trans (b5 _ n)).trans (b6 _ n)).trans (b7 _ n)).trans (b8 _ n)).trans (b9 _ n)).trans (b10 _ n)).trans (b11 _ n)).trans (b12 _ n)).trans (b13 _ n)).trans (b14 _ n)).trans (b15 _ n)).trans (b16 _ n)).trans (b17 _ n)).trans (b18 _ n)).trans (b19 _ n))⟩
theorem arity_any (op v : Int) (w : World) (hv : arityV op = v) :
  Calls Tryz.prog 113 #[.int .i64 op] w fun e w' => e = .returned (.int .i64 v) ∧ Kp w w' := by
 have HAR := lH (arities_any w)
 have HAT := lH (ar_at op)
 rw [hv] at HAT
 have h1 : v = -1 ∨ 0 ≤ v := by rw [← hv]; unfold arityV; repeat' split <;> omega
 clear hv
 by_cases h : 0 ≤ v
 ·have HA2 : Hid (atM arL op = some (.int .i64 v)) := by show _ = _; rw [HAT.out, if_pos h]
  go_enter Tryz.func113, Tryz.ntmps113
  go_wp2_with fail
  refine HAR.out.mono ?_; rintro e w1 ⟨g, rfl, hm, hk⟩
  have hlk := hm.get2 (P := Tryz.prog) Tryz.underlying152 Tryz.underlying3 (int_zero w1) op
  rw [HA2.out] at hlk
  simp only [Option.getD_some, Option.isSome_some] at hlk
  have K1 := lH hk
  clear hm hk h1
  go_wp2
  go_ret
  exact ⟨rfl, K1.out⟩
 ·have hv1 : v = -1 := by omega
  have HA2 : Hid (atM arL op = none) := by show _ = _; rw [HAT.out, if_neg h]
  subst hv1
  clear h h1
  go_enter Tryz.func113, Tryz.ntmps113
  go_wp2_with fail
  refine HAR.out.mono ?_; rintro e w1 ⟨g, rfl, hm, hk⟩
  have hlk := hm.get2 (P := Tryz.prog) Tryz.underlying152 Tryz.underlying3 (int_zero w1) op
  rw [HA2.out] at hlk
  simp only [Option.getD_none, Option.isSome_none] at hlk
  have K1 := lH hk
  clear hm hk
  go_wp2
  go_ret
  exact ⟨rfl, K1.out⟩
theorem num_w (op : Int) (n m c d : Nat) (l : List Int) (r : Bool) (P Q : Option Addr) (w : World) (HM : Hid (m = l.length)) (hQ : Rd w Q l) (hd1 : m ≤ d) (hd2 : d ≤ 9223372036854775807) (hk : 0 ≤ arityV op) (hr : ∀ a : List Int, numsB (op, a, l) = r) :
  Calls Tryz.prog 171 #[.agg #[.int .i64 op, .slice P n c, .slice Q m d]] w fun e w' => e = .returned (.bool r) ∧ Kp w w' := by
 have hr := hr []
 have F0 := lH (Nb.new (W := w) (b := w.heap.size) (op := op) (P := P) (n := n) (c := c) (Q := Q) (m := m) (d := d) rfl)
 have K0 : Hid (Kp w (w.alloc (.cells #[.int .i64 op, .slice P n c, .slice Q m d] 24))) := Kp.alloc_ _ _
 have HR0 := lH (hQ.kp K0.out)
 obtain ⟨q, hq⟩ := eX (okS l)
 have HC : Hid (∀ W, Rd W Q l → Calls Tryz.prog 20 #[.slice Q m d] W fun e w' => e = .returned (.bool q) ∧ W = w') := fun W h => by rw [hq, HM.out]; exact check_any Q d l W h
 have p0 := F0.out.c0
 have p1 := F0.out.c1
 have p2 := F0.out.c2
 have hml : m ≤ 9223372036854775807 := by omega
 by_cases h2 : op = 2
 ·subst h2
  have hv : parB l = r := by rw [← hr]; unfold numsB; simp
  clear hr hq hk
  by_cases hm0 : m = 0
  ·have hl0 : l = [] := List.eq_nil_of_length_eq_zero (by rw [← HM.out]; exact hm0)
   subst hl0 hm0
   have hv' : r = false := hv.symm
   subst hv'
   clear hv
   go_enter Tryz.func171, Tryz.ntmps171
   go_wp2
   go_ret
   exact ⟨rfl, K0.out⟩
  ·obtain ⟨x, s, rfl⟩ : ∃ x s, l = x :: s := by
    cases l with
    | nil => exact absurd HM.out hm0
    | cons x s => exact ⟨x, s, rfl⟩
   have hms : m = s.length + 1 := HM.out
   have HMS := lH hms
   obtain ⟨ad, y, rfl, hlt, hx, hcell⟩ := HR0.out.at_ (k := 0) (by simp)
   have hxy : x = y := by simpa using hx
   subst hxy
   have e1 : ad.add 0 = ad := by unfold Addr.add; simp
   rw [e1] at hcell
   have hm1 : ((m : Int) == 0) = false := by simp; omega
   have hi1 : (0 : Int) < (m : Int) := by omega
   have hi2 : (1 : Int) ≤ (m : Int) := by omega
   have HQ0 := lH hQ
   clear hms hx e1 hQ
   by_cases hx0 : x < 0
   ·have hv' : r = false := by rw [← hv]; unfold parB; simp; omega
    subst hv'
    clear hv
    go_enter Tryz.func171, Tryz.ntmps171
    go_wp2
    go_ret
    exact ⟨rfl, K0.out⟩
   by_cases hx7 : (8 : Int) ≤ x
   ·have hv' : r = false := by rw [← hv]; unfold parB; simp; omega
    subst hv'
    clear hv
    go_enter Tryz.func171, Tryz.ntmps171
    go_wp2
    go_ret
    exact ⟨rfl, K0.out⟩
   ·have hv' : r = okS s := by rw [← hv]; unfold parB; simp; omega
    have HC2 : Hid (∀ W, Kp w W → Calls Tryz.prog 20 #[.slice (tailA (some ad) d) (m - 1) (d - 1)] W fun e w' => e = .returned (.bool r) ∧ W = w') := fun W k => by
     rw [hv', show m - 1 = s.length by have := HMS.out; omega]
     exact check_any _ (d - 1) s W ((HQ0.out.kp k).tail_ (by have := HMS.out; omega))
    obtain ⟨Q2, hQ2⟩ := eX (tailA (some ad) d)
    obtain ⟨d2, hd2'⟩ : ∃ d2, d2 = d - 1 := ⟨_, rfl⟩
    have hcut : ∀ W, (Instr.sliceAt 22 (.slice (some ad) m d) (some (.int .i64 1)) none none).run Tryz.prog W = .ok (.slice Q2 (m - 1) d2) W := fun W => by rw [hQ2, hd2']; exact run_tail W ad m d (by have := HMS.out; omega)
    rw [← hQ2, ← hd2'] at HC2
    clear hv hv' hQ2 hd2'
    go_enter Tryz.func171, Tryz.ntmps171
    go_wp2_with fail
    refine (HC2.out _ K0.out).mono ?_; rintro e w2 ⟨rfl, rfl⟩
    go_wp2
    go_ret
    exact ⟨rfl, K0.out⟩
 have e2 : (op == 2) = false := by simpa using h2
 by_cases h1 : op = 1
 ·subst h1
  have hv : r = q := by rw [← hr, hq]; unfold numsB; simp
  subst hv
  clear hr hq hQ
  go_enter Tryz.func171, Tryz.ntmps171
  go_wp2_with fail
  refine (HC.out _ HR0.out).mono ?_; rintro e w1 ⟨rfl, rfl⟩
  go_wp2
  go_ret
  exact ⟨rfl, K0.out⟩
 by_cases h40 : op = 40
 ·subst h40
  have hv : r = q := by rw [← hr, hq]; unfold numsB; simp
  subst hv
  clear hr hq hQ
  go_enter Tryz.func171, Tryz.ntmps171
  go_wp2_with fail
  refine (HC.out _ HR0.out).mono ?_; rintro e w1 ⟨rfl, rfl⟩
  go_wp2
  go_ret
  exact ⟨rfl, K0.out⟩
 have e1 : (op == 1) = false := by simpa using h1
 have e40 : (op == 40) = false := by simpa using h40
 by_cases h42 : op = 42
 ·subst h42
  have hv : r = decide (m = 3) := by rw [← hr, HM.out]; unfold numsB; simp
  have hv2 : r = ((m : Int) == 3) := by rw [hv, Bool.eq_iff_iff, decide_eq_true_iff, beq_iff_eq]; omega
  subst hv2
  clear hr hq hQ hv
  go_enter Tryz.func171, Tryz.ntmps171
  go_wp2
  go_ret
  exact ⟨rfl, K0.out⟩
 have e42 : (op == 42) = false := by simpa using h42
 have hone : ∀ b : Bool, (b = true ↔ op = 3 ∨ op = 43 ∨ 50 ≤ op) → r = (if b = true then ((m : Int) == 1) else ((m : Int) == 0)) := by
  intro b hb
  rw [← hr]
  unfold numsB
  rw [if_neg (by omega), if_neg h2, if_neg h42]
  show (if op = 3 ∨ op = 43 ∨ 50 ≤ op then decide (l.length = 1) else decide (l.length = 0)) = _
  rw [← HM.out]
  by_cases h : op = 3 ∨ op = 43 ∨ 50 ≤ op
  ·rw [if_pos h, if_pos (hb.2 h), Bool.eq_iff_iff, decide_eq_true_iff, beq_iff_eq]; omega
  ·rw [if_neg h, if_neg (fun g => h (hb.1 g)), Bool.eq_iff_iff, decide_eq_true_iff, beq_iff_eq]; omega
 have hsome : op = 3 ∨ op = 43 ∨ op = 50 ∨ op = 51 ∨ op = 52 ∨ ¬ (op = 3 ∨ op = 43 ∨ 50 ≤ op) := by
  have : op ≤ 52 := by
   unfold arityV at hk
   by_cases g : op ≤ 52
   ·exact g
   ·exfalso
    rw [if_neg (by omega), if_neg (by omega), if_neg (by omega)] at hk
    omega
  omega
 rcases hsome with h3 | h3 | h3 | h3 | h3 | h3
 ·have hv := hone true (by simp [h3])
  rw [if_pos rfl] at hv
  subst h3 hv
  clear hr hq hQ hone
  go_enter Tryz.func171, Tryz.ntmps171
  go_wp2
  go_ret
  exact ⟨rfl, K0.out⟩
 ·have hv := hone true (by simp [h3])
  rw [if_pos rfl] at hv
  subst h3 hv
  clear hr hq hQ hone
  go_enter Tryz.func171, Tryz.ntmps171
  go_wp2
  go_ret
  exact ⟨rfl, K0.out⟩
 ·have hv := hone true (by simp [h3])
  rw [if_pos rfl] at hv
  subst h3 hv
  clear hr hq hQ hone
  go_enter Tryz.func171, Tryz.ntmps171
  go_wp2
  go_ret
  exact ⟨rfl, K0.out⟩
 ·have hv := hone true (by simp [h3])
  rw [if_pos rfl] at hv
  subst h3 hv
  clear hr hq hQ hone
  go_enter Tryz.func171, Tryz.ntmps171
  go_wp2
  go_ret
  exact ⟨rfl, K0.out⟩
 ·have hv := hone true (by simp [h3])
  rw [if_pos rfl] at hv
  subst h3 hv
  clear hr hq hQ hone
  go_enter Tryz.func171, Tryz.ntmps171
  go_wp2
  go_ret
  exact ⟨rfl, K0.out⟩
 ·have hv := hone false (by simp; omega)
  rw [if_neg (by simp)] at hv
  have e3 : (op == 3) = false := by simp; omega
  have e43 : (op == 43) = false := by simp; omega
  have e50 : (op == 50) = false := by simp; omega
  have e51 : (op == 51) = false := by simp; omega
  have e52 : (op == 52) = false := by simp; omega
  subst hv
  clear hr hq hQ hone h1 h2 h3 h40 h42 hk
  go_enter Tryz.func171, Tryz.ntmps171
  go_wp2
  go_ret
  exact ⟨rfl, K0.out⟩
theorem num_any (t : Nd) (P Q : Option Addr) (c d : Nat) (w : World) (hQ : Rd w Q t.2.2) (hd : t.2.2.length ≤ d ∧ d ≤ 9223372036854775807) (hk : 0 ≤ arityV t.1) :
  Calls Tryz.prog 171 #[ndV t P c Q d] w fun e w' => e = .returned (.bool (numsB t)) ∧ Kp w w' :=
 num_w t.1 t.2.1.length t.2.2.length c d t.2.2 (numsB t) P Q w rfl hQ hd.1 hd.2 hk (fun _ => rfl)
theorem agree_ne (x y : Int) (n m n2 m2 c d e f : Nat) (P R Q S : Option Addr) (w : World) (e1 : (x != y) = true) :
  Calls Tryz.prog 172 #[.agg #[.int .i64 x, .slice P n c, .slice Q m d], .agg #[.int .i64 y, .slice R n2 e, .slice S m2 f]] w fun e w' => e = .returned (.bool true) ∧ Kp w w' := by
 have F0 : Hid (Nb ((w.alloc (.cells #[.int .i64 x, .slice P n c, .slice Q m d] 24)).alloc (.cells #[.int .i64 y, .slice R n2 e, .slice S m2 f] 24)) w.heap.size x P n c Q m d) := (Nb.new rfl).alloc_ _
 have F1 : Hid (Nb ((w.alloc (.cells #[.int .i64 x, .slice P n c, .slice Q m d] 24)).alloc (.cells #[.int .i64 y, .slice R n2 e, .slice S m2 f] 24)) (w.heap.size + 1) y R n2 e S m2 f) := Nb.new (by simp)
 have K0 : Hid (Kp w ((w.alloc (.cells #[.int .i64 x, .slice P n c, .slice Q m d] 24)).alloc (.cells #[.int .i64 y, .slice R n2 e, .slice S m2 f] 24))) := (Kp.alloc_ _ _).tr (Kp.alloc_ _ _)
 have p0 := F0.out.c0
 have p2 := F0.out.c2
 have q0 := F1.out.c0
 have q2 := F1.out.c2
 go_enter Tryz.func172, Tryz.ntmps172
 go_wp2
 go_ret
 exact ⟨rfl, K0.out⟩
theorem agree_gt (x : Int) (n m n2 m2 c d e f : Nat) (P R Q S : Option Addr) (w : World) (h1 : (x == 1) = false) (h2 : (x == 2) = false) :
  Calls Tryz.prog 172 #[.agg #[.int .i64 x, .slice P n c, .slice Q m d], .agg #[.int .i64 x, .slice R n2 e, .slice S m2 f]] w fun e w' => e = .returned (.bool true) ∧ Kp w w' := by
 have F0 : Hid (Nb ((w.alloc (.cells #[.int .i64 x, .slice P n c, .slice Q m d] 24)).alloc (.cells #[.int .i64 x, .slice R n2 e, .slice S m2 f] 24)) w.heap.size x P n c Q m d) := (Nb.new rfl).alloc_ _
 have F1 : Hid (Nb ((w.alloc (.cells #[.int .i64 x, .slice P n c, .slice Q m d] 24)).alloc (.cells #[.int .i64 x, .slice R n2 e, .slice S m2 f] 24)) (w.heap.size + 1) x R n2 e S m2 f) := Nb.new (by simp)
 have K0 : Hid (Kp w ((w.alloc (.cells #[.int .i64 x, .slice P n c, .slice Q m d] 24)).alloc (.cells #[.int .i64 x, .slice R n2 e, .slice S m2 f] 24))) := (Kp.alloc_ _ _).tr (Kp.alloc_ _ _)
 have p0 := F0.out.c0
 have p2 := F0.out.c2
 have q0 := F1.out.c0
 have q2 := F1.out.c2
 have e1 : (x != x) = false := by simp
 go_enter Tryz.func172, Tryz.ntmps172
 go_wp2
 go_ret
 exact ⟨rfl, K0.out⟩
theorem agree_1 (n m n2 m2 c d e f : Nat) (P R Q S : Option Addr) (w : World) (s : Bool) (HS : Hid (∀ W, Kp w W → Calls Tryz.prog 52 #[.slice Q m d, .slice S m2 f] W fun e w' => e = .returned (.bool s) ∧ ∃ n, w' = W.drewN n)) :
  Calls Tryz.prog 172 #[.agg #[.int .i64 1, .slice P n c, .slice Q m d], .agg #[.int .i64 1, .slice R n2 e, .slice S m2 f]] w fun e w' => e = .returned (.bool s) ∧ Kp w w' := by
 have F0 : Hid (Nb ((w.alloc (.cells #[.int .i64 1, .slice P n c, .slice Q m d] 24)).alloc (.cells #[.int .i64 1, .slice R n2 e, .slice S m2 f] 24)) w.heap.size 1 P n c Q m d) := (Nb.new rfl).alloc_ _
 have F1 : Hid (Nb ((w.alloc (.cells #[.int .i64 1, .slice P n c, .slice Q m d] 24)).alloc (.cells #[.int .i64 1, .slice R n2 e, .slice S m2 f] 24)) (w.heap.size + 1) 1 R n2 e S m2 f) := Nb.new (by simp)
 have K0 : Hid (Kp w ((w.alloc (.cells #[.int .i64 1, .slice P n c, .slice Q m d] 24)).alloc (.cells #[.int .i64 1, .slice R n2 e, .slice S m2 f] 24))) := (Kp.alloc_ _ _).tr (Kp.alloc_ _ _)
 have p0 := F0.out.c0
 have p2 := F0.out.c2
 have q0 := F1.out.c0
 have q2 := F1.out.c2
 go_enter Tryz.func172, Tryz.ntmps172
 go_wp2_with fail
 refine (HS.out _ K0.out).mono ?_; rintro e0 w1 ⟨rfl, k1, rfl⟩
 go_wp2
 go_ret
 exact ⟨rfl, K0.out.tr (Kp.drewN_ _ _)⟩
theorem agree_un (n m n2 m2 c d e f : Nat) (P R : Option Addr) (ad ae : Addr) (u v : Int) (w : World) (hb : ad.block < w.heap.size) (hb2 : ae.block < w.heap.size) (hc : w.cell? ad = some (.int .i64 u)) (hc2 : w.cell? ae = some (.int .i64 v)) (i1 : (0 : Int) < (m : Int)) (i2 : (0 : Int) < (m2 : Int)) (e4 : (u != v) = true) :
  Calls Tryz.prog 172 #[.agg #[.int .i64 2, .slice P n c, .slice (some ad) m d], .agg #[.int .i64 2, .slice R n2 e, .slice (some ae) m2 f]] w fun e w' => e = .returned (.bool true) ∧ Kp w w' := by
 have F0 : Hid (Nb ((w.alloc (.cells #[.int .i64 2, .slice P n c, .slice (some ad) m d] 24)).alloc (.cells #[.int .i64 2, .slice R n2 e, .slice (some ae) m2 f] 24)) w.heap.size 2 P n c (some ad) m d) := (Nb.new rfl).alloc_ _
 have F1 : Hid (Nb ((w.alloc (.cells #[.int .i64 2, .slice P n c, .slice (some ad) m d] 24)).alloc (.cells #[.int .i64 2, .slice R n2 e, .slice (some ae) m2 f] 24)) (w.heap.size + 1) 2 R n2 e (some ae) m2 f) := Nb.new (by simp)
 have K0 : Hid (Kp w ((w.alloc (.cells #[.int .i64 2, .slice P n c, .slice (some ad) m d] 24)).alloc (.cells #[.int .i64 2, .slice R n2 e, .slice (some ae) m2 f] 24))) := (Kp.alloc_ _ _).tr (Kp.alloc_ _ _)
 have p0 := F0.out.c0
 have p2 := F0.out.c2
 have q0 := F1.out.c0
 have q2 := F1.out.c2
 have p3 := (K0.out.cell (p := ad) hb).trans hc
 have q3 := (K0.out.cell (p := ae) hb2).trans hc2
 clear hb hb2 hc hc2
 go_enter Tryz.func172, Tryz.ntmps172
 go_wp2_with fail
 go_quiet (fail)
 go_wp2
 go_ret
 exact ⟨rfl, K0.out.tr (Kp.drewN_ _ _)⟩
theorem agree_eq (n m n2 m2 c d e f : Nat) (P R : Option Addr) (ad ae : Addr) (u v : Int) (w : World) (hb : ad.block < w.heap.size) (hb2 : ae.block < w.heap.size) (hc : w.cell? ad = some (.int .i64 u)) (hc2 : w.cell? ae = some (.int .i64 v)) (i1 : (0 : Int) < (m : Int)) (i2 : (0 : Int) < (m2 : Int)) (e4 : (u != v) = false) (s : Bool) (HS : Hid (∀ W, Kp w W → Calls Tryz.prog 52 #[.slice (some ad) m d, .slice (some ae) m2 f] W fun e w' => e = .returned (.bool s) ∧ ∃ n, w' = W.drewN n)) :
  Calls Tryz.prog 172 #[.agg #[.int .i64 2, .slice P n c, .slice (some ad) m d], .agg #[.int .i64 2, .slice R n2 e, .slice (some ae) m2 f]] w fun e w' => e = .returned (.bool s) ∧ Kp w w' := by
 have F0 : Hid (Nb ((w.alloc (.cells #[.int .i64 2, .slice P n c, .slice (some ad) m d] 24)).alloc (.cells #[.int .i64 2, .slice R n2 e, .slice (some ae) m2 f] 24)) w.heap.size 2 P n c (some ad) m d) := (Nb.new rfl).alloc_ _
 have F1 : Hid (Nb ((w.alloc (.cells #[.int .i64 2, .slice P n c, .slice (some ad) m d] 24)).alloc (.cells #[.int .i64 2, .slice R n2 e, .slice (some ae) m2 f] 24)) (w.heap.size + 1) 2 R n2 e (some ae) m2 f) := Nb.new (by simp)
 have K0 : Hid (Kp w ((w.alloc (.cells #[.int .i64 2, .slice P n c, .slice (some ad) m d] 24)).alloc (.cells #[.int .i64 2, .slice R n2 e, .slice (some ae) m2 f] 24))) := (Kp.alloc_ _ _).tr (Kp.alloc_ _ _)
 have p0 := F0.out.c0
 have p2 := F0.out.c2
 have q0 := F1.out.c0
 have q2 := F1.out.c2
 have p3 := (K0.out.cell (p := ad) hb).trans hc
 have q3 := (K0.out.cell (p := ae) hb2).trans hc2
 clear hb hb2 hc hc2
 go_enter Tryz.func172, Tryz.ntmps172
 go_wp2_with fail
 go_quiet (fail)
 go_wp2_with fail
 refine (HS.out _ (K0.out.tr (Kp.drewN_ _ _))).mono ?_; rintro e0 w1 ⟨rfl, k1, rfl⟩
 go_wp2
 go_ret
 exact ⟨rfl, K0.out.tr (Kp.drewN_ _ _)⟩
theorem like_comm (a b : Nd) : likeB a b = likeB b a := by
 rw [Bool.eq_iff_iff]
 exact ⟨like_symm, like_symm⟩
theorem agree_any (a b : Nd) (P Q R S : Option Addr) (c d e f : Nat) (w : World) (hQ : Rd w Q a.2.2) (hS : Rd w S b.2.2) (hop : 1 ≤ a.1) (ha : a.1 = 2 → a.2.2 ≠ []) (hb : b.1 = 2 → b.2.2 ≠ []) :
  Calls Tryz.prog 172 #[ndV a P c Q d, ndV b R e S f] w fun e w' => e = .returned (.bool (likeB a b)) ∧ Kp w w' := by
 obtain ⟨x, la, na⟩ := a
 obtain ⟨y, lb, nb⟩ := b
 have HS : Hid (∀ W, Kp w W → Calls Tryz.prog 52 #[.slice Q na.length d, .slice S nb.length f] W fun e w' => e = .returned (.bool (na == nb)) ∧ ∃ n, w' = W.drewN n) := fun W k => equal_any Q S d f na nb W (hQ.kp k) (hS.kp k)
 have hop : 1 ≤ x := hop
 by_cases h1 : x = y
 ·subst h1
  by_cases h2 : 2 < x
  ·have hv : likeB (x, la, na) (x, lb, nb) = true := like_other h2
   rw [hv]
   exact agree_gt x _ _ _ _ c d e f P R Q S w (by simp; omega) (by simp; omega)
  ·by_cases h3 : x = 2
   ·subst h3
    obtain ⟨ad, e1, hb1, hc1, hm1⟩ := first_cell hQ (ha rfl)
    obtain ⟨ae, e2, hb2, hc2, hm2⟩ := first_cell hS (hb rfl)
    subst e1 e2
    have hv : likeB (2, la, na) (2, lb, nb) = if na.getD 0 0 ≠ nb.getD 0 0 then true else na == nb := by
     unfold likeB
     by_cases g : na.getD 0 0 ≠ nb.getD 0 0
     ·rw [if_pos (.inr (.inr ⟨rfl, g⟩)), if_pos g]
     ·rw [if_neg, if_neg g]
      rintro (c | c | ⟨_, c⟩)
      ·exact c rfl
      ·exact absurd (show (2 : Int) < 2 from c) (by decide)
      ·exact g c
    have hc1 : w.cell? ad = some (.int .i64 (na.getD 0 0)) := hc1
    have hc2 : w.cell? ae = some (.int .i64 (nb.getD 0 0)) := hc2
    generalize na.getD 0 0 = u at hv hc1
    generalize nb.getD 0 0 = v at hv hc2
    have hm1 : 0 < na.length := hm1
    have hm2 : 0 < nb.length := hm2
    by_cases h4 : u = v
    ·rw [hv, if_neg (by simp [h4])]
     exact agree_eq _ _ _ _ c d e f P R ad ae u v w hb1 hb2 hc1 hc2 (by omega) (by omega) (by simpa using h4) _ HS
    ·rw [hv, if_pos h4]
     exact agree_un _ _ _ _ c d e f P R ad ae u v w hb1 hb2 hc1 hc2 (by omega) (by omega) (by simpa using h4)
   ·obtain rfl : x = 1 := by omega
    have hv : likeB (1, la, na) (1, lb, nb) = (na == nb) := by
     unfold likeB
     rw [if_neg]
     rintro (c | c | ⟨c, _⟩)
     ·exact c rfl
     ·exact h2 c
     ·exact h3 c
    rw [hv]
    exact agree_1 _ _ _ _ c d e f P R Q S w _ HS
 ·have hv : likeB (x, la, na) (y, lb, nb) = true := by unfold likeB; rw [if_pos (.inl h1)]
  rw [hv]
  exact agree_ne x y _ _ _ _ c d e f P R Q S w (by simpa using h1)
theorem ar_ge {op : Int} (h : 0 ≤ arityV op) : 1 ≤ op := by
 unfold arityV at h
 by_cases g : 1 ≤ op
 ·exact g
 ·exfalso
  rw [if_neg (by omega), if_neg (by omega), if_neg (by omega)] at h
  omega
theorem may_any (op : Int) (args nums : List Int) (n k c d m c2 : Nat) (P Q A : Option Addr) (l : List Nd) (r : Bool) (w : World) (hn : Hid (n = args.length)) (hk : Hid (k = nums.length)) (hm : Hid (m = l.length)) (hP : Rd w P args) (hQ : Rd w Q nums) (hd1 : k ≤ d) (hd2 : d ≤ 9223372036854775807)
  (hop : 0 ≤ arityV op) (hl : RdG w A l) (hok : ∀ t ∈ l, numsB t = true) (hr : r = (argsB m args && (numsB (op, args, nums) && l.all fun u => likeB u (op, args, nums)))) :
  Calls Tryz.prog 155 #[.agg #[.int .i64 op, .slice P n c, .slice Q k d], .slice A m c2] w fun e w' => e = .returned (.bool r) ∧ Kp w w' := by
 have F0 : Hid (Nb (w.alloc (.cells #[.int .i64 op, .slice P n c, .slice Q k d] 24)) w.heap.size op P n c Q k d) := Nb.new rfl
 have K0 : Hid (Kp w (w.alloc (.cells #[.int .i64 op, .slice P n c, .slice Q k d] 24))) := Kp.alloc_ _ _
 have hnl : n ≤ 9223372036854775807 := by rw [hn.out]; exact hP.len
 have hml : m ≤ 9223372036854775807 := by rw [hm.out]; exact hl.len
 obtain ⟨q, hq⟩ := eX (numsB (op, args, nums))
 have HNU : Hid (∀ W, Kp w W → Calls Tryz.prog 171 #[.agg #[.int .i64 op, .slice P n c, .slice Q k d]] W fun e w' => e = .returned (.bool q) ∧ Kp W w') := fun W kw => by
  rw [hq, hn.out, hk.out]
  exact num_any (op, args, nums) P Q c d W (hQ.kp kw) ⟨by rw [← hk.out]; exact hd1, hd2⟩ hop
 have HQT : Hid (q = true → op = 2 → nums ≠ []) := fun h1 h2 => par_ne (n := (op, args, nums)) (by rw [← hq]; exact h1) h2
 have HOK : Hid (∀ t ∈ l, t.1 = 2 → t.2.2 ≠ []) := fun t ht h2 => par_ne (hok t ht) h2
 have H1 := ar_ge hop
 have H0 : Hid (r = ((args.drop 0).all (fun a => decide (0 ≤ a ∧ a < (m : Int))) && (q && l.all fun u => likeB u (op, args, nums)))) := by show _ = _; rw [hr, hq]; rfl
 have HRD := lH hl
 have HRP := lH hP
 have HRQ := lH hQ
 have p0 := F0.out.c0
 have p1 := F0.out.c1
 have p2 := F0.out.c2
 clear hr hq hok hl hP hQ hop
 go_enter Tryz.func155, Tryz.ntmps155
 go_wp2
 go_loopw [12] (fun v wx => ∃ j : Nat, v = .int .i64 (j : Int) ∧ Hid (j ≤ n) ∧ Hid (r = ((args.drop j).all (fun a => decide (0 ≤ a ∧ a < (m : Int))) && (q && l.all fun u => likeB u (op, args, nums)))) ∧ wx = w.alloc (.cells #[.int .i64 op, .slice P n c, .slice Q k d] 24)) (fun v _ => n - (intOf v).toNat)
 case atStart => exact ⟨0, rfl, Nat.zero_le _, H0.out, rfl⟩
 case round =>
  obtain ⟨j, rfl, hj, hT, rfl⟩ := hrel
  by_cases hq : j < n
  ·have hq' : (j : Int) < (n : Int) := by omega
   obtain ⟨ae, x, rfl, hlt3, hx, hc3⟩ := (HRP.out.kp K0.out).at_ (show j < args.length by rw [← hn.out]; exact hq)
   have hd := all_hd (p := fun a => decide (0 ≤ a ∧ a < (m : Int))) hx
   by_cases h1 : x < 0
   ·have HR2 : Hid (r = false) := by show r = false; rw [hT.out, hd]; simp; omega
    clear hd hx
    go_wp2
    go_ret
    exact ⟨by rw [HR2.out]; rfl, K0.out⟩
   ·by_cases h2 : (m : Int) ≤ x
    ·have HR2 : Hid (r = false) := by show r = false; rw [hT.out, hd]; simp; omega
     clear hd hx
     go_wp2
     go_ret
     exact ⟨by rw [HR2.out]; rfl, K0.out⟩
    ·have HT3 : Hid (r = ((args.drop (j + 1)).all (fun a => decide (0 ≤ a ∧ a < (m : Int))) && (q && l.all fun u => likeB u (op, args, nums)))) := by
      show _ = _
      rw [hT.out, hd, show decide (0 ≤ x ∧ x < (m : Int)) = true by rw [decide_eq_true_iff]; omega, Bool.true_and]
     clear hd hx
     go_wp2
     go_roundw
     case rel => exact ⟨j + 1, by go_num, (by show j + 1 ≤ n; omega), HT3.out, (by first | rfl | trivial)⟩
     case measure => simp [intOf]; omega
  ·have hq' : ¬ (j : Int) < (n : Int) := by omega
   have HL0 : Hid (r = (q && (l.drop 0).all fun u => likeB u (op, args, nums))) := by
    show _ = _
    rw [hT.out, List.drop_eq_nil_of_le (by rw [← hn.out]; omega)]; rfl
   go_wp2_with fail
   refine (HNU.out _ K0.out).mono ?_; rintro e0 w1 ⟨rfl, k1⟩
   have K1 : Hid (Kp w w1) := K0.out.tr k1
   have F1 := lH (F0.out.kp k1)
   clear k1 p0 p1 p2
   cases q with
   | false =>
    have HR2 : Hid (r = false) := by show r = false; rw [HL0.out]; rfl
    go_wp2
    go_ret
    exact ⟨by rw [HR2.out]; rfl, K1.out⟩
   | true =>
    have HL1 : Hid (r = (l.drop 0).all fun u => likeB u (op, args, nums)) := by show _ = _; rw [HL0.out]; rfl
    go_wp2
    go_loopw [30] (fun v wx => ∃ j : Nat, v = .int .i64 (j : Int) ∧ Hid (j ≤ m) ∧ Hid (r = (l.drop j).all fun u => likeB u (op, args, nums)) ∧ Hid (Kp w1 wx)) (fun v _ => m - (intOf v).toNat)
    case atStart => exact ⟨0, rfl, Nat.zero_le _, HL1.out, Kp.refl _⟩
    case round =>
     obtain ⟨i, rfl, hi, hT3, hK5⟩ := hrel
     by_cases hq2 : i < m
     ·have hq2' : (i : Int) < (m : Int) := by omega
      obtain ⟨ad2, u, P2, e2, Q2, g2, rfl, hlt4, hu, d0, d1, d2, hN2, _, _⟩ := (HRD.out.kp (K1.out.tr hK5.out)).at_ (show i < l.length by rw [← hm.out]; exact hq2)
      have KW := lH (K1.out.tr hK5.out)
      have hd := all_hdN (p := fun u => likeB u (op, args, nums)) hu
      have hne := HOK.out u (List.mem_of_getElem? hu)
      have F2 : Hid (Nb (wr.alloc (.cells #[.int .i64 u.1, .slice P2 u.2.1.length e2, .slice Q2 u.2.2.length g2] 24)) w.heap.size op P n c Q k d) := (F1.out.kp hK5.out).alloc_ _
      have G2 : Hid (Nb (wr.alloc (.cells #[.int .i64 u.1, .slice P2 u.2.1.length e2, .slice Q2 u.2.2.length g2] 24)) wr.heap.size u.1 P2 u.2.1.length e2 Q2 u.2.2.length g2) := Nb.new rfl
      have KA : Hid (Kp wr (wr.alloc (.cells #[.int .i64 u.1, .slice P2 u.2.1.length e2, .slice Q2 u.2.2.length g2] 24))) := Kp.alloc_ _ _
      have HA : Hid (Calls Tryz.prog 172 #[.agg #[.int .i64 op, .slice P n c, .slice Q k d], .agg #[.int .i64 u.1, .slice P2 u.2.1.length e2, .slice Q2 u.2.2.length g2]] (wr.alloc (.cells #[.int .i64 u.1, .slice P2 u.2.1.length e2, .slice Q2 u.2.2.length g2] 24)) fun e w' => e = .returned (.bool (likeB u (op, args, nums))) ∧ Kp (wr.alloc (.cells #[.int .i64 u.1, .slice P2 u.2.1.length e2, .slice Q2 u.2.2.length g2] 24)) w') := by
       show Calls _ _ _ _ _
       rw [like_comm, hn.out, hk.out]
       exact agree_any (op, args, nums) u P Q P2 Q2 c d e2 g2 _ (HRQ.out.kp (KW.out.tr KA.out)) (hN2.rn.kp KA.out) H1 (HQT.out (by simp)) hne
      obtain ⟨b, hb⟩ := eX (likeB u (op, args, nums))
      rw [← hb] at HA hd
      have HD := lH hd
      obtain ⟨uo, ua, un⟩ := u
      dsimp only at d0 d1 d2 F2 G2 KA HA
      obtain ⟨n1, hn1⟩ := eX (ua.length)
      obtain ⟨n2, hn2⟩ := eX (un.length)
      rw [← hn1] at d1 F2 G2 KA HA
      rw [← hn2] at d2 F2 G2 KA HA
      have f0 := F2.out.c0
      have f1 := F2.out.c1
      have f2 := F2.out.c2
      have g0 := G2.out.c0
      have g1 := G2.out.c1
      have g3 := G2.out.c2
      clear hd hb hu hN2 hne hn1 hn2
      go_wp2_with fail
      refine HA.out.mono ?_; rintro e0 w9 ⟨rfl, k9⟩
      have K9 : Hid (Kp w1 w9) := hK5.out.tr (KA.out.tr k9)
      clear k9 f0 f1 f2 g0 g1 g3
      cases b with
      | false =>
       have HR2 : Hid (r = false) := by show r = false; rw [hT3.out, HD.out]; rfl
       go_wp2
       go_ret
       exact ⟨by rw [HR2.out]; rfl, K1.out.tr K9.out⟩
      | true =>
       have HT4 : Hid (r = (l.drop (i + 1)).all fun u => likeB u (op, args, nums)) := by show _ = _; rw [hT3.out, HD.out, Bool.true_and]
       go_wp2
       go_roundw
       case rel => exact ⟨i + 1, by go_num, (by show i + 1 ≤ m; omega), HT4.out, K9.out⟩
       case measure => simp [intOf]; omega
     ·have hq2' : ¬ (i : Int) < (m : Int) := by omega
      have HR2 : Hid (r = true) := by show r = true; rw [hT3.out, List.drop_eq_nil_of_le (by rw [← hm.out]; omega)]; rfl
      go_wp2
      go_ret
      exact ⟨by rw [HR2.out]; rfl, K1.out.tr hK5.out⟩
theorem node_split {l : List Nd} {i : Nat} {t : Nd} : nodeB l i t = (decide (0 ≤ arityV t.1 ∧ (t.2.1.length : Int) = arityV t.1) && (argsB i t.2.1 && (numsB t && (l.take i).all (fun m => likeB m t)))) := by
 unfold nodeB
 cases decide (0 ≤ arityV t.1 ∧ (t.2.1.length : Int) = arityV t.1) <;> cases numsB t <;> cases argsB i t.2.1 <;> rfl
theorem run_ahead (W : World) (A : Option Addr) (m c i : Nat) (hi : i ≤ c) (hc : c ≤ 9223372036854775807) (hmc : m ≤ c) : (Instr.sliceAt 127 (.slice A m c) none (some (.int .i64 (i : Int))) none).run Tryz.prog W = .ok (.slice A i c) W := by
 have hu : Tryz.prog.underlying 127 = some (.slice (Tryz.prog.elem 127)) := by kernel_rfl
 have hsz : ((sizeOf (Tryz.prog.elem 127)).run Tryz.prog W) = .ok 3 W := by
  obtain ⟨i, hi, _, h1, _⟩ := info_parts nd_info
  simp [sizeOf, typeInfo, show Tryz.prog.elem 127 = 24 by kernel_rfl, hi, h1]
 have := run_slice_h W 127 A m c hu .i64 (i : Int) (by omega) (by omega)
 have e0 : ∀ a : Addr, a.add 0 = a := fun a => by unfold Addr.add; simp
 rw [run_sliceAt_slice W _ _ _ _ _ hu, this, hsz]
 simp [Result.andThen, sliced, e0]
theorem check_z (A : Option Addr) (c m : Nat) (l : List Nd) (r : Bool) (w : World) (h : RdG w A l) (hc1 : l.length ≤ c) (hc2 : c ≤ 9223372036854775807) (hm : m = l.length) (hr : checkB l = r) :
  Calls Tryz.prog 114 #[.slice A m c] w fun e w' => e = .returned (.bool r) ∧ Kp w w' := by
 subst hm
 have hl := h.len
 have HRD := lH h
 have HAR := lH (arities_any w)
 have hr := hr.symm
 by_cases hb : 1 ≤ l.length ∧ l.length ≤ 24
 ·have H0 : Hid (Ck r l 0) := by show Ck r l 0; rw [hr]; exact ck_start hb.1 hb.2
  obtain ⟨hb1, hb2⟩ := hb
  have i1 : ((l.length : Int) == 0) = false := by rw [beq_eq_false_iff_ne]; omega
  have i2 : ¬ (24 : Int) < (l.length : Int) := by omega
  clear hr h
  go_enter Tryz.func114, Tryz.ntmps114
  go_wp2_with fail
  refine HAR.out.mono ?_; rintro e w1 ⟨g, rfl, hm, hk⟩
  have HM := lH hm
  have K1 := lH hk
  clear hm hk
  go_wp2
  go_loopw [18] (fun i wx => ∃ k : Nat, i = .int .i64 (k : Int) ∧ Hid (k ≤ l.length) ∧ Hid (Ck r l k) ∧ Hid (Kp w1 wx)) (fun i _ => l.length - (intOf i).toNat)
  case atStart => exact ⟨0, rfl, Nat.zero_le _, H0.out, Kp.refl _⟩
  case round =>
   obtain ⟨i, rfl, hi, hT, hK⟩ := hrel
   have KO : Hid (Kp w wr) := K1.out.tr hK.out
   obtain ⟨wo, hwo⟩ := eX (wr)
   subst hwo
   by_cases hj : i < l.length
   ·have hj' : (i : Int) < (l.length : Int) := by omega
    obtain ⟨ad, t, P, e, Q, g2, rfl, hlt, ht, hc0, hc3, hc4, hN, _, hd⟩ := (HRD.out.kp KO.out).at_ hj
    have hlk := (HM.out.kp hK.out).get2 (P := Tryz.prog) Tryz.underlying152 Tryz.underlying3 (int_zero wo) t.1
    have HNS := lH (node_split (l := l) (i := i) (t := t))
    have HN := lH hN
    have HTT := lH ht
    have HD := lH hd
    have HAT := lH (ar_at t.1)
    have HPV : Hid (∀ u ∈ l.take i, numsB u = true) := fun u hu => by
     obtain ⟨j, hj⟩ := List.mem_iff_getElem?.1 hu
     rw [List.getElem?_take] at hj
     split at hj
     ·rename_i hji
      exact (node_iff.1 (hT.out.1 j u hji hj)).2.2.1
     ·cases hj
    obtain ⟨op, args, nums⟩ := t
    dsimp only at hc0 hc3 hc4 hlk HNS HN HTT HD HAT
    obtain ⟨v, hv⟩ := eX (arityV op)
    rw [← hv] at HAT HNS
    obtain ⟨n0, hn0⟩ := eX (args.length)
    obtain ⟨k0, hk0⟩ := eX (nums.length)
    rw [← hn0] at hc3 HNS
    rw [← hk0] at hc4
    have HV := lH hv
    have HN0 := lH hn0
    have HK0 := lH hk0
    clear ht hN hd hv hn0 hk0
    have HCC : Hid (∀ V, Kp wo V → V.cell? (ad.add (i * 3)) = some (.int .i64 op) ∧ V.cell? ⟨(ad.add (i * 3)).block, (ad.add (i * 3)).off + 1, none⟩ = some (.slice P n0 e) ∧ V.cell? ⟨(ad.add (i * 3)).block, (ad.add (i * 3)).off + 2, none⟩ = some (.slice Q k0 g2)) := fun V kV =>
     ⟨(kV.cell (by rw [block_of_add]; exact hlt)).trans hc0, (kV.cell (by rw [block_of_add]; exact hlt)).trans hc3, (kV.cell (by rw [block_of_add]; exact hlt)).trans hc4⟩
    by_cases h1 : 0 ≤ v
    ·have HA2 : Hid (atM arL op = some (.int .i64 v)) := by show _ = _; rw [HAT.out, if_pos h1]
     rw [HA2.out] at hlk
     simp only [Option.getD_some, Option.isSome_some] at hlk
     have HOP : Hid (0 ≤ arityV op) := by show _ ≤ _; rw [← HV.out]; exact h1
     by_cases h2 : (n0 : Int) = v
     ·have e2 : ((n0 : Int) != v) = false := by simpa using h2
      obtain ⟨b, hb⟩ := eX ((argsB i args && (numsB (op, args, nums) && (l.take i).all (fun m => likeB m (op, args, nums)))))
      have HB : Hid (nodeB l i (op, args, nums) = b) := by
       show _ = _
       rw [HNS.out, hb, show decide (0 ≤ v ∧ (n0 : Int) = v) = true by rw [decide_eq_true_iff]; exact ⟨h1, h2⟩, Bool.true_and]
      have HMY : Hid (∀ W, Kp wo W → Calls Tryz.prog 155 #[.agg #[.int .i64 op, .slice P n0 e, .slice Q k0 g2], .slice (some ad) i c] W fun e w' => e = .returned (.bool b) ∧ Kp W w') := fun W kW =>
       may_any op args nums n0 k0 e g2 i c P Q (some ad) (l.take i) b W HN0.out HK0.out (by show i = _; rw [List.length_take]; omega) ((HN.out.ra.kp kW)) ((HN.out.rn.kp kW)) (by rw [HK0.out]; exact HD.out.1) HD.out.2 HOP.out ((HRD.out.kp (KO.out.tr kW)).take_ i) HPV.out hb
      have hcut : ∀ W, (Instr.sliceAt 127 (.slice (some ad) l.length c) none (some (.int .i64 (i : Int))) none).run Tryz.prog W = .ok (.slice (some ad) i c) W := fun W => run_ahead W (some ad) l.length c i (by omega) hc2 hc1
      clear h1 h2 hb
      have s0 := HCC.out _ (Kp.drewN_ wo 1)
      go_wp2_with fail
      refine wp_region_held_drew (S := fun V => V.cell? (ad.add (i * 3)) = some (.int .i64 op) ∧ V.cell? ⟨(ad.add (i * 3)).block, (ad.add (i * 3)).off + 1, none⟩ = some (.slice P n0 e) ∧ V.cell? ⟨(ad.add (i * 3)).block, (ad.add (i * 3)).off + 2, none⟩ = some (.slice Q k0 g2)) (by kernel_rfl) s0 (fun hHeld => ?_)
      refine tK 0 (.bool true) rfl hHeld <| tK 1 (.bool false) rfl hHeld <| tK 2 (.bool false) rfl hHeld <| tK 3 (.slice (some ad) l.length c) rfl hHeld <| tK 4 (.int .i64 (i : Int)) rfl hHeld <| tK 5 (.pointer (some (ad.add (i * 3)))) rfl hHeld <| tK 6 (.pointer (some ⟨(ad.add (i * 3)).block, (ad.add (i * 3)).off + 1, none⟩)) rfl hHeld <| tK 7 (.slice P n0 e) rfl hHeld <| tK 8 (.int .i64 (n0 : Int)) rfl hHeld <| tK 9 (.int .i64 v) rfl hHeld <| tK 10 (.bool false) rfl hHeld <| tK 11 (.bool false) rfl hHeld <| tK 12 (.bool false) rfl hHeld <| tK 13 (.slice (some ad) l.length c) rfl hHeld <| tK 14 (.int .i64 (i : Int)) rfl hHeld <| tK 15 (.pointer (some (ad.add (i * 3)))) rfl hHeld <| tK 16 (.agg #[.int .i64 op, .slice P n0 e, .slice Q k0 g2]) rfl hHeld <| tK 17 (.slice (some ad) l.length c) rfl hHeld <| tK 18 (.int .i64 (i : Int)) rfl hHeld <| tK 19 (.slice (some ad) i c) rfl hHeld ?_
      refine rD 20 rfl fun K9_ hK => ?_
      go_simp
      refine (HMY.out _ (Kp.drewN_ wo 1)).mono ?_; rintro e0 w9 ⟨rfl, k9⟩
      dsimp only
      have K9 : Hid (Kp wo w9) := (Kp.drewN_ wo 1).tr k9
      have hq := HCC.out _ K9.out
      clear k9
      refine hK.out _ _ (hq) fun hHeld => ?_
      clear hK
      refine rD 21 rfl fun K9_ hK => ?_
      go_simp
      refine hK.out _ _ (hq) fun hHeld => ?_
      clear hK
      refine rD 22 rfl fun K9_ hK => ?_
      go_simp
      refine hK.out _ _ (hq) fun hHeld => ?_
      clear hK
      refine wpAnyH_done (by kernel_rfl) ?_ _
      cases b with
      | false =>
       have HR2 := lH (ck_bad hT.out HTT.out HB.out)
       go_wp2
       go_ret
       exact ⟨by rw [HR2.out]; rfl, KO.out.tr K9.out⟩
      | true =>
       have HS := lH (ck_step hT.out HTT.out HB.out)
       go_wp2
       go_roundw
       case rel => exact ⟨i + 1, by go_num, (by show i + 1 ≤ l.length; omega), HS.out, hK.out.tr K9.out⟩
       case measure => simp [intOf]; omega
     ·have e2 : ((n0 : Int) != v) = true := by simpa using h2
      have HR2 := lH (ck_bad hT.out HTT.out (by rw [HNS.out, show decide (0 ≤ v ∧ (n0 : Int) = v) = false by rw [decide_eq_false_iff_not]; exact fun g => h2 g.2]; rfl))
      clear h1 h2
      go_wp2_with fail
      go_quiet (fail)
      go_wp2
      go_ret
      exact ⟨by rw [HR2.out]; rfl, KO.out.tr (Kp.drewN_ _ _)⟩
    ·have HA2 : Hid (atM arL op = none) := by show _ = _; rw [HAT.out, if_neg h1]
     rw [HA2.out] at hlk
     simp only [Option.getD_none, Option.isSome_none] at hlk
     have HR2 := lH (ck_bad hT.out HTT.out (by rw [HNS.out, show decide (0 ≤ v ∧ (n0 : Int) = v) = false by rw [decide_eq_false_iff_not]; exact fun g => h1 g.1]; rfl))
     clear h1
     go_wp2_with fail
     go_quiet (fail)
     go_wp2
     go_ret
     exact ⟨by rw [HR2.out]; rfl, KO.out.tr (Kp.drewN_ _ _)⟩
   ·have hj' : ¬ (i : Int) < (l.length : Int) := by omega
    have HT2 := lH (ck_end hT.out (by omega))
    go_wp2
    go_ret
    exact ⟨by rw [HT2.out]; rfl, KO.out⟩
 ·have hv : r = false := by
   rw [hr]
   cases e : checkB l with
   | false => rfl
   | true => exact absurd ⟨(check_iff.1 e).1, (check_iff.1 e).2.1⟩ hb
  subst hv
  clear hr
  by_cases h1 : (l.length : Int) = 0
  ·have e1 : ((l.length : Int) == 0) = true := by rw [beq_iff_eq]; exact h1
   clear h1 hb
   go_enter Tryz.func114, Tryz.ntmps114
   go_wp2
   go_ret
   exact ⟨rfl, Kp.refl _⟩
  ·have e1 : ((l.length : Int) == 0) = false := by rw [beq_eq_false_iff_ne]; exact h1
   have h2 : (24 : Int) < (l.length : Int) := by omega
   clear h1 hb
   go_enter Tryz.func114, Tryz.ntmps114
   go_wp2
   go_ret
   exact ⟨rfl, Kp.refl _⟩
end Go.Proofs.YtjkdcegmdfmjpaaGreat.Gz
