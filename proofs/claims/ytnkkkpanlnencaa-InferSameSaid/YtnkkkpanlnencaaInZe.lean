/- The landed infer: the rules, as a map; which rule stands at an op, and what it answers. -/
import Derived.Test.YtnkkkpanlnencaaInZd
namespace Go.Proofs.Ytnkkkpanlnencaa.Iz
open Go.RowKit Go.Proofs.ShM Go.Proofs.GrM Go.Proofs.InM Go.Proofs.Ytnkkkpanlnencaa.Gz
set_option linter.unusedVariables false
set_option linter.unusedSimpArgs false

theorem wpList_insR {W : World} {g : Nat} {L : List (Int × Value)} {ops : Array Oper} {rest : List Oper} {o : Oper} {a : Act} {Q : Exit → Act → World → Prop} (hg : o.guard = none) (m x v : Operand)
    (hop : o.op = Op.insert 48 m x v) (k : Int) (val : Value) (hm : a.eval m = .map (some g)) (hx : a.eval x = .int .i64 k) (hv : a.eval v = val) (h : Md W g L) (hn : atM L k = none)
    (hK : ∀ W', Md W' g (L ++ [(k, val)]) → (∀ B, B ≤ g → Below B W W') → wpList Try.prog ops Q rest (a.put o.dst undef) W') : wpList Try.prog ops Q (o :: rest) a W := by
  refine wpList_plain hg fun K' hK' => ?_
  obtain ⟨W', hrun, r1, r2⟩ := h.put Try.underlying48 Try.underlying3 hn val
  unfold Oper.wp
  simp [execOp, hop, hm, hx, hv, hrun, Result.andThen]
  exact hK' _ _ (hK W' r1 r2)
/-- What is read. -/
theorem Md.getR {P : Program} {W : World} {g : Nat} {L : List (Int × Value)} {t kt et : TypeId} (h : Md W g L) (ht : P.underlying t = some (.map kt et)) (hk : P.underlying kt = some (.int .i64)) {k : Int} {v : Value} (hv : atM L k = some v) :
    (Instr.lookup t (.map (some g)) (.int .i64 k) false).run P W = .ok v W := by
  obtain ⟨es, c, hb, e⟩ := h
  obtain ⟨r, q1, q2⟩ := run_findM (P := P) (W := W) hk e k
  rw [hv] at q2
  cases r with
  | none => simp at q2
  | some x =>
    have hx : x.2 = v := by simpa using q2
    subst hx
    simp [Instr.lookup, run_underlying ht, MapKept.run_getObj_map hb, MapKept.run_checkKey (n := 9999) hk (show MapKept.IsKey (.int .i64) (.int .i64 k) from rfl), q1, Result.andThen]
/-- The rules, by op. -/
def ruL (pn pa pb : Value) : List (Int × Value) :=
  [(1, .func (.func 39) #[] #[pn]), (2, .func (.func 40) #[] #[pn]), (3, .func (.func 41) #[] #[]), (10, .func (.func 33) #[] #[pa, pb]), (11, .func (.func 33) #[] #[pa, pb]), (12, .func (.func 33) #[] #[pa, pb]), (13, .func (.func 33) #[] #[pa, pb]), (20, .func (.func 35) #[] #[pa]), (21, .func (.func 35) #[] #[pa]), (22, .func (.func 35) #[] #[pa]), (23, .func (.func 35) #[] #[pa]), (30, .func (.func 42) #[] #[pa, pb]), (40, .func (.func 44) #[] #[pa, pn]), (41, .func (.func 46) #[] #[pa]), (42, .func (.func 48) #[] #[pa, pn]), (43, .func (.func 50) #[] #[pa, pb, pn]), (50, .func (.func 37) #[] #[pa, pn]), (51, .func (.func 37) #[] #[pa, pn]), (52, .func (.func 37) #[] #[pa, pn])]

set_option maxHeartbeats 8000000 in
set_option maxRecDepth 100000 in
theorem rules_any (Q A B : Option Addr) (m d n c k e : Nat) (w : World) :
    Calls Try.prog 21 #[.slice Q m d, .slice A n c, .slice B k e] w fun e0 w' => ∃ g, e0 = .returned (.map (some g)) ∧ Md w' g (ruL (.pointer (some ⟨w.heap.size, 0, none⟩)) (.pointer (some ⟨w.heap.size + 1, 0, none⟩)) (.pointer (some ⟨w.heap.size + 1 + 1, 0, none⟩))) ∧ Kp w w' ∧
      w'.cell? ⟨w.heap.size, 0, none⟩ = some (.slice Q m d) ∧ w'.cell? ⟨w.heap.size + 1, 0, none⟩ = some (.slice A n c) ∧ w'.cell? ⟨w.heap.size + 1 + 1, 0, none⟩ = some (.slice B k e) := by
  have hmm := @run_makeMap Try.prog
  have h0 := Md.new (((w.alloc (.cells #[.slice Q m d] 23)).alloc (.cells #[.slice A n c] 23)).alloc (.cells #[.slice B k e] 23))
  rw [World.size_alloc, World.size_alloc, World.size_alloc] at h0
  have hc3 : Hid (Kp w (((w.alloc (.cells #[.slice Q m d] 23)).alloc (.cells #[.slice A n c] 23)).alloc (.cells #[.slice B k e] 23)) ∧ ∀ W', Kp (((w.alloc (.cells #[.slice Q m d] 23)).alloc (.cells #[.slice A n c] 23)).alloc (.cells #[.slice B k e] 23)) W' → W'.cell? ⟨w.heap.size, 0, none⟩ = some (.slice Q m d) ∧ W'.cell? ⟨w.heap.size + 1, 0, none⟩ = some (.slice A n c) ∧ W'.cell? ⟨w.heap.size + 1 + 1, 0, none⟩ = some (.slice B k e)) := by
    have a1 := World.cell?_alloc_at (w := w) #[.slice Q m d] 23 _ 0 rfl
    have a2 := World.cell?_alloc_at (w := w.alloc (.cells #[.slice Q m d] 23)) #[.slice A n c] 23 _ 0 rfl
    have a3 := World.cell?_alloc_at (w := (w.alloc (.cells #[.slice Q m d] 23)).alloc (.cells #[.slice A n c] 23)) #[.slice B k e] 23 _ 0 rfl
    rw [World.size_alloc] at a2
    rw [World.size_alloc, World.size_alloc] at a3
    exact ⟨((Kp.alloc_ _ _).tr (Kp.alloc_ _ _)).tr (Kp.alloc_ _ _), fun W' k => ⟨kp_cell (kp_cell (kp_cell a1 (Kp.alloc_ _ _)) (Kp.alloc_ _ _)) k, kp_cell (kp_cell a2 (Kp.alloc_ _ _)) k, kp_cell a3 k⟩⟩
  have hmf : ∀ (fn : Fn) (first cap : Array Value) (w : World), (Instr.makeFunc fn first cap).run Try.prog w = .ok (.func fn first cap) w := fun _ _ _ _ => rfl
  go_enter Try.func21, Try.ntmps21
  go_wp2_with (first
    | (refine wpList_insR (L := (ruL (.pointer (some ⟨w.heap.size, 0, none⟩)) (.pointer (some ⟨w.heap.size + 1, 0, none⟩)) (.pointer (some ⟨w.heap.size + 1 + 1, 0, none⟩))).take 0) rfl _ _ _ rfl 1 (.func (.func 39) #[] #[.pointer (some ⟨w.heap.size, 0, none⟩)]) rfl rfl rfl h0 rfl ?_; intro w1 h1 b1)
    | (refine wpList_insR (L := (ruL (.pointer (some ⟨w.heap.size, 0, none⟩)) (.pointer (some ⟨w.heap.size + 1, 0, none⟩)) (.pointer (some ⟨w.heap.size + 1 + 1, 0, none⟩))).take 1) rfl _ _ _ rfl 2 (.func (.func 40) #[] #[.pointer (some ⟨w.heap.size, 0, none⟩)]) rfl rfl rfl h1 rfl ?_; intro w2 h2 b2)
    | (refine wpList_insR (L := (ruL (.pointer (some ⟨w.heap.size, 0, none⟩)) (.pointer (some ⟨w.heap.size + 1, 0, none⟩)) (.pointer (some ⟨w.heap.size + 1 + 1, 0, none⟩))).take 2) rfl _ _ _ rfl 3 (.func (.func 41) #[] #[]) rfl rfl rfl h2 rfl ?_; intro w3 h3 b3)
    | (refine wpList_insR (L := (ruL (.pointer (some ⟨w.heap.size, 0, none⟩)) (.pointer (some ⟨w.heap.size + 1, 0, none⟩)) (.pointer (some ⟨w.heap.size + 1 + 1, 0, none⟩))).take 3) rfl _ _ _ rfl 10 (.func (.func 33) #[] #[.pointer (some ⟨w.heap.size + 1, 0, none⟩), .pointer (some ⟨w.heap.size + 1 + 1, 0, none⟩)]) rfl rfl rfl h3 rfl ?_; intro w4 h4 b4)
    | (refine wpList_insR (L := (ruL (.pointer (some ⟨w.heap.size, 0, none⟩)) (.pointer (some ⟨w.heap.size + 1, 0, none⟩)) (.pointer (some ⟨w.heap.size + 1 + 1, 0, none⟩))).take 4) rfl _ _ _ rfl 11 (.func (.func 33) #[] #[.pointer (some ⟨w.heap.size + 1, 0, none⟩), .pointer (some ⟨w.heap.size + 1 + 1, 0, none⟩)]) rfl rfl rfl h4 rfl ?_; intro w5 h5 b5)
    | (refine wpList_insR (L := (ruL (.pointer (some ⟨w.heap.size, 0, none⟩)) (.pointer (some ⟨w.heap.size + 1, 0, none⟩)) (.pointer (some ⟨w.heap.size + 1 + 1, 0, none⟩))).take 5) rfl _ _ _ rfl 12 (.func (.func 33) #[] #[.pointer (some ⟨w.heap.size + 1, 0, none⟩), .pointer (some ⟨w.heap.size + 1 + 1, 0, none⟩)]) rfl rfl rfl h5 rfl ?_; intro w6 h6 b6)
    | (refine wpList_insR (L := (ruL (.pointer (some ⟨w.heap.size, 0, none⟩)) (.pointer (some ⟨w.heap.size + 1, 0, none⟩)) (.pointer (some ⟨w.heap.size + 1 + 1, 0, none⟩))).take 6) rfl _ _ _ rfl 13 (.func (.func 33) #[] #[.pointer (some ⟨w.heap.size + 1, 0, none⟩), .pointer (some ⟨w.heap.size + 1 + 1, 0, none⟩)]) rfl rfl rfl h6 rfl ?_; intro w7 h7 b7)
    | (refine wpList_insR (L := (ruL (.pointer (some ⟨w.heap.size, 0, none⟩)) (.pointer (some ⟨w.heap.size + 1, 0, none⟩)) (.pointer (some ⟨w.heap.size + 1 + 1, 0, none⟩))).take 7) rfl _ _ _ rfl 20 (.func (.func 35) #[] #[.pointer (some ⟨w.heap.size + 1, 0, none⟩)]) rfl rfl rfl h7 rfl ?_; intro w8 h8 b8)
    | (refine wpList_insR (L := (ruL (.pointer (some ⟨w.heap.size, 0, none⟩)) (.pointer (some ⟨w.heap.size + 1, 0, none⟩)) (.pointer (some ⟨w.heap.size + 1 + 1, 0, none⟩))).take 8) rfl _ _ _ rfl 21 (.func (.func 35) #[] #[.pointer (some ⟨w.heap.size + 1, 0, none⟩)]) rfl rfl rfl h8 rfl ?_; intro w9 h9 b9)
    | (refine wpList_insR (L := (ruL (.pointer (some ⟨w.heap.size, 0, none⟩)) (.pointer (some ⟨w.heap.size + 1, 0, none⟩)) (.pointer (some ⟨w.heap.size + 1 + 1, 0, none⟩))).take 9) rfl _ _ _ rfl 22 (.func (.func 35) #[] #[.pointer (some ⟨w.heap.size + 1, 0, none⟩)]) rfl rfl rfl h9 rfl ?_; intro w10 h10 b10)
    | (refine wpList_insR (L := (ruL (.pointer (some ⟨w.heap.size, 0, none⟩)) (.pointer (some ⟨w.heap.size + 1, 0, none⟩)) (.pointer (some ⟨w.heap.size + 1 + 1, 0, none⟩))).take 10) rfl _ _ _ rfl 23 (.func (.func 35) #[] #[.pointer (some ⟨w.heap.size + 1, 0, none⟩)]) rfl rfl rfl h10 rfl ?_; intro w11 h11 b11)
    | (refine wpList_insR (L := (ruL (.pointer (some ⟨w.heap.size, 0, none⟩)) (.pointer (some ⟨w.heap.size + 1, 0, none⟩)) (.pointer (some ⟨w.heap.size + 1 + 1, 0, none⟩))).take 11) rfl _ _ _ rfl 30 (.func (.func 42) #[] #[.pointer (some ⟨w.heap.size + 1, 0, none⟩), .pointer (some ⟨w.heap.size + 1 + 1, 0, none⟩)]) rfl rfl rfl h11 rfl ?_; intro w12 h12 b12)
    | (refine wpList_insR (L := (ruL (.pointer (some ⟨w.heap.size, 0, none⟩)) (.pointer (some ⟨w.heap.size + 1, 0, none⟩)) (.pointer (some ⟨w.heap.size + 1 + 1, 0, none⟩))).take 12) rfl _ _ _ rfl 40 (.func (.func 44) #[] #[.pointer (some ⟨w.heap.size + 1, 0, none⟩), .pointer (some ⟨w.heap.size, 0, none⟩)]) rfl rfl rfl h12 rfl ?_; intro w13 h13 b13)
    | (refine wpList_insR (L := (ruL (.pointer (some ⟨w.heap.size, 0, none⟩)) (.pointer (some ⟨w.heap.size + 1, 0, none⟩)) (.pointer (some ⟨w.heap.size + 1 + 1, 0, none⟩))).take 13) rfl _ _ _ rfl 41 (.func (.func 46) #[] #[.pointer (some ⟨w.heap.size + 1, 0, none⟩)]) rfl rfl rfl h13 rfl ?_; intro w14 h14 b14)
    | (refine wpList_insR (L := (ruL (.pointer (some ⟨w.heap.size, 0, none⟩)) (.pointer (some ⟨w.heap.size + 1, 0, none⟩)) (.pointer (some ⟨w.heap.size + 1 + 1, 0, none⟩))).take 14) rfl _ _ _ rfl 42 (.func (.func 48) #[] #[.pointer (some ⟨w.heap.size + 1, 0, none⟩), .pointer (some ⟨w.heap.size, 0, none⟩)]) rfl rfl rfl h14 rfl ?_; intro w15 h15 b15)
    | (refine wpList_insR (L := (ruL (.pointer (some ⟨w.heap.size, 0, none⟩)) (.pointer (some ⟨w.heap.size + 1, 0, none⟩)) (.pointer (some ⟨w.heap.size + 1 + 1, 0, none⟩))).take 15) rfl _ _ _ rfl 43 (.func (.func 50) #[] #[.pointer (some ⟨w.heap.size + 1, 0, none⟩), .pointer (some ⟨w.heap.size + 1 + 1, 0, none⟩), .pointer (some ⟨w.heap.size, 0, none⟩)]) rfl rfl rfl h15 rfl ?_; intro w16 h16 b16)
    | (refine wpList_insR (L := (ruL (.pointer (some ⟨w.heap.size, 0, none⟩)) (.pointer (some ⟨w.heap.size + 1, 0, none⟩)) (.pointer (some ⟨w.heap.size + 1 + 1, 0, none⟩))).take 16) rfl _ _ _ rfl 50 (.func (.func 37) #[] #[.pointer (some ⟨w.heap.size + 1, 0, none⟩), .pointer (some ⟨w.heap.size, 0, none⟩)]) rfl rfl rfl h16 rfl ?_; intro w17 h17 b17)
    | (refine wpList_insR (L := (ruL (.pointer (some ⟨w.heap.size, 0, none⟩)) (.pointer (some ⟨w.heap.size + 1, 0, none⟩)) (.pointer (some ⟨w.heap.size + 1 + 1, 0, none⟩))).take 17) rfl _ _ _ rfl 51 (.func (.func 37) #[] #[.pointer (some ⟨w.heap.size + 1, 0, none⟩), .pointer (some ⟨w.heap.size, 0, none⟩)]) rfl rfl rfl h17 rfl ?_; intro w18 h18 b18)
    | (refine wpList_insR (L := (ruL (.pointer (some ⟨w.heap.size, 0, none⟩)) (.pointer (some ⟨w.heap.size + 1, 0, none⟩)) (.pointer (some ⟨w.heap.size + 1 + 1, 0, none⟩))).take 18) rfl _ _ _ rfl 52 (.func (.func 37) #[] #[.pointer (some ⟨w.heap.size + 1, 0, none⟩), .pointer (some ⟨w.heap.size, 0, none⟩)]) rfl rfl rfl h18 rfl ?_; intro w19 h19 b19))
  go_ret
  have n0 : w.heap.size + 1 + 1 + 1 ≤ w.heap.size + 1 + 1 + 1 := Nat.le_refl _
  have kk := Below.alloc (Below.refl _ (((w.alloc (.cells #[.slice Q m d] 23)).alloc (.cells #[.slice A n c] 23)).alloc (.cells #[.slice B k e] 23))) (Nat.le_of_eq (by rw [World.size_alloc, World.size_alloc, World.size_alloc])) (.map #[] 0) (B := w.heap.size + 1 + 1 + 1)
  have ka := ((((((((((((((((((kk.trans (b1 _ n0)).trans (b2 _ n0)).trans (b3 _ n0)).trans (b4 _ n0)).trans (b5 _ n0)).trans (b6 _ n0)).trans (b7 _ n0)).trans (b8 _ n0)).trans (b9 _ n0)).trans (b10 _ n0)).trans (b11 _ n0)).trans (b12 _ n0)).trans (b13 _ n0)).trans (b14 _ n0)).trans (b15 _ n0)).trans (b16 _ n0)).trans (b17 _ n0)).trans (b18 _ n0)).trans (b19 _ n0)
  have kb : Kp (((w.alloc (.cells #[.slice Q m d] 23)).alloc (.cells #[.slice A n c] 23)).alloc (.cells #[.slice B k e] 23)) w19 := by
    show Below _ _ _
    rw [World.size_alloc, World.size_alloc, World.size_alloc]
    exact ka
  exact ⟨_, rfl, h19, hc3.out.1.tr kb, hc3.out.2 _ kb⟩
end Go.Proofs.Ytnkkkpanlnencaa.Iz
