/- The program's small calls of layer 7 (matmul): a table's sides, a line and its numbers. -/
import Derived.Test.YtepnhmdjglpmeaaTnAll
import Derived.Test.YtepnhmdjglpmeaaMmM
import Derived.RangeFuncBox
import Derived.Laws.CopyOwn
namespace Go.Proofs.Ytepnhmdjglpmeaa
open Go.RowKit Go.Proofs.ShM Go.Proofs.FixM
set_option linter.unusedVariables false

/-- A function value that tells the numbers of a line: its tensor, the first place, how far apart. -/
structure Ln (W : World) (b : Nat) (A : Option Addr) (n c : Nat) (B : Option Addr) (m d : Nat) (F S : Int) : Prop where
  t : Bk W b A n c B m d
  f : Boxed W (b + 1) 3 (.int .i64 F)
  s : Boxed W (b + 1 + 1) 3 (.int .i64 S)
theorem kpB {A B : World} (k : Kp A B) {j : Nat} {t : TypeId} {v : Value} (h : Boxed A j t v) : Boxed B j t v := (k.block j h.lt).trans h
theorem Ln.kp {W W' : World} {b n c m d : Nat} {A B : Option Addr} {F S : Int} (h : Ln W b A n c B m d F S) (k : Kp W W') : Ln W' b A n c B m d F S := ⟨h.t.kp k, kpB k h.f, kpB k h.s⟩

theorem kpH {A B : World} (k : Kp A B) {j : Nat} {o : Obj} (h : A.heap[j]? = some o) : B.heap[j]? = some o := (k.block j (Array.getElem?_eq_some_iff.1 h).1).trans h
/-- An array of two ints. -/
def Ar (W : World) (b : Nat) (x y : Int) : Prop := W.heap[b]? = some (.cells #[.int .i64 x, .int .i64 y] 43 (0, 0))
section
variable {W W' : World} {b : Nat} {x y : Int}
theorem Ar.kp (h : Ar W b x y) (k : Kp W W') : Ar W' b x y := kpH k h
theorem Ar.lt (h : Ar W b x y) : b < W.heap.size := (Array.getElem?_eq_some_iff.1 h).1
theorem Ar.alloc_ (h : Ar W b x y) (o : Obj) : Ar (W.alloc o) b x y := h.kp (Kp.alloc_ W o)
theorem Ar.c0 (h : Ar W b x y) : W.cell? ⟨b, 0, none⟩ = some (.int .i64 x) := by simp [World.cell?, show W.heap[b]? = _ from h]
theorem Ar.c1 (h : Ar W b x y) : W.cell? ⟨b, 1, none⟩ = some (.int .i64 y) := by simp [World.cell?, show W.heap[b]? = _ from h]
theorem Ar.f0 (h : Ar W b x y) (i : Nat) : W.frozen? ⟨b, i, none⟩ = false := by simp [World.frozen?, show W.heap[b]? = _ from h]
theorem Ar.rd (h : Ar W b x y) : Rd W (some ⟨b, 0, none⟩) [x, y] := ⟨by simp, fun _ => ⟨_, rfl, h.lt, fun j u hu => by
  rw [Go.WideShapes.add_plain, Nat.zero_add]
  match j, hu with
  | 0, hu => injection hu with hu; rw [← hu]; exact h.c0
  | 1, hu => injection hu with hu; rw [← hu]; exact h.c1⟩⟩
theorem Ar.new (h : b = W.heap.size) : Ar (W.alloc (.cells #[.int .i64 x, .int .i64 y] 43)) b x y := by subst h; exact World.alloc_heap_new W _
theorem Ar.put {u v : Int} (h : Ar W b x y) : Ar ((W.setCell ⟨b, 0, none⟩ (.int .i64 u)).setCell ⟨b, 1, none⟩ (.int .i64 v)) b u v := heap_set (heap_set h 0 _) 1 _
end

theorem line_any (A B : Option Addr) (n c m d : Nat) (F S : Int) (w : World) :
    Calls Try.prog 30 #[.agg #[.slice A n c, .slice B m d], .int .i64 F, .int .i64 S] w fun e w' => e = .returned (.func (.func 52) #[] #[.pointer (some ⟨w.heap.size, 0, none⟩), .pointer (some ⟨w.heap.size + 1, 0, none⟩), .pointer (some ⟨w.heap.size + 1 + 1, 0, none⟩)]) ∧ Ln w' w.heap.size A n c B m d F S ∧ Kp w w' := by
  go_enter Try.func30, Try.ntmps30
  go_wp2
  go_ret
  refine ⟨rfl, ⟨((Bk.new rfl).alloc_ _).alloc_ _, ?_, ?_⟩, ((Kp.alloc_ _ _).al _).al _⟩
  · have h := (Boxed.new (w.alloc (.cells #[.slice A n c, .slice B m d] 24)) 3 (.int .i64 F)).alloc (.cells #[.int .i64 S] 3)
    rw [World.size_alloc] at h
    exact h
  · have h := Boxed.new ((w.alloc (.cells #[.slice A n c, .slice B m d] 24)).alloc (.cells #[.int .i64 F] 3)) 3 (.int .i64 S)
    rw [World.size_alloc, World.size_alloc] at h
    exact h

theorem line1_any (A B : Option Addr) (n c d b : Nat) (xs : List Int) (F S k p : Nat) (W : World) (h : Ln W b A n c B xs.length d F S) (hB : Rd W B xs) (hk : k ≤ 1000) (hS : S ≤ 1000) (hF : F ≤ 1000) (hp : F + k * S = p) (hl : p < xs.length) :
    Calls Try.prog 52 #[.int .i64 (k : Int), .pointer (some ⟨b, 0, none⟩), .pointer (some ⟨b + 1, 0, none⟩), .pointer (some ⟨b + 1 + 1, 0, none⟩)] W fun e W' => e = .returned (.int .i64 (xs.getD p 0)) ∧ W = W' := by
  have c1 := h.t.c1
  have c2 := h.f.cell
  have c3 := h.s.cell
  obtain ⟨ad, x, rfl, hlt, hx, hc⟩ := hB.at_ hl
  have hgd : xs.getD p 0 = x := by rw [List.getD, hx]; rfl
  have hks : k * S ≤ 1000000 := Nat.le_trans (Nat.mul_le_mul hk hS) (by omega)
  obtain ⟨z, hz⟩ : ∃ z : Int, z = ((k * S : Nat) : Int) := ⟨_, rfl⟩
  have hc1 : (k : Int) * (S : Int) = ((k * S : Nat) : Int) := (Int.natCast_mul k S).symm
  have w1 : IntKind.i64.wrap ((k : Int) * (S : Int)) = z := by rw [hz, hc1]; exact IntWalk.i64_in _ (by omega)
  have w2 : IntKind.i64.wrap ((F : Int) + z) = (p : Int) := by rw [hz, IntWalk.i64_in _ (by omega)]; omega
  have j1 : (0 : Int) ≤ (p : Int) := by omega
  have j2 : (p : Int) < (xs.length : Int) := by omega
  have HG := Lib.hid hgd
  clear hgd hx hp hz hks hc1
  go_enter Try.func52, Try.ntmps52
  go_wp2
  go_ret
  exact ⟨by rw [HG.out]; rfl, rfl⟩

set_option maxHeartbeats 1000000 in
theorem sides_no (A B : Option Addr) (n c d m : Nat) (w : World) (hl : n ≤ 9223372036854775807) (h2 : ¬ n = 2) :
    Calls Try.prog 27 #[.agg #[.slice A n c, .slice B m d]] w fun e w' => e = .returned (.agg #[.int .i64 0, .int .i64 0]) ∧ Kp w w' := by
  have hn : ¬ (n : Int) = 2 := by omega
  go_enter Try.func27, Try.ntmps27
  go_wp2
  refine bodyPost_ret (v := .agg #[.int .i64 0, .int .i64 0]) (by simp [results, Try.results27, go_sem]; try rfl) rfl ?_
  exact ⟨rfl, ((Kp.alloc_ _ _).al _).al _⟩

set_option maxHeartbeats 1000000 in
theorem sides_yes (A B : Option Addr) (c d m : Nat) (x y : Int) (w : World) (hA : Rd w A [x, y]) :
    Calls Try.prog 27 #[.agg #[.slice A 2 c, .slice B m d]] w fun e w' => e = .returned (.agg #[.int .i64 x, .int .i64 y]) ∧ Kp w w' := by
  go_enter Try.func27, Try.ntmps27
  obtain ⟨ad, rfl, hlt, hc⟩ := hA.2 (by simp)
  have hs1 : (Try.prog.info? 3).map (·.size) = some 1 := by kernel_rfl
  go_upto_region 3 with fail
  obtain ⟨W0, HW0⟩ : ∃ W0, Hid (W0 = ((w.alloc (.cells #[.slice (some ad) 2 c, .slice B m d] 24)).alloc (.cells #[.int .i64 0, .int .i64 0] 43)).alloc (.cells #[.int .i64 0, .int .i64 0] 43)) := ⟨_, rfl⟩
  have K : Hid (Kp w W0) := by show Kp w W0; rw [HW0.out]; exact ((Kp.alloc_ _ _).al _).al _
  have T : Hid (Bk W0 w.heap.size (some ad) 2 c B m d) := by show Bk W0 _ _ _ _ _ _ _; rw [HW0.out]; exact ((Bk.new rfl).alloc_ _).alloc_ _
  have HR : Ar W0 (w.heap.size + 1 + 1) 0 0 := by rw [HW0.out]; exact Ar.new (by simp)
  have HQ : Ar W0 (w.heap.size + 1) 0 0 := by rw [HW0.out]; exact (Ar.new (by simp)).alloc_ _
  have HC : Hid (∀ j u, [x, y][j]? = some u → W0.cell? (ad.add j) = some (.int .i64 u)) := fun j u hu => (K.out.cell (p := ad.add j) (by rw [block_of_add]; exact hlt)).trans (hc j u hu)
  rw [← HW0.out]
  have hsrc : ∀ j v, ([.int .i64 x, .int .i64 y] : List Value)[j]? = some v → W0.drew.cell? (ad.add j) = some v := fun j v hv => by
    match j, hv with
    | 0, hv => injection hv with hv; rw [← hv]; exact HC.out 0 x rfl
    | 1, hv => injection hv with hv; rw [← hv]; exact HC.out 1 y rfl
  have hone : ∀ v ∈ ([.int .i64 x, .int .i64 y] : List Value), v.oneCell' = true := fun v hv => by
    simp at hv; rcases hv with rfl | rfl <;> rfl
  have HO := Lib.hid (And.intro hone hsrc)
  have HRR : Hid (W0.drew.heap[w.heap.size + 1 + 1]? = some (.cells ([.int .i64 0, .int .i64 0] : List Value).toArray 43 (0, 0))) := HR
  have HQQ := Lib.hid HQ
  have t0 := T.out.c0
  clear hone hsrc HC HR HQ HW0 hc
  go_region_law (refine step_copy_splice rfl (.tmp 8) (.tmp 10) 22 22 rfl 3 Try.underlying22 hs1 (some ⟨w.heap.size + 1 + 1, 0, none⟩) (some ad) 2 2 2 c (by simp [Act.eval]) (by simp [Act.eval]) (w.heap.size + 1 + 1) 0 [.int .i64 0, .int .i64 0] 43 HRR.out [.int .i64 x, .int .i64 y] rfl (fun _ => ⟨rfl, _, rfl, HO.out.2⟩) (by simp) HO.out.1 (w.heap.size + 1 + 1) W0 (Below.drew (Below.refl _ _)) (Nat.le_refl _) ?_; intro w4 HG4 hb4)
  have HG : Hid (w4.heap[w.heap.size + 1 + 1]? = some (.cells ([.int .i64 x, .int .i64 y] : List Value).toArray 43 (0, 0))) := HG4.out
  have g0 : w4.cell? ⟨w.heap.size + 1 + 1, 0, none⟩ = some (.int .i64 x) := cell_of_row HG.out 0 rfl
  have g1 : w4.cell? ⟨w.heap.size + 1 + 1, 1, none⟩ = some (.int .i64 y) := cell_of_row HG.out 1 rfl
  have HA : Hid (Ar w4 (w.heap.size + 1) 0 0) := (hb4.block (w.heap.size + 1) (Nat.lt_succ_self _)).trans HQQ.out
  have K4 : Hid (Kp w w4) := K.out.trans (hb4.mono (by omega))
  have q0 := HA.out.c0
  have q1 := HA.out.c1
  have u0 := HA.out.f0 0
  have u1 := HA.out.f0 1
  clear HG4 hb4
  go_wp2
  have HZ := HA.out.put (u := x) (v := y)
  have z0 := HZ.c0
  have z1 := HZ.c1
  refine bodyPost_ret (v := .agg #[.int .i64 x, .int .i64 y]) (by simp [results, Try.results27, go_sem, z0, z1]; try rfl) rfl ?_
  exact ⟨rfl, (K4.out.setCell (p := ⟨w.heap.size + 1, 0, none⟩) (Nat.le_succ _) _).setCell (p := ⟨w.heap.size + 1, 1, none⟩) (Nat.le_succ _) _⟩
theorem sides_any (A B : Option Addr) (c d m : Nat) (s : List Int) (w : World) (hA : Rd w A s) :
    Calls Try.prog 27 #[.agg #[.slice A s.length c, .slice B m d]] w fun e w' => e = .returned (.agg #[.int .i64 (sdV s).1, .int .i64 (sdV s).2]) ∧ Kp w w' := by
  unfold sdV
  by_cases h : s.length = 2
  · rw [if_pos h]
    have h2 := two_of h
    have hr := sides_yes A B c d m (s.getD 0 0) (s.getD 1 0) w (by rw [← h2]; exact hA)
    rw [h]; exact hr
  · rw [if_neg h]; exact sides_no A B s.length c d m w hA.len h
end Go.Proofs.Ytepnhmdjglpmeaa
