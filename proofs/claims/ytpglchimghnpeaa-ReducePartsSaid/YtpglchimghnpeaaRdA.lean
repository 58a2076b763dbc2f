/- The program's small calls of layer 6 (reduce): the greater one of two, the place that a place without a side becomes. -/
import Derived.Test.YtpglchimghnpeaaRdLay
import Derived.RangeFuncBox
namespace Go.Proofs.Ytpglchimghnpeaa
open Go.RowKit Go.Proofs.ShM Go.Proofs.FixM
set_option linter.unusedVariables false

theorem greater_any (a b : Int) (w : World) :
    Calls Try.prog 32 #[.int .i64 a, .int .i64 b] w fun e w' => e = .returned (.tuple #[.int .i64 (greatV a b).1, .int .i64 (greatV a b).2]) ∧ w = w' := by
  obtain ⟨n, hn⟩ : ∃ n, n = max a b := ⟨_, rfl⟩
  have hm : ∀ (W : World) (ts : Array TypeId) (t : TypeId), (Builtin.max_ ts t #[.int .i64 a, .int .i64 b]).run Try.prog W = .ok (.int .i64 n) W := fun W ts t => ShH.mx a b n hn W ts t
  have HF : Hid (greatV a b = (n, 0)) := by show greatV a b = _; rw [hn]; rfl
  clear hn
  go_enter Try.func32, Try.ntmps32
  go_wp2
  go_ret2
  exact ⟨ret_ints HF.out, rfl⟩

theorem kpH {A B : World} (k : Kp A B) {j : Nat} {o : Obj} (h : A.heap[j]? = some o) : B.heap[j]? = some o := (k.block j (Array.getElem?_eq_some_iff.1 h).1).trans h

/-- A function value that tells the places of a side. -/
structure Plc (s : List Int) (a : Nat) (b1 b2 : Nat) (W : World) : Prop where
  step : Boxed W b1 3 (.int .i64 (stepS s a))
  side : Boxed W b2 3 (.int .i64 (s.getD a 0))
theorem Plc.kp {s : List Int} {a b1 b2 : Nat} {W W' : World} (h : Plc s a b1 b2 W) (k : Kp W W') : Plc s a b1 b2 W' := ⟨kpH k h.step, kpH k h.side⟩
def plcF (b1 b2 : Nat) : Value := .func (.func 63) #[] #[.pointer (some ⟨b1, 0, none⟩), .pointer (some ⟨b2, 0, none⟩)]

set_option maxHeartbeats 1000000 in
theorem placer1_any (s : List Int) (a b1 b2 : Nat) (q i : Nat) (W : World) (ho : okS s = true) (ha : a < s.length) (hq : (q : Int) < sizeV (s.eraseIdx a)) (hi : (i : Int) < s.getD a 0) (h : Plc s a b1 b2 W) :
    Calls Try.prog 63 #[.int .i64 (q : Int), .int .i64 (i : Int), .pointer (some ⟨b1, 0, none⟩), .pointer (some ⟨b2, 0, none⟩)] W fun e W' => e = .returned (.int .i64 (putP s a q i)) ∧ ∃ n, W' = W.drewN n := by
  have c1 := h.step.cell
  have c2 := h.side.cell
  have hs := ok_all ho
  rw [size_ok (ok_erase ho ha)] at hq
  obtain ⟨r1, r2, _, _⟩ := put_range hs ha (q := q) (i := i) (by omega) hq (by omega) hi
  have st := step_le ho a
  have sd := side_pos hs ha
  have hp := ok_prod ho
  have he := ok_prod (ok_erase ho ha)
  have HF : Hid (putP s a q i = ((q : Int) / stepS s a * s.getD a 0 + i) * stepS s a + (q : Int) % stepS s a) := rfl
  rw [HF.out] at r1 r2 ⊢
  generalize stepS s a = S at *
  generalize s.getD a 0 = D at *
  have d0 : 0 ≤ (q : Int) / S := Int.ediv_nonneg (by omega) (by omega)
  have d1 : (q : Int) / S ≤ 64 := Int.le_trans (Int.ediv_le_self _ (by omega)) (by omega)
  have e0 : 0 ≤ (q : Int) / S * D := Int.mul_nonneg d0 (by omega)
  have e1 : (q : Int) / S * D ≤ 64 * 16 := Int.mul_le_mul d1 sd.2 (by omega) (by omega)
  have f0 : 0 ≤ ((q : Int) / S * D + i) * S := Int.mul_nonneg (by omega) (by omega)
  have f1 : ((q : Int) / S * D + i) * S ≤ (64 * 16 + 16) * 64 := Int.mul_le_mul (by omega) st.2 (by omega) (by omega)
  have m0 := Int.emod_nonneg (q : Int) (show S ≠ 0 by omega)
  have HW : Hid (wrap64 (wrap64 (wrap64 (wrap64 (wrap64 ((q : Int) / S) * D) + i) * S) + (q : Int) % S) = ((q : Int) / S * D + i) * S + (q : Int) % S) := by
    show wrap64 _ = _
    rw [IntWalk.wrap64_in ((q : Int) / S) (by omega), IntWalk.wrap64_in ((q : Int) / S * D) (by omega), IntWalk.wrap64_in ((q : Int) / S * D + i) (by omega), IntWalk.wrap64_in (((q : Int) / S * D + i) * S) (by omega), IntWalk.wrap64_in _ (by omega)]
  have s0 : 1 ≤ S := st.1
  have s1 : S ≤ 64 := st.2
  have q0 : (0 : Int) ≤ (q : Int) := by omega
  clear h ho ha hs hp he r1 r2 sd st HF e0 e1 f0 f1 hq hi d0 d1 m0
  go_enter Try.func63, Try.ntmps63
  go_wp2
  go_quiet (fail)
  go_wp2
  go_ret
  exact ⟨by rw [← HW.out]; rfl, _, rfl⟩

theorem box_a (w : World) (v : Value) (t : TypeId) (o : Obj) : Boxed ((w.alloc (.cells #[v] t)).alloc o).drew w.heap.size t v := (Boxed.new w t v).alloc o
theorem box_b (w : World) (v : Value) (t : TypeId) (o : Obj) : Boxed ((w.alloc o).alloc (.cells #[v] t)).drew (w.heap.size + 1) t v := by
  have h := Boxed.new (w.alloc o) t v
  rw [World.size_alloc] at h
  exact h

set_option maxHeartbeats 4000000 in
theorem placer_any (A : Option Addr) (c : Nat) (s : List Int) (a : Nat) (w : World) (h : Rd w A s) (hc : s.length ≤ c) (ho : okS s = true) (ha : a < s.length) :
    Calls Try.prog 34 #[.slice A s.length c, .int .i64 (a : Int)] w fun e w' => ∃ b1 b2, e = .returned (plcF b1 b2) ∧ Plc s a b1 b2 w' ∧ Kp w w' := by
  have hs3 := (ok_iff.1 ho).1
  obtain ⟨ad, x, rfl, hlt, hx, hcl⟩ := h.at_ ha
  have hgd : s.getD a 0 = x := by rw [List.getD, hx]; rfl
  obtain ⟨k, hk⟩ : ∃ k : Nat, k = a + 1 := ⟨_, rfl⟩
  have w1 : IntKind.i64.wrap ((a : Int) + 1) = (k : Int) := by rw [IntWalk.i64_in _ (by omega)]; omega
  have hkl : k ≤ s.length := by omega
  have hss : sizeV (s.drop k) = stepS s a := by rw [hk]; exact step_size ho a
  obtain ⟨A3, hA3⟩ : ∃ A3, A3 = cutA (some ad) c k := ⟨_, rfl⟩
  obtain ⟨c3, hc3⟩ : ∃ c3, c3 = c - k := ⟨_, rfl⟩
  obtain ⟨n3, hn3⟩ : ∃ n3, n3 = s.length - k := ⟨_, rfl⟩
  have hcut : ∀ W, (Instr.sliceAt 22 (.slice (some ad) s.length c) (some (.int .i64 (k : Int))) none none).run Try.prog W = .ok (.slice A3 n3 c3) W := fun W => by
    rw [hA3, hc3, hn3, run_cut W (some ad) s.length c k hkl]
  have HS : Hid (∀ W, Kp w W → Calls Try.prog 40 #[.slice A3 n3 c3] W fun e w' => e = .returned (.int .i64 (stepS s a)) ∧ W = w') := fun W kw => by
    rw [hA3, hn3]
    exact size_n (s.drop k) ((h.kp kw).cut hc) (by simp) hss
  have HC : Hid (∀ W, Kp w W → W.cell? (ad.add a) = some (.int .i64 x)) := fun W q => (q.cell (p := ad.add a) (by rw [block_of_add]; exact hlt)).trans hcl
  have HP : Hid (∀ b1 b2 W, Boxed W b1 3 (.int .i64 (stepS s a)) → Boxed W b2 3 (.int .i64 x) → Plc s a b1 b2 W) := fun b1 b2 W p q => ⟨p, by rw [hgd]; exact q⟩
  have hc1 := HC.out w (Kp.refl _)
  have hb1 : (ad.add a).block < w.heap.size := by rw [block_of_add]; exact hlt
  have hb2 : ¬ (ad.add a).block = w.heap.size := by omega
  have hb3 : ¬ (ad.add a).block = w.heap.size + 1 := by omega
  have j1 : (0 : Int) ≤ (a : Int) := by omega
  have j2 : (a : Int) < (s.length : Int) := by omega
  generalize stepS s a = S at HS HP
  have HK : Hid (∀ V, Kp w V → V.cell? (ad.add a) = some (.int .i64 x)) := HC.out
  clear h hc ho hx hcl hgd hA3 hc3 hn3 hlt hk hss
  go_enter Try.func34, Try.ntmps34
  go_wp2
  go_region_with (first | (refine (HS.out _ (by first | exact Below.drew (Kp.refl _) | exact Below.drew (Kp.alloc_ _ _) | exact Below.drew ((Kp.alloc_ _ _).al _))).mono ?_; rintro e w1 ⟨rfl, rfl⟩))
  all_goals
    go_wp2
    go_ret
    exact ⟨_, _, rfl, HP.out _ _ _ (by first | exact box_a _ _ _ _ | exact box_b _ _ _ _) (by first | exact box_a _ _ _ _ | exact box_b _ _ _ _), Below.drew ((Kp.alloc_ _ _).al _)⟩
end Go.Proofs.Ytpglchimghnpeaa
