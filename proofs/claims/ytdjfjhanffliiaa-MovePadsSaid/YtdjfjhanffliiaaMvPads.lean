/- A part that is laid back, and cut again, is itself, and what stands beside it is 0: the law's call returns true. -/
import Derived.Test.YtdjfjhanffliiaaMvCe
import Derived.Test.YtdjfjhanffliiaaMvS
namespace Go.Proofs.ShM
set_option linter.unusedVariables false
def Sm (xs : List Int) (i : Nat) : Prop := ∀ (j : Nat) (v : Int), j < i → xs[j]? = some v → -1099511627776 ≤ v ∧ v ≤ 1099511627776
theorem Sm.zero (xs : List Int) : Sm xs 0 := fun j v h => absurd h (Nat.not_lt_zero _)
theorem Sm.step {xs : List Int} {i : Nat} {v : Int} (h : Sm xs i) (hv : xs[i]? = some v) (h1 : -1099511627776 ≤ v) (h2 : v ≤ 1099511627776) : Sm xs (i + 1) := fun j u hj hu => by
  by_cases e : j = i
  · subst e; rw [hv] at hu; obtain rfl := Option.some.inj hu; exact ⟨h1, h2⟩
  · exact h j u (by omega) hu
theorem Sm.tot {xs : List Int} {i : Nat} (h : Sm xs i) (hi : i ≤ xs.length) (h64 : i ≤ 64) : -70368744177664 ≤ totK xs i ∧ totK xs i ≤ 70368744177664 := by
  have key : ∀ j : Nat, j ≤ i → -(1099511627776 * (j : Int)) ≤ totK xs j ∧ totK xs j ≤ 1099511627776 * (j : Int) := by
    intro j
    induction j with
    | zero => intro _; simp [totK, sg]
    | succ j ih =>
      intro hj
      obtain ⟨g1, g2⟩ := ih (by omega)
      have hx : xs[j]? = some xs[j] := List.getElem?_eq_getElem (by omega)
      have := h j _ (by omega) hx
      rw [totK_step hx]
      omega
  have := key i (Nat.le_refl _)
  omega
/-- What is laid back has numbers as small, and the same sum. -/
theorem pads_tot {s xs : List Int} {k : Nat} {a y : Int} (h : tokV s xs = true) (hk : k < s.length) (ho : okS (s.set k y) = true) (h1 : 0 ≤ a) (h2 : s.getD k 0 + a ≤ y) (hs : Sm xs xs.length) :
    totK xs xs.length = totK (movedL s xs (s.set k y) k (-a)) (movedL s xs (s.set k y) k (-a)).length ∧ Sm (movedL s xs (s.set k y) k (-a)) (movedL s xs (s.set k y) k (-a)).length := by
  refine ⟨(moved_sum h hk ho h1 h2).symm, fun j v hj hv => ?_⟩
  rw [moved_len] at hj
  have e := moved_getD (s := s) (xs := xs) (g := s.set k y) (k := k) (m := -a) hj
  rw [List.getD, hv, Option.getD_some, at_get h] at e
  rw [e]
  split
  · rename_i hin
    by_cases hp : (plc s (upL (digs (s.set k y) j) k (-a))).toNat < xs.length
    · have hx := List.getElem?_eq_getElem hp
      rw [List.getD, hx, Option.getD_some]
      exact hs _ _ hp hx
    · rw [List.getD, List.getElem?_eq_none (by omega), Option.getD_none]; omega
  · omega
theorem pads_size {s xs : List Int} {k : Nat} {a y x : Int} (h : tokV s xs = true) (hx : s[k]? = some x) (ho : okS (s.set k y) = true) : ((movedL s xs (s.set k y) k (-a)).length : Int) * x = (xs.length : Int) * y := by
  obtain ⟨h1, h2⟩ := tok_iff.1 h
  rw [moved_len, size_nat ho, h2]
  have hk := (List.getElem?_eq_some_iff.1 hx).1
  have e1 : s = s.take k ++ x :: s.drop (k + 1) := by rw [← drop_of hx]; simp
  have e2 : s.set k y = s.take k ++ y :: s.drop (k + 1) := by rw [List.set_eq_take_append_cons_drop, if_pos hk]
  have p1 : prodS s = prodS (s.take k) * (x * prodS (s.drop (k + 1))) := by
    conv => lhs; rw [e1, prod_append]
    rfl
  have p2 : prodS (s.set k y) = prodS (s.take k) * (y * prodS (s.drop (k + 1))) := by rw [e2, prod_append]; rfl
  rw [p1, p2, Int.mul_assoc, Int.mul_assoc, Int.mul_assoc, Int.mul_assoc, Int.mul_comm (prodS (s.drop (k + 1))) x, Int.mul_comm (prodS (s.drop (k + 1))) y, ← Int.mul_assoc y x, Int.mul_comm y x, Int.mul_assoc x y]
theorem pad_cases {s xs : List Int} {axis a y : Int} (h : tokV s xs = true) : padV s xs axis a y = ([], [], 20) ∨
    ∃ k : Nat, axis = (k : Int) ∧ k < s.length ∧ 0 ≤ a ∧ y ≤ 16 ∧ s.getD k 0 + a ≤ y ∧ okS (s.set k y) = true ∧ padV s xs k a y = (s.set k y, movedL s xs (s.set k y) k (-a), 0) := by
  by_cases hb : axis < 0 ∨ (s.length : Int) ≤ axis ∨ a < 0 ∨ 16 < y ∨ y - s.getD axis.toNat 0 < a ∨ okS (s.set axis.toNat y) = false
  · left; unfold padV; rw [if_neg (by simp [h]), if_pos hb]
  · right
    have h0 : 0 ≤ axis := by omega
    have ho : okS (s.set axis.toNat y) = true := by
      cases e : okS (s.set axis.toNat y) with
      | true => rfl
      | false => exact absurd (.inr (.inr (.inr (.inr (.inr e))))) hb
    refine ⟨axis.toNat, by omega, by omega, by omega, by omega, by omega, ho, ?_⟩
    unfold padV
    rw [if_neg (by simp [h]), Int.toNat_natCast, if_neg (by
      rintro (g | g | g | g | g | g)
      · omega
      · omega
      · omega
      · omega
      · omega
      · rw [ho] at g; cases g)]
end Go.Proofs.ShM
namespace Go.Proofs.Ytdjfjhanffliiaa
open Go.RowKit Go.Proofs.ShM
set_option linter.unusedVariables false
set_option linter.unusedSimpArgs false

set_option maxHeartbeats 4000000 in
set_option maxRecDepth 100000 in
theorem mpads_far0 (A B : Option Addr) (n c m d : Nat) (q1 q2 q3 : Int) (w : World) (zn : n ≤ 9223372036854775807) (zm : m ≤ 9223372036854775807) (hf : 100 < n ∨ 100 < m) :
    Calls Try.prog 6 #[.agg #[.slice A n c, .slice B m d], .int .i64 q1, .int .i64 q2, .int .i64 q3] w fun e w' => e = .returned (.bool true) ∧ Kp w w' := by
  have HN : Hid (∀ W, Calls Try.prog 10 #[.agg #[.slice A n c, .slice B m d]] W fun e w' => e = .returned (.bool false) ∧ Kp W w') := fun W => few_no zn zm hf
  clear hf
  go_enter Try.func6, Try.ntmps6
  go_wp2_with fail
  refine (mvawake_any _).mono ?_; rintro e0 w0 ⟨rfl, k0⟩
  have K := Lib.hid ((Kp.alloc_ _ _).tr k0)
  have T0B : Hid (Bk w0 (w.heap.size) A n c B m d) := (Bk.new rfl).kp k0
  clear k0
  have zt0b0 := T0B.out.c0
  have zt0b1 := T0B.out.c1
  have zt0b2 := T0B.out.lt
  go_wp2_with fail
  refine (HN.out _).mono ?_; rintro e0 w1 ⟨rfl, k1⟩
  have K := Lib.hid (K.out.tr k1)
  have T0B := Lib.hid (T0B.out.kp k1)
  clear k1 zt0b0 zt0b1 zt0b2
  have zt0b0 := T0B.out.c0
  have zt0b1 := T0B.out.c1
  have zt0b2 := T0B.out.lt
  go_wp2
  go_ret
  exact ⟨rfl, K.out⟩

set_option maxHeartbeats 4000000 in
set_option maxRecDepth 100000 in
theorem mpads_far1 (A B : Option Addr) (n c m d : Nat) (q1 q2 q3 : Int) (w : World) (hn : n ≤ 100) (hm : m ≤ 100) (HC0 : Hid (∀ W, Kp w W → Calls Try.prog 22 #[.agg #[.slice A n c, .slice B m d]] W fun e w' => e = .returned (.bool false) ∧ Kp W w')) :
    Calls Try.prog 6 #[.agg #[.slice A n c, .slice B m d], .int .i64 q1, .int .i64 q2, .int .i64 q3] w fun e w' => e = .returned (.bool true) ∧ Kp w w' := by
  go_enter Try.func6, Try.ntmps6
  go_wp2_with fail
  refine (mvawake_any _).mono ?_; rintro e0 w0 ⟨rfl, k0⟩
  have K := Lib.hid ((Kp.alloc_ _ _).tr k0)
  have T0B : Hid (Bk w0 (w.heap.size) A n c B m d) := (Bk.new rfl).kp k0
  clear k0
  have zt0b0 := T0B.out.c0
  have zt0b1 := T0B.out.c1
  have zt0b2 := T0B.out.lt
  go_wp2_with fail
  refine (few_yes hn hm).mono ?_; rintro e0 w1 ⟨rfl, k1⟩
  have K := Lib.hid (K.out.tr k1)
  have T0B := Lib.hid (T0B.out.kp k1)
  clear k1 zt0b0 zt0b1 zt0b2
  have zt0b0 := T0B.out.c0
  have zt0b1 := T0B.out.c1
  have zt0b2 := T0B.out.lt
  go_wp2_with fail
  refine (HC0.out _ K.out).mono ?_; rintro e0 w2 ⟨rfl, k2⟩
  have K := Lib.hid (K.out.tr k2)
  have T0B := Lib.hid (T0B.out.kp k2)
  clear k2 zt0b0 zt0b1 zt0b2
  have zt0b0 := T0B.out.c0
  have zt0b1 := T0B.out.c1
  have zt0b2 := T0B.out.lt
  go_wp2
  go_ret
  exact ⟨rfl, K.out⟩

set_option maxHeartbeats 8000000 in
set_option maxRecDepth 100000 in
theorem mpads_err (A B : Option Addr) (n c m d : Nat) (q1 q2 q3 : Int) (w : World) (hn : n ≤ 100) (hm : m ≤ 100) (HC0 : Hid (∀ W, Kp w W → Calls Try.prog 22 #[.agg #[.slice A n c, .slice B m d]] W fun e w' => e = .returned (.bool true) ∧ Kp W w')) (C1 : Hid (∀ W, Kp w W → Calls Try.prog 18 #[.agg #[.slice A n c, .slice B m d], .int .i64 q1, .int .i64 q2, .int .i64 q3] W (RetU [] [] 0 0 20 W))) :
    Calls Try.prog 6 #[.agg #[.slice A n c, .slice B m d], .int .i64 q1, .int .i64 q2, .int .i64 q3] w fun e w' => e = .returned (.bool true) ∧ Kp w w' := by
  go_enter Try.func6, Try.ntmps6
  go_wp2_with fail
  refine (mvawake_any _).mono ?_; rintro e0 w0 ⟨rfl, k0⟩
  have K := Lib.hid ((Kp.alloc_ _ _).tr k0)
  have T0B : Hid (Bk w0 (w.heap.size) A n c B m d) := (Bk.new rfl).kp k0
  clear k0
  have zt0b0 := T0B.out.c0
  have zt0b1 := T0B.out.c1
  have zt0b2 := T0B.out.lt
  go_wp2_with fail
  refine (few_yes hn hm).mono ?_; rintro e0 w1 ⟨rfl, k1⟩
  have K := Lib.hid (K.out.tr k1)
  have T0B := Lib.hid (T0B.out.kp k1)
  clear k1 zt0b0 zt0b1 zt0b2
  have zt0b0 := T0B.out.c0
  have zt0b1 := T0B.out.c1
  have zt0b2 := T0B.out.lt
  go_wp2_with fail
  refine (HC0.out _ K.out).mono ?_; rintro e0 w2 ⟨rfl, k2⟩
  have K := Lib.hid (K.out.tr k2)
  have T0B := Lib.hid (T0B.out.kp k2)
  clear k2 zt0b0 zt0b1 zt0b2
  have zt0b0 := T0B.out.c0
  have zt0b1 := T0B.out.c1
  have zt0b2 := T0B.out.lt
  go_wp2_with fail
  refine (C1.out _ K.out).mono ?_; rintro e0 w3 ⟨A3, c3, B3, d3, rfl, r3, k3⟩
  have K := Lib.hid (K.out.tr k3)
  have T0B := Lib.hid (T0B.out.kp k3)
  have P := Lib.hid r3
  clear k3 r3 zt0b0 zt0b1 zt0b2
  have zt0b0 := T0B.out.c0
  have zt0b1 := T0B.out.c1
  have zt0b2 := T0B.out.lt
  go_wp2
  go_ret
  exact ⟨rfl, K.out.al _⟩

set_option maxHeartbeats 8000000 in
set_option maxRecDepth 100000 in
theorem mpads_with (A B : Option Addr) (n c m d : Nat) (k : Nat) (q2 q3 : Int) (w : World) (hn : n ≤ 100) (hm : m ≤ 100) (HC0 : Hid (∀ W, Kp w W → Calls Try.prog 22 #[.agg #[.slice A n c, .slice B m d]] W fun e w' => e = .returned (.bool true) ∧ Kp W w')) (s xs g ms : List Int) (a1 b1 : Nat) (sd z pr : Int) (hk : k < n) (hm64 : m ≤ 64) (hb64 : b1 ≤ 64)
    (L0 : Hid (s.length = n ∧ xs.length = m)) (L1 : Hid (g.length = a1 ∧ ms.length = b1)) (HT : Hid (TR w A s B xs)) (HSX : Hid (s[k]? = some sd)) (hz : IntKind.i64.wrap (q2 + sd) = z)
    (HTOT : Hid (Sm xs m → totK xs m = totK ms b1 ∧ Sm ms b1)) (hp1 : IntKind.i64.wrap ((b1 : Int) * sd) = pr) (hp2 : IntKind.i64.wrap ((m : Int) * q3) = pr)
    (C1 : Hid (∀ W, Kp w W → Calls Try.prog 18 #[.agg #[.slice A n c, .slice B m d], .int .i64 (k : Int), .int .i64 q2, .int .i64 q3] W (RetU g ms a1 b1 0 W)))
    (C2 : Hid (∀ W A0 B0 c0 d0, Kp w W → TR W A0 g B0 ms → Calls Try.prog 16 #[.agg #[.slice A0 a1 c0, .slice B0 b1 d0], .int .i64 (k : Int), .int .i64 q2, .int .i64 z] W (RetU s xs n m 0 W))) :
    Calls Try.prog 6 #[.agg #[.slice A n c, .slice B m d], .int .i64 (k : Int), .int .i64 q2, .int .i64 q3] w fun e w' => e = .returned (.bool true) ∧ Kp w w' := by
  have j1 : (0 : Int) ≤ (k : Int) := by omega
  have j2 : (k : Int) < (n : Int) := by omega
  have hx0 : ¬ (k : Int) < 0 := by omega
  have hx1 : ¬ (n : Int) ≤ (k : Int) := by omega
  have hxn : ¬ n ≤ k := by omega
  obtain ⟨ad, CA, rfl⟩ := ce_of HT.out.s HSX.out
  go_enter Try.func6, Try.ntmps6
  go_wp2_with fail
  refine (mvawake_any _).mono ?_; rintro e0 w0 ⟨rfl, k0⟩
  have K := Lib.hid ((Kp.alloc_ _ _).tr k0)
  have CA := Lib.hid ((CA.out.alloc_ _).kp k0)
  have HT := Lib.hid ((HT.out.alloc_ _).kp k0)
  have T0B : Hid (Bk w0 (w.heap.size) (some ad) n c B m d) := (Bk.new rfl).kp k0
  clear k0
  have zt0b0 := T0B.out.c0
  have zt0b1 := T0B.out.c1
  have zt0b2 := T0B.out.lt
  go_wp2_with fail
  refine (few_yes hn hm).mono ?_; rintro e0 w1 ⟨rfl, k1⟩
  have K := Lib.hid (K.out.tr k1)
  have T0B := Lib.hid (T0B.out.kp k1)
  have CA := Lib.hid (CA.out.kp k1)
  have HT := Lib.hid (HT.out.kp k1)
  clear k1 zt0b0 zt0b1 zt0b2
  have zt0b0 := T0B.out.c0
  have zt0b1 := T0B.out.c1
  have zt0b2 := T0B.out.lt
  go_wp2_with fail
  refine (HC0.out _ K.out).mono ?_; rintro e0 w2 ⟨rfl, k2⟩
  have K := Lib.hid (K.out.tr k2)
  have T0B := Lib.hid (T0B.out.kp k2)
  have CA := Lib.hid (CA.out.kp k2)
  have HT := Lib.hid (HT.out.kp k2)
  clear k2 zt0b0 zt0b1 zt0b2
  have zt0b0 := T0B.out.c0
  have zt0b1 := T0B.out.c1
  have zt0b2 := T0B.out.lt
  go_wp2_with fail
  refine (C1.out _ K.out).mono ?_; rintro e0 w3 ⟨A3, c3, B3, d3, rfl, r3, k3⟩
  have K := Lib.hid (K.out.tr k3)
  have T0B := Lib.hid (T0B.out.kp k3)
  have CA := Lib.hid (CA.out.kp k3)
  have HT := Lib.hid (HT.out.kp k3)
  have P := Lib.hid r3
  clear k3 r3 zt0b0 zt0b1 zt0b2
  have zt0b0 := T0B.out.c0
  have zt0b1 := T0B.out.c1
  have zt0b2 := T0B.out.lt
  go_upto_region 7 with fail
  obtain ⟨W8, HW8⟩ : ∃ W8, Hid (W8 = w3.alloc (.cells #[.slice A3 a1 c3, .slice B3 b1 d3] 24)) := ⟨_, rfl⟩
  have hkx : Kp w3 W8 := by rw [HW8.out]; exact Kp.alloc_ _ _
  have PB : Hid (Bk W8 w3.heap.size A3 a1 c3 B3 b1 d3) := by show Bk _ _ _ _ _ _ _ _; rw [HW8.out]; exact Bk.new rfl
  rw [← HW8.out]
  have K := Lib.hid (K.out.tr hkx)
  have T0B := Lib.hid (T0B.out.kp hkx)
  have CA := Lib.hid (CA.out.kp hkx)
  have HT := Lib.hid (HT.out.kp hkx)
  have P := Lib.hid (P.out.kp hkx)
  clear hkx HW8 zt0b0 zt0b1 zt0b2
  go_cut [12, 13] (fun vb ve wx => ve = .int .i64 0 ∧ ∃ b9 A9 c9 B9 d9, vb = .pointer (some ⟨b9, 0, none⟩) ∧ Hid (Bk wx b9 A9 n c9 B9 m d9) ∧ Hid (TR wx A9 s B9 xs) ∧ Hid (Kp W8 wx))
  case first =>
    have hdr8 : Hid (Kp W8 W8.drew) := Below.drew (Kp.refl _)
    have HKX : Hid (∀ V, Kp W8 V → V.cell? ⟨w.heap.size, 0, none⟩ = some (.slice (some ad) n c) ∧ V.cell? ⟨w3.heap.size, 0, none⟩ = some (.slice A3 a1 c3) ∧ V.cell? ⟨w3.heap.size, 1, none⟩ = some (.slice B3 b1 d3) ∧ V.cell? (ad.add k) = some (.int .i64 sd)) := fun V kV => ⟨(T0B.out.kp kV).c0, (PB.out.kp kV).c0, (PB.out.kp kV).c1, (CA.out.kp kV).1⟩
    have s0 := HKX.out _ hdr8.out
    refine wp_region_held_drew (S := fun V => V.cell? ⟨w.heap.size, 0, none⟩ = some (.slice (some ad) n c) ∧ V.cell? ⟨w3.heap.size, 0, none⟩ = some (.slice A3 a1 c3) ∧ V.cell? ⟨w3.heap.size, 1, none⟩ = some (.slice B3 b1 d3) ∧ V.cell? (ad.add k) = some (.int .i64 sd)) (by kernel_rfl) s0 (fun hHeld => ?_)
    refine wpAnyH_take (i := 0) (v := .agg #[.slice A3 a1 c3, .slice B3 b1 d3]) rfl (by kernel_rfl) (by kernel_rfl) (by kernel_rfl) (fun _ _ _ h => h) (Or.inl ⟨by rfl, fun V hSV => ?_⟩) hHeld ?_
    · (try dsimp only at hSV); go_simp
    try simp only [Act.put, List.setIfInBounds_toArray, List.set_cons_zero, List.set_cons_succ]
    refine wpAnyH_take (i := 1) (v := .int .i64 (k : Int)) rfl (by kernel_rfl) (by kernel_rfl) (by kernel_rfl) (fun _ _ _ h => h) (Or.inl ⟨by rfl, fun V hSV => ?_⟩) hHeld ?_
    · (try dsimp only at hSV); go_simp
    try simp only [Act.put, List.setIfInBounds_toArray, List.set_cons_zero, List.set_cons_succ]
    refine wpAnyH_take (i := 2) (v := .int .i64 q2) rfl (by kernel_rfl) (by kernel_rfl) (by kernel_rfl) (fun _ _ _ h => h) (Or.inl ⟨by rfl, fun V hSV => ?_⟩) hHeld ?_
    · (try dsimp only at hSV); go_simp
    try simp only [Act.put, List.setIfInBounds_toArray, List.set_cons_zero, List.set_cons_succ]
    refine wpAnyH_take (i := 3) (v := .int .i64 q2) rfl (by kernel_rfl) (by kernel_rfl) (by kernel_rfl) (fun _ _ _ h => h) (Or.inl ⟨by rfl, fun V hSV => ?_⟩) hHeld ?_
    · (try dsimp only at hSV); go_simp
    try simp only [Act.put, List.setIfInBounds_toArray, List.set_cons_zero, List.set_cons_succ]
    refine wpAnyH_take (i := 4) (v := .pointer (some ⟨w.heap.size, 0, none⟩)) rfl (by kernel_rfl) (by kernel_rfl) (by kernel_rfl) (fun _ _ _ h => h) (Or.inl ⟨by rfl, fun V hSV => ?_⟩) hHeld ?_
    · (try dsimp only at hSV); go_simp
    try simp only [Act.put, List.setIfInBounds_toArray, List.set_cons_zero, List.set_cons_succ]
    refine wpAnyH_take (i := 5) (v := .slice (some ad) n c) rfl (by kernel_rfl) (by kernel_rfl) (by kernel_rfl) (fun _ _ _ h => h) (Or.inl ⟨by rfl, fun V hSV => ?_⟩) hHeld ?_
    · (try dsimp only at hSV); go_simp
    try simp only [Act.put, List.setIfInBounds_toArray, List.set_cons_zero, List.set_cons_succ]
    refine wpAnyH_take (i := 6) (v := .int .i64 (k : Int)) rfl (by kernel_rfl) (by kernel_rfl) (by kernel_rfl) (fun _ _ _ h => h) (Or.inl ⟨by rfl, fun V hSV => ?_⟩) hHeld ?_
    · (try dsimp only at hSV); go_simp
    try simp only [Act.put, List.setIfInBounds_toArray, List.set_cons_zero, List.set_cons_succ]
    refine wpAnyH_take (i := 7) (v := .pointer (some (ad.add k))) rfl (by kernel_rfl) (by kernel_rfl) (by kernel_rfl) (fun _ _ _ h => h) (Or.inl ⟨by rfl, fun V hSV => ?_⟩) hHeld ?_
    · (try dsimp only at hSV); go_simp
    try simp only [Act.put, List.setIfInBounds_toArray, List.set_cons_zero, List.set_cons_succ]
    refine wpAnyH_take (i := 8) (v := .int .i64 sd) rfl (by kernel_rfl) (by kernel_rfl) (by kernel_rfl) (fun _ _ _ h => h) (Or.inl ⟨by rfl, fun V hSV => ?_⟩) hHeld ?_
    · (try dsimp only at hSV); go_simp
    try simp only [Act.put, List.setIfInBounds_toArray, List.set_cons_zero, List.set_cons_succ]
    refine wpAnyH_take (i := 9) (v := .int .i64 z) rfl (by kernel_rfl) (by kernel_rfl) (by kernel_rfl) (fun _ _ _ h => h) (Or.inl ⟨by rfl, fun V hSV => ?_⟩) hHeld ?_
    · (try dsimp only at hSV); go_simp
    try simp only [Act.put, List.setIfInBounds_toArray, List.set_cons_zero, List.set_cons_succ]
    refine wpAnyH_ready (rs := [10, 14]) (by kernel_rfl) (by simp) ?_
    refine AllReadyH.cons rfl (fun K9_ hK => ?_) ?_
    · go_simp
      refine (C2.out _ _ _ _ _ (K.out.tr hdr8.out) (P.out.kp hdr8.out)).mono ?_; rintro e0 w9 ⟨A9, c9, B9, d9, rfl, r9, k9⟩
      dsimp only
      have K9 : Hid (Kp W8 w9) := undrawn k9
      have hq := HKX.out _ K9.out
      have R9 := Lib.hid r9
      clear r9 k9
      refine hK.out _ _ ?_ (fun hHeld => ?_)
      · exact hq
      clear hK
      try simp only [Act.put, List.setIfInBounds_toArray, List.set_cons_zero, List.set_cons_succ]
      refine wpAnyH_take (i := 11) (v := .tuple #[.agg #[.slice A9 n c9, .slice B9 m d9], .int .i64 0]) rfl (by kernel_rfl) (by kernel_rfl) (by kernel_rfl) (fun _ _ _ h => h) (Or.inl ⟨by rfl, fun V hSV => ?_⟩) hHeld ?_
      · (try dsimp only at hSV); go_simp
      try simp only [Act.put, List.setIfInBounds_toArray, List.set_cons_zero, List.set_cons_succ]
      refine wpAnyH_take (i := 12) (v := .agg #[.slice A9 n c9, .slice B9 m d9]) rfl (by kernel_rfl) (by kernel_rfl) (by kernel_rfl) (fun _ _ _ h => h) (Or.inl ⟨by rfl, fun V hSV => ?_⟩) hHeld ?_
      · (try dsimp only at hSV); go_simp
      try simp only [Act.put, List.setIfInBounds_toArray, List.set_cons_zero, List.set_cons_succ]
      refine wpAnyH_take (i := 13) (v := .int .i64 0) rfl (by kernel_rfl) (by kernel_rfl) (by kernel_rfl) (fun _ _ _ h => h) (Or.inl ⟨by rfl, fun V hSV => ?_⟩) hHeld ?_
      · (try dsimp only at hSV); go_simp
      try simp only [Act.put, List.setIfInBounds_toArray, List.set_cons_zero, List.set_cons_succ]
      refine wpAnyH_ready (rs := [14]) (by kernel_rfl) (by simp) ?_
      refine AllReadyH.cons rfl (fun K9_ hK => ?_) AllReadyH.nil
      go_simp
      refine hK.out _ _ ?_ (fun hHeld => ?_)
      · exact HKX.out _ (K9.out.al _)
      clear hK
      try simp only [Act.put, List.setIfInBounds_toArray, List.set_cons_zero, List.set_cons_succ]
      refine wpAnyH_ready (rs := [15]) (by kernel_rfl) (by simp) ?_
      refine AllReadyH.cons rfl (fun K9_ hK => ?_) AllReadyH.nil
      go_simp
      refine hK.out _ _ ?_ (fun hHeld => ?_)
      · exact HKX.out _ (K9.out.al _)
      clear hK
      try simp only [Act.put, List.setIfInBounds_toArray, List.set_cons_zero, List.set_cons_succ]
      refine wpAnyH_ready (rs := [16]) (by kernel_rfl) (by simp) ?_
      refine AllReadyH.cons rfl (fun K9_ hK => ?_) AllReadyH.nil
      go_simp
      refine hK.out _ _ ?_ (fun hHeld => ?_)
      · exact HKX.out _ (K9.out.al _)
      clear hK
      try simp only [Act.put, List.setIfInBounds_toArray, List.set_cons_zero, List.set_cons_succ]
      refine wpAnyH_done (by kernel_rfl) ?_ _
      go_wp2
      go_meet
      exact ⟨rfl, w9.heap.size, A9, c9, B9, d9, rfl, Bk.new rfl, R9.out.alloc_ _, K9.out.al _⟩
    refine AllReadyH.cons rfl (fun K9_ hK => ?_) AllReadyH.nil
    go_simp
    refine hK.out _ _ ?_ (fun hHeld => ?_)
    · exact HKX.out _ (hdr8.out.al _)
    clear hK
    try simp only [Act.put, List.setIfInBounds_toArray, List.set_cons_zero, List.set_cons_succ]
    refine wpAnyH_ready (rs := [10]) (by kernel_rfl) (by simp) ?_
    refine AllReadyH.cons rfl (fun K9_ hK => ?_) AllReadyH.nil
    go_simp
    refine (C2.out _ _ _ _ _ (K.out.tr (hdr8.out.al _)) (P.out.kp (hdr8.out.al _))).mono ?_; rintro e0 w9 ⟨A9, c9, B9, d9, rfl, r9, k9⟩
    dsimp only
    have K9 : Hid (Kp W8 w9) := (hdr8.out.al _).tr k9
    have hq := HKX.out _ K9.out
    have R9 := Lib.hid r9
    have TZ : Hid (Bk w9 W8.heap.size none 0 0 none 0 0) := Bk.kp (Bk.new (W := W8.drew) rfl) k9
    have z0 := TZ.out.c0
    have z1 := TZ.out.c1
    have z2 := TZ.out.f0 0
    have z3 := TZ.out.f0 1
    clear r9 k9
    refine hK.out _ _ ?_ (fun hHeld => ?_)
    · exact hq
    clear hK
    try simp only [Act.put, List.setIfInBounds_toArray, List.set_cons_zero, List.set_cons_succ]
    refine wpAnyH_take (i := 11) (v := .tuple #[.agg #[.slice A9 n c9, .slice B9 m d9], .int .i64 0]) rfl (by kernel_rfl) (by kernel_rfl) (by kernel_rfl) (fun _ _ _ h => h) (Or.inl ⟨by rfl, fun V hSV => ?_⟩) hHeld ?_
    · (try dsimp only at hSV); go_simp
    try simp only [Act.put, List.setIfInBounds_toArray, List.set_cons_zero, List.set_cons_succ]
    refine wpAnyH_take (i := 12) (v := .agg #[.slice A9 n c9, .slice B9 m d9]) rfl (by kernel_rfl) (by kernel_rfl) (by kernel_rfl) (fun _ _ _ h => h) (Or.inl ⟨by rfl, fun V hSV => ?_⟩) hHeld ?_
    · (try dsimp only at hSV); go_simp
    try simp only [Act.put, List.setIfInBounds_toArray, List.set_cons_zero, List.set_cons_succ]
    refine wpAnyH_take (i := 13) (v := .int .i64 0) rfl (by kernel_rfl) (by kernel_rfl) (by kernel_rfl) (fun _ _ _ h => h) (Or.inl ⟨by rfl, fun V hSV => ?_⟩) hHeld ?_
    · (try dsimp only at hSV); go_simp
    try simp only [Act.put, List.setIfInBounds_toArray, List.set_cons_zero, List.set_cons_succ]
    refine wpAnyH_ready (rs := [15]) (by kernel_rfl) (by simp) ?_
    refine AllReadyH.cons rfl (fun K9_ hK => ?_) AllReadyH.nil
    go_simp
    refine hK.out _ _ ?_ (fun hHeld => ?_)
    · exact HKX.out _ ((K9.out.setCell (p := ⟨W8.heap.size, 0, none⟩) (Nat.le_refl _) _).setCell (p := ⟨W8.heap.size, 1, none⟩) (Nat.le_refl _) _)
    clear hK
    try simp only [Act.put, List.setIfInBounds_toArray, List.set_cons_zero, List.set_cons_succ]
    refine wpAnyH_ready (rs := [16]) (by kernel_rfl) (by simp) ?_
    refine AllReadyH.cons rfl (fun K9_ hK => ?_) AllReadyH.nil
    go_simp
    refine hK.out _ _ ?_ (fun hHeld => ?_)
    · exact HKX.out _ ((K9.out.setCell (p := ⟨W8.heap.size, 0, none⟩) (Nat.le_refl _) _).setCell (p := ⟨W8.heap.size, 1, none⟩) (Nat.le_refl _) _)
    clear hK
    try simp only [Act.put, List.setIfInBounds_toArray, List.set_cons_zero, List.set_cons_succ]
    refine wpAnyH_done (by kernel_rfl) ?_ _
    go_wp2
    go_meet
    exact ⟨rfl, W8.heap.size, A9, c9, B9, d9, rfl, TZ.out.put, R9.out.past TZ.out _ _, ((K9.out.setCell (p := ⟨W8.heap.size, 0, none⟩) (Nat.le_refl _) _).setCell (p := ⟨W8.heap.size, 1, none⟩) (Nat.le_refl _) _)⟩
  case rest =>
    obtain ⟨rfl, b_X, A_X, c_X, B_X, d_X, rfl, XB, X, k_X⟩ := hcut
    have K := Lib.hid (K.out.tr k_X.out)
    have T0B := Lib.hid (T0B.out.kp k_X.out)
    have PB := Lib.hid (PB.out.kp k_X.out)
    have CA := Lib.hid (CA.out.kp k_X.out)
    have HT := Lib.hid (HT.out.kp k_X.out)
    have P := Lib.hid (P.out.kp k_X.out)
    clear k_X
    obtain ⟨W9, hW9⟩ : ∃ W9, W9 = wc := ⟨_, rfl⟩
    subst hW9
    have t1 := T0B.out.c1
    have p1 := PB.out.c1
    go_wp2
    go_loopw [14, 16] (fun x i wr => ∃ (i' : Nat) (y : Int), i = .int .i64 i' ∧ x = .int .i64 y ∧ Hid (i' ≤ m) ∧ Hid (y = totK xs i') ∧ Hid (Sm xs i') ∧ Hid (wr = W9)) (fun _ i _ => m - (intOf i).toNat)
    case atStart => exact ⟨0, 0, rfl, rfl, Lib.hid (Nat.zero_le _), Lib.hid rfl, Lib.hid (Sm.zero _), Lib.hid rfl⟩
    case round =>
      obtain ⟨i, y, rfl, rfl, hil, hy, hsm, hw0⟩ := hrel
      obtain rfl : W9 = wr := hw0.out.symm
      have hil' : i ≤ m := hil.out
      by_cases hlt : i < m
      · obtain ⟨ax, v, rfl, hbv, hv, hcv⟩ := HT.out.d.at_ (k := i) (by rw [L0.out.2]; exact hlt)
        have i1 : (0 : Int) ≤ (i : Int) := by omega
        have i2 : (i : Int) < (m : Int) := by omega
        by_cases c1 : v < -1099511627776
        · have c1' : (decide (v < -1099511627776)) = true := by simpa using c1
          clear hv c1
          go_wp2
          go_ret
          exact ⟨rfl, K.out⟩
        · by_cases c2 : 1099511627776 < v
          · have c1' : (decide (v < -1099511627776)) = false := by simpa using c1
            have c2' : (decide (1099511627776 < v)) = true := by simpa using c2
            clear hv c1 c2
            go_wp2
            go_ret
            exact ⟨rfl, K.out⟩
          · have c1' : (decide (v < -1099511627776)) = false := by simpa using c1
            have c2' : (decide (1099511627776 < v)) = false := by simpa using c2
            have HS := Lib.hid (hsm.out.step hv (by omega) (by omega))
            have HTK := Lib.hid (totK_step hv)
            have hb := hsm.out.tot (by rw [L0.out.2]; omega) (by omega)
            rw [← hy.out] at hb
            obtain ⟨y2, hy2⟩ : ∃ y2, y + v = y2 := ⟨_, rfl⟩
            have hwy : IntKind.i64.wrap (y + v) = y2 := by rw [IntWalk.i64_in _ (by omega)]; exact hy2
            have HY : Hid (y2 = totK xs (i + 1)) := by show y2 = _; rw [HTK.out, ← hy2, hy.out]
            clear hv c1 c2 hb hy2
            go_wp2
            go_roundw
            case rel => exact ⟨i + 1, y2, by go_num, rfl, Lib.hid hlt, HY.out, HS.out, by first | exact Lib.hid rfl | exact Lib.hid trivial⟩
            case measure => simp [intOf]; omega
      · have him : i = m := by omega
        have HX0 : Hid (y = totK xs m) := by show y = _; rw [hy.out, him]
        have hsx : Sm xs m := by rw [← him]; exact hsm.out
        have HT1 := Lib.hid (HTOT.out hsx).1
        have HT2 := Lib.hid (HTOT.out hsx).2
        clear him hsx hil'
        go_wp2
        go_loopw [15, 17] (fun x i wr => ∃ (i' : Nat) (y : Int), i = .int .i64 i' ∧ x = .int .i64 y ∧ Hid (i' ≤ b1) ∧ Hid (y = totK ms i') ∧ Hid (wr = W9)) (fun _ i _ => b1 - (intOf i).toNat)
        case atStart => exact ⟨0, 0, rfl, rfl, Lib.hid (Nat.zero_le _), Lib.hid rfl, by first | exact Lib.hid rfl | exact Lib.hid trivial⟩
        case round =>
          obtain ⟨i, y0, rfl, rfl, hil, hy0, hw0⟩ := hrel
          obtain rfl : W9 = wr := hw0.out.symm
          have hil' : i ≤ b1 := hil.out
          by_cases hlt : i < b1
          · obtain ⟨ax, v, eax, hbv, hv, hcv⟩ := P.out.d.at_ (k := i) (by rw [L1.out.2]; exact hlt)
            have i1 : (0 : Int) ≤ (i : Int) := by omega
            have i2 : (i : Int) < (b1 : Int) := by omega
            have HTK := Lib.hid (totK_step hv)
            have hsv := HT2.out i v hlt hv
            have hb := Sm.tot (xs := ms) (i := i) (fun j u hj hu => HT2.out j u (by omega) hu) (by rw [L1.out.2]; omega) (by omega)
            rw [← hy0.out] at hb
            obtain ⟨y2, hy2⟩ : ∃ y2, y0 + v = y2 := ⟨_, rfl⟩
            have hwy : IntKind.i64.wrap (y0 + v) = y2 := by rw [IntWalk.i64_in _ (by omega)]; exact hy2
            have HY : Hid (y2 = totK ms (i + 1)) := by show y2 = _; rw [HTK.out, ← hy2, hy0.out]
            subst eax
            clear hv hb hy2 hsv
            go_wp2
            go_roundw
            case rel => exact ⟨i + 1, y2, by go_num, rfl, Lib.hid hlt, HY.out, by first | exact Lib.hid rfl | exact Lib.hid trivial⟩
            case measure => simp [intOf]; omega
          · have hib : i = b1 := by omega
            have hyy : y = y0 := by rw [HX0.out, HT1.out, hy0.out, hib]
            subst hyy
            clear hib hil' HX0 HT1 HT2 hy0 hsm hy
            have HSM : Hid (∀ V, Kp W9 V → Calls Try.prog 13 #[.agg #[.slice A_X n c_X, .slice B_X m d_X], .agg #[.slice (some ad) n c, .slice B m d]] V fun e w' => e = .returned (.bool true) ∧ Kp V w') := fun V kV => tsame_u (X.out.kp kV) (HT.out.kp kV) L0.out.1 L0.out.2
            have HKX : Hid (∀ V, Kp W9 V → Hid (Kp W9 V) ∧ V.cell? ⟨w.heap.size, 0, none⟩ = some (.slice (some ad) n c) ∧ V.cell? ⟨w.heap.size, 1, none⟩ = some (.slice B m d) ∧ V.cell? ⟨b_X, 0, none⟩ = some (.slice A_X n c_X) ∧ V.cell? ⟨b_X, 1, none⟩ = some (.slice B_X m d_X) ∧ V.cell? ⟨w3.heap.size, 1, none⟩ = some (.slice B3 b1 d3) ∧ V.cell? (ad.add k) = some (.int .i64 sd)) := fun V kV => ⟨kV, (T0B.out.kp kV).c0, (T0B.out.kp kV).c1, (XB.out.kp kV).c0, (XB.out.kp kV).c1, (PB.out.kp kV).c1, (CA.out.kp kV).1⟩
            obtain ⟨_, s0, s1, s2, s3, s4, s5⟩ := HKX.out W9 (Kp.refl _)
            have hdr : Hid (Kp W9 W9.drew) := Below.drew (Kp.refl _)
            clear t1 p1
            go_wp2
            go_region_held3 (fun V => V.cell? ⟨w.heap.size, 0, none⟩ = some (.slice (some ad) n c) ∧ V.cell? ⟨w.heap.size, 1, none⟩ = some (.slice B m d) ∧ V.cell? ⟨b_X, 0, none⟩ = some (.slice A_X n c_X) ∧ V.cell? ⟨b_X, 1, none⟩ = some (.slice B_X m d_X) ∧ V.cell? ⟨w3.heap.size, 1, none⟩ = some (.slice B3 b1 d3) ∧ V.cell? (ad.add k) = some (.int .i64 sd)) (first | exact ⟨q0, q1, q2', q3', q4, q5⟩ | exact ⟨s0, s1, s2, s3, s4, s5⟩)
              ((go_at_call 13; refine (HSM.out _ hdr.out).mono ?_; rintro e0 w20 ⟨rfl, k20⟩; obtain ⟨K20, q0, q1, q2', q3', q4, q5⟩ := HKX.out _ (undrawn k20); clear k20))
            all_goals
              go_wp2
              go_ret
              exact ⟨rfl, K.out.tr K20.out⟩

theorem mpads_walk (A B : Option Addr) (c d : Nat) (q1 q2 q3 : Int) (s xs : List Int) (w : World) (R0 : TR w A s B xs) (I0 : I64s xs) :
    Calls Try.prog 6 #[.agg #[.slice A s.length c, .slice B xs.length d], .int .i64 q1, .int .i64 q2, .int .i64 q3] w fun e w' => e = .returned (.bool true) ∧ Kp w w' := by
  by_cases f0 : 100 < s.length ∨ 100 < xs.length
  · exact mpads_far0 A B _ c _ d q1 q2 q3 w  R0.s.len R0.d.len f0
  by_cases b0 : tokV s xs = false
  · exact mpads_far1 A B _ c _ d q1 q2 q3 w (by omega) (by omega) (Lib.hid fun W k => tcheck_u s xs (R0.kp k) rfl rfl b0)
  have b0 : tokV s xs = true := by simpa using b0
  rcases pad_cases (axis := q1) (a := q2) (y := q3) b0 with h | ⟨k, rfl, hk, h1, h2, h3, ho, hp⟩
  · exact mpads_err A B _ c _ d q1 q2 q3 w (by omega) (by omega) (Lib.hid fun W k => tcheck_u s xs (R0.kp k) rfl rfl b0) (Lib.hid fun W k => ppad_u s xs q1 q2 q3 (R0.kp k) rfl rfl h rfl rfl)
  · obtain ⟨sd, hsd⟩ : ∃ sd, s[k]? = some sd := ⟨_, List.getElem?_eq_getElem hk⟩
    have hgd : s.getD k 0 = sd := by rw [List.getD, hsd]; rfl
    have hs16 := side_of (ok_all (tok_len b0).1) hsd
    have hx64 := (tok_len b0).2.2.2
    have hb64 : (movedL s xs (s.set k q3) k (-q2)).length ≤ 64 := by rw [moved_len]; have := size_le (s.set k q3); omega
    have hsz := pads_size (a := q2) b0 hsd ho
    have hq1 := (side_of (ok_all ho) (k := k) (x := q3) (by rw [List.getElem?_set_self hk])).1
    have hpb : 0 ≤ (xs.length : Int) * q3 ∧ (xs.length : Int) * q3 ≤ 1024 := by
      refine ⟨Int.mul_nonneg (by omega) (by omega), ?_⟩
      have := Int.mul_le_mul (show (xs.length : Int) ≤ 64 by omega) h2 (by omega) (by omega)
      omega
    rw [hgd] at h3
    exact mpads_with A B _ c _ d k q2 q3 w (by omega) (by omega) (Lib.hid fun W k => tcheck_u s xs (R0.kp k) rfl rfl b0) s xs (s.set k q3) (movedL s xs (s.set k q3) k (-q2)) _ _ sd (q2 + sd) ((xs.length : Int) * q3) hk hx64 hb64 (Lib.hid ⟨rfl, rfl⟩) (Lib.hid ⟨rfl, rfl⟩) (Lib.hid R0) (Lib.hid hsd)
      (by rw [IntWalk.i64_in _ (by omega)]) (Lib.hid fun hs => pads_tot b0 hk ho h1 (by rw [hgd]; omega) hs) (by rw [hsz, IntWalk.i64_in _ (by omega)]) (by rw [IntWalk.i64_in _ (by omega)])
      (Lib.hid fun W k' => ppad_u s xs k q2 q3 (R0.kp k') rfl rfl hp rfl rfl)
      (Lib.hid fun W A0 B0 c0 d0 _ r => pslice_u _ _ k q2 (q2 + sd) r rfl rfl (pad_slice b0 hsd h1 (by omega) ho) rfl rfl)
end Go.Proofs.Ytdjfjhanffliiaa
