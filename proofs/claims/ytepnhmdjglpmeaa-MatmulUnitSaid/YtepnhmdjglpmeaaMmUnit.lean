/- By the table that has One where row and column are one a product is the other table: the law's call returns true. -/
import Derived.Test.YtepnhmdjglpmeaaMmG
import Derived.Test.YtepnhmdjglpmeaaMmH
namespace Go.Proofs.Ytepnhmdjglpmeaa
open Go.RowKit Go.Proofs.ShM
set_option linter.unusedVariables false
set_option linter.unusedSimpArgs false

/-- A number's cell. -/
def Cl (W : World) (a : Addr) (v : Int) : Prop := W.cell? a = some (.int .i64 v) ∧ a.block < W.heap.size
theorem Cl.kp {W W' : World} {a : Addr} {v : Int} (h : Cl W a v) (k : Kp W W') : Cl W' a v := ⟨(k.cell h.2).trans h.1, Nat.lt_of_lt_of_le h.2 k.size⟩
theorem Cl.alloc_ {W : World} {a : Addr} {v : Int} (h : Cl W a v) (o : Obj) : Cl (W.alloc o) a v := h.kp (Kp.alloc_ _ _)
theorem cl_two {W : World} {A : Option Addr} {x y : Int} (h : Rd W A [x, y]) : ∃ a, A = some a ∧ Hid (Cl W a x) ∧ Hid (Cl W ⟨a.block, a.off + 1, none⟩ y) := by
  obtain ⟨ad, e, hb, hc⟩ := h.2 (by simp)
  have h0 := hc 0 x rfl
  have h1 := hc 1 y rfl
  exact ⟨ad, e, ⟨by simpa [Addr.add] using h0, hb⟩, ⟨by simpa [Addr.add] using h1, hb⟩⟩
theorem cl_one {W : World} {A : Option Addr} {xs : List Int} {x : Int} (h : Rd W A xs) (hx : xs[0]? = some x) : ∃ a, A = some a ∧ Hid (Cl W a x) := by
  obtain ⟨ad, e, hb, hc⟩ := h.2 (List.getElem?_eq_some_iff.1 hx).1
  have h0 := hc 0 x hx
  exact ⟨ad, e, ⟨by simpa [Addr.add] using h0, hb⟩⟩

set_option maxHeartbeats 4000000 in
set_option maxRecDepth 100000 in
theorem mmunit_far0 (A B : Option Addr) (n c m d : Nat) (w : World) (zn : n ≤ 9223372036854775807) (zm : m ≤ 9223372036854775807) (hf : 100 < n ∨ 100 < m) :
    Calls Try.prog 4 #[.agg #[.slice A n c, .slice B m d]] w fun e w' => e = .returned (.bool true) ∧ Kp w w' := by
  have HN : Hid (∀ W, Calls Try.prog 10 #[.agg #[.slice A n c, .slice B m d]] W fun e w' => e = .returned (.bool false) ∧ Kp W w') := fun W => few_no zn zm hf
  clear hf
  go_enter Try.func4, Try.ntmps4
  go_wp2_with fail
  refine (mmawake_any _).mono ?_; rintro e0 w0 ⟨rfl, k0⟩
  have K := Lib.hid ((Kp.alloc_ _ _).tr k0)
  have T0B : Hid (Bk w0 (w.heap.size) A n c B m d) := (Bk.new rfl).kp k0
  clear k0
  have zt0b0 := T0B.out.c0
  have zt0b1 := T0B.out.c1
  have zt0b2 := T0B.out.lt
  go_wp2_with fail
  refine (HN.out _).mono ?_; rintro e0 w1 ⟨rfl, k1⟩
  have K := Lib.hid (K.out.tr k1)
  have T0B := Lib.hid (T0B.out.kp k1)
  clear k1 zt0b0 zt0b1 zt0b2
  have zt0b0 := T0B.out.c0
  have zt0b1 := T0B.out.c1
  have zt0b2 := T0B.out.lt
  go_wp2
  go_ret
  exact ⟨rfl, K.out⟩

set_option maxHeartbeats 4000000 in
set_option maxRecDepth 100000 in
theorem mmunit_far1 (A B : Option Addr) (n c m d : Nat) (w : World) (hn : n ≤ 100) (hm : m ≤ 100) (HC0 : Hid (∀ W, Kp w W → Calls Try.prog 18 #[.agg #[.slice A n c, .slice B m d]] W fun e w' => e = .returned (.bool false) ∧ Kp W w')) :
    Calls Try.prog 4 #[.agg #[.slice A n c, .slice B m d]] w fun e w' => e = .returned (.bool true) ∧ Kp w w' := by
  go_enter Try.func4, Try.ntmps4
  go_wp2_with fail
  refine (mmawake_any _).mono ?_; rintro e0 w0 ⟨rfl, k0⟩
  have K := Lib.hid ((Kp.alloc_ _ _).tr k0)
  have T0B : Hid (Bk w0 (w.heap.size) A n c B m d) := (Bk.new rfl).kp k0
  clear k0
  have zt0b0 := T0B.out.c0
  have zt0b1 := T0B.out.c1
  have zt0b2 := T0B.out.lt
  go_wp2_with fail
  refine (few_yes hn hm).mono ?_; rintro e0 w1 ⟨rfl, k1⟩
  have K := Lib.hid (K.out.tr k1)
  have T0B := Lib.hid (T0B.out.kp k1)
  clear k1 zt0b0 zt0b1 zt0b2
  have zt0b0 := T0B.out.c0
  have zt0b1 := T0B.out.c1
  have zt0b2 := T0B.out.lt
  go_wp2_with fail
  refine (HC0.out _ K.out).mono ?_; rintro e0 w2 ⟨rfl, k2⟩
  have K := Lib.hid (K.out.tr k2)
  have T0B := Lib.hid (T0B.out.kp k2)
  clear k2 zt0b0 zt0b1 zt0b2
  have zt0b0 := T0B.out.c0
  have zt0b1 := T0B.out.c1
  have zt0b2 := T0B.out.lt
  go_wp2
  go_ret
  exact ⟨rfl, K.out⟩

set_option maxHeartbeats 8000000 in
set_option maxRecDepth 100000 in
theorem mmunit_far2 (A B : Option Addr) (n c m d : Nat) (w : World) (hn : n ≤ 100) (hm : m ≤ 100) (HC0 : Hid (∀ W, Kp w W → Calls Try.prog 18 #[.agg #[.slice A n c, .slice B m d]] W fun e w' => e = .returned (.bool true) ∧ Kp W w')) (hx : ¬ n = 2) :
    Calls Try.prog 4 #[.agg #[.slice A n c, .slice B m d]] w fun e w' => e = .returned (.bool true) ∧ Kp w w' := by
  have hx' : ((n : Int) != 2) = true := by simp; omega
  clear hx
  go_enter Try.func4, Try.ntmps4
  go_wp2_with fail
  refine (mmawake_any _).mono ?_; rintro e0 w0 ⟨rfl, k0⟩
  have K := Lib.hid ((Kp.alloc_ _ _).tr k0)
  have T0B : Hid (Bk w0 (w.heap.size) A n c B m d) := (Bk.new rfl).kp k0
  clear k0
  have zt0b0 := T0B.out.c0
  have zt0b1 := T0B.out.c1
  have zt0b2 := T0B.out.lt
  go_wp2_with fail
  refine (few_yes hn hm).mono ?_; rintro e0 w1 ⟨rfl, k1⟩
  have K := Lib.hid (K.out.tr k1)
  have T0B := Lib.hid (T0B.out.kp k1)
  clear k1 zt0b0 zt0b1 zt0b2
  have zt0b0 := T0B.out.c0
  have zt0b1 := T0B.out.c1
  have zt0b2 := T0B.out.lt
  go_wp2_with fail
  refine (HC0.out _ K.out).mono ?_; rintro e0 w2 ⟨rfl, k2⟩
  have K := Lib.hid (K.out.tr k2)
  have T0B := Lib.hid (T0B.out.kp k2)
  clear k2 zt0b0 zt0b1 zt0b2
  have zt0b0 := T0B.out.c0
  have zt0b1 := T0B.out.c1
  have zt0b2 := T0B.out.lt
  go_wp2
  go_ret
  exact ⟨rfl, K.out⟩

set_option maxHeartbeats 8000000 in
set_option maxRecDepth 100000 in
theorem mmunit_far3 (ad : Addr) (B : Option Addr) (c m d : Nat) (x0 x1 : Int) (w : World) (hm : m ≤ 100) (HC0 : Hid (∀ W, Kp w W → Calls Try.prog 18 #[.agg #[.slice (some ad) 2 c, .slice B m d]] W fun e w' => e = .returned (.bool true) ∧ Kp W w')) (CA : Hid (Cl w ad x0)) (CB : Hid (Cl w ⟨ad.block, ad.off + 1, none⟩ x1)) (hx : 8 < x0) :
    Calls Try.prog 4 #[.agg #[.slice (some ad) 2 c, .slice B m d]] w fun e w' => e = .returned (.bool true) ∧ Kp w w' := by
  go_enter Try.func4, Try.ntmps4
  go_wp2_with fail
  refine (mmawake_any _).mono ?_; rintro e0 w0 ⟨rfl, k0⟩
  have K := Lib.hid ((Kp.alloc_ _ _).tr k0)
  have CA := Lib.hid ((CA.out.alloc_ _).kp k0)
  have CB := Lib.hid ((CB.out.alloc_ _).kp k0)
  have T0B : Hid (Bk w0 (w.heap.size) (some ad) 2 c B m d) := (Bk.new rfl).kp k0
  clear k0
  have zt0b0 := T0B.out.c0
  have zt0b1 := T0B.out.c1
  have zt0b2 := T0B.out.lt
  go_wp2_with fail
  refine (few_yes (n := 2) (by omega) hm).mono ?_; rintro e0 w1 ⟨rfl, k1⟩
  have K := Lib.hid (K.out.tr k1)
  have T0B := Lib.hid (T0B.out.kp k1)
  have CA := Lib.hid (CA.out.kp k1)
  have CB := Lib.hid (CB.out.kp k1)
  clear k1 zt0b0 zt0b1 zt0b2
  have zt0b0 := T0B.out.c0
  have zt0b1 := T0B.out.c1
  have zt0b2 := T0B.out.lt
  go_wp2_with fail
  refine (HC0.out _ K.out).mono ?_; rintro e0 w2 ⟨rfl, k2⟩
  have K := Lib.hid (K.out.tr k2)
  have T0B := Lib.hid (T0B.out.kp k2)
  have CA := Lib.hid (CA.out.kp k2)
  have CB := Lib.hid (CB.out.kp k2)
  clear k2 zt0b0 zt0b1 zt0b2
  have zt0b0 := T0B.out.c0
  have zt0b1 := T0B.out.c1
  have zt0b2 := T0B.out.lt
  have qca0 := CA.out.1
  have qca1 := CA.out.2
  have qcb0 := CB.out.1
  have qcb1 := CB.out.2
  go_wp2
  go_ret
  exact ⟨rfl, K.out⟩

set_option maxHeartbeats 8000000 in
set_option maxRecDepth 100000 in
theorem mmunit_far4 (ad : Addr) (B : Option Addr) (c m d : Nat) (x0 x1 : Int) (w : World) (hm : m ≤ 100) (HC0 : Hid (∀ W, Kp w W → Calls Try.prog 18 #[.agg #[.slice (some ad) 2 c, .slice B m d]] W fun e w' => e = .returned (.bool true) ∧ Kp W w')) (CA : Hid (Cl w ad x0)) (CB : Hid (Cl w ⟨ad.block, ad.off + 1, none⟩ x1)) (hx : ¬ 8 < x0) (hy : 8 < x1) :
    Calls Try.prog 4 #[.agg #[.slice (some ad) 2 c, .slice B m d]] w fun e w' => e = .returned (.bool true) ∧ Kp w w' := by
  go_enter Try.func4, Try.ntmps4
  go_wp2_with fail
  refine (mmawake_any _).mono ?_; rintro e0 w0 ⟨rfl, k0⟩
  have K := Lib.hid ((Kp.alloc_ _ _).tr k0)
  have CA := Lib.hid ((CA.out.alloc_ _).kp k0)
  have CB := Lib.hid ((CB.out.alloc_ _).kp k0)
  have T0B : Hid (Bk w0 (w.heap.size) (some ad) 2 c B m d) := (Bk.new rfl).kp k0
  clear k0
  have zt0b0 := T0B.out.c0
  have zt0b1 := T0B.out.c1
  have zt0b2 := T0B.out.lt
  go_wp2_with fail
  refine (few_yes (n := 2) (by omega) hm).mono ?_; rintro e0 w1 ⟨rfl, k1⟩
  have K := Lib.hid (K.out.tr k1)
  have T0B := Lib.hid (T0B.out.kp k1)
  have CA := Lib.hid (CA.out.kp k1)
  have CB := Lib.hid (CB.out.kp k1)
  clear k1 zt0b0 zt0b1 zt0b2
  have zt0b0 := T0B.out.c0
  have zt0b1 := T0B.out.c1
  have zt0b2 := T0B.out.lt
  go_wp2_with fail
  refine (HC0.out _ K.out).mono ?_; rintro e0 w2 ⟨rfl, k2⟩
  have K := Lib.hid (K.out.tr k2)
  have T0B := Lib.hid (T0B.out.kp k2)
  have CA := Lib.hid (CA.out.kp k2)
  have CB := Lib.hid (CB.out.kp k2)
  clear k2 zt0b0 zt0b1 zt0b2
  have zt0b0 := T0B.out.c0
  have zt0b1 := T0B.out.c1
  have zt0b2 := T0B.out.lt
  have qca0 := CA.out.1
  have qca1 := CA.out.2
  have qcb0 := CB.out.1
  have qcb1 := CB.out.2
  go_wp2
  go_ret
  exact ⟨rfl, K.out⟩

set_option maxHeartbeats 1500000 in
set_option maxRecDepth 100000 in
theorem mmunit_with (ad : Addr) (B : Option Addr) (c m d : Nat) (M KN : Nat) (s xs : List Int) (w : World) (hm : m ≤ 100) (HC0 : Hid (∀ W, Kp w W → Calls Try.prog 18 #[.agg #[.slice (some ad) 2 c, .slice B m d]] W fun e w' => e = .returned (.bool true) ∧ Kp W w')) (CA : Hid (Cl w ad (M : Int))) (CB : Hid (Cl w ⟨ad.block, ad.off + 1, none⟩ (KN : Int))) (T : Hid (TR w (some ad) s B xs)) (LT : Hid (s.length = 2 ∧ xs.length = m)) (hM : ¬ 8 < (M : Int)) (hK : ¬ 8 < (KN : Int))
    (C1 : Hid (∀ W, Kp w W → Calls Try.prog 19 #[.int .i64 (M : Int)] W (RetV [(M : Int), (M : Int)] (unitL M) 2 (M * M) W)))
    (C2 : Hid (∀ W A0 B0 c0 d0, Kp w W → TR W A0 [(M : Int), (M : Int)] B0 (unitL M) → Calls Try.prog 11 #[.agg #[.slice A0 2 c0, .slice B0 (M * M) d0], .agg #[.slice (some ad) 2 c, .slice B m d]] W (RetU s xs 2 m 0 W)))
    (C3 : Hid (∀ W, Kp w W → Calls Try.prog 19 #[.int .i64 (KN : Int)] W (RetV [(KN : Int), (KN : Int)] (unitL KN) 2 (KN * KN) W)))
    (C4 : Hid (∀ W A0 B0 c0 d0, Kp w W → TR W A0 [(KN : Int), (KN : Int)] B0 (unitL KN) → Calls Try.prog 11 #[.agg #[.slice (some ad) 2 c, .slice B m d], .agg #[.slice A0 2 c0, .slice B0 (KN * KN) d0]] W (RetU s xs 2 m 0 W))) :
    Calls Try.prog 4 #[.agg #[.slice (some ad) 2 c, .slice B m d]] w fun e w' => e = .returned (.bool true) ∧ Kp w w' := by
  go_enter Try.func4, Try.ntmps4
  go_wp2_with fail
  refine (mmawake_any _).mono ?_; rintro e0 w0 ⟨rfl, k0⟩
  have K := Lib.hid ((Kp.alloc_ _ _).tr k0)
  have CA := Lib.hid ((CA.out.alloc_ _).kp k0)
  have CB := Lib.hid ((CB.out.alloc_ _).kp k0)
  have T := Lib.hid ((T.out.alloc_ _).kp k0)
  have T0B : Hid (Bk w0 (w.heap.size) (some ad) 2 c B m d) := (Bk.new rfl).kp k0
  clear k0
  have zt0b0 := T0B.out.c0
  have zt0b1 := T0B.out.c1
  have zt0b2 := T0B.out.lt
  go_wp2_with fail
  refine (few_yes (n := 2) (by omega) hm).mono ?_; rintro e0 w1 ⟨rfl, k1⟩
  have K := Lib.hid (K.out.tr k1)
  have T0B := Lib.hid (T0B.out.kp k1)
  have CA := Lib.hid (CA.out.kp k1)
  have CB := Lib.hid (CB.out.kp k1)
  have T := Lib.hid (T.out.kp k1)
  clear k1 zt0b0 zt0b1 zt0b2
  have zt0b0 := T0B.out.c0
  have zt0b1 := T0B.out.c1
  have zt0b2 := T0B.out.lt
  go_wp2_with fail
  refine (HC0.out _ K.out).mono ?_; rintro e0 w2 ⟨rfl, k2⟩
  have K := Lib.hid (K.out.tr k2)
  have T0B := Lib.hid (T0B.out.kp k2)
  have CA := Lib.hid (CA.out.kp k2)
  have CB := Lib.hid (CB.out.kp k2)
  have T := Lib.hid (T.out.kp k2)
  clear k2 zt0b0 zt0b1 zt0b2
  have zt0b0 := T0B.out.c0
  have zt0b1 := T0B.out.c1
  have zt0b2 := T0B.out.lt
  have qca0 := CA.out.1
  have qca1 := CA.out.2
  have qcb0 := CB.out.1
  have qcb1 := CB.out.2
  go_upto_region 4 with fail
  clear zt0b0 zt0b1 zt0b2 qca0 qca1 qcb0 qcb1
  go_cut [4, 5] (fun vb ve wx => ve = .int .i64 0 ∧ ∃ b9 A9 c9 B9 d9, vb = .pointer (some ⟨b9, 0, none⟩) ∧ Hid (Bk wx b9 A9 2 c9 B9 m d9) ∧ Hid (TR wx A9 s B9 xs) ∧ Hid (Kp w2 wx))
  case first =>
    have hdr8 : Hid (Kp w2 w2.drew) := Below.drew (Kp.refl _)
    have HKX : Hid (∀ V, Kp w2 V → V.cell? ⟨w.heap.size, 0, none⟩ = some (.slice (some ad) 2 c) ∧ V.cell? ⟨w.heap.size, 1, none⟩ = some (.slice B m d) ∧ V.cell? ad = some (.int .i64 (M : Int)) ∧ V.cell? ⟨ad.block, ad.off + 1, none⟩ = some (.int .i64 (KN : Int))) := fun V kV => ⟨(T0B.out.kp kV).c0, (T0B.out.kp kV).c1, (CA.out.kp kV).1, (CB.out.kp kV).1⟩
    have s0 := HKX.out _ hdr8.out
    refine wp_region_held_drew (S := fun V => V.cell? ⟨w.heap.size, 0, none⟩ = some (.slice (some ad) 2 c) ∧ V.cell? ⟨w.heap.size, 1, none⟩ = some (.slice B m d) ∧ V.cell? ad = some (.int .i64 (M : Int)) ∧ V.cell? ⟨ad.block, ad.off + 1, none⟩ = some (.int .i64 (KN : Int))) (by kernel_rfl) s0 (fun hHeld => ?_)
    generalize w2.drew = V0 at hdr8 s0 hHeld ⊢
    refine wpAnyH_take (i := 0) (v := .pointer (some ⟨w.heap.size, 0, none⟩)) rfl (by kernel_rfl) (by kernel_rfl) (by kernel_rfl) (fun _ _ _ h => h) (Or.inl ⟨by rfl, fun V hSV => ?_⟩) hHeld ?_
    · (try dsimp only at hSV); go_simp
    try simp only [Act.put, List.setIfInBounds_toArray, List.set_cons_zero, List.set_cons_succ]
    refine wpAnyH_take (i := 1) (v := .slice (some ad) 2 c) rfl (by kernel_rfl) (by kernel_rfl) (by kernel_rfl) (fun _ _ _ h => h) (Or.inl ⟨by rfl, fun V hSV => ?_⟩) hHeld ?_
    · (try dsimp only at hSV); go_simp
    try simp only [Act.put, List.setIfInBounds_toArray, List.set_cons_zero, List.set_cons_succ]
    refine wpAnyH_take (i := 2) (v := .pointer (some ad)) rfl (by kernel_rfl) (by kernel_rfl) (by kernel_rfl) (fun _ _ _ h => h) (Or.inl ⟨by rfl, fun V hSV => ?_⟩) hHeld ?_
    · (try dsimp only at hSV); go_simp
    try simp only [Act.put, List.setIfInBounds_toArray, List.set_cons_zero, List.set_cons_succ]
    refine wpAnyH_take (i := 3) (v := .int .i64 (M : Int)) rfl (by kernel_rfl) (by kernel_rfl) (by kernel_rfl) (fun _ _ _ h => h) (Or.inl ⟨by rfl, fun V hSV => ?_⟩) hHeld ?_
    · (try dsimp only at hSV); go_simp
    try simp only [Act.put, List.setIfInBounds_toArray, List.set_cons_zero, List.set_cons_succ]
    refine wpAnyH_take (i := 5) (v := .agg #[.slice (some ad) 2 c, .slice B m d]) rfl (by kernel_rfl) (by kernel_rfl) (by kernel_rfl) (fun _ _ _ h => h) (Or.inl ⟨by rfl, fun V hSV => ?_⟩) hHeld ?_
    · (try dsimp only at hSV); go_simp
    try simp only [Act.put, List.setIfInBounds_toArray, List.set_cons_zero, List.set_cons_succ]
    refine wpAnyH_ready (rs := [4, 10]) (by kernel_rfl) (by simp) ?_
    refine AllReadyH.cons rfl (fun K9_ hK => ?_) ?_
    · go_simp
      refine (C1.out _ (K.out.tr (hdr8.out))).mono ?_; rintro e0 v1 ⟨A8, c8, B8, d8, rfl, r9, k9⟩
      dsimp only
      have KV1 : Hid (Kp w2 v1) := (hdr8.out).tr k9
      have U8 := Lib.hid r9
      clear r9 k9
      refine hK.out _ _ ?_ (fun hHeld => ?_)
      · exact HKX.out _ (KV1.out)
      clear hK
      try simp only [Act.put, List.setIfInBounds_toArray, List.set_cons_zero, List.set_cons_succ]
      refine wpAnyH_ready (rs := [6, 10]) (by kernel_rfl) (by simp) ?_
      refine AllReadyH.cons rfl (fun K9_ hK => ?_) ?_
      · go_simp
        refine (C2.out _ _ _ _ _ (K.out.tr (KV1.out)) U8.out).mono ?_; rintro e0 v2 ⟨A9, c9, B9, d9, rfl, r9, k9⟩
        dsimp only
        have KV2 : Hid (Kp w2 v2) := (KV1.out).tr k9
        have U8 := Lib.hid (U8.out.kp k9)
        have R9 := Lib.hid r9
        clear r9 k9
        refine hK.out _ _ ?_ (fun hHeld => ?_)
        · exact HKX.out _ (KV2.out)
        clear hK
        try simp only [Act.put, List.setIfInBounds_toArray, List.set_cons_zero, List.set_cons_succ]
        refine wpAnyH_take (i := 7) (v := .tuple #[.agg #[.slice A9 2 c9, .slice B9 m d9], .int .i64 0]) rfl (by kernel_rfl) (by kernel_rfl) (by kernel_rfl) (fun _ _ _ h => h) (Or.inl ⟨by rfl, fun V hSV => ?_⟩) hHeld ?_
        · (try dsimp only at hSV); go_simp
        try simp only [Act.put, List.setIfInBounds_toArray, List.set_cons_zero, List.set_cons_succ]
        refine wpAnyH_take (i := 8) (v := .agg #[.slice A9 2 c9, .slice B9 m d9]) rfl (by kernel_rfl) (by kernel_rfl) (by kernel_rfl) (fun _ _ _ h => h) (Or.inl ⟨by rfl, fun V hSV => ?_⟩) hHeld ?_
        · (try dsimp only at hSV); go_simp
        try simp only [Act.put, List.setIfInBounds_toArray, List.set_cons_zero, List.set_cons_succ]
        refine wpAnyH_take (i := 9) (v := .int .i64 0) rfl (by kernel_rfl) (by kernel_rfl) (by kernel_rfl) (fun _ _ _ h => h) (Or.inl ⟨by rfl, fun V hSV => ?_⟩) hHeld ?_
        · (try dsimp only at hSV); go_simp
        try simp only [Act.put, List.setIfInBounds_toArray, List.set_cons_zero, List.set_cons_succ]
        refine wpAnyH_ready (rs := [10]) (by kernel_rfl) (by simp) ?_
        refine AllReadyH.cons rfl (fun K9_ hK => ?_) AllReadyH.nil
        go_simp
        refine hK.out _ _ ?_ (fun hHeld => ?_)
        · exact HKX.out _ (Kp.al (KV2.out) _)
        clear hK
        try simp only [Act.put, List.setIfInBounds_toArray, List.set_cons_zero, List.set_cons_succ]
        refine wpAnyH_ready (rs := [11]) (by kernel_rfl) (by simp) ?_
        refine AllReadyH.cons rfl (fun K9_ hK => ?_) AllReadyH.nil
        go_simp
        refine hK.out _ _ ?_ (fun hHeld => ?_)
        · exact HKX.out _ (Kp.al (KV2.out) _)
        clear hK
        try simp only [Act.put, List.setIfInBounds_toArray, List.set_cons_zero, List.set_cons_succ]
        refine wpAnyH_ready (rs := [12]) (by kernel_rfl) (by simp) ?_
        refine AllReadyH.cons rfl (fun K9_ hK => ?_) AllReadyH.nil
        go_simp
        refine hK.out _ _ ?_ (fun hHeld => ?_)
        · exact HKX.out _ (Kp.al (KV2.out) _)
        clear hK
        try simp only [Act.put, List.setIfInBounds_toArray, List.set_cons_zero, List.set_cons_succ]
        refine wpAnyH_done (by kernel_rfl) ?_ _
        go_wp2
        go_meet
        exact ⟨rfl, v2.heap.size, A9, c9, B9, d9, rfl, Bk.new rfl, R9.out.alloc_ _, Kp.al (KV2.out) _⟩
      refine AllReadyH.cons rfl (fun K9_ hK => ?_) AllReadyH.nil
      go_simp
      obtain ⟨v3, HW3⟩ : ∃ V9, Hid (V9 = v1.alloc (.cells #[.slice none 0 0, .slice none 0 0] 24)) := ⟨_, rfl⟩
      have KV3 : Hid (Kp w2 v3) := by show Kp w2 v3; rw [HW3.out]; exact Kp.al (KV1.out) _
      have TZ : Hid (Bk v3 v1.heap.size none 0 0 none 0 0) := by show Bk v3 _ _ _ _ _ _ _; rw [HW3.out]; exact Bk.new rfl
      have x8 := U8.out.alloc_ (.cells #[.slice none 0 0, .slice none 0 0] 24)
      rw [← HW3.out] at x8
      have U8 := Lib.hid x8
      clear x8
      have hle3 := (KV1.out).size
      rw [← HW3.out]
      clear HW3
      refine hK.out _ _ ?_ (fun hHeld => ?_)
      · exact HKX.out _ (KV3.out)
      clear hK
      try simp only [Act.put, List.setIfInBounds_toArray, List.set_cons_zero, List.set_cons_succ]
      refine wpAnyH_ready (rs := [6]) (by kernel_rfl) (by simp) ?_
      refine AllReadyH.cons rfl (fun K9_ hK => ?_) AllReadyH.nil
      go_simp
      refine (C2.out _ _ _ _ _ (K.out.tr (KV3.out)) U8.out).mono ?_; rintro e0 v4 ⟨A9, c9, B9, d9, rfl, r9, k9⟩
      dsimp only
      have KV4 : Hid (Kp w2 v4) := (KV3.out).tr k9
      have U8 := Lib.hid (U8.out.kp k9)
      have R9 := Lib.hid r9
      have TZ := Lib.hid (TZ.out.kp k9)
      clear r9 k9
      refine hK.out _ _ ?_ (fun hHeld => ?_)
      · exact HKX.out _ (KV4.out)
      clear hK
      try simp only [Act.put, List.setIfInBounds_toArray, List.set_cons_zero, List.set_cons_succ]
      refine wpAnyH_take (i := 7) (v := .tuple #[.agg #[.slice A9 2 c9, .slice B9 m d9], .int .i64 0]) rfl (by kernel_rfl) (by kernel_rfl) (by kernel_rfl) (fun _ _ _ h => h) (Or.inl ⟨by rfl, fun V hSV => ?_⟩) hHeld ?_
      · (try dsimp only at hSV); go_simp
      try simp only [Act.put, List.setIfInBounds_toArray, List.set_cons_zero, List.set_cons_succ]
      refine wpAnyH_take (i := 8) (v := .agg #[.slice A9 2 c9, .slice B9 m d9]) rfl (by kernel_rfl) (by kernel_rfl) (by kernel_rfl) (fun _ _ _ h => h) (Or.inl ⟨by rfl, fun V hSV => ?_⟩) hHeld ?_
      · (try dsimp only at hSV); go_simp
      try simp only [Act.put, List.setIfInBounds_toArray, List.set_cons_zero, List.set_cons_succ]
      refine wpAnyH_take (i := 9) (v := .int .i64 0) rfl (by kernel_rfl) (by kernel_rfl) (by kernel_rfl) (fun _ _ _ h => h) (Or.inl ⟨by rfl, fun V hSV => ?_⟩) hHeld ?_
      · (try dsimp only at hSV); go_simp
      try simp only [Act.put, List.setIfInBounds_toArray, List.set_cons_zero, List.set_cons_succ]
      have z0 := TZ.out.c0
      have z1 := TZ.out.c1
      have z2 := TZ.out.f0 0
      have z3 := TZ.out.f0 1
      refine wpAnyH_ready (rs := [11]) (by kernel_rfl) (by simp) ?_
      refine AllReadyH.cons rfl (fun K9_ hK => ?_) AllReadyH.nil
      go_simp
      refine hK.out _ _ ?_ (fun hHeld => ?_)
      · exact HKX.out _ (((KV4.out).setCell (p := ⟨v1.heap.size, 0, none⟩) hle3 _).setCell (p := ⟨v1.heap.size, 1, none⟩) hle3 _)
      clear hK
      try simp only [Act.put, List.setIfInBounds_toArray, List.set_cons_zero, List.set_cons_succ]
      refine wpAnyH_ready (rs := [12]) (by kernel_rfl) (by simp) ?_
      refine AllReadyH.cons rfl (fun K9_ hK => ?_) AllReadyH.nil
      go_simp
      refine hK.out _ _ ?_ (fun hHeld => ?_)
      · exact HKX.out _ (((KV4.out).setCell (p := ⟨v1.heap.size, 0, none⟩) hle3 _).setCell (p := ⟨v1.heap.size, 1, none⟩) hle3 _)
      clear hK
      try simp only [Act.put, List.setIfInBounds_toArray, List.set_cons_zero, List.set_cons_succ]
      refine wpAnyH_done (by kernel_rfl) ?_ _
      go_wp2
      go_meet
      exact ⟨rfl, v1.heap.size, A9, c9, B9, d9, rfl, TZ.out.put, R9.out.past TZ.out _ _, (((KV4.out).setCell (p := ⟨v1.heap.size, 0, none⟩) hle3 _).setCell (p := ⟨v1.heap.size, 1, none⟩) hle3 _)⟩
    refine AllReadyH.cons rfl (fun K9_ hK => ?_) AllReadyH.nil
    go_simp
    obtain ⟨v5, HW5⟩ : ∃ V9, Hid (V9 = V0.alloc (.cells #[.slice none 0 0, .slice none 0 0] 24)) := ⟨_, rfl⟩
    have KV5 : Hid (Kp w2 v5) := by show Kp w2 v5; rw [HW5.out]; exact Kp.al (hdr8.out) _
    have TZ : Hid (Bk v5 V0.heap.size none 0 0 none 0 0) := by show Bk v5 _ _ _ _ _ _ _; rw [HW5.out]; exact Bk.new rfl
    have hle5 := (hdr8.out).size
    rw [← HW5.out]
    clear HW5
    refine hK.out _ _ ?_ (fun hHeld => ?_)
    · exact HKX.out _ (KV5.out)
    clear hK
    try simp only [Act.put, List.setIfInBounds_toArray, List.set_cons_zero, List.set_cons_succ]
    refine wpAnyH_ready (rs := [4]) (by kernel_rfl) (by simp) ?_
    refine AllReadyH.cons rfl (fun K9_ hK => ?_) AllReadyH.nil
    go_simp
    refine (C1.out _ (K.out.tr (KV5.out))).mono ?_; rintro e0 v6 ⟨A8, c8, B8, d8, rfl, r9, k9⟩
    dsimp only
    have KV6 : Hid (Kp w2 v6) := (KV5.out).tr k9
    have U8 := Lib.hid r9
    have TZ := Lib.hid (TZ.out.kp k9)
    clear r9 k9
    refine hK.out _ _ ?_ (fun hHeld => ?_)
    · exact HKX.out _ (KV6.out)
    clear hK
    try simp only [Act.put, List.setIfInBounds_toArray, List.set_cons_zero, List.set_cons_succ]
    refine wpAnyH_ready (rs := [6]) (by kernel_rfl) (by simp) ?_
    refine AllReadyH.cons rfl (fun K9_ hK => ?_) AllReadyH.nil
    go_simp
    refine (C2.out _ _ _ _ _ (K.out.tr (KV6.out)) U8.out).mono ?_; rintro e0 v7 ⟨A9, c9, B9, d9, rfl, r9, k9⟩
    dsimp only
    have KV7 : Hid (Kp w2 v7) := (KV6.out).tr k9
    have U8 := Lib.hid (U8.out.kp k9)
    have R9 := Lib.hid r9
    have TZ := Lib.hid (TZ.out.kp k9)
    clear r9 k9
    refine hK.out _ _ ?_ (fun hHeld => ?_)
    · exact HKX.out _ (KV7.out)
    clear hK
    try simp only [Act.put, List.setIfInBounds_toArray, List.set_cons_zero, List.set_cons_succ]
    refine wpAnyH_take (i := 7) (v := .tuple #[.agg #[.slice A9 2 c9, .slice B9 m d9], .int .i64 0]) rfl (by kernel_rfl) (by kernel_rfl) (by kernel_rfl) (fun _ _ _ h => h) (Or.inl ⟨by rfl, fun V hSV => ?_⟩) hHeld ?_
    · (try dsimp only at hSV); go_simp
    try simp only [Act.put, List.setIfInBounds_toArray, List.set_cons_zero, List.set_cons_succ]
    refine wpAnyH_take (i := 8) (v := .agg #[.slice A9 2 c9, .slice B9 m d9]) rfl (by kernel_rfl) (by kernel_rfl) (by kernel_rfl) (fun _ _ _ h => h) (Or.inl ⟨by rfl, fun V hSV => ?_⟩) hHeld ?_
    · (try dsimp only at hSV); go_simp
    try simp only [Act.put, List.setIfInBounds_toArray, List.set_cons_zero, List.set_cons_succ]
    refine wpAnyH_take (i := 9) (v := .int .i64 0) rfl (by kernel_rfl) (by kernel_rfl) (by kernel_rfl) (fun _ _ _ h => h) (Or.inl ⟨by rfl, fun V hSV => ?_⟩) hHeld ?_
    · (try dsimp only at hSV); go_simp
    try simp only [Act.put, List.setIfInBounds_toArray, List.set_cons_zero, List.set_cons_succ]
    have z0 := TZ.out.c0
    have z1 := TZ.out.c1
    have z2 := TZ.out.f0 0
    have z3 := TZ.out.f0 1
    refine wpAnyH_ready (rs := [11]) (by kernel_rfl) (by simp) ?_
    refine AllReadyH.cons rfl (fun K9_ hK => ?_) AllReadyH.nil
    go_simp
    refine hK.out _ _ ?_ (fun hHeld => ?_)
    · exact HKX.out _ (((KV7.out).setCell (p := ⟨V0.heap.size, 0, none⟩) hle5 _).setCell (p := ⟨V0.heap.size, 1, none⟩) hle5 _)
    clear hK
    try simp only [Act.put, List.setIfInBounds_toArray, List.set_cons_zero, List.set_cons_succ]
    refine wpAnyH_ready (rs := [12]) (by kernel_rfl) (by simp) ?_
    refine AllReadyH.cons rfl (fun K9_ hK => ?_) AllReadyH.nil
    go_simp
    refine hK.out _ _ ?_ (fun hHeld => ?_)
    · exact HKX.out _ (((KV7.out).setCell (p := ⟨V0.heap.size, 0, none⟩) hle5 _).setCell (p := ⟨V0.heap.size, 1, none⟩) hle5 _)
    clear hK
    try simp only [Act.put, List.setIfInBounds_toArray, List.set_cons_zero, List.set_cons_succ]
    refine wpAnyH_done (by kernel_rfl) ?_ _
    go_wp2
    go_meet
    exact ⟨rfl, V0.heap.size, A9, c9, B9, d9, rfl, TZ.out.put, R9.out.past TZ.out _ _, (((KV7.out).setCell (p := ⟨V0.heap.size, 0, none⟩) hle5 _).setCell (p := ⟨V0.heap.size, 1, none⟩) hle5 _)⟩
  case rest =>
    obtain ⟨rfl, b_P, A_P, c_P, B_P, d_P, rfl, PB, P, k_P⟩ := hcut
    have K := Lib.hid (K.out.tr k_P.out)
    have T0B := Lib.hid (T0B.out.kp k_P.out)
    have CA := Lib.hid (CA.out.kp k_P.out)
    have CB := Lib.hid (CB.out.kp k_P.out)
    have T := Lib.hid (T.out.kp k_P.out)
    clear k_P
    go_upto_region 5 with fail
    go_cut [6, 7] (fun vb ve wx => ve = .int .i64 0 ∧ ∃ b9 A9 c9 B9 d9, vb = .pointer (some ⟨b9, 0, none⟩) ∧ Hid (Bk wx b9 A9 2 c9 B9 m d9) ∧ Hid (TR wx A9 s B9 xs) ∧ Hid (Kp wc wx))
    case first =>
      have hdr8 : Hid (Kp wc wc.drew) := Below.drew (Kp.refl _)
      have HKX : Hid (∀ V, Kp wc V → V.cell? ⟨w.heap.size, 0, none⟩ = some (.slice (some ad) 2 c) ∧ V.cell? ⟨w.heap.size, 1, none⟩ = some (.slice B m d) ∧ V.cell? ad = some (.int .i64 (M : Int)) ∧ V.cell? ⟨ad.block, ad.off + 1, none⟩ = some (.int .i64 (KN : Int))) := fun V kV => ⟨(T0B.out.kp kV).c0, (T0B.out.kp kV).c1, (CA.out.kp kV).1, (CB.out.kp kV).1⟩
      have s0 := HKX.out _ hdr8.out
      refine wp_region_held_drew (S := fun V => V.cell? ⟨w.heap.size, 0, none⟩ = some (.slice (some ad) 2 c) ∧ V.cell? ⟨w.heap.size, 1, none⟩ = some (.slice B m d) ∧ V.cell? ad = some (.int .i64 (M : Int)) ∧ V.cell? ⟨ad.block, ad.off + 1, none⟩ = some (.int .i64 (KN : Int))) (by kernel_rfl) s0 (fun hHeld => ?_)
      generalize wc.drew = V0 at hdr8 s0 hHeld ⊢
      refine wpAnyH_take (i := 0) (v := .agg #[.slice (some ad) 2 c, .slice B m d]) rfl (by kernel_rfl) (by kernel_rfl) (by kernel_rfl) (fun _ _ _ h => h) (Or.inl ⟨by rfl, fun V hSV => ?_⟩) hHeld ?_
      · (try dsimp only at hSV); go_simp
      try simp only [Act.put, List.setIfInBounds_toArray, List.set_cons_zero, List.set_cons_succ]
      refine wpAnyH_take (i := 1) (v := .pointer (some ⟨w.heap.size, 0, none⟩)) rfl (by kernel_rfl) (by kernel_rfl) (by kernel_rfl) (fun _ _ _ h => h) (Or.inl ⟨by rfl, fun V hSV => ?_⟩) hHeld ?_
      · (try dsimp only at hSV); go_simp
      try simp only [Act.put, List.setIfInBounds_toArray, List.set_cons_zero, List.set_cons_succ]
      refine wpAnyH_take (i := 2) (v := .slice (some ad) 2 c) rfl (by kernel_rfl) (by kernel_rfl) (by kernel_rfl) (fun _ _ _ h => h) (Or.inl ⟨by rfl, fun V hSV => ?_⟩) hHeld ?_
      · (try dsimp only at hSV); go_simp
      try simp only [Act.put, List.setIfInBounds_toArray, List.set_cons_zero, List.set_cons_succ]
      refine wpAnyH_take (i := 3) (v := .pointer (some ⟨ad.block, ad.off + 1, none⟩)) rfl (by kernel_rfl) (by kernel_rfl) (by kernel_rfl) (fun _ _ _ h => h) (Or.inl ⟨by rfl, fun V hSV => ?_⟩) hHeld ?_
      · (try dsimp only at hSV); go_simp
      try simp only [Act.put, List.setIfInBounds_toArray, List.set_cons_zero, List.set_cons_succ]
      refine wpAnyH_take (i := 4) (v := .int .i64 (KN : Int)) rfl (by kernel_rfl) (by kernel_rfl) (by kernel_rfl) (fun _ _ _ h => h) (Or.inl ⟨by rfl, fun V hSV => ?_⟩) hHeld ?_
      · (try dsimp only at hSV); go_simp
      try simp only [Act.put, List.setIfInBounds_toArray, List.set_cons_zero, List.set_cons_succ]
      refine wpAnyH_ready (rs := [5, 10]) (by kernel_rfl) (by simp) ?_
      refine AllReadyH.cons rfl (fun K9_ hK => ?_) ?_
      · go_simp
        refine (C3.out _ (K.out.tr (hdr8.out))).mono ?_; rintro e0 v1 ⟨A8, c8, B8, d8, rfl, r9, k9⟩
        dsimp only
        have KV1 : Hid (Kp wc v1) := (hdr8.out).tr k9
        have U8 := Lib.hid r9
        clear r9 k9
        refine hK.out _ _ ?_ (fun hHeld => ?_)
        · exact HKX.out _ (KV1.out)
        clear hK
        try simp only [Act.put, List.setIfInBounds_toArray, List.set_cons_zero, List.set_cons_succ]
        refine wpAnyH_ready (rs := [6, 10]) (by kernel_rfl) (by simp) ?_
        refine AllReadyH.cons rfl (fun K9_ hK => ?_) ?_
        · go_simp
          refine (C4.out _ _ _ _ _ (K.out.tr (KV1.out)) U8.out).mono ?_; rintro e0 v2 ⟨A9, c9, B9, d9, rfl, r9, k9⟩
          dsimp only
          have KV2 : Hid (Kp wc v2) := (KV1.out).tr k9
          have U8 := Lib.hid (U8.out.kp k9)
          have R9 := Lib.hid r9
          clear r9 k9
          refine hK.out _ _ ?_ (fun hHeld => ?_)
          · exact HKX.out _ (KV2.out)
          clear hK
          try simp only [Act.put, List.setIfInBounds_toArray, List.set_cons_zero, List.set_cons_succ]
          refine wpAnyH_take (i := 7) (v := .tuple #[.agg #[.slice A9 2 c9, .slice B9 m d9], .int .i64 0]) rfl (by kernel_rfl) (by kernel_rfl) (by kernel_rfl) (fun _ _ _ h => h) (Or.inl ⟨by rfl, fun V hSV => ?_⟩) hHeld ?_
          · (try dsimp only at hSV); go_simp
          try simp only [Act.put, List.setIfInBounds_toArray, List.set_cons_zero, List.set_cons_succ]
          refine wpAnyH_take (i := 8) (v := .agg #[.slice A9 2 c9, .slice B9 m d9]) rfl (by kernel_rfl) (by kernel_rfl) (by kernel_rfl) (fun _ _ _ h => h) (Or.inl ⟨by rfl, fun V hSV => ?_⟩) hHeld ?_
          · (try dsimp only at hSV); go_simp
          try simp only [Act.put, List.setIfInBounds_toArray, List.set_cons_zero, List.set_cons_succ]
          refine wpAnyH_take (i := 9) (v := .int .i64 0) rfl (by kernel_rfl) (by kernel_rfl) (by kernel_rfl) (fun _ _ _ h => h) (Or.inl ⟨by rfl, fun V hSV => ?_⟩) hHeld ?_
          · (try dsimp only at hSV); go_simp
          try simp only [Act.put, List.setIfInBounds_toArray, List.set_cons_zero, List.set_cons_succ]
          refine wpAnyH_ready (rs := [10]) (by kernel_rfl) (by simp) ?_
          refine AllReadyH.cons rfl (fun K9_ hK => ?_) AllReadyH.nil
          go_simp
          refine hK.out _ _ ?_ (fun hHeld => ?_)
          · exact HKX.out _ (Kp.al (KV2.out) _)
          clear hK
          try simp only [Act.put, List.setIfInBounds_toArray, List.set_cons_zero, List.set_cons_succ]
          refine wpAnyH_ready (rs := [11]) (by kernel_rfl) (by simp) ?_
          refine AllReadyH.cons rfl (fun K9_ hK => ?_) AllReadyH.nil
          go_simp
          refine hK.out _ _ ?_ (fun hHeld => ?_)
          · exact HKX.out _ (Kp.al (KV2.out) _)
          clear hK
          try simp only [Act.put, List.setIfInBounds_toArray, List.set_cons_zero, List.set_cons_succ]
          refine wpAnyH_ready (rs := [12]) (by kernel_rfl) (by simp) ?_
          refine AllReadyH.cons rfl (fun K9_ hK => ?_) AllReadyH.nil
          go_simp
          refine hK.out _ _ ?_ (fun hHeld => ?_)
          · exact HKX.out _ (Kp.al (KV2.out) _)
          clear hK
          try simp only [Act.put, List.setIfInBounds_toArray, List.set_cons_zero, List.set_cons_succ]
          refine wpAnyH_done (by kernel_rfl) ?_ _
          go_wp2
          go_meet
          exact ⟨rfl, v2.heap.size, A9, c9, B9, d9, rfl, Bk.new rfl, R9.out.alloc_ _, Kp.al (KV2.out) _⟩
        refine AllReadyH.cons rfl (fun K9_ hK => ?_) AllReadyH.nil
        go_simp
        obtain ⟨v3, HW3⟩ : ∃ V9, Hid (V9 = v1.alloc (.cells #[.slice none 0 0, .slice none 0 0] 24)) := ⟨_, rfl⟩
        have KV3 : Hid (Kp wc v3) := by show Kp wc v3; rw [HW3.out]; exact Kp.al (KV1.out) _
        have TZ : Hid (Bk v3 v1.heap.size none 0 0 none 0 0) := by show Bk v3 _ _ _ _ _ _ _; rw [HW3.out]; exact Bk.new rfl
        have x8 := U8.out.alloc_ (.cells #[.slice none 0 0, .slice none 0 0] 24)
        rw [← HW3.out] at x8
        have U8 := Lib.hid x8
        clear x8
        have hle3 := (KV1.out).size
        rw [← HW3.out]
        clear HW3
        refine hK.out _ _ ?_ (fun hHeld => ?_)
        · exact HKX.out _ (KV3.out)
        clear hK
        try simp only [Act.put, List.setIfInBounds_toArray, List.set_cons_zero, List.set_cons_succ]
        refine wpAnyH_ready (rs := [6]) (by kernel_rfl) (by simp) ?_
        refine AllReadyH.cons rfl (fun K9_ hK => ?_) AllReadyH.nil
        go_simp
        refine (C4.out _ _ _ _ _ (K.out.tr (KV3.out)) U8.out).mono ?_; rintro e0 v4 ⟨A9, c9, B9, d9, rfl, r9, k9⟩
        dsimp only
        have KV4 : Hid (Kp wc v4) := (KV3.out).tr k9
        have U8 := Lib.hid (U8.out.kp k9)
        have R9 := Lib.hid r9
        have TZ := Lib.hid (TZ.out.kp k9)
        clear r9 k9
        refine hK.out _ _ ?_ (fun hHeld => ?_)
        · exact HKX.out _ (KV4.out)
        clear hK
        try simp only [Act.put, List.setIfInBounds_toArray, List.set_cons_zero, List.set_cons_succ]
        refine wpAnyH_take (i := 7) (v := .tuple #[.agg #[.slice A9 2 c9, .slice B9 m d9], .int .i64 0]) rfl (by kernel_rfl) (by kernel_rfl) (by kernel_rfl) (fun _ _ _ h => h) (Or.inl ⟨by rfl, fun V hSV => ?_⟩) hHeld ?_
        · (try dsimp only at hSV); go_simp
        try simp only [Act.put, List.setIfInBounds_toArray, List.set_cons_zero, List.set_cons_succ]
        refine wpAnyH_take (i := 8) (v := .agg #[.slice A9 2 c9, .slice B9 m d9]) rfl (by kernel_rfl) (by kernel_rfl) (by kernel_rfl) (fun _ _ _ h => h) (Or.inl ⟨by rfl, fun V hSV => ?_⟩) hHeld ?_
        · (try dsimp only at hSV); go_simp
        try simp only [Act.put, List.setIfInBounds_toArray, List.set_cons_zero, List.set_cons_succ]
        refine wpAnyH_take (i := 9) (v := .int .i64 0) rfl (by kernel_rfl) (by kernel_rfl) (by kernel_rfl) (fun _ _ _ h => h) (Or.inl ⟨by rfl, fun V hSV => ?_⟩) hHeld ?_
        · (try dsimp only at hSV); go_simp
        try simp only [Act.put, List.setIfInBounds_toArray, List.set_cons_zero, List.set_cons_succ]
        have z0 := TZ.out.c0
        have z1 := TZ.out.c1
        have z2 := TZ.out.f0 0
        have z3 := TZ.out.f0 1
        refine wpAnyH_ready (rs := [11]) (by kernel_rfl) (by simp) ?_
        refine AllReadyH.cons rfl (fun K9_ hK => ?_) AllReadyH.nil
        go_simp
        refine hK.out _ _ ?_ (fun hHeld => ?_)
        · exact HKX.out _ (((KV4.out).setCell (p := ⟨v1.heap.size, 0, none⟩) hle3 _).setCell (p := ⟨v1.heap.size, 1, none⟩) hle3 _)
        clear hK
        try simp only [Act.put, List.setIfInBounds_toArray, List.set_cons_zero, List.set_cons_succ]
        refine wpAnyH_ready (rs := [12]) (by kernel_rfl) (by simp) ?_
        refine AllReadyH.cons rfl (fun K9_ hK => ?_) AllReadyH.nil
        go_simp
        refine hK.out _ _ ?_ (fun hHeld => ?_)
        · exact HKX.out _ (((KV4.out).setCell (p := ⟨v1.heap.size, 0, none⟩) hle3 _).setCell (p := ⟨v1.heap.size, 1, none⟩) hle3 _)
        clear hK
        try simp only [Act.put, List.setIfInBounds_toArray, List.set_cons_zero, List.set_cons_succ]
        refine wpAnyH_done (by kernel_rfl) ?_ _
        go_wp2
        go_meet
        exact ⟨rfl, v1.heap.size, A9, c9, B9, d9, rfl, TZ.out.put, R9.out.past TZ.out _ _, (((KV4.out).setCell (p := ⟨v1.heap.size, 0, none⟩) hle3 _).setCell (p := ⟨v1.heap.size, 1, none⟩) hle3 _)⟩
      refine AllReadyH.cons rfl (fun K9_ hK => ?_) AllReadyH.nil
      go_simp
      obtain ⟨v5, HW5⟩ : ∃ V9, Hid (V9 = V0.alloc (.cells #[.slice none 0 0, .slice none 0 0] 24)) := ⟨_, rfl⟩
      have KV5 : Hid (Kp wc v5) := by show Kp wc v5; rw [HW5.out]; exact Kp.al (hdr8.out) _
      have TZ : Hid (Bk v5 V0.heap.size none 0 0 none 0 0) := by show Bk v5 _ _ _ _ _ _ _; rw [HW5.out]; exact Bk.new rfl
      have hle5 := (hdr8.out).size
      rw [← HW5.out]
      clear HW5
      refine hK.out _ _ ?_ (fun hHeld => ?_)
      · exact HKX.out _ (KV5.out)
      clear hK
      try simp only [Act.put, List.setIfInBounds_toArray, List.set_cons_zero, List.set_cons_succ]
      refine wpAnyH_ready (rs := [5]) (by kernel_rfl) (by simp) ?_
      refine AllReadyH.cons rfl (fun K9_ hK => ?_) AllReadyH.nil
      go_simp
      refine (C3.out _ (K.out.tr (KV5.out))).mono ?_; rintro e0 v6 ⟨A8, c8, B8, d8, rfl, r9, k9⟩
      dsimp only
      have KV6 : Hid (Kp wc v6) := (KV5.out).tr k9
      have U8 := Lib.hid r9
      have TZ := Lib.hid (TZ.out.kp k9)
      clear r9 k9
      refine hK.out _ _ ?_ (fun hHeld => ?_)
      · exact HKX.out _ (KV6.out)
      clear hK
      try simp only [Act.put, List.setIfInBounds_toArray, List.set_cons_zero, List.set_cons_succ]
      refine wpAnyH_ready (rs := [6]) (by kernel_rfl) (by simp) ?_
      refine AllReadyH.cons rfl (fun K9_ hK => ?_) AllReadyH.nil
      go_simp
      refine (C4.out _ _ _ _ _ (K.out.tr (KV6.out)) U8.out).mono ?_; rintro e0 v7 ⟨A9, c9, B9, d9, rfl, r9, k9⟩
      dsimp only
      have KV7 : Hid (Kp wc v7) := (KV6.out).tr k9
      have U8 := Lib.hid (U8.out.kp k9)
      have R9 := Lib.hid r9
      have TZ := Lib.hid (TZ.out.kp k9)
      clear r9 k9
      refine hK.out _ _ ?_ (fun hHeld => ?_)
      · exact HKX.out _ (KV7.out)
      clear hK
      try simp only [Act.put, List.setIfInBounds_toArray, List.set_cons_zero, List.set_cons_succ]
      refine wpAnyH_take (i := 7) (v := .tuple #[.agg #[.slice A9 2 c9, .slice B9 m d9], .int .i64 0]) rfl (by kernel_rfl) (by kernel_rfl) (by kernel_rfl) (fun _ _ _ h => h) (Or.inl ⟨by rfl, fun V hSV => ?_⟩) hHeld ?_
      · (try dsimp only at hSV); go_simp
      try simp only [Act.put, List.setIfInBounds_toArray, List.set_cons_zero, List.set_cons_succ]
      refine wpAnyH_take (i := 8) (v := .agg #[.slice A9 2 c9, .slice B9 m d9]) rfl (by kernel_rfl) (by kernel_rfl) (by kernel_rfl) (fun _ _ _ h => h) (Or.inl ⟨by rfl, fun V hSV => ?_⟩) hHeld ?_
      · (try dsimp only at hSV); go_simp
      try simp only [Act.put, List.setIfInBounds_toArray, List.set_cons_zero, List.set_cons_succ]
      refine wpAnyH_take (i := 9) (v := .int .i64 0) rfl (by kernel_rfl) (by kernel_rfl) (by kernel_rfl) (fun _ _ _ h => h) (Or.inl ⟨by rfl, fun V hSV => ?_⟩) hHeld ?_
      · (try dsimp only at hSV); go_simp
      try simp only [Act.put, List.setIfInBounds_toArray, List.set_cons_zero, List.set_cons_succ]
      have z0 := TZ.out.c0
      have z1 := TZ.out.c1
      have z2 := TZ.out.f0 0
      have z3 := TZ.out.f0 1
      refine wpAnyH_ready (rs := [11]) (by kernel_rfl) (by simp) ?_
      refine AllReadyH.cons rfl (fun K9_ hK => ?_) AllReadyH.nil
      go_simp
      refine hK.out _ _ ?_ (fun hHeld => ?_)
      · exact HKX.out _ (((KV7.out).setCell (p := ⟨V0.heap.size, 0, none⟩) hle5 _).setCell (p := ⟨V0.heap.size, 1, none⟩) hle5 _)
      clear hK
      try simp only [Act.put, List.setIfInBounds_toArray, List.set_cons_zero, List.set_cons_succ]
      refine wpAnyH_ready (rs := [12]) (by kernel_rfl) (by simp) ?_
      refine AllReadyH.cons rfl (fun K9_ hK => ?_) AllReadyH.nil
      go_simp
      refine hK.out _ _ ?_ (fun hHeld => ?_)
      · exact HKX.out _ (((KV7.out).setCell (p := ⟨V0.heap.size, 0, none⟩) hle5 _).setCell (p := ⟨V0.heap.size, 1, none⟩) hle5 _)
      clear hK
      try simp only [Act.put, List.setIfInBounds_toArray, List.set_cons_zero, List.set_cons_succ]
      refine wpAnyH_done (by kernel_rfl) ?_ _
      go_wp2
      go_meet
      exact ⟨rfl, V0.heap.size, A9, c9, B9, d9, rfl, TZ.out.put, R9.out.past TZ.out _ _, (((KV7.out).setCell (p := ⟨V0.heap.size, 0, none⟩) hle5 _).setCell (p := ⟨V0.heap.size, 1, none⟩) hle5 _)⟩
    case rest =>
      obtain ⟨rfl, b_Q, A_Q, c_Q, B_Q, d_Q, rfl, QB, Q, k_Q⟩ := hcut
      have K := Lib.hid (K.out.tr k_Q.out)
      have T0B := Lib.hid (T0B.out.kp k_Q.out)
      have PB := Lib.hid (PB.out.kp k_Q.out)
      have CA := Lib.hid (CA.out.kp k_Q.out)
      have CB := Lib.hid (CB.out.kp k_Q.out)
      have T := Lib.hid (T.out.kp k_Q.out)
      have P := Lib.hid (P.out.kp k_Q.out)
      clear k_Q
      have zt0b0 := T0B.out.c0
      have zt0b1 := T0B.out.c1
      have zt0b2 := T0B.out.lt
      have zpb0 := PB.out.c0
      have zpb1 := PB.out.c1
      have zpb2 := PB.out.lt
      have zqb0 := QB.out.c0
      have zqb1 := QB.out.c1
      have zqb2 := QB.out.lt
      go_wp2_with fail
      refine (tsame_u P.out T.out LT.out.1 LT.out.2).mono ?_; rintro e0 w3 ⟨rfl, k3⟩
      have K := Lib.hid (K.out.tr k3)
      have T0B := Lib.hid (T0B.out.kp k3)
      have PB := Lib.hid (PB.out.kp k3)
      have QB := Lib.hid (QB.out.kp k3)
      have CA := Lib.hid (CA.out.kp k3)
      have CB := Lib.hid (CB.out.kp k3)
      have T := Lib.hid (T.out.kp k3)
      have P := Lib.hid (P.out.kp k3)
      have Q := Lib.hid (Q.out.kp k3)
      clear k3 zt0b0 zt0b1 zt0b2 zpb0 zpb1 zpb2 zqb0 zqb1 zqb2
      have zt0b0 := T0B.out.c0
      have zt0b1 := T0B.out.c1
      have zt0b2 := T0B.out.lt
      have zqb0 := QB.out.c0
      have zqb1 := QB.out.c1
      have zqb2 := QB.out.lt
      go_wp2_with fail
      refine (tsame_u Q.out T.out LT.out.1 LT.out.2).mono ?_; rintro e0 w4 ⟨rfl, k4⟩
      have K := Lib.hid (K.out.tr k4)
      have T0B := Lib.hid (T0B.out.kp k4)
      have PB := Lib.hid (PB.out.kp k4)
      have QB := Lib.hid (QB.out.kp k4)
      have CA := Lib.hid (CA.out.kp k4)
      have CB := Lib.hid (CB.out.kp k4)
      have T := Lib.hid (T.out.kp k4)
      have P := Lib.hid (P.out.kp k4)
      have Q := Lib.hid (Q.out.kp k4)
      clear k4 zt0b0 zt0b1 zt0b2 zqb0 zqb1 zqb2
      go_wp2
      go_ret
      exact ⟨rfl, K.out⟩

theorem mmunit_walk (A B : Option Addr) (c d : Nat) (s xs : List Int) (w : World) (R0 : TR w A s B xs) (I0 : I64s xs) :
    Calls Try.prog 4 #[.agg #[.slice A s.length c, .slice B xs.length d]] w fun e w' => e = .returned (.bool true) ∧ Kp w w' := by
  by_cases f0 : 100 < s.length ∨ 100 < xs.length
  · exact mmunit_far0 A B _ c _ d w  R0.s.len R0.d.len f0
  by_cases b0 : tokV s xs = false
  · exact mmunit_far1 A B _ c _ d w (by omega) (by omega) (Lib.hid fun W k => tcheck_u s xs (R0.kp k) rfl rfl b0)
  have b0 : tokV s xs = true := by simpa using b0
  by_cases hs : s.length = 2
  · obtain ⟨M, K, rfl, m1, m2, k1, k2, hl⟩ := table_of b0 hs
    obtain ⟨ad, rfl, CA, CB⟩ := cl_two R0.s
    have HC0 := Lib.hid fun W (k : Kp w W) => tcheck_u (c := c) (d := d) [(M : Int), (K : Int)] xs (R0.kp k) rfl rfl b0
    by_cases h0 : 8 < (M : Int)
    · exact mmunit_far3 ad B c _ d _ _ w (by omega) HC0 CA CB h0
    by_cases h1 : 8 < (K : Int)
    · exact mmunit_far4 ad B c _ d _ _ w (by omega) HC0 CA CB h0 h1
    exact mmunit_with ad B c _ d M K [(M : Int), (K : Int)] xs w (by omega) HC0 CA CB (Lib.hid R0) (Lib.hid ⟨rfl, rfl⟩) h0 h1
      (Lib.hid fun W k => unit_any M W (by omega) (by omega))
      (Lib.hid fun W A0 B0 c0 d0 k r => pmat_u _ _ _ xs r (R0.kp k) (unit_i64 M) I0 rfl (unit_len M).symm rfl rfl (unit_left b0 I0 (by omega)) rfl rfl)
      (Lib.hid fun W k => unit_any K W (by omega) (by omega))
      (Lib.hid fun W A0 B0 c0 d0 k r => pmat_u _ xs _ _ (R0.kp k) r I0 (unit_i64 K) rfl rfl rfl (unit_len K).symm (unit_right b0 I0 (by omega)) rfl rfl)
  · exact mmunit_far2 A B _ c _ d w (by omega) (by omega) (Lib.hid fun W k => tcheck_u s xs (R0.kp k) rfl rfl b0) hs
end Go.Proofs.Ytepnhmdjglpmeaa
