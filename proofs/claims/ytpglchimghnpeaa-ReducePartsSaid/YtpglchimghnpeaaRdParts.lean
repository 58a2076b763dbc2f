/- The sum of a side is that of the sums of its two parts, and its greatest number the greater one of theirs: the law's call returns true. -/
import Derived.Test.YtpglchimghnpeaaRdAw
import Derived.Test.YtpglchimghnpeaaRdL
namespace Go.Proofs.Ytpglchimghnpeaa
open Go.RowKit Go.Proofs.ShM
set_option linter.unusedVariables false
set_option linter.unusedSimpArgs false

/-- A number's cell. -/
def Ce (W : World) (a : Addr) (v : Int) : Prop := W.cell? a = some (.int .i64 v) ∧ a.block < W.heap.size
theorem Ce.kp {W W' : World} {a : Addr} {v : Int} (h : Ce W a v) (k : Kp W W') : Ce W' a v := ⟨(k.cell h.2).trans h.1, Nat.lt_of_lt_of_le h.2 k.size⟩
theorem Ce.alloc_ {W : World} {a : Addr} {v : Int} (h : Ce W a v) (o : Obj) : Ce (W.alloc o) a v := h.kp (Kp.alloc_ _ _)
theorem ce_of {W : World} {A : Option Addr} {xs : List Int} {k : Nat} {v : Int} (h : Rd W A xs) (hx : xs[k]? = some v) : ∃ a, Hid (Ce W (a.add k) v) ∧ A = some a := by
  obtain ⟨a, x, e, hb, hx', hc⟩ := h.at_ (List.getElem?_eq_some_iff.1 hx).1
  obtain rfl : v = x := by rw [hx] at hx'; exact Option.some.inj hx'
  exact ⟨a, ⟨hc, by rw [block_of_add]; exact hb⟩, e⟩
section
variable {A B C D : Option Addr} {c d e f n m p q a b : Nat} {l k : List Int} {err : Int} {w : World}
theorem pslice_uc (s xs : List Int) (x y z : Int) (h : TR w A s B xs) (hn : n = s.length) (hm : m = xs.length) (hr : sliceV s xs x y z = (l, k, 0)) (ha : l.length = a) (hb : k.length = b) :
    Calls Try.prog 20 #[.agg #[.slice A n c, .slice B m d], .int .i64 x, .int .i64 y, .int .i64 z] w (RetUc l k a b 0 w) := by
  subst hn hm
  exact (pslice_own A B c d s xs x y z w h.s h.d).mono fun _ _ r => r.uc hr ha hb
end

set_option maxHeartbeats 4000000 in
set_option maxRecDepth 100000 in
theorem rparts_far0 (A B : Option Addr) (n c m d : Nat) (q1 y1 : Int) (w : World) (zn : n ≤ 9223372036854775807) (zm : m ≤ 9223372036854775807) (hf : 100 < n ∨ 100 < m) :
    Calls Try.prog 5 #[.agg #[.slice A n c, .slice B m d], .int .i64 q1, .int .u8 y1] w fun e w' => e = .returned (.bool true) ∧ Kp w w' := by
  have HN : Hid (∀ W, Calls Try.prog 7 #[.agg #[.slice A n c, .slice B m d]] W fun e w' => e = .returned (.bool false) ∧ Kp W w') := fun W => few_no zn zm hf
  clear hf
  go_enter Try.func5, Try.ntmps5
  go_wp2_with fail
  refine (rdawake_any _).mono ?_; rintro e0 w0 ⟨rfl, k0⟩
  have K := Lib.hid ((Kp.alloc_ _ _).tr k0)
  have T0B : Hid (Bk w0 (w.heap.size) A n c B m d) := (Bk.new rfl).kp k0
  clear k0
  have zt0b0 := T0B.out.c0
  have zt0b1 := T0B.out.c1
  have zt0b2 := T0B.out.lt
  go_wp2_with fail
  refine (HN.out _).mono ?_; rintro e0 w1 ⟨rfl, k1⟩
  have K := Lib.hid (K.out.tr k1)
  have T0B := Lib.hid (T0B.out.kp k1)
  clear k1 zt0b0 zt0b1 zt0b2
  have zt0b0 := T0B.out.c0
  have zt0b1 := T0B.out.c1
  have zt0b2 := T0B.out.lt
  go_wp2
  go_ret
  exact ⟨rfl, K.out⟩

set_option maxHeartbeats 4000000 in
set_option maxRecDepth 100000 in
theorem rparts_far1 (A B : Option Addr) (n c m d : Nat) (q1 y1 : Int) (w : World) (hn : n ≤ 100) (hm : m ≤ 100) (HC0 : Hid (∀ W, Kp w W → Calls Try.prog 19 #[.agg #[.slice A n c, .slice B m d]] W fun e w' => e = .returned (.bool false) ∧ Kp W w')) :
    Calls Try.prog 5 #[.agg #[.slice A n c, .slice B m d], .int .i64 q1, .int .u8 y1] w fun e w' => e = .returned (.bool true) ∧ Kp w w' := by
  go_enter Try.func5, Try.ntmps5
  go_wp2_with fail
  refine (rdawake_any _).mono ?_; rintro e0 w0 ⟨rfl, k0⟩
  have K := Lib.hid ((Kp.alloc_ _ _).tr k0)
  have T0B : Hid (Bk w0 (w.heap.size) A n c B m d) := (Bk.new rfl).kp k0
  clear k0
  have zt0b0 := T0B.out.c0
  have zt0b1 := T0B.out.c1
  have zt0b2 := T0B.out.lt
  go_wp2_with fail
  refine (few_yes hn hm).mono ?_; rintro e0 w1 ⟨rfl, k1⟩
  have K := Lib.hid (K.out.tr k1)
  have T0B := Lib.hid (T0B.out.kp k1)
  clear k1 zt0b0 zt0b1 zt0b2
  have zt0b0 := T0B.out.c0
  have zt0b1 := T0B.out.c1
  have zt0b2 := T0B.out.lt
  go_wp2_with fail
  refine (HC0.out _ K.out).mono ?_; rintro e0 w2 ⟨rfl, k2⟩
  have K := Lib.hid (K.out.tr k2)
  have T0B := Lib.hid (T0B.out.kp k2)
  clear k2 zt0b0 zt0b1 zt0b2
  have zt0b0 := T0B.out.c0
  have zt0b1 := T0B.out.c1
  have zt0b2 := T0B.out.lt
  go_wp2
  go_ret
  exact ⟨rfl, K.out⟩

set_option maxHeartbeats 8000000 in
set_option maxRecDepth 100000 in
theorem rparts_far2 (A B : Option Addr) (n c m d : Nat) (q1 y1 : Int) (w : World) (hn : n ≤ 100) (hm : m ≤ 100) (HC0 : Hid (∀ W, Kp w W → Calls Try.prog 19 #[.agg #[.slice A n c, .slice B m d]] W fun e w' => e = .returned (.bool true) ∧ Kp W w')) (hx : q1 < 0) :
    Calls Try.prog 5 #[.agg #[.slice A n c, .slice B m d], .int .i64 q1, .int .u8 y1] w fun e w' => e = .returned (.bool true) ∧ Kp w w' := by
  go_enter Try.func5, Try.ntmps5
  go_wp2_with fail
  refine (rdawake_any _).mono ?_; rintro e0 w0 ⟨rfl, k0⟩
  have K := Lib.hid ((Kp.alloc_ _ _).tr k0)
  have T0B : Hid (Bk w0 (w.heap.size) A n c B m d) := (Bk.new rfl).kp k0
  clear k0
  have zt0b0 := T0B.out.c0
  have zt0b1 := T0B.out.c1
  have zt0b2 := T0B.out.lt
  go_wp2_with fail
  refine (few_yes hn hm).mono ?_; rintro e0 w1 ⟨rfl, k1⟩
  have K := Lib.hid (K.out.tr k1)
  have T0B := Lib.hid (T0B.out.kp k1)
  clear k1 zt0b0 zt0b1 zt0b2
  have zt0b0 := T0B.out.c0
  have zt0b1 := T0B.out.c1
  have zt0b2 := T0B.out.lt
  go_wp2_with fail
  refine (HC0.out _ K.out).mono ?_; rintro e0 w2 ⟨rfl, k2⟩
  have K := Lib.hid (K.out.tr k2)
  have T0B := Lib.hid (T0B.out.kp k2)
  clear k2 zt0b0 zt0b1 zt0b2
  have zt0b0 := T0B.out.c0
  have zt0b1 := T0B.out.c1
  have zt0b2 := T0B.out.lt
  go_wp2
  go_ret
  exact ⟨rfl, K.out⟩

set_option maxHeartbeats 8000000 in
set_option maxRecDepth 100000 in
theorem rparts_far3 (A B : Option Addr) (n c m d : Nat) (q1 y1 : Int) (w : World) (hn : n ≤ 100) (hm : m ≤ 100) (HC0 : Hid (∀ W, Kp w W → Calls Try.prog 19 #[.agg #[.slice A n c, .slice B m d]] W fun e w' => e = .returned (.bool true) ∧ Kp W w')) (hx0 : ¬ q1 < 0) (hx : (n : Int) ≤ q1) :
    Calls Try.prog 5 #[.agg #[.slice A n c, .slice B m d], .int .i64 q1, .int .u8 y1] w fun e w' => e = .returned (.bool true) ∧ Kp w w' := by
  go_enter Try.func5, Try.ntmps5
  go_wp2_with fail
  refine (rdawake_any _).mono ?_; rintro e0 w0 ⟨rfl, k0⟩
  have K := Lib.hid ((Kp.alloc_ _ _).tr k0)
  have T0B : Hid (Bk w0 (w.heap.size) A n c B m d) := (Bk.new rfl).kp k0
  clear k0
  have zt0b0 := T0B.out.c0
  have zt0b1 := T0B.out.c1
  have zt0b2 := T0B.out.lt
  go_wp2_with fail
  refine (few_yes hn hm).mono ?_; rintro e0 w1 ⟨rfl, k1⟩
  have K := Lib.hid (K.out.tr k1)
  have T0B := Lib.hid (T0B.out.kp k1)
  clear k1 zt0b0 zt0b1 zt0b2
  have zt0b0 := T0B.out.c0
  have zt0b1 := T0B.out.c1
  have zt0b2 := T0B.out.lt
  go_wp2_with fail
  refine (HC0.out _ K.out).mono ?_; rintro e0 w2 ⟨rfl, k2⟩
  have K := Lib.hid (K.out.tr k2)
  have T0B := Lib.hid (T0B.out.kp k2)
  clear k2 zt0b0 zt0b1 zt0b2
  have zt0b0 := T0B.out.c0
  have zt0b1 := T0B.out.c1
  have zt0b2 := T0B.out.lt
  go_wp2
  go_ret
  exact ⟨rfl, K.out⟩

set_option maxHeartbeats 8000000 in
set_option maxRecDepth 100000 in
theorem rparts_far4 (A B : Option Addr) (n c m d : Nat) (k : Nat) (y1 : Int) (s xs : List Int) (sd : Int) (w : World) (hn : n ≤ 100) (hm : m ≤ 100) (HC0 : Hid (∀ W, Kp w W → Calls Try.prog 19 #[.agg #[.slice A n c, .slice B m d]] W fun e w' => e = .returned (.bool true) ∧ Kp W w')) (HT : Hid (TR w A s B xs)) (HSX : Hid (s[k]? = some sd)) (hk : k < n) (hx : sd < 2) :
    Calls Try.prog 5 #[.agg #[.slice A n c, .slice B m d], .int .i64 (k : Int), .int .u8 y1] w fun e w' => e = .returned (.bool true) ∧ Kp w w' := by
  have j1 : (0 : Int) ≤ (k : Int) := by omega
  have j2 : (k : Int) < (n : Int) := by omega
  have hx0 : ¬ (k : Int) < 0 := by omega
  have hx1 : ¬ (n : Int) ≤ (k : Int) := by omega
  have hxn : ¬ n ≤ k := by omega
  obtain ⟨ad, CA, rfl⟩ := ce_of HT.out.s HSX.out
  go_enter Try.func5, Try.ntmps5
  go_wp2_with fail
  refine (rdawake_any _).mono ?_; rintro e0 w0 ⟨rfl, k0⟩
  have K := Lib.hid ((Kp.alloc_ _ _).tr k0)
  have CA := Lib.hid ((CA.out.alloc_ _).kp k0)
  have HT := Lib.hid ((HT.out.alloc_ _).kp k0)
  have T0B : Hid (Bk w0 (w.heap.size) (some ad) n c B m d) := (Bk.new rfl).kp k0
  clear k0
  have zt0b0 := T0B.out.c0
  have zt0b1 := T0B.out.c1
  have zt0b2 := T0B.out.lt
  go_wp2_with fail
  refine (few_yes hn hm).mono ?_; rintro e0 w1 ⟨rfl, k1⟩
  have K := Lib.hid (K.out.tr k1)
  have T0B := Lib.hid (T0B.out.kp k1)
  have CA := Lib.hid (CA.out.kp k1)
  have HT := Lib.hid (HT.out.kp k1)
  clear k1 zt0b0 zt0b1 zt0b2
  have zt0b0 := T0B.out.c0
  have zt0b1 := T0B.out.c1
  have zt0b2 := T0B.out.lt
  go_wp2_with fail
  refine (HC0.out _ K.out).mono ?_; rintro e0 w2 ⟨rfl, k2⟩
  have K := Lib.hid (K.out.tr k2)
  have T0B := Lib.hid (T0B.out.kp k2)
  have CA := Lib.hid (CA.out.kp k2)
  have HT := Lib.hid (HT.out.kp k2)
  clear k2 zt0b0 zt0b1 zt0b2
  have zt0b0 := T0B.out.c0
  have zt0b1 := T0B.out.c1
  have zt0b2 := T0B.out.lt
  have hce := CA.out.1
  have hcl := CA.out.2
  go_wp2
  go_ret
  exact ⟨rfl, K.out⟩

set_option maxHeartbeats 8000000 in
set_option maxRecDepth 100000 in
theorem rparts_far5 (A B : Option Addr) (n c m d : Nat) (k : Nat) (y1 : Int) (s xs : List Int) (sd : Int) (w : World) (hn : n ≤ 100) (hm : m ≤ 100) (HC0 : Hid (∀ W, Kp w W → Calls Try.prog 19 #[.agg #[.slice A n c, .slice B m d]] W fun e w' => e = .returned (.bool true) ∧ Kp W w')) (HT : Hid (TR w A s B xs)) (HL : Hid (xs.length = m)) (HSX : Hid (s[k]? = some sd)) (hk : k < n) (hx : ¬ sd < 2) (hbig : Hid (¬ Sm 1099511627776 xs)) :
    Calls Try.prog 5 #[.agg #[.slice A n c, .slice B m d], .int .i64 (k : Int), .int .u8 y1] w fun e w' => e = .returned (.bool true) ∧ Kp w w' := by
  have j1 : (0 : Int) ≤ (k : Int) := by omega
  have j2 : (k : Int) < (n : Int) := by omega
  have hx0 : ¬ (k : Int) < 0 := by omega
  have hx1 : ¬ (n : Int) ≤ (k : Int) := by omega
  have hxn : ¬ n ≤ k := by omega
  obtain ⟨ad, CA, rfl⟩ := ce_of HT.out.s HSX.out
  go_enter Try.func5, Try.ntmps5
  go_wp2_with fail
  refine (rdawake_any _).mono ?_; rintro e0 w0 ⟨rfl, k0⟩
  have K := Lib.hid ((Kp.alloc_ _ _).tr k0)
  have CA := Lib.hid ((CA.out.alloc_ _).kp k0)
  have HT := Lib.hid ((HT.out.alloc_ _).kp k0)
  have T0B : Hid (Bk w0 (w.heap.size) (some ad) n c B m d) := (Bk.new rfl).kp k0
  clear k0
  have zt0b0 := T0B.out.c0
  have zt0b1 := T0B.out.c1
  have zt0b2 := T0B.out.lt
  go_wp2_with fail
  refine (few_yes hn hm).mono ?_; rintro e0 w1 ⟨rfl, k1⟩
  have K := Lib.hid (K.out.tr k1)
  have T0B := Lib.hid (T0B.out.kp k1)
  have CA := Lib.hid (CA.out.kp k1)
  have HT := Lib.hid (HT.out.kp k1)
  clear k1 zt0b0 zt0b1 zt0b2
  have zt0b0 := T0B.out.c0
  have zt0b1 := T0B.out.c1
  have zt0b2 := T0B.out.lt
  go_wp2_with fail
  refine (HC0.out _ K.out).mono ?_; rintro e0 w2 ⟨rfl, k2⟩
  have K := Lib.hid (K.out.tr k2)
  have T0B := Lib.hid (T0B.out.kp k2)
  have CA := Lib.hid (CA.out.kp k2)
  have HT := Lib.hid (HT.out.kp k2)
  clear k2 zt0b0 zt0b1 zt0b2
  have zt0b0 := T0B.out.c0
  have zt0b1 := T0B.out.c1
  have zt0b2 := T0B.out.lt
  have hce := CA.out.1
  have hcl := CA.out.2
  have t0 := T0B.out.c0
  have t1 := T0B.out.c1
  go_wp2
  go_loopw [8] (fun i wr => ∃ (i' : Nat), i = .int .i64 i' ∧ Hid (i' ≤ m) ∧ Hid (∀ j, j < i' → -1099511627776 ≤ xs.getD j 0 ∧ xs.getD j 0 ≤ 1099511627776) ∧ Hid (wr = w2)) (fun i _ => m - (intOf i).toNat)
  case atStart => exact ⟨0, rfl, Lib.hid (Nat.zero_le _), Lib.hid (fun j hj => absurd hj (Nat.not_lt_zero _)), Lib.hid rfl⟩
  case round =>
    obtain ⟨i, rfl, hil, hsm, hw0⟩ := hrel
    obtain rfl : w2 = wr := hw0.out.symm
    have hil' : i ≤ m := hil.out
    by_cases hlt : i < m
    · obtain ⟨ax, v, eax, hbv, hv, hcv⟩ := HT.out.d.at_ (k := i) (by rw [HL.out]; exact hlt)
      have i1 : (0 : Int) ≤ (i : Int) := by omega
      have i2 : (i : Int) < (m : Int) := by omega
      subst eax
      by_cases c1 : v < -1099511627776
      · have c1' : (decide (v < -1099511627776)) = true := by simpa using c1
        clear hv c1
        go_wp2
        go_ret
        exact ⟨rfl, K.out⟩
      · have c1' : (decide (v < -1099511627776)) = false := by simpa using c1
        by_cases c2 : 1099511627776 < v
        · have c2' : (decide (1099511627776 < v)) = true := by simpa using c2
          clear hv c1 c2
          go_wp2
          go_ret
          exact ⟨rfl, K.out⟩
        · have c2' : (decide (1099511627776 < v)) = false := by simpa using c2
          have HS : Hid (∀ j, j < i + 1 → -1099511627776 ≤ xs.getD j 0 ∧ xs.getD j 0 ≤ 1099511627776) := fun j hj => by
            by_cases e : j = i
            · subst e; rw [List.getD, hv]; exact ⟨by show _ ≤ v; omega, by show v ≤ _; omega⟩
            · exact hsm.out j (by omega)
          clear hv c1 c2
          go_wp2
          go_roundw
          case rel => exact ⟨i + 1, by go_num, Lib.hid hlt, HS.out, by first | exact Lib.hid rfl | exact Lib.hid trivial⟩
          case measure => simp [intOf]; omega
    · exact absurd (fun j hj => hsm.out j (by rw [HL.out] at hj; omega)) hbig.out

set_option maxHeartbeats 8000000 in
set_option maxRecDepth 100000 in
theorem rparts_with (A B : Option Addr) (n c m d : Nat) (k : Nat) (y1 : Int) (s xs g1 x1 g2 x2 e kx ky ks kp kq kw : List Int) (b1 b2 ne N kk : Nat) (sd sd1 r1 : Int) (w : World) (hn : n ≤ 100) (hm : m ≤ 100) (HC0 : Hid (∀ W, Kp w W → Calls Try.prog 19 #[.agg #[.slice A n c, .slice B m d]] W fun e w' => e = .returned (.bool true) ∧ Kp W w')) (HT : Hid (TR w A s B xs)) (HL : Hid (xs.length = m)) (HSX : Hid (s[k]? = some sd)) (hk : k < n) (hx : ¬ sd < 2) (hsml : Hid (Sm 1099511627776 xs))
    (hs16 : sd ≤ 16) (gy1 : 0 ≤ y1) (gy2 : y1 ≤ 255) (hs1 : sd - 1 = sd1) (hr1 : y1 % sd1 = r1) (hr0 : 0 ≤ r1) (hr2 : r1 < sd1) (hkk : 1 + r1 = (kk : Int)) (hN : N ≤ 64)
    (LE : Hid (e.length = ne ∧ ks.length = N ∧ kp.length = N ∧ kq.length = N ∧ kw.length = N)) (HMX : Hid (∀ i, i < N → kw.getD i 0 = max (kp.getD i 0) (kq.getD i 0)))
    (C1 : Hid (∀ W, Kp w W → Calls Try.prog 20 #[.agg #[.slice A n c, .slice B m d], .int .i64 (k : Int), .int .i64 0, .int .i64 (kk : Int)] W (RetUc g1 x1 n b1 0 W)))
    (C2 : Hid (∀ W, Kp w W → Calls Try.prog 20 #[.agg #[.slice A n c, .slice B m d], .int .i64 (k : Int), .int .i64 (kk : Int), .int .i64 sd] W (RetUc g2 x2 n b2 0 W)))
    (C5 : Hid (∀ W, Kp w W → Calls Try.prog 8 #[.agg #[.slice A n c, .slice B m d], .int .i64 (k : Int)] W (RetU e ks ne N 0 W)))
    (C6 : Hid (∀ W A0 B0 c0 d0 A1 B1 c1 d1, Kp w W → TR W A0 e B0 kx → TR W A1 e B1 ky → Calls Try.prog 21 #[.int .i64 10, .agg #[.slice A0 ne c0, .slice B0 N d0], .agg #[.slice A1 ne c1, .slice B1 N d1]] W (RetU e ks ne N 0 W)))
    (C9 : Hid (∀ W, Kp w W → Calls Try.prog 13 #[.agg #[.slice A n c, .slice B m d], .int .i64 (k : Int)] W (RetU e kw ne N 0 W)))
    (C3 : Hid (∀ W A0 B0 c0 d0, Kp w W → TR W A0 g1 B0 x1 → Hid (g1.length ≤ c0 ∧ c0 ≤ 9223372036854775807) → Calls Try.prog 8 #[.agg #[.slice A0 n c0, .slice B0 b1 d0], .int .i64 (k : Int)] W (RetU e kx ne N 0 W)))
    (C4 : Hid (∀ W A0 B0 c0 d0, Kp w W → TR W A0 g2 B0 x2 → Hid (g2.length ≤ c0 ∧ c0 ≤ 9223372036854775807) → Calls Try.prog 8 #[.agg #[.slice A0 n c0, .slice B0 b2 d0], .int .i64 (k : Int)] W (RetU e ky ne N 0 W)))
    (C7 : Hid (∀ W A0 B0 c0 d0, Kp w W → TR W A0 g1 B0 x1 → Hid (g1.length ≤ c0 ∧ c0 ≤ 9223372036854775807) → Calls Try.prog 13 #[.agg #[.slice A0 n c0, .slice B0 b1 d0], .int .i64 (k : Int)] W (RetU e kp ne N 0 W)))
    (C8 : Hid (∀ W A0 B0 c0 d0, Kp w W → TR W A0 g2 B0 x2 → Hid (g2.length ≤ c0 ∧ c0 ≤ 9223372036854775807) → Calls Try.prog 13 #[.agg #[.slice A0 n c0, .slice B0 b2 d0], .int .i64 (k : Int)] W (RetU e kq ne N 0 W))) :
    Calls Try.prog 5 #[.agg #[.slice A n c, .slice B m d], .int .i64 (k : Int), .int .u8 y1] w fun e w' => e = .returned (.bool true) ∧ Kp w w' := by
  have j1 : (0 : Int) ≤ (k : Int) := by omega
  have j2 : (k : Int) < (n : Int) := by omega
  have hx0 : ¬ (k : Int) < 0 := by omega
  have hx1 : ¬ (n : Int) ≤ (k : Int) := by omega
  have hxn : ¬ n ≤ k := by omega
  obtain ⟨ad, CA, rfl⟩ := ce_of HT.out.s HSX.out
  have m1 : Int.tmod y1 sd1 = r1 := by rw [IntWalk.rem_in _ _ gy1]; exact hr1
  have n1 : ¬ sd1 = 0 := by omega
  have n2 : 1 ≤ sd1 := by omega
  have n3 : sd1 ≤ 16 := by omega
  have w1' : IntKind.i64.wrap (sd - 1) = sd1 := by rw [IntWalk.i64_in _ (by omega)]; exact hs1
  have w2' : IntKind.i64.wrap (1 + r1) = (kk : Int) := by rw [IntWalk.i64_in _ (by omega)]; exact hkk
  go_enter Try.func5, Try.ntmps5
  go_wp2_with fail
  refine (rdawake_any _).mono ?_; rintro e0 w0 ⟨rfl, k0⟩
  have K := Lib.hid ((Kp.alloc_ _ _).tr k0)
  have CA := Lib.hid ((CA.out.alloc_ _).kp k0)
  have HT := Lib.hid ((HT.out.alloc_ _).kp k0)
  have T0B : Hid (Bk w0 (w.heap.size) (some ad) n c B m d) := (Bk.new rfl).kp k0
  clear k0
  have zt0b0 := T0B.out.c0
  have zt0b1 := T0B.out.c1
  have zt0b2 := T0B.out.lt
  go_wp2_with fail
  refine (few_yes hn hm).mono ?_; rintro e0 w1 ⟨rfl, k1⟩
  have K := Lib.hid (K.out.tr k1)
  have T0B := Lib.hid (T0B.out.kp k1)
  have CA := Lib.hid (CA.out.kp k1)
  have HT := Lib.hid (HT.out.kp k1)
  clear k1 zt0b0 zt0b1 zt0b2
  have zt0b0 := T0B.out.c0
  have zt0b1 := T0B.out.c1
  have zt0b2 := T0B.out.lt
  go_wp2_with fail
  refine (HC0.out _ K.out).mono ?_; rintro e0 w2 ⟨rfl, k2⟩
  have K := Lib.hid (K.out.tr k2)
  have T0B := Lib.hid (T0B.out.kp k2)
  have CA := Lib.hid (CA.out.kp k2)
  have HT := Lib.hid (HT.out.kp k2)
  clear k2 zt0b0 zt0b1 zt0b2
  have zt0b0 := T0B.out.c0
  have zt0b1 := T0B.out.c1
  have zt0b2 := T0B.out.lt
  have hce := CA.out.1
  have hcl := CA.out.2
  have t0 := T0B.out.c0
  have t1 := T0B.out.c1
  go_wp2
  go_loopw [8] (fun i wr => ∃ (i' : Nat), i = .int .i64 i' ∧ Hid (i' ≤ m) ∧ Hid (True) ∧ Hid (wr = w2)) (fun i _ => m - (intOf i).toNat)
  case atStart => exact ⟨0, rfl, Lib.hid (Nat.zero_le _), Lib.hid (trivial), Lib.hid rfl⟩
  case round =>
    obtain ⟨i, rfl, hil, hsm, hw0⟩ := hrel
    obtain rfl : w2 = wr := hw0.out.symm
    have hil' : i ≤ m := hil.out
    by_cases hlt : i < m
    · obtain ⟨ax, v, eax, hbv, hv, hcv⟩ := HT.out.d.at_ (k := i) (by rw [HL.out]; exact hlt)
      have i1 : (0 : Int) ≤ (i : Int) := by omega
      have i2 : (i : Int) < (m : Int) := by omega
      subst eax
      by_cases c1 : v < -1099511627776
      · have := hsml.out i (by rw [HL.out]; exact hlt)
        rw [List.getD, hv, Option.getD_some] at this
        omega
      · have c1' : (decide (v < -1099511627776)) = false := by simpa using c1
        by_cases c2 : 1099511627776 < v
        · have := hsml.out i (by rw [HL.out]; exact hlt)
          rw [List.getD, hv, Option.getD_some] at this
          omega
        · have c2' : (decide (1099511627776 < v)) = false := by simpa using c2
          have HS : Hid True := trivial
          clear hv c1 c2
          go_wp2
          go_roundw
          case rel => exact ⟨i + 1, by go_num, Lib.hid hlt, HS.out, by first | exact Lib.hid rfl | exact Lib.hid trivial⟩
          case measure => simp [intOf]; omega
    · skip
      go_wp2_with fail
      refine (C1.out _ K.out).mono ?_; rintro e0 w3 ⟨A3, c3, B3, d3, rfl, r3, k3, HCPa⟩
      have K := Lib.hid (K.out.tr k3)
      have T0B := Lib.hid (T0B.out.kp k3)
      have CA := Lib.hid (CA.out.kp k3)
      have HT := Lib.hid (HT.out.kp k3)
      have Pa := Lib.hid r3
      clear k3 r3 t0 t1 hce hcl
      have zt0b0 := T0B.out.c0
      have zt0b1 := T0B.out.c1
      have zt0b2 := T0B.out.lt
      go_upto_region 11 with fail
      obtain ⟨W8, HW8⟩ : ∃ W8, Hid (W8 = w3.alloc (.cells #[.slice A3 n c3, .slice B3 b1 d3] 24)) := ⟨_, rfl⟩
      have hkx : Kp w3 W8 := by rw [HW8.out]; exact Kp.alloc_ _ _
      have PaB : Hid (Bk W8 w3.heap.size A3 n c3 B3 b1 d3) := by show Bk _ _ _ _ _ _ _ _; rw [HW8.out]; exact Bk.new rfl
      rw [← HW8.out]
      have K := Lib.hid (K.out.tr hkx)
      have T0B := Lib.hid (T0B.out.kp hkx)
      have CA := Lib.hid (CA.out.kp hkx)
      have HT := Lib.hid (HT.out.kp hkx)
      have Pa := Lib.hid (Pa.out.kp hkx)
      clear hkx HW8 zt0b0 zt0b1 zt0b2
      go_cut [12, 13] (fun vb ve wx => ve = .int .i64 0 ∧ ∃ b9 A9 c9 B9 d9, vb = .pointer (some ⟨b9, 0, none⟩) ∧ Hid (Bk wx b9 A9 n c9 B9 b2 d9) ∧ Hid (TR wx A9 g2 B9 x2) ∧ Hid (Kp W8 wx) ∧ Hid (g2.length ≤ c9 ∧ c9 ≤ 9223372036854775807))
      case first =>
        have hdr8 : Hid (Kp W8 W8.drew) := Below.drew (Kp.refl _)
        have HKX : Hid (∀ V, Kp W8 V → V.cell? ⟨w.heap.size, 0, none⟩ = some (.slice (some ad) n c) ∧ V.cell? ⟨w.heap.size, 1, none⟩ = some (.slice B m d) ∧ V.cell? (ad.add k) = some (.int .i64 sd)) := fun V kV => ⟨(T0B.out.kp kV).c0, (T0B.out.kp kV).c1, (CA.out.kp kV).1⟩
        have s0 := HKX.out _ hdr8.out
        refine wp_region_held_drew (S := fun V => V.cell? ⟨w.heap.size, 0, none⟩ = some (.slice (some ad) n c) ∧ V.cell? ⟨w.heap.size, 1, none⟩ = some (.slice B m d) ∧ V.cell? (ad.add k) = some (.int .i64 sd)) (by kernel_rfl) s0 (fun hHeld => ?_)
        refine wpAnyH_take (i := 0) (v := .agg #[.slice (some ad) n c, .slice B m d]) rfl (by kernel_rfl) (by kernel_rfl) (by kernel_rfl) (fun _ _ _ h => h) (Or.inl ⟨by rfl, fun V hSV => ?_⟩) hHeld ?_
        · (try dsimp only at hSV); go_simp
        try simp only [Act.put, List.setIfInBounds_toArray, List.set_cons_zero, List.set_cons_succ]
        refine wpAnyH_take (i := 1) (v := .int .i64 (k : Int)) rfl (by kernel_rfl) (by kernel_rfl) (by kernel_rfl) (fun _ _ _ h => h) (Or.inl ⟨by rfl, fun V hSV => ?_⟩) hHeld ?_
        · (try dsimp only at hSV); go_simp
        try simp only [Act.put, List.setIfInBounds_toArray, List.set_cons_zero, List.set_cons_succ]
        refine wpAnyH_take (i := 2) (v := .int .i64 (kk : Int)) rfl (by kernel_rfl) (by kernel_rfl) (by kernel_rfl) (fun _ _ _ h => h) (Or.inl ⟨by rfl, fun V hSV => ?_⟩) hHeld ?_
        · (try dsimp only at hSV); go_simp
        try simp only [Act.put, List.setIfInBounds_toArray, List.set_cons_zero, List.set_cons_succ]
        refine wpAnyH_take (i := 3) (v := .pointer (some ⟨w.heap.size, 0, none⟩)) rfl (by kernel_rfl) (by kernel_rfl) (by kernel_rfl) (fun _ _ _ h => h) (Or.inl ⟨by rfl, fun V hSV => ?_⟩) hHeld ?_
        · (try dsimp only at hSV); go_simp
        try simp only [Act.put, List.setIfInBounds_toArray, List.set_cons_zero, List.set_cons_succ]
        refine wpAnyH_take (i := 4) (v := .slice (some ad) n c) rfl (by kernel_rfl) (by kernel_rfl) (by kernel_rfl) (fun _ _ _ h => h) (Or.inl ⟨by rfl, fun V hSV => ?_⟩) hHeld ?_
        · (try dsimp only at hSV); go_simp
        try simp only [Act.put, List.setIfInBounds_toArray, List.set_cons_zero, List.set_cons_succ]
        refine wpAnyH_take (i := 5) (v := .int .i64 (k : Int)) rfl (by kernel_rfl) (by kernel_rfl) (by kernel_rfl) (fun _ _ _ h => h) (Or.inl ⟨by rfl, fun V hSV => ?_⟩) hHeld ?_
        · (try dsimp only at hSV); go_simp
        try simp only [Act.put, List.setIfInBounds_toArray, List.set_cons_zero, List.set_cons_succ]
        refine wpAnyH_take (i := 6) (v := .pointer (some (ad.add k))) rfl (by kernel_rfl) (by kernel_rfl) (by kernel_rfl) (fun _ _ _ h => h) (Or.inl ⟨by rfl, fun V hSV => ?_⟩) hHeld ?_
        · (try dsimp only at hSV); go_simp
        try simp only [Act.put, List.setIfInBounds_toArray, List.set_cons_zero, List.set_cons_succ]
        refine wpAnyH_take (i := 7) (v := .int .i64 sd) rfl (by kernel_rfl) (by kernel_rfl) (by kernel_rfl) (fun _ _ _ h => h) (Or.inl ⟨by rfl, fun V hSV => ?_⟩) hHeld ?_
        · (try dsimp only at hSV); go_simp
        try simp only [Act.put, List.setIfInBounds_toArray, List.set_cons_zero, List.set_cons_succ]
        refine wpAnyH_ready (rs := [8, 12]) (by kernel_rfl) (by simp) ?_
        refine AllReadyH.cons rfl (fun K9_ hK => ?_) ?_
        · go_simp
          refine (C2.out _ (K.out.tr hdr8.out)).mono ?_; rintro e0 w9 ⟨A9, c9, B9, d9, rfl, r9, k9, h9⟩
          dsimp only
          have K9 : Hid (Kp W8 w9) := undrawn k9
          have hq := HKX.out _ K9.out
          have R9 := Lib.hid r9
          clear r9 k9
          refine hK.out _ _ ?_ (fun hHeld => ?_)
          · exact hq
          clear hK
          try simp only [Act.put, List.setIfInBounds_toArray, List.set_cons_zero, List.set_cons_succ]
          refine wpAnyH_take (i := 9) (v := .tuple #[.agg #[.slice A9 n c9, .slice B9 b2 d9], .int .i64 0]) rfl (by kernel_rfl) (by kernel_rfl) (by kernel_rfl) (fun _ _ _ h => h) (Or.inl ⟨by rfl, fun V hSV => ?_⟩) hHeld ?_
          · (try dsimp only at hSV); go_simp
          try simp only [Act.put, List.setIfInBounds_toArray, List.set_cons_zero, List.set_cons_succ]
          refine wpAnyH_take (i := 10) (v := .agg #[.slice A9 n c9, .slice B9 b2 d9]) rfl (by kernel_rfl) (by kernel_rfl) (by kernel_rfl) (fun _ _ _ h => h) (Or.inl ⟨by rfl, fun V hSV => ?_⟩) hHeld ?_
          · (try dsimp only at hSV); go_simp
          try simp only [Act.put, List.setIfInBounds_toArray, List.set_cons_zero, List.set_cons_succ]
          refine wpAnyH_take (i := 11) (v := .int .i64 0) rfl (by kernel_rfl) (by kernel_rfl) (by kernel_rfl) (fun _ _ _ h => h) (Or.inl ⟨by rfl, fun V hSV => ?_⟩) hHeld ?_
          · (try dsimp only at hSV); go_simp
          try simp only [Act.put, List.setIfInBounds_toArray, List.set_cons_zero, List.set_cons_succ]
          refine wpAnyH_ready (rs := [12]) (by kernel_rfl) (by simp) ?_
          refine AllReadyH.cons rfl (fun K9_ hK => ?_) AllReadyH.nil
          go_simp
          refine hK.out _ _ ?_ (fun hHeld => ?_)
          · exact HKX.out _ (K9.out.al _)
          clear hK
          try simp only [Act.put, List.setIfInBounds_toArray, List.set_cons_zero, List.set_cons_succ]
          refine wpAnyH_ready (rs := [13]) (by kernel_rfl) (by simp) ?_
          refine AllReadyH.cons rfl (fun K9_ hK => ?_) AllReadyH.nil
          go_simp
          refine hK.out _ _ ?_ (fun hHeld => ?_)
          · exact HKX.out _ (K9.out.al _)
          clear hK
          try simp only [Act.put, List.setIfInBounds_toArray, List.set_cons_zero, List.set_cons_succ]
          refine wpAnyH_ready (rs := [14]) (by kernel_rfl) (by simp) ?_
          refine AllReadyH.cons rfl (fun K9_ hK => ?_) AllReadyH.nil
          go_simp
          refine hK.out _ _ ?_ (fun hHeld => ?_)
          · exact HKX.out _ (K9.out.al _)
          clear hK
          try simp only [Act.put, List.setIfInBounds_toArray, List.set_cons_zero, List.set_cons_succ]
          refine wpAnyH_done (by kernel_rfl) ?_ _
          go_wp2
          go_meet
          exact ⟨rfl, w9.heap.size, A9, c9, B9, d9, rfl, Bk.new rfl, R9.out.alloc_ _, K9.out.al _, h9⟩
        refine AllReadyH.cons rfl (fun K9_ hK => ?_) AllReadyH.nil
        go_simp
        refine hK.out _ _ ?_ (fun hHeld => ?_)
        · exact HKX.out _ (hdr8.out.al _)
        clear hK
        try simp only [Act.put, List.setIfInBounds_toArray, List.set_cons_zero, List.set_cons_succ]
        refine wpAnyH_ready (rs := [8]) (by kernel_rfl) (by simp) ?_
        refine AllReadyH.cons rfl (fun K9_ hK => ?_) AllReadyH.nil
        go_simp
        refine (C2.out _ (K.out.tr (hdr8.out.al _))).mono ?_; rintro e0 w9 ⟨A9, c9, B9, d9, rfl, r9, k9, h9⟩
        dsimp only
        have K9 : Hid (Kp W8 w9) := (hdr8.out.al _).tr k9
        have hq := HKX.out _ K9.out
        have R9 := Lib.hid r9
        have TZ : Hid (Bk w9 W8.heap.size none 0 0 none 0 0) := Bk.kp (Bk.new (W := W8.drew) rfl) k9
        have z0 := TZ.out.c0
        have z1 := TZ.out.c1
        have z2 := TZ.out.f0 0
        have z3 := TZ.out.f0 1
        clear r9 k9
        refine hK.out _ _ ?_ (fun hHeld => ?_)
        · exact hq
        clear hK
        try simp only [Act.put, List.setIfInBounds_toArray, List.set_cons_zero, List.set_cons_succ]
        refine wpAnyH_take (i := 9) (v := .tuple #[.agg #[.slice A9 n c9, .slice B9 b2 d9], .int .i64 0]) rfl (by kernel_rfl) (by kernel_rfl) (by kernel_rfl) (fun _ _ _ h => h) (Or.inl ⟨by rfl, fun V hSV => ?_⟩) hHeld ?_
        · (try dsimp only at hSV); go_simp
        try simp only [Act.put, List.setIfInBounds_toArray, List.set_cons_zero, List.set_cons_succ]
        refine wpAnyH_take (i := 10) (v := .agg #[.slice A9 n c9, .slice B9 b2 d9]) rfl (by kernel_rfl) (by kernel_rfl) (by kernel_rfl) (fun _ _ _ h => h) (Or.inl ⟨by rfl, fun V hSV => ?_⟩) hHeld ?_
        · (try dsimp only at hSV); go_simp
        try simp only [Act.put, List.setIfInBounds_toArray, List.set_cons_zero, List.set_cons_succ]
        refine wpAnyH_take (i := 11) (v := .int .i64 0) rfl (by kernel_rfl) (by kernel_rfl) (by kernel_rfl) (fun _ _ _ h => h) (Or.inl ⟨by rfl, fun V hSV => ?_⟩) hHeld ?_
        · (try dsimp only at hSV); go_simp
        try simp only [Act.put, List.setIfInBounds_toArray, List.set_cons_zero, List.set_cons_succ]
        refine wpAnyH_ready (rs := [13]) (by kernel_rfl) (by simp) ?_
        refine AllReadyH.cons rfl (fun K9_ hK => ?_) AllReadyH.nil
        go_simp
        refine hK.out _ _ ?_ (fun hHeld => ?_)
        · exact HKX.out _ ((K9.out.setCell (p := ⟨W8.heap.size, 0, none⟩) (Nat.le_refl _) _).setCell (p := ⟨W8.heap.size, 1, none⟩) (Nat.le_refl _) _)
        clear hK
        try simp only [Act.put, List.setIfInBounds_toArray, List.set_cons_zero, List.set_cons_succ]
        refine wpAnyH_ready (rs := [14]) (by kernel_rfl) (by simp) ?_
        refine AllReadyH.cons rfl (fun K9_ hK => ?_) AllReadyH.nil
        go_simp
        refine hK.out _ _ ?_ (fun hHeld => ?_)
        · exact HKX.out _ ((K9.out.setCell (p := ⟨W8.heap.size, 0, none⟩) (Nat.le_refl _) _).setCell (p := ⟨W8.heap.size, 1, none⟩) (Nat.le_refl _) _)
        clear hK
        try simp only [Act.put, List.setIfInBounds_toArray, List.set_cons_zero, List.set_cons_succ]
        refine wpAnyH_done (by kernel_rfl) ?_ _
        go_wp2
        go_meet
        exact ⟨rfl, W8.heap.size, A9, c9, B9, d9, rfl, TZ.out.put, R9.out.past TZ.out _ _, ((K9.out.setCell (p := ⟨W8.heap.size, 0, none⟩) (Nat.le_refl _) _).setCell (p := ⟨W8.heap.size, 1, none⟩) (Nat.le_refl _) _), h9⟩
      case rest =>
        obtain ⟨rfl, b_Pb, A_Pb, c_Pb, B_Pb, d_Pb, rfl, PbB, Pb, k_Pb, HCPb⟩ := hcut
        have K := Lib.hid (K.out.tr k_Pb.out)
        have T0B := Lib.hid (T0B.out.kp k_Pb.out)
        have PaB := Lib.hid (PaB.out.kp k_Pb.out)
        have CA := Lib.hid (CA.out.kp k_Pb.out)
        have HT := Lib.hid (HT.out.kp k_Pb.out)
        have Pa := Lib.hid (Pa.out.kp k_Pb.out)
        clear k_Pb
        have zpab0 := PaB.out.c0
        have zpab1 := PaB.out.c1
        have zpab2 := PaB.out.lt
        go_wp2_with fail
        refine (C3.out _ _ _ _ _ K.out Pa.out HCPa).mono ?_; rintro e0 w4 ⟨A4, c4, B4, d4, rfl, r4, k4⟩
        have K := Lib.hid (K.out.tr k4)
        have T0B := Lib.hid (T0B.out.kp k4)
        have PaB := Lib.hid (PaB.out.kp k4)
        have PbB := Lib.hid (PbB.out.kp k4)
        have CA := Lib.hid (CA.out.kp k4)
        have HT := Lib.hid (HT.out.kp k4)
        have Pa := Lib.hid (Pa.out.kp k4)
        have Pb := Lib.hid (Pb.out.kp k4)
        have Xa := Lib.hid r4
        clear k4 r4 zpab0 zpab1 zpab2
        have zpbb0 := PbB.out.c0
        have zpbb1 := PbB.out.c1
        have zpbb2 := PbB.out.lt
        go_wp2_with fail
        refine (C4.out _ _ _ _ _ (K.out.al _) (Pb.out.alloc_ _) HCPb).mono ?_; rintro e0 w5 ⟨A5, c5, B5, d5, rfl, r5, k5⟩
        have K := Lib.hid ((K.out.al _).tr k5)
        have T0B := Lib.hid ((T0B.out.alloc_ _).kp k5)
        have PaB := Lib.hid ((PaB.out.alloc_ _).kp k5)
        have PbB := Lib.hid ((PbB.out.alloc_ _).kp k5)
        have CA := Lib.hid ((CA.out.alloc_ _).kp k5)
        have HT := Lib.hid ((HT.out.alloc_ _).kp k5)
        have Pa := Lib.hid ((Pa.out.alloc_ _).kp k5)
        have Pb := Lib.hid ((Pb.out.alloc_ _).kp k5)
        have Xa := Lib.hid ((Xa.out.alloc_ _).kp k5)
        have XaB : Hid (Bk w5 w4.heap.size A4 ne c4 B4 N d4) := (Bk.new rfl).kp k5
        have Xb := Lib.hid r5
        clear k5 r5 zpbb0 zpbb1 zpbb2
        have zt0b0 := T0B.out.c0
        have zt0b1 := T0B.out.c1
        have zt0b2 := T0B.out.lt
        go_wp2_with fail
        refine (C5.out _ (K.out.al _)).mono ?_; rintro e0 w6 ⟨A6, c6, B6, d6, rfl, r6, k6⟩
        have K := Lib.hid ((K.out.al _).tr k6)
        have T0B := Lib.hid ((T0B.out.alloc_ _).kp k6)
        have PaB := Lib.hid ((PaB.out.alloc_ _).kp k6)
        have PbB := Lib.hid ((PbB.out.alloc_ _).kp k6)
        have XaB := Lib.hid ((XaB.out.alloc_ _).kp k6)
        have CA := Lib.hid ((CA.out.alloc_ _).kp k6)
        have HT := Lib.hid ((HT.out.alloc_ _).kp k6)
        have Pa := Lib.hid ((Pa.out.alloc_ _).kp k6)
        have Pb := Lib.hid ((Pb.out.alloc_ _).kp k6)
        have Xa := Lib.hid ((Xa.out.alloc_ _).kp k6)
        have Xb := Lib.hid ((Xb.out.alloc_ _).kp k6)
        have XbB : Hid (Bk w6 w5.heap.size A5 ne c5 B5 N d5) := (Bk.new rfl).kp k6
        have Xs := Lib.hid r6
        clear k6 r6 zt0b0 zt0b1 zt0b2
        have zxab0 := XaB.out.c0
        have zxab1 := XaB.out.c1
        have zxab2 := XaB.out.lt
        have zxbb0 := XbB.out.c0
        have zxbb1 := XbB.out.c1
        have zxbb2 := XbB.out.lt
        go_wp2_with fail
        refine (C6.out _ _ _ _ _ _ _ _ _ (K.out.al _) (Xa.out.alloc_ _) (Xb.out.alloc_ _)).mono ?_; rintro e0 w7 ⟨A7, c7, B7, d7, rfl, r7, k7⟩
        have K := Lib.hid ((K.out.al _).tr k7)
        have T0B := Lib.hid ((T0B.out.alloc_ _).kp k7)
        have PaB := Lib.hid ((PaB.out.alloc_ _).kp k7)
        have PbB := Lib.hid ((PbB.out.alloc_ _).kp k7)
        have XaB := Lib.hid ((XaB.out.alloc_ _).kp k7)
        have XbB := Lib.hid ((XbB.out.alloc_ _).kp k7)
        have CA := Lib.hid ((CA.out.alloc_ _).kp k7)
        have HT := Lib.hid ((HT.out.alloc_ _).kp k7)
        have Pa := Lib.hid ((Pa.out.alloc_ _).kp k7)
        have Pb := Lib.hid ((Pb.out.alloc_ _).kp k7)
        have Xs := Lib.hid ((Xs.out.alloc_ _).kp k7)
        have XsB : Hid (Bk w7 w6.heap.size A6 ne c6 B6 N d6) := (Bk.new rfl).kp k7
        have Xz := Lib.hid r7
        clear k7 r7 zxab0 zxab1 zxab2 zxbb0 zxbb1 zxbb2 Xa Xb
        have zpab0 := PaB.out.c0
        have zpab1 := PaB.out.c1
        have zpab2 := PaB.out.lt
        go_wp2_with fail
        refine (C7.out _ _ _ _ _ (K.out.al _) (Pa.out.alloc_ _) HCPa).mono ?_; rintro e0 w8 ⟨A8, c8, B8, d8, rfl, r8, k8⟩
        have K := Lib.hid ((K.out.al _).tr k8)
        have T0B := Lib.hid ((T0B.out.alloc_ _).kp k8)
        have PaB := Lib.hid ((PaB.out.alloc_ _).kp k8)
        have PbB := Lib.hid ((PbB.out.alloc_ _).kp k8)
        have XaB := Lib.hid ((XaB.out.alloc_ _).kp k8)
        have XbB := Lib.hid ((XbB.out.alloc_ _).kp k8)
        have XsB := Lib.hid ((XsB.out.alloc_ _).kp k8)
        have CA := Lib.hid ((CA.out.alloc_ _).kp k8)
        have HT := Lib.hid ((HT.out.alloc_ _).kp k8)
        have Pb := Lib.hid ((Pb.out.alloc_ _).kp k8)
        have Xs := Lib.hid ((Xs.out.alloc_ _).kp k8)
        have Xz := Lib.hid ((Xz.out.alloc_ _).kp k8)
        have XzB : Hid (Bk w8 w7.heap.size A7 ne c7 B7 N d7) := (Bk.new rfl).kp k8
        have Ma := Lib.hid r8
        clear k8 r8 zpab0 zpab1 zpab2 Pa
        have zpbb0 := PbB.out.c0
        have zpbb1 := PbB.out.c1
        have zpbb2 := PbB.out.lt
        go_wp2_with fail
        refine (C8.out _ _ _ _ _ (K.out.al _) (Pb.out.alloc_ _) HCPb).mono ?_; rintro e0 w9 ⟨A9, c9, B9, d9, rfl, r9, k9⟩
        have K := Lib.hid ((K.out.al _).tr k9)
        have T0B := Lib.hid ((T0B.out.alloc_ _).kp k9)
        have PaB := Lib.hid ((PaB.out.alloc_ _).kp k9)
        have PbB := Lib.hid ((PbB.out.alloc_ _).kp k9)
        have XaB := Lib.hid ((XaB.out.alloc_ _).kp k9)
        have XbB := Lib.hid ((XbB.out.alloc_ _).kp k9)
        have XsB := Lib.hid ((XsB.out.alloc_ _).kp k9)
        have XzB := Lib.hid ((XzB.out.alloc_ _).kp k9)
        have CA := Lib.hid ((CA.out.alloc_ _).kp k9)
        have HT := Lib.hid ((HT.out.alloc_ _).kp k9)
        have Xs := Lib.hid ((Xs.out.alloc_ _).kp k9)
        have Xz := Lib.hid ((Xz.out.alloc_ _).kp k9)
        have Ma := Lib.hid ((Ma.out.alloc_ _).kp k9)
        have MaB : Hid (Bk w9 w8.heap.size A8 ne c8 B8 N d8) := (Bk.new rfl).kp k9
        have Mb := Lib.hid r9
        clear k9 r9 zpbb0 zpbb1 zpbb2 Pb
        have zt0b0 := T0B.out.c0
        have zt0b1 := T0B.out.c1
        have zt0b2 := T0B.out.lt
        go_wp2_with fail
        refine (C9.out _ (K.out.al _)).mono ?_; rintro e0 w10 ⟨A10, c10, B10, d10, rfl, r10, k10⟩
        have K := Lib.hid ((K.out.al _).tr k10)
        have T0B := Lib.hid ((T0B.out.alloc_ _).kp k10)
        have XsB := Lib.hid ((XsB.out.alloc_ _).kp k10)
        have XzB := Lib.hid ((XzB.out.alloc_ _).kp k10)
        have MaB := Lib.hid ((MaB.out.alloc_ _).kp k10)
        have CA := Lib.hid ((CA.out.alloc_ _).kp k10)
        have HT := Lib.hid ((HT.out.alloc_ _).kp k10)
        have Xs := Lib.hid ((Xs.out.alloc_ _).kp k10)
        have Xz := Lib.hid ((Xz.out.alloc_ _).kp k10)
        have Ma := Lib.hid ((Ma.out.alloc_ _).kp k10)
        have Mb := Lib.hid ((Mb.out.alloc_ _).kp k10)
        have MbB : Hid (Bk w10 w9.heap.size A9 ne c9 B9 N d9) := (Bk.new rfl).kp k10
        have Mc := Lib.hid r10
        clear k10 r10 zt0b0 zt0b1 zt0b2 PaB PbB XaB XbB
        go_upto_region 19 with fail
        obtain ⟨W9, HW9⟩ : ∃ W9, Hid (W9 = w10.alloc (.cells #[.slice A10 ne c10, .slice B10 N d10] 24)) := ⟨_, rfl⟩
        have hkx : Kp w10 W9 := by rw [HW9.out]; exact Kp.alloc_ _ _
        have McB : Hid (Bk W9 w10.heap.size A10 ne c10 B10 N d10) := by show Bk _ _ _ _ _ _ _ _; rw [HW9.out]; exact Bk.new rfl
        rw [← HW9.out]
        have K := Lib.hid (K.out.tr hkx)
        have T0B := Lib.hid (T0B.out.kp hkx)
        have XsB := Lib.hid (XsB.out.kp hkx)
        have XzB := Lib.hid (XzB.out.kp hkx)
        have MaB := Lib.hid (MaB.out.kp hkx)
        have MbB := Lib.hid (MbB.out.kp hkx)
        have CA := Lib.hid (CA.out.kp hkx)
        have HT := Lib.hid (HT.out.kp hkx)
        have Xs := Lib.hid (Xs.out.kp hkx)
        have Xz := Lib.hid (Xz.out.kp hkx)
        have Ma := Lib.hid (Ma.out.kp hkx)
        have Mb := Lib.hid (Mb.out.kp hkx)
        have Mc := Lib.hid (Mc.out.kp hkx)
        clear hkx HW9 
        have zmab0 := MaB.out.c0
        have zmab1 := MaB.out.c1
        have zmab2 := MaB.out.lt
        have zmbb0 := MbB.out.c0
        have zmbb1 := MbB.out.c1
        have zmbb2 := MbB.out.lt
        have zmcb0 := McB.out.c0
        have zmcb1 := McB.out.c1
        have zmcb2 := McB.out.lt
        have hNN : ((N : Int) != (N : Int)) = false := by simp
        go_wp2
        go_loopw [29] (fun i wr => ∃ (i' : Nat), i = .int .i64 i' ∧ Hid (i' ≤ N) ∧ Hid (Kp W9 wr)) (fun i _ => N - (intOf i).toNat)
        case atStart => exact ⟨0, rfl, Lib.hid (Nat.zero_le _), Lib.hid (Kp.refl _)⟩
        case round =>
          obtain ⟨i, rfl, hil, hkw⟩ := hrel
          have hil' : i ≤ N := hil.out
          clear zmab0 zmab1 zmab2 zmbb0 zmbb1 zmbb2 zmcb0 zmcb1 zmcb2
          have K := Lib.hid (K.out.tr hkw.out)
          have T0B := Lib.hid (T0B.out.kp hkw.out)
          have XsB := Lib.hid (XsB.out.kp hkw.out)
          have XzB := Lib.hid (XzB.out.kp hkw.out)
          have MaB := Lib.hid (MaB.out.kp hkw.out)
          have MbB := Lib.hid (MbB.out.kp hkw.out)
          have McB := Lib.hid (McB.out.kp hkw.out)
          have CA := Lib.hid (CA.out.kp hkw.out)
          have HT := Lib.hid (HT.out.kp hkw.out)
          have Xs := Lib.hid (Xs.out.kp hkw.out)
          have Xz := Lib.hid (Xz.out.kp hkw.out)
          have Ma := Lib.hid (Ma.out.kp hkw.out)
          have Mb := Lib.hid (Mb.out.kp hkw.out)
          have Mc := Lib.hid (Mc.out.kp hkw.out)
          have zmab0 := MaB.out.c0
          have zmab1 := MaB.out.c1
          have zmab2 := MaB.out.lt
          have zmbb0 := MbB.out.c0
          have zmbb1 := MbB.out.c1
          have zmbb2 := MbB.out.lt
          have zmcb0 := McB.out.c0
          have zmcb1 := McB.out.c1
          have zmcb2 := McB.out.lt
          by_cases hlt : i < N
          · have i1 : (0 : Int) ≤ (i : Int) := by omega
            have i2 : (i : Int) < (N : Int) := by omega
            obtain ⟨ap, u, eap, hbp, hup, hcp⟩ := Ma.out.d.at_ (k := i) (by rw [LE.out.2.2.1]; exact hlt)
            obtain ⟨aq, v, eaq, hbq, huq, hcq⟩ := Mb.out.d.at_ (k := i) (by rw [LE.out.2.2.2.1]; exact hlt)
            obtain ⟨aw, z, eaw, hbw, huw, hcw⟩ := Mc.out.d.at_ (k := i) (by rw [LE.out.2.2.2.2]; exact hlt)
            have hz : z = max u v := by
              have := HMX.out i hlt
              rw [List.getD, huw, List.getD, hup, List.getD, huq] at this
              exact this
            have hmx : ∀ (V : World) (ts : Array TypeId) (t : TypeId), (Builtin.max_ ts t #[.int .i64 u, .int .i64 v]).run Try.prog V = .ok (.int .i64 z) V := fun V ts t => ShH.mx u v z hz V ts t
            have hzz : (z != z) = false := by simp
            have hkq := Lib.hid hkw.out
            subst eap eaq eaw
            clear hz hup huq huw
            go_wp2
            go_quiet (fail)
            go_wp2
            go_roundw
            case rel => exact ⟨i + 1, by go_num, Lib.hid hlt, Lib.hid (hkq.out.tr (Kp.drewN_ _ _))⟩
            case measure => simp [intOf]; omega
          · have i2 : ¬ (i : Int) < (N : Int) := by omega
            clear zmab0 zmab1 zmab2 zmbb0 zmbb1 zmbb2 zmcb0 zmcb1 zmcb2
            have zxsb0 := XsB.out.c0
            have zxsb1 := XsB.out.c1
            have zxsb2 := XsB.out.lt
            have zxzb0 := XzB.out.c0
            have zxzb1 := XzB.out.c1
            have zxzb2 := XzB.out.lt
            have zmcb0 := McB.out.c0
            have zmcb1 := McB.out.c1
            have zmcb2 := McB.out.lt
            go_wp2_with fail
            refine (tsame_u Xs.out Xz.out LE.out.1 LE.out.2.1).mono ?_; rintro e0 w11 ⟨rfl, k11⟩
            have K := Lib.hid (K.out.tr k11)
            have T0B := Lib.hid (T0B.out.kp k11)
            have XsB := Lib.hid (XsB.out.kp k11)
            have XzB := Lib.hid (XzB.out.kp k11)
            have MaB := Lib.hid (MaB.out.kp k11)
            have MbB := Lib.hid (MbB.out.kp k11)
            have McB := Lib.hid (McB.out.kp k11)
            have CA := Lib.hid (CA.out.kp k11)
            have HT := Lib.hid (HT.out.kp k11)
            have Xs := Lib.hid (Xs.out.kp k11)
            have Xz := Lib.hid (Xz.out.kp k11)
            have Ma := Lib.hid (Ma.out.kp k11)
            have Mb := Lib.hid (Mb.out.kp k11)
            have Mc := Lib.hid (Mc.out.kp k11)
            clear k11 zxsb0 zxsb1 zxsb2 zxzb0 zxzb1 zxzb2 zmcb0 zmcb1 zmcb2
            go_wp2
            go_ret
            exact ⟨rfl, K.out⟩

theorem rparts_walk (A B : Option Addr) (c d : Nat) (q1 y1 : Int) (s xs : List Int) (w : World) (gy1 : 0 ≤ y1) (gy2 : y1 ≤ 255) (R0 : TR w A s B xs) (I0 : I64s xs) (HC : Hid (s.length ≤ c ∧ c ≤ 9223372036854775807)) :
    Calls Try.prog 5 #[.agg #[.slice A s.length c, .slice B xs.length d], .int .i64 q1, .int .u8 y1] w fun e w' => e = .returned (.bool true) ∧ Kp w w' := by
  by_cases f0 : 100 < s.length ∨ 100 < xs.length
  · exact rparts_far0 A B _ c _ d q1 y1 w  R0.s.len R0.d.len f0
  by_cases b0 : tokV s xs = false
  · exact rparts_far1 A B _ c _ d q1 y1 w (by omega) (by omega) (Lib.hid fun W k => tcheck_u s xs (R0.kp k) rfl rfl b0)
  have b0 : tokV s xs = true := by simpa using b0
  by_cases hx : q1 < 0
  · exact rparts_far2 A B _ c _ d q1 y1 w (by omega) (by omega) (Lib.hid fun W k => tcheck_u s xs (R0.kp k) rfl rfl b0) hx
  by_cases hx' : (s.length : Int) ≤ q1
  · exact rparts_far3 A B _ c _ d q1 y1 w (by omega) (by omega) (Lib.hid fun W k => tcheck_u s xs (R0.kp k) rfl rfl b0) hx hx'
  obtain ⟨a, rfl⟩ : ∃ a : Nat, q1 = (a : Int) := ⟨q1.toNat, by omega⟩
  have ha : a < s.length := by omega
  obtain ⟨sd, hsd⟩ : ∃ sd, s[a]? = some sd := ⟨_, List.getElem?_eq_getElem ha⟩
  have hgd : s.getD a 0 = sd := by rw [List.getD, hsd]; rfl
  have ho := (tok_iff.1 b0).1
  have hs16 := side_pos (ok_all ho) ha
  rw [hgd] at hs16
  by_cases h2 : sd < 2
  · exact rparts_far4 A B _ c _ d a y1 s xs sd w (by omega) (by omega) (Lib.hid fun W k => tcheck_u s xs (R0.kp k) rfl rfl b0) (Lib.hid R0) (Lib.hid hsd) ha h2
  by_cases hsm : Sm 1099511627776 xs
  · obtain ⟨dd, rfl⟩ : ∃ dd : Nat, sd = (dd : Int) := ⟨sd.toNat, by omega⟩
    have hm0 := Int.emod_nonneg y1 (show (dd : Int) - 1 ≠ 0 by omega)
    have hm1 := Int.emod_lt_of_pos y1 (show 0 < (dd : Int) - 1 by omega)
    obtain ⟨kk, hkk⟩ : ∃ kk : Nat, 1 + y1 % ((dd : Int) - 1) = (kk : Int) := ⟨(1 + y1 % ((dd : Int) - 1)).toNat, by omega⟩
    obtain ⟨x1, x2, kx, ky, ks, kp, kq, kw, s1, s2, i1, i2, f1, f2, f3, i3, i4, tw, g1, g2, g3, l1, l2, hmx, l3, l4, l5⟩ := parts_all hsm b0 ha hgd (k := kk) (by omega) (by omega)
    have hl1 : ks.length = kw.length := by
      have e1 := congrArg (fun t : Tn => t.2.1.length) f3
      have e2 := congrArg (fun t : Tn => t.2.1.length) g3
      obtain ⟨_, h5, h6, _⟩ := tog_zero (f := Go.Proofs.FixM.addV) (x0 := 0) b0 ha (by show (sumV s xs a).2.2 = 0; rw [f3])
      obtain ⟨_, h7, h8, _⟩ := tog_zero (f := greatV) (x0 := -9223372036854775808) b0 ha (by show (maxV s xs a).2.2 = 0; rw [g3])
      have h5' : sumV s xs a = _ := h5
      have h7' : maxV s xs a = _ := h7
      rw [f3] at h5'
      rw [g3] at h7'
      injection h5' with _ h5'
      injection h5' with h5' _
      injection h7' with _ h7'
      injection h7' with h7' _
      subst h5' h7'
      omega
    exact rparts_with A B _ c _ d a y1 s xs _ x1 _ x2 _ kx ky ks kp kq kw _ _ (s.eraseIdx a).length kw.length kk dd ((dd : Int) - 1) (y1 % ((dd : Int) - 1)) w (by omega) (by omega) (Lib.hid fun W k => tcheck_u s xs (R0.kp k) rfl rfl b0) (Lib.hid R0) (Lib.hid rfl) (Lib.hid hsd) ha h2 hsm
      hs16.2 gy1 gy2 rfl rfl hm0 hm1 hkk l5 (Lib.hid ⟨rfl, hl1, l1, l2, rfl⟩) (Lib.hid hmx)
      (Lib.hid fun W k => pslice_uc s xs a 0 kk (R0.kp k) rfl rfl s1 (by rw [List.length_set]) rfl) (Lib.hid fun W k => pslice_uc s xs a kk dd (R0.kp k) rfl rfl s2 (by rw [List.length_set]) rfl)
      (Lib.hid fun W k => psum_u s xs a (R0.kp k) HC I0 rfl rfl f3 rfl hl1)
      (Lib.hid fun W A0 B0 c0 d0 A1 B1 c1 d1 k t1 t2 => two_u _ kx _ ky t1 t2 i3 i4 rfl (by rw [l3, hl1]) rfl (by rw [l4, hl1]) tw rfl hl1)
      (Lib.hid fun W k => pmax_u s xs a (R0.kp k) HC I0 rfl rfl g3 rfl rfl)
      (Lib.hid fun W A0 B0 c0 d0 k t hc => psum_u _ x1 a t hc i1 (by rw [List.length_set]) rfl f1 rfl (by rw [l3, hl1])) (Lib.hid fun W A0 B0 c0 d0 k t hc => psum_u _ x2 a t hc i2 (by rw [List.length_set]) rfl f2 rfl (by rw [l4, hl1]))
      (Lib.hid fun W A0 B0 c0 d0 k t hc => pmax_u _ x1 a t hc i1 (by rw [List.length_set]) rfl g1 rfl l1) (Lib.hid fun W A0 B0 c0 d0 k t hc => pmax_u _ x2 a t hc i2 (by rw [List.length_set]) rfl g2 rfl l2)
  · exact rparts_far5 A B _ c _ d a y1 s xs sd w (by omega) (by omega) (Lib.hid fun W k => tcheck_u s xs (R0.kp k) rfl rfl b0) (Lib.hid R0) (Lib.hid rfl) (Lib.hid hsd) ha h2 hsm
end Go.Proofs.Ytpglchimghnpeaa
