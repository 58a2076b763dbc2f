/- A product's rows are those of the first one's rows, alone, and a row of One alone adds the second one's rows: the law's call returns true. -/
import Derived.Test.YtepnhmdjglpmeaaMmG
import Derived.Test.YtepnhmdjglpmeaaMmO
namespace Go.Proofs.Ytepnhmdjglpmeaa
open Go.RowKit Go.Proofs.ShM
set_option linter.unusedVariables false
set_option linter.unusedSimpArgs false

/-- A number's cell. -/
def Cl (W : World) (a : Addr) (v : Int) : Prop := W.cell? a = some (.int .i64 v) ∧ a.block < W.heap.size
theorem Cl.kp {W W' : World} {a : Addr} {v : Int} (h : Cl W a v) (k : Kp W W') : Cl W' a v := ⟨(k.cell h.2).trans h.1, Nat.lt_of_lt_of_le h.2 k.size⟩
theorem Cl.alloc_ {W : World} {a : Addr} {v : Int} (h : Cl W a v) (o : Obj) : Cl (W.alloc o) a v := h.kp (Kp.alloc_ _ _)
theorem cl_two {W : World} {A : Option Addr} {x y : Int} (h : Rd W A [x, y]) : ∃ a, A = some a ∧ Hid (Cl W a x) ∧ Hid (Cl W ⟨a.block, a.off + 1, none⟩ y) := by
  obtain ⟨ad, e, hb, hc⟩ := h.2 (by simp)
  have h0 := hc 0 x rfl
  have h1 := hc 1 y rfl
  exact ⟨ad, e, ⟨by simpa [Addr.add] using h0, hb⟩, ⟨by simpa [Addr.add] using h1, hb⟩⟩
theorem cl_one {W : World} {A : Option Addr} {xs : List Int} {x : Int} (h : Rd W A xs) (hx : xs[0]? = some x) : ∃ a, A = some a ∧ Hid (Cl W a x) := by
  obtain ⟨ad, e, hb, hc⟩ := h.2 (List.getElem?_eq_some_iff.1 hx).1
  have h0 := hc 0 x hx
  exact ⟨ad, e, ⟨by simpa [Addr.add] using h0, hb⟩⟩

set_option maxHeartbeats 4000000 in
set_option maxRecDepth 100000 in
theorem mmrows_far0 (A B C D : Option Addr) (n c m d o e q f : Nat) (q1 : Int) (w : World) (zn : n ≤ 9223372036854775807) (zm : m ≤ 9223372036854775807) (hf : 100 < n ∨ 100 < m) :
    Calls Try.prog 6 #[.agg #[.slice A n c, .slice B m d], .agg #[.slice C o e, .slice D q f], .int .i64 q1] w fun e w' => e = .returned (.bool true) ∧ Kp w w' := by
  have HN : Hid (∀ W, Calls Try.prog 10 #[.agg #[.slice A n c, .slice B m d]] W fun e w' => e = .returned (.bool false) ∧ Kp W w') := fun W => few_no zn zm hf
  clear hf
  go_enter Try.func6, Try.ntmps6
  go_wp2_with fail
  refine (mmawake_any _).mono ?_; rintro e0 w0 ⟨rfl, k0⟩
  have K := Lib.hid (((Kp.alloc_ _ _).al _).tr k0)
  have T0B : Hid (Bk w0 (w.heap.size) A n c B m d) := ((Bk.new rfl).alloc_ _).kp k0
  have T1B : Hid (Bk w0 (w.heap.size + 1) C o e D q f) := (Bk.new (by simp)).kp k0
  clear k0
  have zt0b0 := T0B.out.c0
  have zt0b1 := T0B.out.c1
  have zt0b2 := T0B.out.lt
  have zt1b0 := T1B.out.c0
  have zt1b1 := T1B.out.c1
  have zt1b2 := T1B.out.lt
  go_wp2_with fail
  refine (HN.out _).mono ?_; rintro e0 w1 ⟨rfl, k1⟩
  have K := Lib.hid (K.out.tr k1)
  have T0B := Lib.hid (T0B.out.kp k1)
  have T1B := Lib.hid (T1B.out.kp k1)
  clear k1 zt0b0 zt0b1 zt0b2 zt1b0 zt1b1 zt1b2
  have zt0b0 := T0B.out.c0
  have zt0b1 := T0B.out.c1
  have zt0b2 := T0B.out.lt
  have zt1b0 := T1B.out.c0
  have zt1b1 := T1B.out.c1
  have zt1b2 := T1B.out.lt
  go_wp2
  go_ret
  exact ⟨rfl, K.out⟩

set_option maxHeartbeats 4000000 in
set_option maxRecDepth 100000 in
theorem mmrows_far1 (A B C D : Option Addr) (n c m d o e q f : Nat) (q1 : Int) (w : World) (hn : n ≤ 100) (hm : m ≤ 100) (zo : o ≤ 9223372036854775807) (zq : q ≤ 9223372036854775807) (hf : 100 < o ∨ 100 < q) :
    Calls Try.prog 6 #[.agg #[.slice A n c, .slice B m d], .agg #[.slice C o e, .slice D q f], .int .i64 q1] w fun e w' => e = .returned (.bool true) ∧ Kp w w' := by
  have HN : Hid (∀ W, Calls Try.prog 10 #[.agg #[.slice C o e, .slice D q f]] W fun e w' => e = .returned (.bool false) ∧ Kp W w') := fun W => few_no zo zq hf
  clear hf
  go_enter Try.func6, Try.ntmps6
  go_wp2_with fail
  refine (mmawake_any _).mono ?_; rintro e0 w0 ⟨rfl, k0⟩
  have K := Lib.hid (((Kp.alloc_ _ _).al _).tr k0)
  have T0B : Hid (Bk w0 (w.heap.size) A n c B m d) := ((Bk.new rfl).alloc_ _).kp k0
  have T1B : Hid (Bk w0 (w.heap.size + 1) C o e D q f) := (Bk.new (by simp)).kp k0
  clear k0
  have zt0b0 := T0B.out.c0
  have zt0b1 := T0B.out.c1
  have zt0b2 := T0B.out.lt
  have zt1b0 := T1B.out.c0
  have zt1b1 := T1B.out.c1
  have zt1b2 := T1B.out.lt
  go_wp2_with fail
  refine (few_yes hn hm).mono ?_; rintro e0 w1 ⟨rfl, k1⟩
  have K := Lib.hid (K.out.tr k1)
  have T0B := Lib.hid (T0B.out.kp k1)
  have T1B := Lib.hid (T1B.out.kp k1)
  clear k1 zt0b0 zt0b1 zt0b2 zt1b0 zt1b1 zt1b2
  have zt0b0 := T0B.out.c0
  have zt0b1 := T0B.out.c1
  have zt0b2 := T0B.out.lt
  have zt1b0 := T1B.out.c0
  have zt1b1 := T1B.out.c1
  have zt1b2 := T1B.out.lt
  go_wp2_with fail
  refine (HN.out _).mono ?_; rintro e0 w2 ⟨rfl, k2⟩
  have K := Lib.hid (K.out.tr k2)
  have T0B := Lib.hid (T0B.out.kp k2)
  have T1B := Lib.hid (T1B.out.kp k2)
  clear k2 zt0b0 zt0b1 zt0b2 zt1b0 zt1b1 zt1b2
  have zt0b0 := T0B.out.c0
  have zt0b1 := T0B.out.c1
  have zt0b2 := T0B.out.lt
  have zt1b0 := T1B.out.c0
  have zt1b1 := T1B.out.c1
  have zt1b2 := T1B.out.lt
  go_wp2
  go_ret
  exact ⟨rfl, K.out⟩

set_option maxHeartbeats 8000000 in
set_option maxRecDepth 100000 in
theorem mmrows_far2 (A B C D : Option Addr) (n c m d o e q f : Nat) (q1 : Int) (l1 k1 : List Int) (a1 b1 : Nat) (e1 : Int) (w : World) (hn : n ≤ 100) (hm : m ≤ 100) (ho : o ≤ 100) (hq : q ≤ 100) (hx : e1 ≠ 0) (C1 : Hid (∀ W, Kp w W → Calls Try.prog 11 #[.agg #[.slice A n c, .slice B m d], .agg #[.slice C o e, .slice D q f]] W (RetU l1 k1 a1 b1 e1 W))) :
    Calls Try.prog 6 #[.agg #[.slice A n c, .slice B m d], .agg #[.slice C o e, .slice D q f], .int .i64 q1] w fun e w' => e = .returned (.bool true) ∧ Kp w w' := by
  have g1 : (e1 != 0) = true := by simpa using hx
  clear hx
  go_enter Try.func6, Try.ntmps6
  go_wp2_with fail
  refine (mmawake_any _).mono ?_; rintro e0 w0 ⟨rfl, k0⟩
  have K := Lib.hid (((Kp.alloc_ _ _).al _).tr k0)
  have T0B : Hid (Bk w0 (w.heap.size) A n c B m d) := ((Bk.new rfl).alloc_ _).kp k0
  have T1B : Hid (Bk w0 (w.heap.size + 1) C o e D q f) := (Bk.new (by simp)).kp k0
  clear k0
  have zt0b0 := T0B.out.c0
  have zt0b1 := T0B.out.c1
  have zt0b2 := T0B.out.lt
  have zt1b0 := T1B.out.c0
  have zt1b1 := T1B.out.c1
  have zt1b2 := T1B.out.lt
  go_wp2_with fail
  refine (few_yes hn hm).mono ?_; rintro e0 w1 ⟨rfl, k1⟩
  have K := Lib.hid (K.out.tr k1)
  have T0B := Lib.hid (T0B.out.kp k1)
  have T1B := Lib.hid (T1B.out.kp k1)
  clear k1 zt0b0 zt0b1 zt0b2 zt1b0 zt1b1 zt1b2
  have zt0b0 := T0B.out.c0
  have zt0b1 := T0B.out.c1
  have zt0b2 := T0B.out.lt
  have zt1b0 := T1B.out.c0
  have zt1b1 := T1B.out.c1
  have zt1b2 := T1B.out.lt
  go_wp2_with fail
  refine (few_yes ho hq).mono ?_; rintro e0 w2 ⟨rfl, k2⟩
  have K := Lib.hid (K.out.tr k2)
  have T0B := Lib.hid (T0B.out.kp k2)
  have T1B := Lib.hid (T1B.out.kp k2)
  clear k2 zt0b0 zt0b1 zt0b2 zt1b0 zt1b1 zt1b2
  have zt0b0 := T0B.out.c0
  have zt0b1 := T0B.out.c1
  have zt0b2 := T0B.out.lt
  have zt1b0 := T1B.out.c0
  have zt1b1 := T1B.out.c1
  have zt1b2 := T1B.out.lt
  go_wp2_with fail
  refine (C1.out _ K.out).mono ?_; rintro e0 w3 ⟨A3, c3, B3, d3, rfl, r3, k3⟩
  have K := Lib.hid (K.out.tr k3)
  have T0B := Lib.hid (T0B.out.kp k3)
  have T1B := Lib.hid (T1B.out.kp k3)
  have P := Lib.hid r3
  clear k3 r3 zt0b0 zt0b1 zt0b2 zt1b0 zt1b1 zt1b2
  go_wp2
  go_ret
  exact ⟨rfl, K.out.al _⟩

set_option maxHeartbeats 8000000 in
set_option maxRecDepth 100000 in
theorem mmrows_far3 (ad ae : Addr) (B D : Option Addr) (c m d e q f : Nat) (q1 q2 : Int) (M : Nat) (l1 k1 : List Int) (b1 : Nat) (w : World) (hm : m ≤ 100) (hq : q ≤ 100) (CA : Hid (Cl w ad (M : Int))) (w1 : IntKind.i64.wrap (q1 + 1) = q2) (hx : q1 < 0)
    (C1 : Hid (∀ W, Kp w W → Calls Try.prog 11 #[.agg #[.slice (some ad) 2 c, .slice B m d], .agg #[.slice (some ae) 2 e, .slice D q f]] W (RetU l1 k1 2 b1 0 W)))
    (C2 : Hid (∀ W, Kp w W → Calls Try.prog 21 #[.agg #[.slice (some ad) 2 c, .slice B m d], .int .i64 0, .int .i64 q1, .int .i64 q2] W (RetU [] [] 0 0 20 W))) :
    Calls Try.prog 6 #[.agg #[.slice (some ad) 2 c, .slice B m d], .agg #[.slice (some ae) 2 e, .slice D q f], .int .i64 q1] w fun e w' => e = .returned (.bool true) ∧ Kp w w' := by
  go_enter Try.func6, Try.ntmps6
  go_wp2_with fail
  refine (mmawake_any _).mono ?_; rintro e0 w0 ⟨rfl, k0⟩
  have K := Lib.hid (((Kp.alloc_ _ _).al _).tr k0)
  have CA := Lib.hid (((CA.out.alloc_ _).alloc_ _).kp k0)
  have T0B : Hid (Bk w0 (w.heap.size) (some ad) 2 c B m d) := ((Bk.new rfl).alloc_ _).kp k0
  have T1B : Hid (Bk w0 (w.heap.size + 1) (some ae) 2 e D q f) := (Bk.new (by simp)).kp k0
  clear k0
  have zt0b0 := T0B.out.c0
  have zt0b1 := T0B.out.c1
  have zt0b2 := T0B.out.lt
  have zt1b0 := T1B.out.c0
  have zt1b1 := T1B.out.c1
  have zt1b2 := T1B.out.lt
  go_wp2_with fail
  refine (few_yes (n := 2) (by omega) hm).mono ?_; rintro e0 w1 ⟨rfl, k1⟩
  have K := Lib.hid (K.out.tr k1)
  have T0B := Lib.hid (T0B.out.kp k1)
  have T1B := Lib.hid (T1B.out.kp k1)
  have CA := Lib.hid (CA.out.kp k1)
  clear k1 zt0b0 zt0b1 zt0b2 zt1b0 zt1b1 zt1b2
  have zt0b0 := T0B.out.c0
  have zt0b1 := T0B.out.c1
  have zt0b2 := T0B.out.lt
  have zt1b0 := T1B.out.c0
  have zt1b1 := T1B.out.c1
  have zt1b2 := T1B.out.lt
  go_wp2_with fail
  refine (few_yes (n := 2) (by omega) hq).mono ?_; rintro e0 w2 ⟨rfl, k2⟩
  have K := Lib.hid (K.out.tr k2)
  have T0B := Lib.hid (T0B.out.kp k2)
  have T1B := Lib.hid (T1B.out.kp k2)
  have CA := Lib.hid (CA.out.kp k2)
  clear k2 zt0b0 zt0b1 zt0b2 zt1b0 zt1b1 zt1b2
  have zt0b0 := T0B.out.c0
  have zt0b1 := T0B.out.c1
  have zt0b2 := T0B.out.lt
  have zt1b0 := T1B.out.c0
  have zt1b1 := T1B.out.c1
  have zt1b2 := T1B.out.lt
  go_wp2_with fail
  refine (C1.out _ K.out).mono ?_; rintro e0 w3 ⟨A3, c3, B3, d3, rfl, r3, k3⟩
  have K := Lib.hid (K.out.tr k3)
  have T0B := Lib.hid (T0B.out.kp k3)
  have T1B := Lib.hid (T1B.out.kp k3)
  have CA := Lib.hid (CA.out.kp k3)
  have P := Lib.hid r3
  clear k3 r3 zt0b0 zt0b1 zt0b2 zt1b0 zt1b1 zt1b2
  have zt0b0 := T0B.out.c0
  have zt0b1 := T0B.out.c1
  have zt0b2 := T0B.out.lt
  have zt1b0 := T1B.out.c0
  have zt1b1 := T1B.out.c1
  have zt1b2 := T1B.out.lt
  go_wp2_with fail
  refine (C2.out _ (K.out.al _)).mono ?_; rintro e0 w4 ⟨A4, c4, B4, d4, rfl, r4, k4⟩
  have K := Lib.hid ((K.out.al _).tr k4)
  have T0B := Lib.hid ((T0B.out.alloc_ _).kp k4)
  have T1B := Lib.hid ((T1B.out.alloc_ _).kp k4)
  have CA := Lib.hid ((CA.out.alloc_ _).kp k4)
  have P := Lib.hid ((P.out.alloc_ _).kp k4)
  have PB : Hid (Bk w4 w3.heap.size A3 2 c3 B3 b1 d3) := (Bk.new rfl).kp k4
  have X := Lib.hid r4
  clear k4 r4 zt0b0 zt0b1 zt0b2 zt1b0 zt1b1 zt1b2
  have zt0b0 := T0B.out.c0
  have zt0b1 := T0B.out.c1
  have zt0b2 := T0B.out.lt
  have qca0 := CA.out.1
  have qca1 := CA.out.2
  go_wp2
  go_ret
  exact ⟨rfl, K.out.al _⟩

set_option maxHeartbeats 8000000 in
set_option maxRecDepth 100000 in
theorem mmrows_far4 (ad ae : Addr) (B D : Option Addr) (c m d e q f : Nat) (q1 q2 : Int) (M : Nat) (l1 k1 : List Int) (b1 : Nat) (w : World) (hm : m ≤ 100) (hq : q ≤ 100) (CA : Hid (Cl w ad (M : Int))) (w1 : IntKind.i64.wrap (q1 + 1) = q2) (hx0 : ¬ q1 < 0) (hx : (M : Int) ≤ q1)
    (C1 : Hid (∀ W, Kp w W → Calls Try.prog 11 #[.agg #[.slice (some ad) 2 c, .slice B m d], .agg #[.slice (some ae) 2 e, .slice D q f]] W (RetU l1 k1 2 b1 0 W)))
    (C2 : Hid (∀ W, Kp w W → Calls Try.prog 21 #[.agg #[.slice (some ad) 2 c, .slice B m d], .int .i64 0, .int .i64 q1, .int .i64 q2] W (RetU [] [] 0 0 20 W))) :
    Calls Try.prog 6 #[.agg #[.slice (some ad) 2 c, .slice B m d], .agg #[.slice (some ae) 2 e, .slice D q f], .int .i64 q1] w fun e w' => e = .returned (.bool true) ∧ Kp w w' := by
  go_enter Try.func6, Try.ntmps6
  go_wp2_with fail
  refine (mmawake_any _).mono ?_; rintro e0 w0 ⟨rfl, k0⟩
  have K := Lib.hid (((Kp.alloc_ _ _).al _).tr k0)
  have CA := Lib.hid (((CA.out.alloc_ _).alloc_ _).kp k0)
  have T0B : Hid (Bk w0 (w.heap.size) (some ad) 2 c B m d) := ((Bk.new rfl).alloc_ _).kp k0
  have T1B : Hid (Bk w0 (w.heap.size + 1) (some ae) 2 e D q f) := (Bk.new (by simp)).kp k0
  clear k0
  have zt0b0 := T0B.out.c0
  have zt0b1 := T0B.out.c1
  have zt0b2 := T0B.out.lt
  have zt1b0 := T1B.out.c0
  have zt1b1 := T1B.out.c1
  have zt1b2 := T1B.out.lt
  go_wp2_with fail
  refine (few_yes (n := 2) (by omega) hm).mono ?_; rintro e0 w1 ⟨rfl, k1⟩
  have K := Lib.hid (K.out.tr k1)
  have T0B := Lib.hid (T0B.out.kp k1)
  have T1B := Lib.hid (T1B.out.kp k1)
  have CA := Lib.hid (CA.out.kp k1)
  clear k1 zt0b0 zt0b1 zt0b2 zt1b0 zt1b1 zt1b2
  have zt0b0 := T0B.out.c0
  have zt0b1 := T0B.out.c1
  have zt0b2 := T0B.out.lt
  have zt1b0 := T1B.out.c0
  have zt1b1 := T1B.out.c1
  have zt1b2 := T1B.out.lt
  go_wp2_with fail
  refine (few_yes (n := 2) (by omega) hq).mono ?_; rintro e0 w2 ⟨rfl, k2⟩
  have K := Lib.hid (K.out.tr k2)
  have T0B := Lib.hid (T0B.out.kp k2)
  have T1B := Lib.hid (T1B.out.kp k2)
  have CA := Lib.hid (CA.out.kp k2)
  clear k2 zt0b0 zt0b1 zt0b2 zt1b0 zt1b1 zt1b2
  have zt0b0 := T0B.out.c0
  have zt0b1 := T0B.out.c1
  have zt0b2 := T0B.out.lt
  have zt1b0 := T1B.out.c0
  have zt1b1 := T1B.out.c1
  have zt1b2 := T1B.out.lt
  go_wp2_with fail
  refine (C1.out _ K.out).mono ?_; rintro e0 w3 ⟨A3, c3, B3, d3, rfl, r3, k3⟩
  have K := Lib.hid (K.out.tr k3)
  have T0B := Lib.hid (T0B.out.kp k3)
  have T1B := Lib.hid (T1B.out.kp k3)
  have CA := Lib.hid (CA.out.kp k3)
  have P := Lib.hid r3
  clear k3 r3 zt0b0 zt0b1 zt0b2 zt1b0 zt1b1 zt1b2
  have zt0b0 := T0B.out.c0
  have zt0b1 := T0B.out.c1
  have zt0b2 := T0B.out.lt
  have zt1b0 := T1B.out.c0
  have zt1b1 := T1B.out.c1
  have zt1b2 := T1B.out.lt
  go_wp2_with fail
  refine (C2.out _ (K.out.al _)).mono ?_; rintro e0 w4 ⟨A4, c4, B4, d4, rfl, r4, k4⟩
  have K := Lib.hid ((K.out.al _).tr k4)
  have T0B := Lib.hid ((T0B.out.alloc_ _).kp k4)
  have T1B := Lib.hid ((T1B.out.alloc_ _).kp k4)
  have CA := Lib.hid ((CA.out.alloc_ _).kp k4)
  have P := Lib.hid ((P.out.alloc_ _).kp k4)
  have PB : Hid (Bk w4 w3.heap.size A3 2 c3 B3 b1 d3) := (Bk.new rfl).kp k4
  have X := Lib.hid r4
  clear k4 r4 zt0b0 zt0b1 zt0b2 zt1b0 zt1b1 zt1b2
  have zt0b0 := T0B.out.c0
  have zt0b1 := T0B.out.c1
  have zt0b2 := T0B.out.lt
  have qca0 := CA.out.1
  have qca1 := CA.out.2
  go_wp2
  go_ret
  exact ⟨rfl, K.out.al _⟩

set_option maxHeartbeats 8000000 in
set_option maxRecDepth 100000 in
theorem mmrows_with (ad ae : Addr) (B D : Option Addr) (c m d e q f : Nat) (r M KN : Nat) (q2 : Int) (l1 k1 l2 k2 l3 k3 ones l6 k6 l7 : List Int) (b1 b2 b3 b6 a6 a7 : Nat) (e6 : Int) (w : World) (hm : m ≤ 100) (hq : q ≤ 100) (CA : Hid (Cl w ad (M : Int))) (CB : Hid (Cl w ae (KN : Int))) (w1 : IntKind.i64.wrap ((r : Int) + 1) = q2) (hr : r < M)
    (L3 : Hid (l3.length = 2 ∧ k3.length = b3)) (L6 : Hid (k6.length = b6))
    (C1 : Hid (∀ W, Kp w W → Calls Try.prog 11 #[.agg #[.slice (some ad) 2 c, .slice B m d], .agg #[.slice (some ae) 2 e, .slice D q f]] W (RetU l1 k1 2 b1 0 W)))
    (C2 : Hid (∀ W, Kp w W → Calls Try.prog 21 #[.agg #[.slice (some ad) 2 c, .slice B m d], .int .i64 0, .int .i64 (r : Int), .int .i64 q2] W (RetU l2 k2 2 b2 0 W)))
    (C3 : Hid (∀ W A0 B0 c0 d0, Kp w W → TR W A0 l2 B0 k2 → Calls Try.prog 11 #[.agg #[.slice A0 2 c0, .slice B0 b2 d0], .agg #[.slice (some ae) 2 e, .slice D q f]] W (RetU l3 k3 2 b3 0 W)))
    (C4 : Hid (∀ W A0 B0 c0 d0, Kp w W → TR W A0 l1 B0 k1 → Calls Try.prog 21 #[.agg #[.slice A0 2 c0, .slice B0 b1 d0], .int .i64 0, .int .i64 (r : Int), .int .i64 q2] W (RetU l3 k3 2 b3 0 W)))
    (C5 : Hid (∀ W g, Kp w W → Rd W (some ⟨g, 0, none⟩) [1, (KN : Int)] → Calls Try.prog 22 #[.slice (some ⟨g, 0, none⟩) 2 2, .int .i64 4294967296] W (RetU [1, (KN : Int)] ones 2 KN 0 W)))
    (C6 : Hid (∀ W A0 B0 c0 d0, Kp w W → TR W A0 [1, (KN : Int)] B0 ones → Calls Try.prog 11 #[.agg #[.slice A0 2 c0, .slice B0 KN d0], .agg #[.slice (some ae) 2 e, .slice D q f]] W (RetU l6 k6 a6 b6 e6 W)))
    (C7 : Hid (∀ W, Kp w W → Calls Try.prog 23 #[.agg #[.slice (some ae) 2 e, .slice D q f], .int .i64 0] W (RetU l7 k6 a7 b6 e6 W))) :
    Calls Try.prog 6 #[.agg #[.slice (some ad) 2 c, .slice B m d], .agg #[.slice (some ae) 2 e, .slice D q f], .int .i64 (r : Int)] w fun e w' => e = .returned (.bool true) ∧ Kp w w' := by
  have r0 : ¬ (r : Int) < 0 := by omega
  have r1 : ¬ (M : Int) ≤ (r : Int) := by omega
  have hee : (e6 == e6) = true := by simp
  go_enter Try.func6, Try.ntmps6
  go_wp2_with fail
  refine (mmawake_any _).mono ?_; rintro e0 w0 ⟨rfl, k0⟩
  have K := Lib.hid (((Kp.alloc_ _ _).al _).tr k0)
  have CA := Lib.hid (((CA.out.alloc_ _).alloc_ _).kp k0)
  have CB := Lib.hid (((CB.out.alloc_ _).alloc_ _).kp k0)
  have T0B : Hid (Bk w0 (w.heap.size) (some ad) 2 c B m d) := ((Bk.new rfl).alloc_ _).kp k0
  have T1B : Hid (Bk w0 (w.heap.size + 1) (some ae) 2 e D q f) := (Bk.new (by simp)).kp k0
  clear k0
  have zt0b0 := T0B.out.c0
  have zt0b1 := T0B.out.c1
  have zt0b2 := T0B.out.lt
  have zt1b0 := T1B.out.c0
  have zt1b1 := T1B.out.c1
  have zt1b2 := T1B.out.lt
  go_wp2_with fail
  refine (few_yes (n := 2) (by omega) hm).mono ?_; rintro e0 w1 ⟨rfl, k1⟩
  have K := Lib.hid (K.out.tr k1)
  have T0B := Lib.hid (T0B.out.kp k1)
  have T1B := Lib.hid (T1B.out.kp k1)
  have CA := Lib.hid (CA.out.kp k1)
  have CB := Lib.hid (CB.out.kp k1)
  clear k1 zt0b0 zt0b1 zt0b2 zt1b0 zt1b1 zt1b2
  have zt0b0 := T0B.out.c0
  have zt0b1 := T0B.out.c1
  have zt0b2 := T0B.out.lt
  have zt1b0 := T1B.out.c0
  have zt1b1 := T1B.out.c1
  have zt1b2 := T1B.out.lt
  go_wp2_with fail
  refine (few_yes (n := 2) (by omega) hq).mono ?_; rintro e0 w2 ⟨rfl, k2⟩
  have K := Lib.hid (K.out.tr k2)
  have T0B := Lib.hid (T0B.out.kp k2)
  have T1B := Lib.hid (T1B.out.kp k2)
  have CA := Lib.hid (CA.out.kp k2)
  have CB := Lib.hid (CB.out.kp k2)
  clear k2 zt0b0 zt0b1 zt0b2 zt1b0 zt1b1 zt1b2
  have zt0b0 := T0B.out.c0
  have zt0b1 := T0B.out.c1
  have zt0b2 := T0B.out.lt
  have zt1b0 := T1B.out.c0
  have zt1b1 := T1B.out.c1
  have zt1b2 := T1B.out.lt
  go_wp2_with fail
  refine (C1.out _ K.out).mono ?_; rintro e0 w3 ⟨A3, c3, B3, d3, rfl, r3, k3⟩
  have K := Lib.hid (K.out.tr k3)
  have T0B := Lib.hid (T0B.out.kp k3)
  have T1B := Lib.hid (T1B.out.kp k3)
  have CA := Lib.hid (CA.out.kp k3)
  have CB := Lib.hid (CB.out.kp k3)
  have P := Lib.hid r3
  clear k3 r3 zt0b0 zt0b1 zt0b2 zt1b0 zt1b1 zt1b2
  have zt0b0 := T0B.out.c0
  have zt0b1 := T0B.out.c1
  have zt0b2 := T0B.out.lt
  have zt1b0 := T1B.out.c0
  have zt1b1 := T1B.out.c1
  have zt1b2 := T1B.out.lt
  go_wp2_with fail
  refine (C2.out _ (K.out.al _)).mono ?_; rintro e0 w4 ⟨A4, c4, B4, d4, rfl, r4, k4⟩
  have K := Lib.hid ((K.out.al _).tr k4)
  have T0B := Lib.hid ((T0B.out.alloc_ _).kp k4)
  have T1B := Lib.hid ((T1B.out.alloc_ _).kp k4)
  have CA := Lib.hid ((CA.out.alloc_ _).kp k4)
  have CB := Lib.hid ((CB.out.alloc_ _).kp k4)
  have P := Lib.hid ((P.out.alloc_ _).kp k4)
  have PB : Hid (Bk w4 w3.heap.size A3 2 c3 B3 b1 d3) := (Bk.new rfl).kp k4
  have X := Lib.hid r4
  clear k4 r4 zt0b0 zt0b1 zt0b2 zt1b0 zt1b1 zt1b2
  have zt0b0 := T0B.out.c0
  have zt0b1 := T0B.out.c1
  have zt0b2 := T0B.out.lt
  have zt1b0 := T1B.out.c0
  have zt1b1 := T1B.out.c1
  have zt1b2 := T1B.out.lt
  have qca0 := CA.out.1
  have qca1 := CA.out.2
  go_wp2_with fail
  refine (C3.out _ _ _ _ _ (K.out.al _) (X.out.alloc_ _)).mono ?_; rintro e0 w5 ⟨A5, c5, B5, d5, rfl, r5, k5⟩
  have K := Lib.hid ((K.out.al _).tr k5)
  have T0B := Lib.hid ((T0B.out.alloc_ _).kp k5)
  have T1B := Lib.hid ((T1B.out.alloc_ _).kp k5)
  have PB := Lib.hid ((PB.out.alloc_ _).kp k5)
  have CA := Lib.hid ((CA.out.alloc_ _).kp k5)
  have CB := Lib.hid ((CB.out.alloc_ _).kp k5)
  have P := Lib.hid ((P.out.alloc_ _).kp k5)
  have XB : Hid (Bk w5 w4.heap.size A4 2 c4 B4 b2 d4) := (Bk.new rfl).kp k5
  have Q := Lib.hid r5
  clear k5 r5 zt0b0 zt0b1 zt0b2 zt1b0 zt1b1 zt1b2 qca0 qca1 X
  have zpb0 := PB.out.c0
  have zpb1 := PB.out.c1
  have zpb2 := PB.out.lt
  go_wp2_with fail
  refine (C4.out _ _ _ _ _ (K.out.al _) (P.out.alloc_ _)).mono ?_; rintro e0 w6 ⟨A6, c6, B6, d6, rfl, r6, k6⟩
  have K := Lib.hid ((K.out.al _).tr k6)
  have T0B := Lib.hid ((T0B.out.alloc_ _).kp k6)
  have T1B := Lib.hid ((T1B.out.alloc_ _).kp k6)
  have XB := Lib.hid ((XB.out.alloc_ _).kp k6)
  have CA := Lib.hid ((CA.out.alloc_ _).kp k6)
  have CB := Lib.hid ((CB.out.alloc_ _).kp k6)
  have Q := Lib.hid ((Q.out.alloc_ _).kp k6)
  have QB : Hid (Bk w6 w5.heap.size A5 2 c5 B5 b3 d5) := (Bk.new rfl).kp k6
  have V := Lib.hid r6
  clear k6 r6 zpb0 zpb1 zpb2 P PB
  have zt1b0 := T1B.out.c0
  have zt1b1 := T1B.out.c1
  have zt1b2 := T1B.out.lt
  have qcb0 := CB.out.1
  have qcb1 := CB.out.2
  go_wp2_with fail
  refine (C5.out _ _ ((K.out.al _).al _) (Rd.two_ (by simp))).mono ?_; rintro e0 w7 ⟨A7, c7, B7, d7, rfl, r7, k7⟩
  have K := Lib.hid (((K.out.al _).al _).tr k7)
  have T0B := Lib.hid (((T0B.out.alloc_ _).alloc_ _).kp k7)
  have T1B := Lib.hid (((T1B.out.alloc_ _).alloc_ _).kp k7)
  have QB := Lib.hid (((QB.out.alloc_ _).alloc_ _).kp k7)
  have CA := Lib.hid (((CA.out.alloc_ _).alloc_ _).kp k7)
  have CB := Lib.hid (((CB.out.alloc_ _).alloc_ _).kp k7)
  have Q := Lib.hid (((Q.out.alloc_ _).alloc_ _).kp k7)
  have V := Lib.hid (((V.out.alloc_ _).alloc_ _).kp k7)
  have VB : Hid (Bk w7 w6.heap.size A6 2 c6 B6 b3 d6) := ((Bk.new rfl).alloc_ _).kp k7
  have N := Lib.hid r7
  clear k7 r7 zt1b0 zt1b1 zt1b2 qcb0 qcb1 XB
  have zt1b0 := T1B.out.c0
  have zt1b1 := T1B.out.c1
  have zt1b2 := T1B.out.lt
  go_wp2_with fail
  refine (C6.out _ _ _ _ _ (K.out.al _) (N.out.alloc_ _)).mono ?_; rintro e0 w8 ⟨A8, c8, B8, d8, rfl, r8, k8⟩
  have K := Lib.hid ((K.out.al _).tr k8)
  have T0B := Lib.hid ((T0B.out.alloc_ _).kp k8)
  have T1B := Lib.hid ((T1B.out.alloc_ _).kp k8)
  have QB := Lib.hid ((QB.out.alloc_ _).kp k8)
  have VB := Lib.hid ((VB.out.alloc_ _).kp k8)
  have CA := Lib.hid ((CA.out.alloc_ _).kp k8)
  have CB := Lib.hid ((CB.out.alloc_ _).kp k8)
  have Q := Lib.hid ((Q.out.alloc_ _).kp k8)
  have V := Lib.hid ((V.out.alloc_ _).kp k8)
  have NB : Hid (Bk w8 w7.heap.size A7 2 c7 B7 KN d7) := (Bk.new rfl).kp k8
  have S := Lib.hid r8
  clear k8 r8 zt1b0 zt1b1 zt1b2 N
  have zt1b0 := T1B.out.c0
  have zt1b1 := T1B.out.c1
  have zt1b2 := T1B.out.lt
  go_wp2_with fail
  refine (C7.out _ (K.out.al _)).mono ?_; rintro e0 w9 ⟨A9, c9, B9, d9, rfl, r9, k9⟩
  have K := Lib.hid ((K.out.al _).tr k9)
  have T0B := Lib.hid ((T0B.out.alloc_ _).kp k9)
  have T1B := Lib.hid ((T1B.out.alloc_ _).kp k9)
  have QB := Lib.hid ((QB.out.alloc_ _).kp k9)
  have VB := Lib.hid ((VB.out.alloc_ _).kp k9)
  have CA := Lib.hid ((CA.out.alloc_ _).kp k9)
  have CB := Lib.hid ((CB.out.alloc_ _).kp k9)
  have Q := Lib.hid ((Q.out.alloc_ _).kp k9)
  have V := Lib.hid ((V.out.alloc_ _).kp k9)
  have S := Lib.hid ((S.out.alloc_ _).kp k9)
  have SB : Hid (Bk w9 w8.heap.size A8 a6 c8 B8 b6 d8) := (Bk.new rfl).kp k9
  have Z := Lib.hid r9
  clear k9 r9 zt1b0 zt1b1 zt1b2 NB
  have zqb0 := QB.out.c0
  have zqb1 := QB.out.c1
  have zqb2 := QB.out.lt
  have zvb0 := VB.out.c0
  have zvb1 := VB.out.c1
  have zvb2 := VB.out.lt
  go_wp2_with fail
  refine (tsame_u (Q.out.alloc_ _) (V.out.alloc_ _) L3.out.1 L3.out.2).mono ?_; rintro e0 w10 ⟨rfl, k10⟩
  have K := Lib.hid ((K.out.al _).tr k10)
  have T0B := Lib.hid ((T0B.out.alloc_ _).kp k10)
  have T1B := Lib.hid ((T1B.out.alloc_ _).kp k10)
  have QB := Lib.hid ((QB.out.alloc_ _).kp k10)
  have VB := Lib.hid ((VB.out.alloc_ _).kp k10)
  have SB := Lib.hid ((SB.out.alloc_ _).kp k10)
  have CA := Lib.hid ((CA.out.alloc_ _).kp k10)
  have CB := Lib.hid ((CB.out.alloc_ _).kp k10)
  have Q := Lib.hid ((Q.out.alloc_ _).kp k10)
  have V := Lib.hid ((V.out.alloc_ _).kp k10)
  have S := Lib.hid ((S.out.alloc_ _).kp k10)
  have Z := Lib.hid ((Z.out.alloc_ _).kp k10)
  have ZB : Hid (Bk w10 w9.heap.size A9 a7 c9 B9 b6 d9) := (Bk.new rfl).kp k10
  clear k10 zqb0 zqb1 zqb2 zvb0 zvb1 zvb2
  have zsb0 := SB.out.c0
  have zsb1 := SB.out.c1
  have zsb2 := SB.out.lt
  have zzb0 := ZB.out.c0
  have zzb1 := ZB.out.c1
  have zzb2 := ZB.out.lt
  go_wp2_with fail
  refine (same_k k6 k6 S.out.d Z.out.d L6.out.symm L6.out.symm (r := true) (by simp)).mono ?_; rintro e0 w11 ⟨rfl, k11⟩
  have K := Lib.hid (K.out.tr k11)
  have T0B := Lib.hid (T0B.out.kp k11)
  have T1B := Lib.hid (T1B.out.kp k11)
  have QB := Lib.hid (QB.out.kp k11)
  have VB := Lib.hid (VB.out.kp k11)
  have SB := Lib.hid (SB.out.kp k11)
  have ZB := Lib.hid (ZB.out.kp k11)
  have CA := Lib.hid (CA.out.kp k11)
  have CB := Lib.hid (CB.out.kp k11)
  have Q := Lib.hid (Q.out.kp k11)
  have V := Lib.hid (V.out.kp k11)
  have S := Lib.hid (S.out.kp k11)
  have Z := Lib.hid (Z.out.kp k11)
  clear k11 zsb0 zsb1 zsb2 zzb0 zzb1 zzb2
  go_wp2
  go_ret
  exact ⟨rfl, K.out⟩

theorem mmrows_walk (A B C D : Option Addr) (c d e f : Nat) (q1 : Int) (s xs t ys : List Int) (w : World) (J1 : -9223372036854775808 ≤ q1 ∧ q1 ≤ 9223372036854775807) (R0 : TR w A s B xs) (I0 : I64s xs) (R1 : TR w C t D ys) (I1 : I64s ys) (HC : Hid (t.length ≤ e ∧ e ≤ 9223372036854775807)) :
    Calls Try.prog 6 #[.agg #[.slice A s.length c, .slice B xs.length d], .agg #[.slice C t.length e, .slice D ys.length f], .int .i64 q1] w fun e w' => e = .returned (.bool true) ∧ Kp w w' := by
  by_cases f0 : 100 < s.length ∨ 100 < xs.length
  · exact mmrows_far0 A B C D _ c _ d _ e _ f q1 w  R0.s.len R0.d.len f0
  by_cases f1 : 100 < t.length ∨ 100 < ys.length
  · exact mmrows_far1 A B C D _ c _ d _ e _ f q1 w (by omega) (by omega) R1.s.len R1.d.len f1
  obtain ⟨l1, k1, e1, r1⟩ : ∃ l k e, matV s xs t ys = (l, k, e) := ⟨_, _, _, rfl⟩
  have HC1 := Lib.hid fun W (k : Kp w W) => pmat_u (c := c) (d := d) (e := e) (f := f) s xs t ys (R0.kp k) (R1.kp k) I0 I1 rfl rfl rfl rfl r1 rfl rfl
  by_cases h1 : e1 = 0
  · obtain ⟨b0, b1, M, K, N, rfl, rfl, ho, hm, r2⟩ := mat_inv (s := s) (xs := xs) (t := t) (ys := ys) (by rw [r1]; exact h1)
    obtain ⟨ad, rfl, CA, _⟩ := cl_two R0.s
    obtain ⟨ae, rfl, CB, _⟩ := cl_two R1.s
    rw [r1] at r2
    injection r2 with z1 r2
    injection r2 with z2 z3
    subst z1 z2 h1
    by_cases hx : q1 < 0
    · exact mmrows_far3 ad ae B D c _ d e _ f q1 _ M _ _ _ w (by omega) (by omega) CA rfl hx HC1
        (Lib.hid fun W k => pslice_u _ xs 0 q1 _ (R0.kp k) rfl rfl (slice_off b0 (Or.inl hx) (wrap_row J1)) rfl rfl)
    by_cases hy : (M : Int) ≤ q1
    · exact mmrows_far4 ad ae B D c _ d e _ f q1 _ M _ _ _ w (by omega) (by omega) CA rfl hx hy HC1
        (Lib.hid fun W k => pslice_u _ xs 0 q1 _ (R0.kp k) rfl rfl (slice_off b0 (Or.inr hy) (wrap_row J1)) rfl rfl)
    obtain ⟨r, rfl⟩ : ∃ r : Nat, q1 = (r : Int) := ⟨q1.toNat, by omega⟩
    have hr : r < M := by omega
    obtain ⟨m1, m2, n1, n2, _, _⟩ := tab_ok ho
    have hk := (tab_ok (tok_iff.1 b0).1)
    obtain ⟨l6, k6, l7, e6, r6, r7⟩ := mat_ones b1 I1
    have hl67 : k6.length = k6.length := rfl
    exact mmrows_with ad ae B D c _ d e _ f r M K ((r : Int) + 1) _ _ _ (rowL xs K r) _ (rowL _ N r) (List.replicate K 4294967296) l6 k6 l7 _ _ _ _ _ _ e6 w (by omega) (by omega) CA CB (IntWalk.i64_in _ (by omega)) hr (Lib.hid ⟨rfl, rfl⟩) (Lib.hid rfl) HC1
      (Lib.hid fun W k => pslice_u _ xs 0 r _ (R0.kp k) rfl rfl (slice_row b0 hr) rfl rfl)
      (Lib.hid fun W A0 B0 c0 d0 k q => pmat_u _ _ _ ys q (R1.kp k) (row_i64 I0 K r) I1 rfl rfl rfl rfl (mat_row b0 b1 ho hm hr) rfl rfl)
      (Lib.hid fun W A0 B0 c0 d0 k q => pslice_u _ _ 0 r _ q rfl rfl (slice_row (tab_tok ho (matL_len hm)) hr) rfl rfl)
      (Lib.hid fun W g k q => full_u [1, (K : Int)] 4294967296 q rfl (full_row (ok_row (ok_two (tok_iff.1 b1).1))) rfl (by simp))
      (Lib.hid fun W A0 B0 c0 d0 k q => pmat_u _ _ _ ys q (R1.kp k) (I64s.rep (by omega)) I1 rfl (by simp) rfl rfl r6 rfl rfl)
      (Lib.hid fun W k => psum_u _ ys 0 (R1.kp k) HC I1 rfl rfl r7 rfl rfl)
  · exact mmrows_far2 A B C D _ c _ d _ e _ f q1 l1 k1 _ _ e1 w (by omega) (by omega) (by omega) (by omega) h1 HC1
end Go.Proofs.Ytepnhmdjglpmeaa
