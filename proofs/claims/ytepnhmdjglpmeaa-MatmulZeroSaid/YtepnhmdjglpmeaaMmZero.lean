/- By a table of 0 a product is 0, a table of one number times another one is that product, and whether two have one does not hang on what they are: the law's call returns true. -/
import Derived.Test.YtepnhmdjglpmeaaMmG
import Derived.Test.YtepnhmdjglpmeaaMmL
namespace Go.Proofs.Ytepnhmdjglpmeaa
open Go.RowKit Go.Proofs.ShM Go.Proofs.FixM
set_option linter.unusedVariables false
set_option linter.unusedSimpArgs false

/-- A number's cell. -/
def Cl (W : World) (a : Addr) (v : Int) : Prop := W.cell? a = some (.int .i64 v) ∧ a.block < W.heap.size
theorem Cl.kp {W W' : World} {a : Addr} {v : Int} (h : Cl W a v) (k : Kp W W') : Cl W' a v := ⟨(k.cell h.2).trans h.1, Nat.lt_of_lt_of_le h.2 k.size⟩
theorem Cl.alloc_ {W : World} {a : Addr} {v : Int} (h : Cl W a v) (o : Obj) : Cl (W.alloc o) a v := h.kp (Kp.alloc_ _ _)
theorem cl_two {W : World} {A : Option Addr} {x y : Int} (h : Rd W A [x, y]) : ∃ a, A = some a ∧ Hid (Cl W a x) ∧ Hid (Cl W ⟨a.block, a.off + 1, none⟩ y) := by
  obtain ⟨ad, e, hb, hc⟩ := h.2 (by simp)
  have h0 := hc 0 x rfl
  have h1 := hc 1 y rfl
  exact ⟨ad, e, ⟨by simpa [Addr.add] using h0, hb⟩, ⟨by simpa [Addr.add] using h1, hb⟩⟩
theorem cl_one {W : World} {A : Option Addr} {xs : List Int} {x : Int} (h : Rd W A xs) (hx : xs[0]? = some x) : ∃ a, A = some a ∧ Hid (Cl W a x) := by
  obtain ⟨ad, e, hb, hc⟩ := h.2 (List.getElem?_eq_some_iff.1 hx).1
  have h0 := hc 0 x hx
  exact ⟨ad, e, ⟨by simpa [Addr.add] using h0, hb⟩⟩

set_option maxHeartbeats 4000000 in
set_option maxRecDepth 100000 in
theorem mmzero_far0 (A B C D : Option Addr) (n c m d o e q f : Nat) (w : World) (zn : n ≤ 9223372036854775807) (zm : m ≤ 9223372036854775807) (hf : 100 < n ∨ 100 < m) :
    Calls Try.prog 7 #[.agg #[.slice A n c, .slice B m d], .agg #[.slice C o e, .slice D q f]] w fun e w' => e = .returned (.bool true) ∧ Kp w w' := by
  have HN : Hid (∀ W, Calls Try.prog 10 #[.agg #[.slice A n c, .slice B m d]] W fun e w' => e = .returned (.bool false) ∧ Kp W w') := fun W => few_no zn zm hf
  clear hf
  go_enter Try.func7, Try.ntmps7
  go_wp2_with fail
  refine (mmawake_any _).mono ?_; rintro e0 w0 ⟨rfl, k0⟩
  have K := Lib.hid (((Kp.alloc_ _ _).al _).tr k0)
  have T0B : Hid (Bk w0 (w.heap.size) A n c B m d) := ((Bk.new rfl).alloc_ _).kp k0
  have T1B : Hid (Bk w0 (w.heap.size + 1) C o e D q f) := (Bk.new (by simp)).kp k0
  clear k0
  have zt0b0 := T0B.out.c0
  have zt0b1 := T0B.out.c1
  have zt0b2 := T0B.out.lt
  have zt1b0 := T1B.out.c0
  have zt1b1 := T1B.out.c1
  have zt1b2 := T1B.out.lt
  go_wp2_with fail
  refine (HN.out _).mono ?_; rintro e0 w1 ⟨rfl, k1⟩
  have K := Lib.hid (K.out.tr k1)
  have T0B := Lib.hid (T0B.out.kp k1)
  have T1B := Lib.hid (T1B.out.kp k1)
  clear k1 zt0b0 zt0b1 zt0b2 zt1b0 zt1b1 zt1b2
  have zt0b0 := T0B.out.c0
  have zt0b1 := T0B.out.c1
  have zt0b2 := T0B.out.lt
  have zt1b0 := T1B.out.c0
  have zt1b1 := T1B.out.c1
  have zt1b2 := T1B.out.lt
  go_wp2
  go_ret
  exact ⟨rfl, K.out⟩

set_option maxHeartbeats 4000000 in
set_option maxRecDepth 100000 in
theorem mmzero_far1 (A B C D : Option Addr) (n c m d o e q f : Nat) (w : World) (hn : n ≤ 100) (hm : m ≤ 100) (zo : o ≤ 9223372036854775807) (zq : q ≤ 9223372036854775807) (hf : 100 < o ∨ 100 < q) :
    Calls Try.prog 7 #[.agg #[.slice A n c, .slice B m d], .agg #[.slice C o e, .slice D q f]] w fun e w' => e = .returned (.bool true) ∧ Kp w w' := by
  have HN : Hid (∀ W, Calls Try.prog 10 #[.agg #[.slice C o e, .slice D q f]] W fun e w' => e = .returned (.bool false) ∧ Kp W w') := fun W => few_no zo zq hf
  clear hf
  go_enter Try.func7, Try.ntmps7
  go_wp2_with fail
  refine (mmawake_any _).mono ?_; rintro e0 w0 ⟨rfl, k0⟩
  have K := Lib.hid (((Kp.alloc_ _ _).al _).tr k0)
  have T0B : Hid (Bk w0 (w.heap.size) A n c B m d) := ((Bk.new rfl).alloc_ _).kp k0
  have T1B : Hid (Bk w0 (w.heap.size + 1) C o e D q f) := (Bk.new (by simp)).kp k0
  clear k0
  have zt0b0 := T0B.out.c0
  have zt0b1 := T0B.out.c1
  have zt0b2 := T0B.out.lt
  have zt1b0 := T1B.out.c0
  have zt1b1 := T1B.out.c1
  have zt1b2 := T1B.out.lt
  go_wp2_with fail
  refine (few_yes hn hm).mono ?_; rintro e0 w1 ⟨rfl, k1⟩
  have K := Lib.hid (K.out.tr k1)
  have T0B := Lib.hid (T0B.out.kp k1)
  have T1B := Lib.hid (T1B.out.kp k1)
  clear k1 zt0b0 zt0b1 zt0b2 zt1b0 zt1b1 zt1b2
  have zt0b0 := T0B.out.c0
  have zt0b1 := T0B.out.c1
  have zt0b2 := T0B.out.lt
  have zt1b0 := T1B.out.c0
  have zt1b1 := T1B.out.c1
  have zt1b2 := T1B.out.lt
  go_wp2_with fail
  refine (HN.out _).mono ?_; rintro e0 w2 ⟨rfl, k2⟩
  have K := Lib.hid (K.out.tr k2)
  have T0B := Lib.hid (T0B.out.kp k2)
  have T1B := Lib.hid (T1B.out.kp k2)
  clear k2 zt0b0 zt0b1 zt0b2 zt1b0 zt1b1 zt1b2
  have zt0b0 := T0B.out.c0
  have zt0b1 := T0B.out.c1
  have zt0b2 := T0B.out.lt
  have zt1b0 := T1B.out.c0
  have zt1b1 := T1B.out.c1
  have zt1b2 := T1B.out.lt
  go_wp2
  go_ret
  exact ⟨rfl, K.out⟩

set_option maxHeartbeats 4000000 in
set_option maxRecDepth 100000 in
theorem mmzero_far2 (A B C D : Option Addr) (n c m d o e q f : Nat) (w : World) (hn : n ≤ 100) (hm : m ≤ 100) (ho : o ≤ 100) (hq : q ≤ 100) (HC0 : Hid (∀ W, Kp w W → Calls Try.prog 18 #[.agg #[.slice A n c, .slice B m d]] W fun e w' => e = .returned (.bool false) ∧ Kp W w')) :
    Calls Try.prog 7 #[.agg #[.slice A n c, .slice B m d], .agg #[.slice C o e, .slice D q f]] w fun e w' => e = .returned (.bool true) ∧ Kp w w' := by
  go_enter Try.func7, Try.ntmps7
  go_wp2_with fail
  refine (mmawake_any _).mono ?_; rintro e0 w0 ⟨rfl, k0⟩
  have K := Lib.hid (((Kp.alloc_ _ _).al _).tr k0)
  have T0B : Hid (Bk w0 (w.heap.size) A n c B m d) := ((Bk.new rfl).alloc_ _).kp k0
  have T1B : Hid (Bk w0 (w.heap.size + 1) C o e D q f) := (Bk.new (by simp)).kp k0
  clear k0
  have zt0b0 := T0B.out.c0
  have zt0b1 := T0B.out.c1
  have zt0b2 := T0B.out.lt
  have zt1b0 := T1B.out.c0
  have zt1b1 := T1B.out.c1
  have zt1b2 := T1B.out.lt
  go_wp2_with fail
  refine (few_yes hn hm).mono ?_; rintro e0 w1 ⟨rfl, k1⟩
  have K := Lib.hid (K.out.tr k1)
  have T0B := Lib.hid (T0B.out.kp k1)
  have T1B := Lib.hid (T1B.out.kp k1)
  clear k1 zt0b0 zt0b1 zt0b2 zt1b0 zt1b1 zt1b2
  have zt0b0 := T0B.out.c0
  have zt0b1 := T0B.out.c1
  have zt0b2 := T0B.out.lt
  have zt1b0 := T1B.out.c0
  have zt1b1 := T1B.out.c1
  have zt1b2 := T1B.out.lt
  go_wp2_with fail
  refine (few_yes ho hq).mono ?_; rintro e0 w2 ⟨rfl, k2⟩
  have K := Lib.hid (K.out.tr k2)
  have T0B := Lib.hid (T0B.out.kp k2)
  have T1B := Lib.hid (T1B.out.kp k2)
  clear k2 zt0b0 zt0b1 zt0b2 zt1b0 zt1b1 zt1b2
  have zt0b0 := T0B.out.c0
  have zt0b1 := T0B.out.c1
  have zt0b2 := T0B.out.lt
  have zt1b0 := T1B.out.c0
  have zt1b1 := T1B.out.c1
  have zt1b2 := T1B.out.lt
  go_wp2_with fail
  refine (HC0.out _ K.out).mono ?_; rintro e0 w3 ⟨rfl, k3⟩
  have K := Lib.hid (K.out.tr k3)
  have T0B := Lib.hid (T0B.out.kp k3)
  have T1B := Lib.hid (T1B.out.kp k3)
  clear k3 zt0b0 zt0b1 zt0b2 zt1b0 zt1b1 zt1b2
  have zt0b0 := T0B.out.c0
  have zt0b1 := T0B.out.c1
  have zt0b2 := T0B.out.lt
  have zt1b0 := T1B.out.c0
  have zt1b1 := T1B.out.c1
  have zt1b2 := T1B.out.lt
  go_wp2
  go_ret
  exact ⟨rfl, K.out⟩

set_option maxHeartbeats 4000000 in
set_option maxRecDepth 100000 in
theorem mmzero_far3 (A B C D : Option Addr) (n c m d o e q f : Nat) (w : World) (hn : n ≤ 100) (hm : m ≤ 100) (ho : o ≤ 100) (hq : q ≤ 100) (HC0 : Hid (∀ W, Kp w W → Calls Try.prog 18 #[.agg #[.slice A n c, .slice B m d]] W fun e w' => e = .returned (.bool true) ∧ Kp W w')) (HC1 : Hid (∀ W, Kp w W → Calls Try.prog 18 #[.agg #[.slice C o e, .slice D q f]] W fun e w' => e = .returned (.bool false) ∧ Kp W w')) :
    Calls Try.prog 7 #[.agg #[.slice A n c, .slice B m d], .agg #[.slice C o e, .slice D q f]] w fun e w' => e = .returned (.bool true) ∧ Kp w w' := by
  go_enter Try.func7, Try.ntmps7
  go_wp2_with fail
  refine (mmawake_any _).mono ?_; rintro e0 w0 ⟨rfl, k0⟩
  have K := Lib.hid (((Kp.alloc_ _ _).al _).tr k0)
  have T0B : Hid (Bk w0 (w.heap.size) A n c B m d) := ((Bk.new rfl).alloc_ _).kp k0
  have T1B : Hid (Bk w0 (w.heap.size + 1) C o e D q f) := (Bk.new (by simp)).kp k0
  clear k0
  have zt0b0 := T0B.out.c0
  have zt0b1 := T0B.out.c1
  have zt0b2 := T0B.out.lt
  have zt1b0 := T1B.out.c0
  have zt1b1 := T1B.out.c1
  have zt1b2 := T1B.out.lt
  go_wp2_with fail
  refine (few_yes hn hm).mono ?_; rintro e0 w1 ⟨rfl, k1⟩
  have K := Lib.hid (K.out.tr k1)
  have T0B := Lib.hid (T0B.out.kp k1)
  have T1B := Lib.hid (T1B.out.kp k1)
  clear k1 zt0b0 zt0b1 zt0b2 zt1b0 zt1b1 zt1b2
  have zt0b0 := T0B.out.c0
  have zt0b1 := T0B.out.c1
  have zt0b2 := T0B.out.lt
  have zt1b0 := T1B.out.c0
  have zt1b1 := T1B.out.c1
  have zt1b2 := T1B.out.lt
  go_wp2_with fail
  refine (few_yes ho hq).mono ?_; rintro e0 w2 ⟨rfl, k2⟩
  have K := Lib.hid (K.out.tr k2)
  have T0B := Lib.hid (T0B.out.kp k2)
  have T1B := Lib.hid (T1B.out.kp k2)
  clear k2 zt0b0 zt0b1 zt0b2 zt1b0 zt1b1 zt1b2
  have zt0b0 := T0B.out.c0
  have zt0b1 := T0B.out.c1
  have zt0b2 := T0B.out.lt
  have zt1b0 := T1B.out.c0
  have zt1b1 := T1B.out.c1
  have zt1b2 := T1B.out.lt
  go_wp2_with fail
  refine (HC0.out _ K.out).mono ?_; rintro e0 w3 ⟨rfl, k3⟩
  have K := Lib.hid (K.out.tr k3)
  have T0B := Lib.hid (T0B.out.kp k3)
  have T1B := Lib.hid (T1B.out.kp k3)
  clear k3 zt0b0 zt0b1 zt0b2 zt1b0 zt1b1 zt1b2
  have zt0b0 := T0B.out.c0
  have zt0b1 := T0B.out.c1
  have zt0b2 := T0B.out.lt
  have zt1b0 := T1B.out.c0
  have zt1b1 := T1B.out.c1
  have zt1b2 := T1B.out.lt
  go_wp2_with fail
  refine (HC1.out _ K.out).mono ?_; rintro e0 w4 ⟨rfl, k4⟩
  have K := Lib.hid (K.out.tr k4)
  have T0B := Lib.hid (T0B.out.kp k4)
  have T1B := Lib.hid (T1B.out.kp k4)
  clear k4 zt0b0 zt0b1 zt0b2 zt1b0 zt1b1 zt1b2
  have zt0b0 := T0B.out.c0
  have zt0b1 := T0B.out.c1
  have zt0b2 := T0B.out.lt
  have zt1b0 := T1B.out.c0
  have zt1b1 := T1B.out.c1
  have zt1b2 := T1B.out.lt
  go_wp2
  go_ret
  exact ⟨rfl, K.out⟩

set_option maxHeartbeats 8000000 in
set_option maxRecDepth 100000 in
theorem mmzero_far4 (A B C D : Option Addr) (n c m d o e q f : Nat) (w : World) (hn : n ≤ 100) (hm : m ≤ 100) (ho : o ≤ 100) (hq : q ≤ 100) (HC0 : Hid (∀ W, Kp w W → Calls Try.prog 18 #[.agg #[.slice A n c, .slice B m d]] W fun e w' => e = .returned (.bool true) ∧ Kp W w')) (HC1 : Hid (∀ W, Kp w W → Calls Try.prog 18 #[.agg #[.slice C o e, .slice D q f]] W fun e w' => e = .returned (.bool true) ∧ Kp W w')) (hx : ¬ n = 2) :
    Calls Try.prog 7 #[.agg #[.slice A n c, .slice B m d], .agg #[.slice C o e, .slice D q f]] w fun e w' => e = .returned (.bool true) ∧ Kp w w' := by
  have hx' : ((n : Int) != 2) = true := by simp; omega
  clear hx
  go_enter Try.func7, Try.ntmps7
  go_wp2_with fail
  refine (mmawake_any _).mono ?_; rintro e0 w0 ⟨rfl, k0⟩
  have K := Lib.hid (((Kp.alloc_ _ _).al _).tr k0)
  have T0B : Hid (Bk w0 (w.heap.size) A n c B m d) := ((Bk.new rfl).alloc_ _).kp k0
  have T1B : Hid (Bk w0 (w.heap.size + 1) C o e D q f) := (Bk.new (by simp)).kp k0
  clear k0
  have zt0b0 := T0B.out.c0
  have zt0b1 := T0B.out.c1
  have zt0b2 := T0B.out.lt
  have zt1b0 := T1B.out.c0
  have zt1b1 := T1B.out.c1
  have zt1b2 := T1B.out.lt
  go_wp2_with fail
  refine (few_yes hn hm).mono ?_; rintro e0 w1 ⟨rfl, k1⟩
  have K := Lib.hid (K.out.tr k1)
  have T0B := Lib.hid (T0B.out.kp k1)
  have T1B := Lib.hid (T1B.out.kp k1)
  clear k1 zt0b0 zt0b1 zt0b2 zt1b0 zt1b1 zt1b2
  have zt0b0 := T0B.out.c0
  have zt0b1 := T0B.out.c1
  have zt0b2 := T0B.out.lt
  have zt1b0 := T1B.out.c0
  have zt1b1 := T1B.out.c1
  have zt1b2 := T1B.out.lt
  go_wp2_with fail
  refine (few_yes ho hq).mono ?_; rintro e0 w2 ⟨rfl, k2⟩
  have K := Lib.hid (K.out.tr k2)
  have T0B := Lib.hid (T0B.out.kp k2)
  have T1B := Lib.hid (T1B.out.kp k2)
  clear k2 zt0b0 zt0b1 zt0b2 zt1b0 zt1b1 zt1b2
  have zt0b0 := T0B.out.c0
  have zt0b1 := T0B.out.c1
  have zt0b2 := T0B.out.lt
  have zt1b0 := T1B.out.c0
  have zt1b1 := T1B.out.c1
  have zt1b2 := T1B.out.lt
  go_wp2_with fail
  refine (HC0.out _ K.out).mono ?_; rintro e0 w3 ⟨rfl, k3⟩
  have K := Lib.hid (K.out.tr k3)
  have T0B := Lib.hid (T0B.out.kp k3)
  have T1B := Lib.hid (T1B.out.kp k3)
  clear k3 zt0b0 zt0b1 zt0b2 zt1b0 zt1b1 zt1b2
  have zt0b0 := T0B.out.c0
  have zt0b1 := T0B.out.c1
  have zt0b2 := T0B.out.lt
  have zt1b0 := T1B.out.c0
  have zt1b1 := T1B.out.c1
  have zt1b2 := T1B.out.lt
  go_wp2_with fail
  refine (HC1.out _ K.out).mono ?_; rintro e0 w4 ⟨rfl, k4⟩
  have K := Lib.hid (K.out.tr k4)
  have T0B := Lib.hid (T0B.out.kp k4)
  have T1B := Lib.hid (T1B.out.kp k4)
  clear k4 zt0b0 zt0b1 zt0b2 zt1b0 zt1b1 zt1b2
  have zt0b0 := T0B.out.c0
  have zt0b1 := T0B.out.c1
  have zt0b2 := T0B.out.lt
  have zt1b0 := T1B.out.c0
  have zt1b1 := T1B.out.c1
  have zt1b2 := T1B.out.lt
  go_wp2
  go_ret
  exact ⟨rfl, K.out⟩

set_option maxHeartbeats 8000000 in
set_option maxRecDepth 100000 in
theorem mmzero_far5 (A B C D : Option Addr) (n c m d o e q f : Nat) (w : World) (hn : n ≤ 100) (hm : m ≤ 100) (ho : o ≤ 100) (hq : q ≤ 100) (HC0 : Hid (∀ W, Kp w W → Calls Try.prog 18 #[.agg #[.slice A n c, .slice B m d]] W fun e w' => e = .returned (.bool true) ∧ Kp W w')) (HC1 : Hid (∀ W, Kp w W → Calls Try.prog 18 #[.agg #[.slice C o e, .slice D q f]] W fun e w' => e = .returned (.bool true) ∧ Kp W w')) (hx : n = 2) (hy : ¬ o = 2) :
    Calls Try.prog 7 #[.agg #[.slice A n c, .slice B m d], .agg #[.slice C o e, .slice D q f]] w fun e w' => e = .returned (.bool true) ∧ Kp w w' := by
  have hx' : ((n : Int) != 2) = false := by simp; omega
  have hy' : ((o : Int) != 2) = true := by simp; omega
  clear hx hy
  go_enter Try.func7, Try.ntmps7
  go_wp2_with fail
  refine (mmawake_any _).mono ?_; rintro e0 w0 ⟨rfl, k0⟩
  have K := Lib.hid (((Kp.alloc_ _ _).al _).tr k0)
  have T0B : Hid (Bk w0 (w.heap.size) A n c B m d) := ((Bk.new rfl).alloc_ _).kp k0
  have T1B : Hid (Bk w0 (w.heap.size + 1) C o e D q f) := (Bk.new (by simp)).kp k0
  clear k0
  have zt0b0 := T0B.out.c0
  have zt0b1 := T0B.out.c1
  have zt0b2 := T0B.out.lt
  have zt1b0 := T1B.out.c0
  have zt1b1 := T1B.out.c1
  have zt1b2 := T1B.out.lt
  go_wp2_with fail
  refine (few_yes hn hm).mono ?_; rintro e0 w1 ⟨rfl, k1⟩
  have K := Lib.hid (K.out.tr k1)
  have T0B := Lib.hid (T0B.out.kp k1)
  have T1B := Lib.hid (T1B.out.kp k1)
  clear k1 zt0b0 zt0b1 zt0b2 zt1b0 zt1b1 zt1b2
  have zt0b0 := T0B.out.c0
  have zt0b1 := T0B.out.c1
  have zt0b2 := T0B.out.lt
  have zt1b0 := T1B.out.c0
  have zt1b1 := T1B.out.c1
  have zt1b2 := T1B.out.lt
  go_wp2_with fail
  refine (few_yes ho hq).mono ?_; rintro e0 w2 ⟨rfl, k2⟩
  have K := Lib.hid (K.out.tr k2)
  have T0B := Lib.hid (T0B.out.kp k2)
  have T1B := Lib.hid (T1B.out.kp k2)
  clear k2 zt0b0 zt0b1 zt0b2 zt1b0 zt1b1 zt1b2
  have zt0b0 := T0B.out.c0
  have zt0b1 := T0B.out.c1
  have zt0b2 := T0B.out.lt
  have zt1b0 := T1B.out.c0
  have zt1b1 := T1B.out.c1
  have zt1b2 := T1B.out.lt
  go_wp2_with fail
  refine (HC0.out _ K.out).mono ?_; rintro e0 w3 ⟨rfl, k3⟩
  have K := Lib.hid (K.out.tr k3)
  have T0B := Lib.hid (T0B.out.kp k3)
  have T1B := Lib.hid (T1B.out.kp k3)
  clear k3 zt0b0 zt0b1 zt0b2 zt1b0 zt1b1 zt1b2
  have zt0b0 := T0B.out.c0
  have zt0b1 := T0B.out.c1
  have zt0b2 := T0B.out.lt
  have zt1b0 := T1B.out.c0
  have zt1b1 := T1B.out.c1
  have zt1b2 := T1B.out.lt
  go_wp2_with fail
  refine (HC1.out _ K.out).mono ?_; rintro e0 w4 ⟨rfl, k4⟩
  have K := Lib.hid (K.out.tr k4)
  have T0B := Lib.hid (T0B.out.kp k4)
  have T1B := Lib.hid (T1B.out.kp k4)
  clear k4 zt0b0 zt0b1 zt0b2 zt1b0 zt1b1 zt1b2
  have zt0b0 := T0B.out.c0
  have zt0b1 := T0B.out.c1
  have zt0b2 := T0B.out.lt
  have zt1b0 := T1B.out.c0
  have zt1b1 := T1B.out.c1
  have zt1b2 := T1B.out.lt
  go_wp2
  go_ret
  exact ⟨rfl, K.out⟩

set_option maxHeartbeats 8000000 in
set_option maxRecDepth 100000 in
theorem mmzero_witha (A B C D : Option Addr) (c m d e q f : Nat) (l1 k1 l2 l3 k3 : List Int) (b1 a2 N a3 b3 : Nat) (e2 e3 : Int) (w : World) (hm : m ≤ 100) (hq : q ≤ 100) (HC0 : Hid (∀ W, Kp w W → Calls Try.prog 18 #[.agg #[.slice A 2 c, .slice B m d]] W fun e w' => e = .returned (.bool true) ∧ Kp W w')) (HC1 : Hid (∀ W, Kp w W → Calls Try.prog 18 #[.agg #[.slice C 2 e, .slice D q f]] W fun e w' => e = .returned (.bool true) ∧ Kp W w')) (hN : N ≤ 64) (hx : ¬ m = 1) (HE : (e2 = 20 ∧ e3 = 20) ∨ (e2 = 0 ∧ e3 = 0) ∨ (e2 = 0 ∧ e3 = 10))
    (C1 : Hid (∀ W, Kp w W → Calls Try.prog 22 #[.slice C 2 e, .int .i64 0] W (RetU l1 k1 2 b1 0 W)))
    (C2 : Hid (∀ W A0 B0 c0 d0, Kp w W → TR W A0 l1 B0 k1 → Calls Try.prog 11 #[.agg #[.slice A 2 c, .slice B m d], .agg #[.slice A0 2 c0, .slice B0 b1 d0]] W (RetU l2 (List.replicate N 0) a2 N e2 W)))
    (C3 : Hid (∀ W, Kp w W → Calls Try.prog 11 #[.agg #[.slice A 2 c, .slice B m d], .agg #[.slice C 2 e, .slice D q f]] W (RetU l3 k3 a3 b3 e3 W))) :
    Calls Try.prog 7 #[.agg #[.slice A 2 c, .slice B m d], .agg #[.slice C 2 e, .slice D q f]] w fun e w' => e = .returned (.bool true) ∧ Kp w w' := by
  have hx' : ((m : Int) != 1) = true := by simp; omega
  clear hx
  have HE2 := Lib.hid HE
  clear HE
  go_enter Try.func7, Try.ntmps7
  go_wp2_with fail
  refine (mmawake_any _).mono ?_; rintro e0 w0 ⟨rfl, k0⟩
  have K := Lib.hid (((Kp.alloc_ _ _).al _).tr k0)
  have T0B : Hid (Bk w0 (w.heap.size) A 2 c B m d) := ((Bk.new rfl).alloc_ _).kp k0
  have T1B : Hid (Bk w0 (w.heap.size + 1) C 2 e D q f) := (Bk.new (by simp)).kp k0
  clear k0
  have zt0b0 := T0B.out.c0
  have zt0b1 := T0B.out.c1
  have zt0b2 := T0B.out.lt
  have zt1b0 := T1B.out.c0
  have zt1b1 := T1B.out.c1
  have zt1b2 := T1B.out.lt
  go_wp2_with fail
  refine (few_yes (n := 2) (by omega) hm).mono ?_; rintro e0 w1 ⟨rfl, k1⟩
  have K := Lib.hid (K.out.tr k1)
  have T0B := Lib.hid (T0B.out.kp k1)
  have T1B := Lib.hid (T1B.out.kp k1)
  clear k1 zt0b0 zt0b1 zt0b2 zt1b0 zt1b1 zt1b2
  have zt0b0 := T0B.out.c0
  have zt0b1 := T0B.out.c1
  have zt0b2 := T0B.out.lt
  have zt1b0 := T1B.out.c0
  have zt1b1 := T1B.out.c1
  have zt1b2 := T1B.out.lt
  go_wp2_with fail
  refine (few_yes (n := 2) (by omega) hq).mono ?_; rintro e0 w2 ⟨rfl, k2⟩
  have K := Lib.hid (K.out.tr k2)
  have T0B := Lib.hid (T0B.out.kp k2)
  have T1B := Lib.hid (T1B.out.kp k2)
  clear k2 zt0b0 zt0b1 zt0b2 zt1b0 zt1b1 zt1b2
  have zt0b0 := T0B.out.c0
  have zt0b1 := T0B.out.c1
  have zt0b2 := T0B.out.lt
  have zt1b0 := T1B.out.c0
  have zt1b1 := T1B.out.c1
  have zt1b2 := T1B.out.lt
  go_wp2_with fail
  refine (HC0.out _ K.out).mono ?_; rintro e0 w3 ⟨rfl, k3⟩
  have K := Lib.hid (K.out.tr k3)
  have T0B := Lib.hid (T0B.out.kp k3)
  have T1B := Lib.hid (T1B.out.kp k3)
  clear k3 zt0b0 zt0b1 zt0b2 zt1b0 zt1b1 zt1b2
  have zt0b0 := T0B.out.c0
  have zt0b1 := T0B.out.c1
  have zt0b2 := T0B.out.lt
  have zt1b0 := T1B.out.c0
  have zt1b1 := T1B.out.c1
  have zt1b2 := T1B.out.lt
  go_wp2_with fail
  refine (HC1.out _ K.out).mono ?_; rintro e0 w4 ⟨rfl, k4⟩
  have K := Lib.hid (K.out.tr k4)
  have T0B := Lib.hid (T0B.out.kp k4)
  have T1B := Lib.hid (T1B.out.kp k4)
  clear k4 zt0b0 zt0b1 zt0b2 zt1b0 zt1b1 zt1b2
  have zt0b0 := T0B.out.c0
  have zt0b1 := T0B.out.c1
  have zt0b2 := T0B.out.lt
  have zt1b0 := T1B.out.c0
  have zt1b1 := T1B.out.c1
  have zt1b2 := T1B.out.lt
  go_wp2_with fail
  refine (C1.out _ K.out).mono ?_; rintro e0 w5 ⟨A5, c5, B5, d5, rfl, r5, k5⟩
  have K := Lib.hid (K.out.tr k5)
  have T0B := Lib.hid (T0B.out.kp k5)
  have T1B := Lib.hid (T1B.out.kp k5)
  have N0 := Lib.hid r5
  clear k5 r5 zt0b0 zt0b1 zt0b2 zt1b0 zt1b1 zt1b2
  have zt0b0 := T0B.out.c0
  have zt0b1 := T0B.out.c1
  have zt0b2 := T0B.out.lt
  go_wp2_with fail
  refine (C2.out _ _ _ _ _ (K.out.al _) (N0.out.alloc_ _)).mono ?_; rintro e0 w6 ⟨A6, c6, B6, d6, rfl, r6, k6⟩
  have K := Lib.hid ((K.out.al _).tr k6)
  have T0B := Lib.hid ((T0B.out.alloc_ _).kp k6)
  have T1B := Lib.hid ((T1B.out.alloc_ _).kp k6)
  have N0B : Hid (Bk w6 w5.heap.size A5 2 c5 B5 b1 d5) := (Bk.new rfl).kp k6
  have Z := Lib.hid r6
  clear k6 r6 zt0b0 zt0b1 zt0b2 N0
  go_upto_region 6 with fail
  obtain ⟨W9, HW9⟩ : ∃ W9, Hid (W9 = w6.alloc (.cells #[.slice A6 a2 c6, .slice B6 N d6] 24)) := ⟨_, rfl⟩
  have hkx : Kp w6 W9 := by rw [HW9.out]; exact Kp.alloc_ _ _
  have ZB : Hid (Bk W9 w6.heap.size A6 a2 c6 B6 N d6) := by show Bk _ _ _ _ _ _ _ _; rw [HW9.out]; exact Bk.new rfl
  rw [← HW9.out]
  have K := Lib.hid (K.out.tr hkx)
  have T0B := Lib.hid (T0B.out.kp hkx)
  have T1B := Lib.hid (T1B.out.kp hkx)
  have N0B := Lib.hid (N0B.out.kp hkx)
  have Z := Lib.hid (Z.out.kp hkx)
  clear hkx HW9 
  have zzb0 := ZB.out.c0
  have zzb1 := ZB.out.c1
  have zzb2 := ZB.out.lt
  go_wp2
  go_loopw [10] (fun i wr => ∃ (i' : Nat), i = .int .i64 i' ∧ Hid (i' ≤ N) ∧ wr = W9) (fun i _ => N - (intOf i).toNat)
  case atStart => exact ⟨0, rfl, Lib.hid (Nat.zero_le _), rfl⟩
  case round =>
    obtain ⟨i, rfl, hil, hw9⟩ := hrel
    obtain rfl : W9 = wr := hw9.symm
    have hil' : i ≤ N := hil.out
    by_cases hlt : i < N
    · have i1 : (0 : Int) ≤ (i : Int) := by omega
      have i2 : (i : Int) < (N : Int) := by omega
      obtain ⟨ax, v, eax, hbv, hv, hcv⟩ := Z.out.d.at_ (k := i) (by rw [List.length_replicate]; exact hlt)
      have hv0 : v = 0 := by rw [List.getElem?_replicate, if_pos hlt] at hv; injection hv with hv; exact hv.symm
      subst eax hv0
      clear hv
      go_wp2
      go_roundw
      case rel => exact ⟨i + 1, by go_num, Lib.hid hlt, by first | rfl | trivial⟩
      case measure => simp [intOf]; omega
    · have i2 : ¬ (i : Int) < (N : Int) := by omega
      clear zzb0 zzb1 zzb2
      have zt0b0 := T0B.out.c0
      have zt0b1 := T0B.out.c1
      have zt0b2 := T0B.out.lt
      have zt1b0 := T1B.out.c0
      have zt1b1 := T1B.out.c1
      have zt1b2 := T1B.out.lt
      have zzb0 := ZB.out.c0
      have zzb1 := ZB.out.c1
      have zzb2 := ZB.out.lt
      go_wp2_with fail
      refine (C3.out _ K.out).mono ?_; rintro e0 w7 ⟨A7, c7, B7, d7, rfl, r7, k7⟩
      have K := Lib.hid (K.out.tr k7)
      have T0B := Lib.hid (T0B.out.kp k7)
      have T1B := Lib.hid (T1B.out.kp k7)
      have N0B := Lib.hid (N0B.out.kp k7)
      have ZB := Lib.hid (ZB.out.kp k7)
      have Z := Lib.hid (Z.out.kp k7)
      have P := Lib.hid r7
      clear k7 r7 zt0b0 zt0b1 zt0b2 zt1b0 zt1b1 zt1b2 zzb0 zzb1 zzb2
      have zt0b0 := T0B.out.c0
      have zt0b1 := T0B.out.c1
      have zt0b2 := T0B.out.lt
      have zt1b0 := T1B.out.c0
      have zt1b1 := T1B.out.c1
      have zt1b2 := T1B.out.lt
      rcases HE2.out with ⟨h1, h2⟩ | ⟨h1, h2⟩ | ⟨h1, h2⟩
      · subst h1 h2
        go_wp2
        go_ret
        exact ⟨rfl, K.out.al _⟩
      · subst h1 h2
        go_wp2
        go_ret
        exact ⟨rfl, K.out.al _⟩
      · subst h1 h2
        go_wp2
        go_ret
        exact ⟨rfl, K.out.al _⟩

set_option maxHeartbeats 8000000 in
set_option maxRecDepth 100000 in
theorem mmzero_withb (A B C D : Option Addr) (c m d e q f : Nat) (l1 k1 l2 l3 k3 : List Int) (b1 a2 N a3 b3 : Nat) (e2 e3 : Int) (w : World) (hm : m ≤ 100) (hq : q ≤ 100) (HC0 : Hid (∀ W, Kp w W → Calls Try.prog 18 #[.agg #[.slice A 2 c, .slice B m d]] W fun e w' => e = .returned (.bool true) ∧ Kp W w')) (HC1 : Hid (∀ W, Kp w W → Calls Try.prog 18 #[.agg #[.slice C 2 e, .slice D q f]] W fun e w' => e = .returned (.bool true) ∧ Kp W w')) (hN : N ≤ 64) (hx : m = 1) (hy : ¬ q = 1) (HE : (e2 = 20 ∧ e3 = 20) ∨ (e2 = 0 ∧ e3 = 0) ∨ (e2 = 0 ∧ e3 = 10))
    (C1 : Hid (∀ W, Kp w W → Calls Try.prog 22 #[.slice C 2 e, .int .i64 0] W (RetU l1 k1 2 b1 0 W)))
    (C2 : Hid (∀ W A0 B0 c0 d0, Kp w W → TR W A0 l1 B0 k1 → Calls Try.prog 11 #[.agg #[.slice A 2 c, .slice B m d], .agg #[.slice A0 2 c0, .slice B0 b1 d0]] W (RetU l2 (List.replicate N 0) a2 N e2 W)))
    (C3 : Hid (∀ W, Kp w W → Calls Try.prog 11 #[.agg #[.slice A 2 c, .slice B m d], .agg #[.slice C 2 e, .slice D q f]] W (RetU l3 k3 a3 b3 e3 W))) :
    Calls Try.prog 7 #[.agg #[.slice A 2 c, .slice B m d], .agg #[.slice C 2 e, .slice D q f]] w fun e w' => e = .returned (.bool true) ∧ Kp w w' := by
  have hx' : ((m : Int) != 1) = false := by simp; omega
  have hy' : ((q : Int) != 1) = true := by simp; omega
  clear hx hy
  have HE2 := Lib.hid HE
  clear HE
  go_enter Try.func7, Try.ntmps7
  go_wp2_with fail
  refine (mmawake_any _).mono ?_; rintro e0 w0 ⟨rfl, k0⟩
  have K := Lib.hid (((Kp.alloc_ _ _).al _).tr k0)
  have T0B : Hid (Bk w0 (w.heap.size) A 2 c B m d) := ((Bk.new rfl).alloc_ _).kp k0
  have T1B : Hid (Bk w0 (w.heap.size + 1) C 2 e D q f) := (Bk.new (by simp)).kp k0
  clear k0
  have zt0b0 := T0B.out.c0
  have zt0b1 := T0B.out.c1
  have zt0b2 := T0B.out.lt
  have zt1b0 := T1B.out.c0
  have zt1b1 := T1B.out.c1
  have zt1b2 := T1B.out.lt
  go_wp2_with fail
  refine (few_yes (n := 2) (by omega) hm).mono ?_; rintro e0 w1 ⟨rfl, k1⟩
  have K := Lib.hid (K.out.tr k1)
  have T0B := Lib.hid (T0B.out.kp k1)
  have T1B := Lib.hid (T1B.out.kp k1)
  clear k1 zt0b0 zt0b1 zt0b2 zt1b0 zt1b1 zt1b2
  have zt0b0 := T0B.out.c0
  have zt0b1 := T0B.out.c1
  have zt0b2 := T0B.out.lt
  have zt1b0 := T1B.out.c0
  have zt1b1 := T1B.out.c1
  have zt1b2 := T1B.out.lt
  go_wp2_with fail
  refine (few_yes (n := 2) (by omega) hq).mono ?_; rintro e0 w2 ⟨rfl, k2⟩
  have K := Lib.hid (K.out.tr k2)
  have T0B := Lib.hid (T0B.out.kp k2)
  have T1B := Lib.hid (T1B.out.kp k2)
  clear k2 zt0b0 zt0b1 zt0b2 zt1b0 zt1b1 zt1b2
  have zt0b0 := T0B.out.c0
  have zt0b1 := T0B.out.c1
  have zt0b2 := T0B.out.lt
  have zt1b0 := T1B.out.c0
  have zt1b1 := T1B.out.c1
  have zt1b2 := T1B.out.lt
  go_wp2_with fail
  refine (HC0.out _ K.out).mono ?_; rintro e0 w3 ⟨rfl, k3⟩
  have K := Lib.hid (K.out.tr k3)
  have T0B := Lib.hid (T0B.out.kp k3)
  have T1B := Lib.hid (T1B.out.kp k3)
  clear k3 zt0b0 zt0b1 zt0b2 zt1b0 zt1b1 zt1b2
  have zt0b0 := T0B.out.c0
  have zt0b1 := T0B.out.c1
  have zt0b2 := T0B.out.lt
  have zt1b0 := T1B.out.c0
  have zt1b1 := T1B.out.c1
  have zt1b2 := T1B.out.lt
  go_wp2_with fail
  refine (HC1.out _ K.out).mono ?_; rintro e0 w4 ⟨rfl, k4⟩
  have K := Lib.hid (K.out.tr k4)
  have T0B := Lib.hid (T0B.out.kp k4)
  have T1B := Lib.hid (T1B.out.kp k4)
  clear k4 zt0b0 zt0b1 zt0b2 zt1b0 zt1b1 zt1b2
  have zt0b0 := T0B.out.c0
  have zt0b1 := T0B.out.c1
  have zt0b2 := T0B.out.lt
  have zt1b0 := T1B.out.c0
  have zt1b1 := T1B.out.c1
  have zt1b2 := T1B.out.lt
  go_wp2_with fail
  refine (C1.out _ K.out).mono ?_; rintro e0 w5 ⟨A5, c5, B5, d5, rfl, r5, k5⟩
  have K := Lib.hid (K.out.tr k5)
  have T0B := Lib.hid (T0B.out.kp k5)
  have T1B := Lib.hid (T1B.out.kp k5)
  have N0 := Lib.hid r5
  clear k5 r5 zt0b0 zt0b1 zt0b2 zt1b0 zt1b1 zt1b2
  have zt0b0 := T0B.out.c0
  have zt0b1 := T0B.out.c1
  have zt0b2 := T0B.out.lt
  go_wp2_with fail
  refine (C2.out _ _ _ _ _ (K.out.al _) (N0.out.alloc_ _)).mono ?_; rintro e0 w6 ⟨A6, c6, B6, d6, rfl, r6, k6⟩
  have K := Lib.hid ((K.out.al _).tr k6)
  have T0B := Lib.hid ((T0B.out.alloc_ _).kp k6)
  have T1B := Lib.hid ((T1B.out.alloc_ _).kp k6)
  have N0B : Hid (Bk w6 w5.heap.size A5 2 c5 B5 b1 d5) := (Bk.new rfl).kp k6
  have Z := Lib.hid r6
  clear k6 r6 zt0b0 zt0b1 zt0b2 N0
  go_upto_region 6 with fail
  obtain ⟨W9, HW9⟩ : ∃ W9, Hid (W9 = w6.alloc (.cells #[.slice A6 a2 c6, .slice B6 N d6] 24)) := ⟨_, rfl⟩
  have hkx : Kp w6 W9 := by rw [HW9.out]; exact Kp.alloc_ _ _
  have ZB : Hid (Bk W9 w6.heap.size A6 a2 c6 B6 N d6) := by show Bk _ _ _ _ _ _ _ _; rw [HW9.out]; exact Bk.new rfl
  rw [← HW9.out]
  have K := Lib.hid (K.out.tr hkx)
  have T0B := Lib.hid (T0B.out.kp hkx)
  have T1B := Lib.hid (T1B.out.kp hkx)
  have N0B := Lib.hid (N0B.out.kp hkx)
  have Z := Lib.hid (Z.out.kp hkx)
  clear hkx HW9 
  have zzb0 := ZB.out.c0
  have zzb1 := ZB.out.c1
  have zzb2 := ZB.out.lt
  go_wp2
  go_loopw [10] (fun i wr => ∃ (i' : Nat), i = .int .i64 i' ∧ Hid (i' ≤ N) ∧ wr = W9) (fun i _ => N - (intOf i).toNat)
  case atStart => exact ⟨0, rfl, Lib.hid (Nat.zero_le _), rfl⟩
  case round =>
    obtain ⟨i, rfl, hil, hw9⟩ := hrel
    obtain rfl : W9 = wr := hw9.symm
    have hil' : i ≤ N := hil.out
    by_cases hlt : i < N
    · have i1 : (0 : Int) ≤ (i : Int) := by omega
      have i2 : (i : Int) < (N : Int) := by omega
      obtain ⟨ax, v, eax, hbv, hv, hcv⟩ := Z.out.d.at_ (k := i) (by rw [List.length_replicate]; exact hlt)
      have hv0 : v = 0 := by rw [List.getElem?_replicate, if_pos hlt] at hv; injection hv with hv; exact hv.symm
      subst eax hv0
      clear hv
      go_wp2
      go_roundw
      case rel => exact ⟨i + 1, by go_num, Lib.hid hlt, by first | rfl | trivial⟩
      case measure => simp [intOf]; omega
    · have i2 : ¬ (i : Int) < (N : Int) := by omega
      clear zzb0 zzb1 zzb2
      have zt0b0 := T0B.out.c0
      have zt0b1 := T0B.out.c1
      have zt0b2 := T0B.out.lt
      have zt1b0 := T1B.out.c0
      have zt1b1 := T1B.out.c1
      have zt1b2 := T1B.out.lt
      have zzb0 := ZB.out.c0
      have zzb1 := ZB.out.c1
      have zzb2 := ZB.out.lt
      go_wp2_with fail
      refine (C3.out _ K.out).mono ?_; rintro e0 w7 ⟨A7, c7, B7, d7, rfl, r7, k7⟩
      have K := Lib.hid (K.out.tr k7)
      have T0B := Lib.hid (T0B.out.kp k7)
      have T1B := Lib.hid (T1B.out.kp k7)
      have N0B := Lib.hid (N0B.out.kp k7)
      have ZB := Lib.hid (ZB.out.kp k7)
      have Z := Lib.hid (Z.out.kp k7)
      have P := Lib.hid r7
      clear k7 r7 zt0b0 zt0b1 zt0b2 zt1b0 zt1b1 zt1b2 zzb0 zzb1 zzb2
      have zt0b0 := T0B.out.c0
      have zt0b1 := T0B.out.c1
      have zt0b2 := T0B.out.lt
      have zt1b0 := T1B.out.c0
      have zt1b1 := T1B.out.c1
      have zt1b2 := T1B.out.lt
      rcases HE2.out with ⟨h1, h2⟩ | ⟨h1, h2⟩ | ⟨h1, h2⟩
      · subst h1 h2
        go_wp2
        go_ret
        exact ⟨rfl, K.out.al _⟩
      · subst h1 h2
        go_wp2
        go_ret
        exact ⟨rfl, K.out.al _⟩
      · subst h1 h2
        go_wp2
        go_ret
        exact ⟨rfl, K.out.al _⟩

set_option maxHeartbeats 8000000 in
set_option maxRecDepth 100000 in
theorem mmzero_one (A C : Option Addr) (ad ae : Addr) (c d e f : Nat) (l1 k1 l2 l3 k3 : List Int) (b1 a2 N a3 b3 : Nat) (e2 e3 x y z : Int) (w : World) (HC0 : Hid (∀ W, Kp w W → Calls Try.prog 18 #[.agg #[.slice A 2 c, .slice (some ad) 1 d]] W fun e w' => e = .returned (.bool true) ∧ Kp W w')) (HC1 : Hid (∀ W, Kp w W → Calls Try.prog 18 #[.agg #[.slice C 2 e, .slice (some ae) 1 f]] W fun e w' => e = .returned (.bool true) ∧ Kp W w')) (hN : N ≤ 64) (CA : Hid (Cl w ad x)) (CB : Hid (Cl w ae y)) (HE : (e2 = 0 ∧ e3 = 0 ∧ b3 = 1 ∧ k3 = [z]) ∨ (e2 = 0 ∧ e3 = 10))
    (C1 : Hid (∀ W, Kp w W → Calls Try.prog 22 #[.slice C 2 e, .int .i64 0] W (RetU l1 k1 2 b1 0 W)))
    (C2 : Hid (∀ W A0 B0 c0 d0, Kp w W → TR W A0 l1 B0 k1 → Calls Try.prog 11 #[.agg #[.slice A 2 c, .slice (some ad) 1 d], .agg #[.slice A0 2 c0, .slice B0 b1 d0]] W (RetU l2 (List.replicate N 0) a2 N e2 W)))
    (C3 : Hid (∀ W, Kp w W → Calls Try.prog 11 #[.agg #[.slice A 2 c, .slice (some ad) 1 d], .agg #[.slice C 2 e, .slice (some ae) 1 f]] W (RetU l3 k3 a3 b3 e3 W)))
    (C4 : Hid (∀ W, Calls Try.prog 25 #[.int .i64 x, .int .i64 y] W fun e w' => e = .returned (.tuple #[.int .i64 z, .int .i64 e3]) ∧ Kp W w')) :
    Calls Try.prog 7 #[.agg #[.slice A 2 c, .slice (some ad) 1 d], .agg #[.slice C 2 e, .slice (some ae) 1 f]] w fun e w' => e = .returned (.bool true) ∧ Kp w w' := by
  have hm : 1 ≤ 100 := by omega
  have hq : 1 ≤ 100 := by omega
  have HE2 := Lib.hid HE
  clear HE
  go_enter Try.func7, Try.ntmps7
  go_wp2_with fail
  refine (mmawake_any _).mono ?_; rintro e0 w0 ⟨rfl, k0⟩
  have K := Lib.hid (((Kp.alloc_ _ _).al _).tr k0)
  have CA := Lib.hid (((CA.out.alloc_ _).alloc_ _).kp k0)
  have CB := Lib.hid (((CB.out.alloc_ _).alloc_ _).kp k0)
  have T0B : Hid (Bk w0 (w.heap.size) A 2 c (some ad) 1 d) := ((Bk.new rfl).alloc_ _).kp k0
  have T1B : Hid (Bk w0 (w.heap.size + 1) C 2 e (some ae) 1 f) := (Bk.new (by simp)).kp k0
  clear k0
  have zt0b0 := T0B.out.c0
  have zt0b1 := T0B.out.c1
  have zt0b2 := T0B.out.lt
  have zt1b0 := T1B.out.c0
  have zt1b1 := T1B.out.c1
  have zt1b2 := T1B.out.lt
  go_wp2_with fail
  refine (few_yes (n := 2) (by omega) hm).mono ?_; rintro e0 w1 ⟨rfl, k1⟩
  have K := Lib.hid (K.out.tr k1)
  have T0B := Lib.hid (T0B.out.kp k1)
  have T1B := Lib.hid (T1B.out.kp k1)
  have CA := Lib.hid (CA.out.kp k1)
  have CB := Lib.hid (CB.out.kp k1)
  clear k1 zt0b0 zt0b1 zt0b2 zt1b0 zt1b1 zt1b2
  have zt0b0 := T0B.out.c0
  have zt0b1 := T0B.out.c1
  have zt0b2 := T0B.out.lt
  have zt1b0 := T1B.out.c0
  have zt1b1 := T1B.out.c1
  have zt1b2 := T1B.out.lt
  go_wp2_with fail
  refine (few_yes (n := 2) (by omega) hq).mono ?_; rintro e0 w2 ⟨rfl, k2⟩
  have K := Lib.hid (K.out.tr k2)
  have T0B := Lib.hid (T0B.out.kp k2)
  have T1B := Lib.hid (T1B.out.kp k2)
  have CA := Lib.hid (CA.out.kp k2)
  have CB := Lib.hid (CB.out.kp k2)
  clear k2 zt0b0 zt0b1 zt0b2 zt1b0 zt1b1 zt1b2
  have zt0b0 := T0B.out.c0
  have zt0b1 := T0B.out.c1
  have zt0b2 := T0B.out.lt
  have zt1b0 := T1B.out.c0
  have zt1b1 := T1B.out.c1
  have zt1b2 := T1B.out.lt
  go_wp2_with fail
  refine (HC0.out _ K.out).mono ?_; rintro e0 w3 ⟨rfl, k3⟩
  have K := Lib.hid (K.out.tr k3)
  have T0B := Lib.hid (T0B.out.kp k3)
  have T1B := Lib.hid (T1B.out.kp k3)
  have CA := Lib.hid (CA.out.kp k3)
  have CB := Lib.hid (CB.out.kp k3)
  clear k3 zt0b0 zt0b1 zt0b2 zt1b0 zt1b1 zt1b2
  have zt0b0 := T0B.out.c0
  have zt0b1 := T0B.out.c1
  have zt0b2 := T0B.out.lt
  have zt1b0 := T1B.out.c0
  have zt1b1 := T1B.out.c1
  have zt1b2 := T1B.out.lt
  go_wp2_with fail
  refine (HC1.out _ K.out).mono ?_; rintro e0 w4 ⟨rfl, k4⟩
  have K := Lib.hid (K.out.tr k4)
  have T0B := Lib.hid (T0B.out.kp k4)
  have T1B := Lib.hid (T1B.out.kp k4)
  have CA := Lib.hid (CA.out.kp k4)
  have CB := Lib.hid (CB.out.kp k4)
  clear k4 zt0b0 zt0b1 zt0b2 zt1b0 zt1b1 zt1b2
  have zt0b0 := T0B.out.c0
  have zt0b1 := T0B.out.c1
  have zt0b2 := T0B.out.lt
  have zt1b0 := T1B.out.c0
  have zt1b1 := T1B.out.c1
  have zt1b2 := T1B.out.lt
  go_wp2_with fail
  refine (C1.out _ K.out).mono ?_; rintro e0 w5 ⟨A5, c5, B5, d5, rfl, r5, k5⟩
  have K := Lib.hid (K.out.tr k5)
  have T0B := Lib.hid (T0B.out.kp k5)
  have T1B := Lib.hid (T1B.out.kp k5)
  have CA := Lib.hid (CA.out.kp k5)
  have CB := Lib.hid (CB.out.kp k5)
  have N0 := Lib.hid r5
  clear k5 r5 zt0b0 zt0b1 zt0b2 zt1b0 zt1b1 zt1b2
  have zt0b0 := T0B.out.c0
  have zt0b1 := T0B.out.c1
  have zt0b2 := T0B.out.lt
  go_wp2_with fail
  refine (C2.out _ _ _ _ _ (K.out.al _) (N0.out.alloc_ _)).mono ?_; rintro e0 w6 ⟨A6, c6, B6, d6, rfl, r6, k6⟩
  have K := Lib.hid ((K.out.al _).tr k6)
  have T0B := Lib.hid ((T0B.out.alloc_ _).kp k6)
  have T1B := Lib.hid ((T1B.out.alloc_ _).kp k6)
  have CA := Lib.hid ((CA.out.alloc_ _).kp k6)
  have CB := Lib.hid ((CB.out.alloc_ _).kp k6)
  have N0B : Hid (Bk w6 w5.heap.size A5 2 c5 B5 b1 d5) := (Bk.new rfl).kp k6
  have Z := Lib.hid r6
  clear k6 r6 zt0b0 zt0b1 zt0b2 N0
  go_upto_region 6 with fail
  obtain ⟨W9, HW9⟩ : ∃ W9, Hid (W9 = w6.alloc (.cells #[.slice A6 a2 c6, .slice B6 N d6] 24)) := ⟨_, rfl⟩
  have hkx : Kp w6 W9 := by rw [HW9.out]; exact Kp.alloc_ _ _
  have ZB : Hid (Bk W9 w6.heap.size A6 a2 c6 B6 N d6) := by show Bk _ _ _ _ _ _ _ _; rw [HW9.out]; exact Bk.new rfl
  rw [← HW9.out]
  have K := Lib.hid (K.out.tr hkx)
  have T0B := Lib.hid (T0B.out.kp hkx)
  have T1B := Lib.hid (T1B.out.kp hkx)
  have N0B := Lib.hid (N0B.out.kp hkx)
  have CA := Lib.hid (CA.out.kp hkx)
  have CB := Lib.hid (CB.out.kp hkx)
  have Z := Lib.hid (Z.out.kp hkx)
  clear hkx HW9 
  have zzb0 := ZB.out.c0
  have zzb1 := ZB.out.c1
  have zzb2 := ZB.out.lt
  go_wp2
  go_loopw [10] (fun i wr => ∃ (i' : Nat), i = .int .i64 i' ∧ Hid (i' ≤ N) ∧ wr = W9) (fun i _ => N - (intOf i).toNat)
  case atStart => exact ⟨0, rfl, Lib.hid (Nat.zero_le _), rfl⟩
  case round =>
    obtain ⟨i, rfl, hil, hw9⟩ := hrel
    obtain rfl : W9 = wr := hw9.symm
    have hil' : i ≤ N := hil.out
    by_cases hlt : i < N
    · have i1 : (0 : Int) ≤ (i : Int) := by omega
      have i2 : (i : Int) < (N : Int) := by omega
      obtain ⟨ax, v, eax, hbv, hv, hcv⟩ := Z.out.d.at_ (k := i) (by rw [List.length_replicate]; exact hlt)
      have hv0 : v = 0 := by rw [List.getElem?_replicate, if_pos hlt] at hv; injection hv with hv; exact hv.symm
      subst eax hv0
      clear hv
      go_wp2
      go_roundw
      case rel => exact ⟨i + 1, by go_num, Lib.hid hlt, by first | rfl | trivial⟩
      case measure => simp [intOf]; omega
    · have i2 : ¬ (i : Int) < (N : Int) := by omega
      clear zzb0 zzb1 zzb2
      have zt0b0 := T0B.out.c0
      have zt0b1 := T0B.out.c1
      have zt0b2 := T0B.out.lt
      have zt1b0 := T1B.out.c0
      have zt1b1 := T1B.out.c1
      have zt1b2 := T1B.out.lt
      have zzb0 := ZB.out.c0
      have zzb1 := ZB.out.c1
      have zzb2 := ZB.out.lt
      go_wp2_with fail
      refine (C3.out _ K.out).mono ?_; rintro e0 w7 ⟨A7, c7, B7, d7, rfl, r7, k7⟩
      have K := Lib.hid (K.out.tr k7)
      have T0B := Lib.hid (T0B.out.kp k7)
      have T1B := Lib.hid (T1B.out.kp k7)
      have N0B := Lib.hid (N0B.out.kp k7)
      have ZB := Lib.hid (ZB.out.kp k7)
      have CA := Lib.hid (CA.out.kp k7)
      have CB := Lib.hid (CB.out.kp k7)
      have Z := Lib.hid (Z.out.kp k7)
      have P := Lib.hid r7
      clear k7 r7 zt0b0 zt0b1 zt0b2 zt1b0 zt1b1 zt1b2 zzb0 zzb1 zzb2
      have zt0b0 := T0B.out.c0
      have zt0b1 := T0B.out.c1
      have zt0b2 := T0B.out.lt
      have zt1b0 := T1B.out.c0
      have zt1b1 := T1B.out.c1
      have zt1b2 := T1B.out.lt
      go_wp2_with fail
      refine (C3.out _ (K.out.al _)).mono ?_; rintro e0 w8 ⟨A8, c8, B8, d8, rfl, r8, k8⟩
      have K := Lib.hid ((K.out.al _).tr k8)
      have T0B := Lib.hid ((T0B.out.alloc_ _).kp k8)
      have T1B := Lib.hid ((T1B.out.alloc_ _).kp k8)
      have N0B := Lib.hid ((N0B.out.alloc_ _).kp k8)
      have ZB := Lib.hid ((ZB.out.alloc_ _).kp k8)
      have CA := Lib.hid ((CA.out.alloc_ _).kp k8)
      have CB := Lib.hid ((CB.out.alloc_ _).kp k8)
      have Z := Lib.hid ((Z.out.alloc_ _).kp k8)
      have PB : Hid (Bk w8 w7.heap.size A7 a3 c7 B7 b3 d7) := (Bk.new rfl).kp k8
      have P2 := Lib.hid r8
      clear k8 r8 zt0b0 zt0b1 zt0b2 zt1b0 zt1b1 zt1b2 P
      go_upto_region 15 with fail
      obtain ⟨W10, HW10⟩ : ∃ W10, Hid (W10 = w8.alloc (.cells #[.slice A8 a3 c8, .slice B8 b3 d8] 24)) := ⟨_, rfl⟩
      have hkx : Kp w8 W10 := by rw [HW10.out]; exact Kp.alloc_ _ _
      have P2B : Hid (Bk W10 w8.heap.size A8 a3 c8 B8 b3 d8) := by show Bk _ _ _ _ _ _ _ _; rw [HW10.out]; exact Bk.new rfl
      rw [← HW10.out]
      have K := Lib.hid (K.out.tr hkx)
      have T0B := Lib.hid (T0B.out.kp hkx)
      have T1B := Lib.hid (T1B.out.kp hkx)
      have N0B := Lib.hid (N0B.out.kp hkx)
      have ZB := Lib.hid (ZB.out.kp hkx)
      have PB := Lib.hid (PB.out.kp hkx)
      have CA := Lib.hid (CA.out.kp hkx)
      have CB := Lib.hid (CB.out.kp hkx)
      have Z := Lib.hid (Z.out.kp hkx)
      have P2 := Lib.hid (P2.out.kp hkx)
      clear hkx HW10 
      have HKX : Hid (∀ V, Kp W10 V → V.cell? ⟨w.heap.size, 1, none⟩ = some (.slice (some ad) 1 d) ∧ V.cell? ⟨w.heap.size + 1, 1, none⟩ = some (.slice (some ae) 1 f) ∧ V.cell? ad = some (.int .i64 x) ∧ V.cell? ae = some (.int .i64 y)) := fun V kV => ⟨(T0B.out.kp kV).c1, (T1B.out.kp kV).c1, (CA.out.kp kV).1, (CB.out.kp kV).1⟩
      have hdr8 : Hid (Kp W10 W10.drew) := Below.drew (Kp.refl _)
      have hs8 := HKX.out _ hdr8.out
      go_wp2
      go_region_held3 (fun V => V.cell? ⟨w.heap.size, 1, none⟩ = some (.slice (some ad) 1 d) ∧ V.cell? ⟨w.heap.size + 1, 1, none⟩ = some (.slice (some ae) 1 f) ∧ V.cell? ad = some (.int .i64 x) ∧ V.cell? ae = some (.int .i64 y)) (first | exact hs8 | exact q8)
        (first | (go_at_call 25; refine (C4.out _).mono ?_; rintro e0 w8 ⟨rfl, k8⟩; have K8 : Hid (Kp W10 w8) := hdr8.out.tr k8; have q8 := HKX.out _ K8.out; clear k8))
      all_goals
        clear hs8 q8
        have K := Lib.hid (K.out.tr K8.out)
        have T0B := Lib.hid (T0B.out.kp K8.out)
        have T1B := Lib.hid (T1B.out.kp K8.out)
        have N0B := Lib.hid (N0B.out.kp K8.out)
        have ZB := Lib.hid (ZB.out.kp K8.out)
        have PB := Lib.hid (PB.out.kp K8.out)
        have P2B := Lib.hid (P2B.out.kp K8.out)
        have CA := Lib.hid (CA.out.kp K8.out)
        have CB := Lib.hid (CB.out.kp K8.out)
        have Z := Lib.hid (Z.out.kp K8.out)
        have P2 := Lib.hid (P2.out.kp K8.out)
        have PP := Lib.hid P2.out
        have zp2b0 := P2B.out.c0
        have zp2b1 := P2B.out.c1
        have zp2b2 := P2B.out.lt
        rcases HE2.out with ⟨h1, h2, h3, h4⟩ | ⟨h1, h2⟩
        · subst h1 h2 h3 h4
          obtain ⟨ap, eap, CP⟩ := cl_one P2.out.d rfl
          subst eap
          have qp0 := CP.out.1
          have qp1 := CP.out.2
          have hzz : (z == z) = true := by simp
          go_wp2
          go_ret
          exact ⟨rfl, K.out⟩
        · subst h1 h2
          go_wp2
          go_ret
          exact ⟨rfl, K.out⟩

theorem mmzero_walk (A B C D : Option Addr) (c d e f : Nat) (s xs t ys : List Int) (w : World) (R0 : TR w A s B xs) (I0 : I64s xs) (R1 : TR w C t D ys) (I1 : I64s ys) :
    Calls Try.prog 7 #[.agg #[.slice A s.length c, .slice B xs.length d], .agg #[.slice C t.length e, .slice D ys.length f]] w fun e w' => e = .returned (.bool true) ∧ Kp w w' := by
  by_cases f0 : 100 < s.length ∨ 100 < xs.length
  · exact mmzero_far0 A B C D _ c _ d _ e _ f w  R0.s.len R0.d.len f0
  by_cases f1 : 100 < t.length ∨ 100 < ys.length
  · exact mmzero_far1 A B C D _ c _ d _ e _ f w (by omega) (by omega) R1.s.len R1.d.len f1
  by_cases b0 : tokV s xs = false
  · exact mmzero_far2 A B C D _ c _ d _ e _ f w (by omega) (by omega) (by omega) (by omega) (Lib.hid fun W k => tcheck_u s xs (R0.kp k) rfl rfl b0)
  have b0 : tokV s xs = true := by simpa using b0
  by_cases b1 : tokV t ys = false
  · exact mmzero_far3 A B C D _ c _ d _ e _ f w (by omega) (by omega) (by omega) (by omega) (Lib.hid fun W k => tcheck_u s xs (R0.kp k) rfl rfl b0) (Lib.hid fun W k => tcheck_u t ys (R1.kp k) rfl rfl b1)
  have b1 : tokV t ys = true := by simpa using b1
  by_cases hs : s.length = 2
  · by_cases ht : t.length = 2
    · obtain ⟨M, K, rfl, m1, m2, k1, k2, lx⟩ := table_of b0 hs
      obtain ⟨K2, N, rfl, _, _, n1, n2, ly⟩ := table_of b1 ht
      have HC0 := Lib.hid fun W (k : Kp w W) => tcheck_u (c := c) (d := d) [(M : Int), (K : Int)] xs (R0.kp k) rfl rfl b0
      have HC1 := Lib.hid fun W (k : Kp w W) => tcheck_u (c := e) (d := f) [(K2 : Int), (N : Int)] ys (R1.kp k) rfl rfl b1
      have hfz : fullV [(K2 : Int), (N : Int)] 0 = ([(K2 : Int), (N : Int)], List.replicate (sizeV [(K2 : Int), (N : Int)]).toNat 0, 0) := by unfold fullV; rw [if_pos (tok_iff.1 b1).1]
      have HF := Lib.hid fun W (k : Kp w W) => full_u (c := e) [(K2 : Int), (N : Int)] 0 (R1.kp k).s rfl hfz rfl rfl
      obtain ⟨l2, k2', e2, l3, k3, e3, nn, r2, r3, hnn, hl2, HE⟩ : ∃ (l2 k2' : List Int) (e2 : Int) (l3 k3 : List Int) (e3 : Int) (nn : Nat), matV [(M : Int), (K : Int)] xs [(K2 : Int), (N : Int)] (List.replicate (sizeV [(K2 : Int), (N : Int)]).toNat 0) = (l2, k2', e2) ∧ matV [(M : Int), (K : Int)] xs [(K2 : Int), (N : Int)] ys = (l3, k3, e3) ∧ nn ≤ 64 ∧ k2' = List.replicate nn 0 ∧ ((e2 = 20 ∧ e3 = 20) ∨ (e2 = 0 ∧ e3 = 0) ∨ (e2 = 0 ∧ e3 = 10)) := by
        rcases mat_zero b0 b1 hs ht with ⟨g1, g2⟩ | ⟨l, n, k, l2, e, g1, _, g3, g4, g5⟩
        · exact ⟨_, _, _, _, _, _, 0, g1, g2, by omega, rfl, Or.inl ⟨rfl, rfl⟩⟩
        · rcases g5 with g5 | g5
          · exact ⟨_, _, _, _, _, _, k, g1, g4, g3, rfl, Or.inr (Or.inl ⟨rfl, g5⟩)⟩
          · exact ⟨_, _, _, _, _, _, k, g1, g4, g3, rfl, Or.inr (Or.inr ⟨rfl, g5⟩)⟩
      subst hl2
      have HC2 := Lib.hid fun W A0 B0 c0 d0 (k : Kp w W) (r : TR W A0 [(K2 : Int), (N : Int)] B0 (List.replicate (sizeV [(K2 : Int), (N : Int)]).toNat 0)) => pmat_u (c := c) (d := d) (e := c0) (f := d0) [(M : Int), (K : Int)] xs _ _ (R0.kp k) r I0 (I64s.rep (by omega)) rfl rfl rfl rfl r2 rfl (List.length_replicate ..)
      have HC3 := Lib.hid fun W (k : Kp w W) => pmat_u (c := c) (d := d) (e := e) (f := f) [(M : Int), (K : Int)] xs [(K2 : Int), (N : Int)] ys (R0.kp k) (R1.kp k) I0 I1 rfl rfl rfl rfl r3 rfl rfl
      by_cases hx : xs.length = 1
      · by_cases hy : ys.length = 1
        · obtain ⟨l, k, g1, g2, g3⟩ := mat_one b0 b1 hs ht hx hy
          rw [r3] at g1
          injection g1 with z1 g1
          injection g1 with z2 z3
          obtain ⟨ad, hB, CA⟩ := cl_one (xs := xs) (x := xs.getD 0 0) R0.d (by rw [List.getD, List.getElem?_eq_getElem (by omega)]; rfl)
          obtain ⟨ae, hD, CB⟩ := cl_one (xs := ys) (x := ys.getD 0 0) R1.d (by rw [List.getD, List.getElem?_eq_getElem (by omega)]; rfl)
          subst hB hD z1 z2
          have HFM := Lib.hid fun W => pmul_k (xs.getD 0 0) (ys.getD 0 0) (getD_i64 I0 _) (getD_i64 I1 _) W
          rw [← z3] at HFM g2 g3
          rw [hx] at HC0 HC2 HC3 ⊢
          rw [hy] at HC1 HC3 ⊢
          refine mmzero_one A C ad ae c d e f _ _ l2 l3 k3 _ _ nn _ _ e2 e3 _ _ _ w HC0 HC1 hnn CA CB ?_ HF HC2 HC3 HFM
          rcases HE with ⟨h1, h2⟩ | ⟨h1, h2⟩ | ⟨h1, h2⟩
          · exfalso
            rcases put_cases (xs.getD 0 0 * ys.getD 0 0 / 4294967296) with ⟨_, _, e⟩ | ⟨_, e⟩
            · have : (mulV (xs.getD 0 0) (ys.getD 0 0)).2 = 0 := by rw [show mulV (xs.getD 0 0) (ys.getD 0 0) = _ from e]
              omega
            · have : (mulV (xs.getD 0 0) (ys.getD 0 0)).2 = 10 := by rw [show mulV (xs.getD 0 0) (ys.getD 0 0) = _ from e]
              omega
          · have hk := (g2 h2).2
            exact Or.inl ⟨h1, h2, by rw [hk]; rfl, hk⟩
          · exact Or.inr ⟨h1, h2⟩
        · exact mmzero_withb A B C D c _ d e _ f _ _ l2 l3 k3 _ _ nn _ _ e2 e3 w (by omega) (by omega) HC0 HC1 hnn hx hy HE HF HC2 HC3
      · exact mmzero_witha A B C D c _ d e _ f _ _ l2 l3 k3 _ _ nn _ _ e2 e3 w (by omega) (by omega) HC0 HC1 hnn hx HE HF HC2 HC3
    · exact mmzero_far5 A B C D _ c _ d _ e _ f w (by omega) (by omega) (by omega) (by omega) (Lib.hid fun W k => tcheck_u s xs (R0.kp k) rfl rfl b0) (Lib.hid fun W k => tcheck_u t ys (R1.kp k) rfl rfl b1) hs ht
  · exact mmzero_far4 A B C D _ c _ d _ e _ f w (by omega) (by omega) (by omega) (by omega) (Lib.hid fun W k => tcheck_u s xs (R0.kp k) rfl rfl b0) (Lib.hid fun W k => tcheck_u t ys (R1.kp k) rfl rfl b1) hs
end Go.Proofs.Ytepnhmdjglpmeaa
