/- Turning, another shape, and being joined leave the sum of all numbers, and a part of a part is a part: the law's call returns true. -/
import Derived.Test.YtdjfjhanffliiaaMvCe
import Derived.Test.YtdjfjhanffliiaaMvS
set_option linter.unusedVariables false
namespace Go.Proofs.ShM
/-- No number is greater than b, or less than -b. -/
def Bd (b : Int) (xs : List Int) : Prop := ∀ (k : Nat) (x : Int), xs[k]? = some x → -b ≤ x ∧ x ≤ b
theorem Bd.at_ {s xs u : List Int} {b : Int} (h : Bd b xs) (hb : 0 ≤ b) (ht : tokV s xs = true) : -b ≤ (atV s xs u).1 ∧ (atV s xs u).1 ≤ b := by
  rw [at_get ht]
  split
  · by_cases hp : (plc s u).toNat < xs.length
    · have hx := List.getElem?_eq_getElem hp
      rw [List.getD, hx, Option.getD_some]
      exact h _ _ hx
    · rw [List.getD, List.getElem?_eq_none (by omega), Option.getD_none]; omega
  · omega
theorem Bd.map_ {b : Int} {n : Nat} {f : Nat → Int} (h : ∀ i, i < n → -b ≤ f i ∧ f i ≤ b) : Bd b ((List.range n).map f) := fun k x hx => by
  rw [List.getElem?_map, Option.map_eq_some_iff] at hx
  obtain ⟨i, hi, rfl⟩ := hx
  have hk := (List.getElem?_eq_some_iff.1 hi).1
  rw [List.getElem?_range (by simpa using hk)] at hi
  obtain rfl := Option.some.inj hi
  exact h _ (by simpa using hk)
theorem Bd.turn {s xs : List Int} {b : Int} (h : Bd b xs) (hb : 0 ≤ b) (ht : tokV s xs = true) : Bd b (turnD s xs) := Bd.map_ fun i _ => h.at_ hb ht
theorem Bd.both {s xs t ys g : List Int} {k : Nat} {b : Int} (h : Bd b xs) (h2 : Bd b ys) (hb : 0 ≤ b) (ht : tokV s xs = true) (ht2 : tokV t ys = true) : Bd b (bothL s xs t ys g k) := by
  rw [both_is]
  refine Bd.map_ fun i _ => ?_
  split
  · exact h.at_ hb ht
  · exact h2.at_ hb ht2
theorem Bd.tot {xs : List Int} {b : Int} (h : Bd b xs) : -(b * xs.length) ≤ totL xs ∧ totL xs ≤ b * xs.length := totK_bnd h xs.length (Nat.le_refl _)
/-- One row of all the numbers. -/
theorem row_err {s xs : List Int} (h : tokV s xs = true) : (reshapeV s xs [1, 1, (xs.length : Int)]).2.2 = 0 ∧ (reshapeV s xs [1, 1, (xs.length : Int)]).2.1 = xs ∨ (reshapeV s xs [1, 1, (xs.length : Int)]).2.2 ≠ 0 ∧ 16 < xs.length := by
  obtain ⟨_, _, h1, _⟩ := tok_len h
  by_cases c : sizeV [1, 1, (xs.length : Int)] = (xs.length : Int)
  · left; unfold reshapeV; rw [if_neg (by simp [h]), if_pos c]; exact ⟨rfl, rfl⟩
  · right
    refine ⟨by unfold reshapeV; rw [if_neg (by simp [h]), if_neg c]; simp, ?_⟩
    apply Classical.byContradiction
    intro h16
    apply c
    have ho : okS [1, 1, (xs.length : Int)] = true := ok_iff.2 ⟨by simp, by simp [List.all_cons, sideB]; omega, by simp [prodS]; omega⟩
    rw [size_ok ho]; simp [prodS]
theorem glue_sum {s xs : List Int} {k : Nat} (h : tokV s xs = true) (z : (glueV s xs s xs k).2.2 = 0) : ∃ g, glueV s xs s xs k = (g, bothL s xs s xs g k, 0) ∧ totL (bothL s xs s xs g k) = 2 * totL xs ∧ (bothL s xs s xs g k).length ≤ 64 := by
  by_cases c2 : (k : Int) < 0 ∨ (s.length : Int) ≤ k ∨ s.length ≠ s.length ∨ s.set (k : Int).toNat 1 ≠ s.set (k : Int).toNat 1 ∨ okS (s.set (k : Int).toNat (s.getD (k : Int).toNat 0 + s.getD (k : Int).toNat 0)) = false
  · unfold glueV at z; rw [if_neg (by simp [h]), if_pos c2] at z; simp at z
  rw [Int.toNat_natCast] at c2
  have hk : k < s.length := by omega
  have ho : okS (s.set k (s.getD k 0 + s.getD k 0)) = true := by
    cases e : okS (s.set k (s.getD k 0 + s.getD k 0)) with
    | true => rfl
    | false => exact absurd (.inr (.inr (.inr (.inr e)))) c2
  refine ⟨_, glue_is h h hk rfl rfl ho, ?_, ?_⟩
  · rw [both_sum h h hk rfl rfl ho]; omega
  · have := (tok_iff.1 (both_tok (s := s) (xs := xs) (t := s) (ys := xs) (k := k) ho)).2
    have := (ok_prod ho)
    omega
end Go.Proofs.ShM
namespace Go.Proofs.Ytdjfjhanffliiaa
open Go.RowKit Go.Proofs.ShM
set_option linter.unusedVariables false
set_option linter.unusedSimpArgs false

set_option maxHeartbeats 4000000 in
set_option maxRecDepth 100000 in
theorem msums_far0 (A B : Option Addr) (n c m d : Nat) (q1 y1 y2 y3 : Int) (w : World) (zn : n ≤ 9223372036854775807) (zm : m ≤ 9223372036854775807) (hf : 100 < n ∨ 100 < m) :
    Calls Try.prog 7 #[.agg #[.slice A n c, .slice B m d], .int .i64 q1, .int .u8 y1, .int .u8 y2, .int .u8 y3] w fun e w' => e = .returned (.bool true) ∧ Kp w w' := by
  have HN : Hid (∀ W, Calls Try.prog 10 #[.agg #[.slice A n c, .slice B m d]] W fun e w' => e = .returned (.bool false) ∧ Kp W w') := fun W => few_no zn zm hf
  clear hf
  go_enter Try.func7, Try.ntmps7
  go_wp2_with fail
  refine (mvawake_any _).mono ?_; rintro e0 w0 ⟨rfl, k0⟩
  have K := Lib.hid ((Kp.alloc_ _ _).tr k0)
  have T0B : Hid (Bk w0 (w.heap.size) A n c B m d) := (Bk.new rfl).kp k0
  clear k0
  have zt0b0 := T0B.out.c0
  have zt0b1 := T0B.out.c1
  have zt0b2 := T0B.out.lt
  go_wp2_with fail
  refine (HN.out _).mono ?_; rintro e0 w1 ⟨rfl, k1⟩
  have K := Lib.hid (K.out.tr k1)
  have T0B := Lib.hid (T0B.out.kp k1)
  clear k1 zt0b0 zt0b1 zt0b2
  have zt0b0 := T0B.out.c0
  have zt0b1 := T0B.out.c1
  have zt0b2 := T0B.out.lt
  go_wp2
  go_ret
  exact ⟨rfl, K.out⟩

set_option maxHeartbeats 4000000 in
set_option maxRecDepth 100000 in
theorem msums_far1 (A B : Option Addr) (n c m d : Nat) (q1 y1 y2 y3 : Int) (w : World) (hn : n ≤ 100) (hm : m ≤ 100) (HC0 : Hid (∀ W, Kp w W → Calls Try.prog 22 #[.agg #[.slice A n c, .slice B m d]] W fun e w' => e = .returned (.bool false) ∧ Kp W w')) :
    Calls Try.prog 7 #[.agg #[.slice A n c, .slice B m d], .int .i64 q1, .int .u8 y1, .int .u8 y2, .int .u8 y3] w fun e w' => e = .returned (.bool true) ∧ Kp w w' := by
  go_enter Try.func7, Try.ntmps7
  go_wp2_with fail
  refine (mvawake_any _).mono ?_; rintro e0 w0 ⟨rfl, k0⟩
  have K := Lib.hid ((Kp.alloc_ _ _).tr k0)
  have T0B : Hid (Bk w0 (w.heap.size) A n c B m d) := (Bk.new rfl).kp k0
  clear k0
  have zt0b0 := T0B.out.c0
  have zt0b1 := T0B.out.c1
  have zt0b2 := T0B.out.lt
  go_wp2_with fail
  refine (few_yes hn hm).mono ?_; rintro e0 w1 ⟨rfl, k1⟩
  have K := Lib.hid (K.out.tr k1)
  have T0B := Lib.hid (T0B.out.kp k1)
  clear k1 zt0b0 zt0b1 zt0b2
  have zt0b0 := T0B.out.c0
  have zt0b1 := T0B.out.c1
  have zt0b2 := T0B.out.lt
  go_wp2_with fail
  refine (HC0.out _ K.out).mono ?_; rintro e0 w2 ⟨rfl, k2⟩
  have K := Lib.hid (K.out.tr k2)
  have T0B := Lib.hid (T0B.out.kp k2)
  clear k2 zt0b0 zt0b1 zt0b2
  have zt0b0 := T0B.out.c0
  have zt0b1 := T0B.out.c1
  have zt0b2 := T0B.out.lt
  go_wp2
  go_ret
  exact ⟨rfl, K.out⟩

set_option maxHeartbeats 8000000 in
set_option maxRecDepth 100000 in
theorem msums_far2 (A B : Option Addr) (n c m d : Nat) (q1 y1 y2 y3 : Int) (w : World) (hn : n ≤ 100) (hm : m ≤ 100) (HC0 : Hid (∀ W, Kp w W → Calls Try.prog 22 #[.agg #[.slice A n c, .slice B m d]] W fun e w' => e = .returned (.bool true) ∧ Kp W w')) (hx : q1 < 0) :
    Calls Try.prog 7 #[.agg #[.slice A n c, .slice B m d], .int .i64 q1, .int .u8 y1, .int .u8 y2, .int .u8 y3] w fun e w' => e = .returned (.bool true) ∧ Kp w w' := by
  go_enter Try.func7, Try.ntmps7
  go_wp2_with fail
  refine (mvawake_any _).mono ?_; rintro e0 w0 ⟨rfl, k0⟩
  have K := Lib.hid ((Kp.alloc_ _ _).tr k0)
  have T0B : Hid (Bk w0 (w.heap.size) A n c B m d) := (Bk.new rfl).kp k0
  clear k0
  have zt0b0 := T0B.out.c0
  have zt0b1 := T0B.out.c1
  have zt0b2 := T0B.out.lt
  go_wp2_with fail
  refine (few_yes hn hm).mono ?_; rintro e0 w1 ⟨rfl, k1⟩
  have K := Lib.hid (K.out.tr k1)
  have T0B := Lib.hid (T0B.out.kp k1)
  clear k1 zt0b0 zt0b1 zt0b2
  have zt0b0 := T0B.out.c0
  have zt0b1 := T0B.out.c1
  have zt0b2 := T0B.out.lt
  go_wp2_with fail
  refine (HC0.out _ K.out).mono ?_; rintro e0 w2 ⟨rfl, k2⟩
  have K := Lib.hid (K.out.tr k2)
  have T0B := Lib.hid (T0B.out.kp k2)
  clear k2 zt0b0 zt0b1 zt0b2
  have zt0b0 := T0B.out.c0
  have zt0b1 := T0B.out.c1
  have zt0b2 := T0B.out.lt
  go_wp2
  go_ret
  exact ⟨rfl, K.out⟩

set_option maxHeartbeats 8000000 in
set_option maxRecDepth 100000 in
theorem msums_far3 (A B : Option Addr) (n c m d : Nat) (q1 y1 y2 y3 : Int) (w : World) (hn : n ≤ 100) (hm : m ≤ 100) (HC0 : Hid (∀ W, Kp w W → Calls Try.prog 22 #[.agg #[.slice A n c, .slice B m d]] W fun e w' => e = .returned (.bool true) ∧ Kp W w')) (hx0 : ¬ q1 < 0) (hx : (n : Int) ≤ q1) :
    Calls Try.prog 7 #[.agg #[.slice A n c, .slice B m d], .int .i64 q1, .int .u8 y1, .int .u8 y2, .int .u8 y3] w fun e w' => e = .returned (.bool true) ∧ Kp w w' := by
  go_enter Try.func7, Try.ntmps7
  go_wp2_with fail
  refine (mvawake_any _).mono ?_; rintro e0 w0 ⟨rfl, k0⟩
  have K := Lib.hid ((Kp.alloc_ _ _).tr k0)
  have T0B : Hid (Bk w0 (w.heap.size) A n c B m d) := (Bk.new rfl).kp k0
  clear k0
  have zt0b0 := T0B.out.c0
  have zt0b1 := T0B.out.c1
  have zt0b2 := T0B.out.lt
  go_wp2_with fail
  refine (few_yes hn hm).mono ?_; rintro e0 w1 ⟨rfl, k1⟩
  have K := Lib.hid (K.out.tr k1)
  have T0B := Lib.hid (T0B.out.kp k1)
  clear k1 zt0b0 zt0b1 zt0b2
  have zt0b0 := T0B.out.c0
  have zt0b1 := T0B.out.c1
  have zt0b2 := T0B.out.lt
  go_wp2_with fail
  refine (HC0.out _ K.out).mono ?_; rintro e0 w2 ⟨rfl, k2⟩
  have K := Lib.hid (K.out.tr k2)
  have T0B := Lib.hid (T0B.out.kp k2)
  clear k2 zt0b0 zt0b1 zt0b2
  have zt0b0 := T0B.out.c0
  have zt0b1 := T0B.out.c1
  have zt0b2 := T0B.out.lt
  go_wp2
  go_ret
  exact ⟨rfl, K.out⟩

set_option maxHeartbeats 8000000 in
set_option maxRecDepth 100000 in
theorem msums_far4 (A B : Option Addr) (n c m d : Nat) (q1 y1 y2 y3 : Int) (w : World) (hn : n ≤ 100) (hm : m ≤ 100) (HC0 : Hid (∀ W, Kp w W → Calls Try.prog 22 #[.agg #[.slice A n c, .slice B m d]] W fun e w' => e = .returned (.bool true) ∧ Kp W w')) (hx0 : ¬ q1 < 0) (hx1 : ¬ (n : Int) ≤ q1) (HSM : Hid (∀ W, Kp w W → Calls Try.prog 25 #[.agg #[.slice A n c, .slice B m d]] W fun e w' => e = .returned (.bool false) ∧ Kp W w')) :
    Calls Try.prog 7 #[.agg #[.slice A n c, .slice B m d], .int .i64 q1, .int .u8 y1, .int .u8 y2, .int .u8 y3] w fun e w' => e = .returned (.bool true) ∧ Kp w w' := by
  go_enter Try.func7, Try.ntmps7
  go_wp2_with fail
  refine (mvawake_any _).mono ?_; rintro e0 w0 ⟨rfl, k0⟩
  have K := Lib.hid ((Kp.alloc_ _ _).tr k0)
  have T0B : Hid (Bk w0 (w.heap.size) A n c B m d) := (Bk.new rfl).kp k0
  clear k0
  have zt0b0 := T0B.out.c0
  have zt0b1 := T0B.out.c1
  have zt0b2 := T0B.out.lt
  go_wp2_with fail
  refine (few_yes hn hm).mono ?_; rintro e0 w1 ⟨rfl, k1⟩
  have K := Lib.hid (K.out.tr k1)
  have T0B := Lib.hid (T0B.out.kp k1)
  clear k1 zt0b0 zt0b1 zt0b2
  have zt0b0 := T0B.out.c0
  have zt0b1 := T0B.out.c1
  have zt0b2 := T0B.out.lt
  go_wp2_with fail
  refine (HC0.out _ K.out).mono ?_; rintro e0 w2 ⟨rfl, k2⟩
  have K := Lib.hid (K.out.tr k2)
  have T0B := Lib.hid (T0B.out.kp k2)
  clear k2 zt0b0 zt0b1 zt0b2
  have zt0b0 := T0B.out.c0
  have zt0b1 := T0B.out.c1
  have zt0b2 := T0B.out.lt
  go_wp2_with fail
  refine (HSM.out _ K.out).mono ?_; rintro e0 w3 ⟨rfl, k3⟩
  have K := Lib.hid (K.out.tr k3)
  have T0B := Lib.hid (T0B.out.kp k3)
  clear k3 zt0b0 zt0b1 zt0b2
  have zt0b0 := T0B.out.c0
  have zt0b1 := T0B.out.c1
  have zt0b2 := T0B.out.lt
  go_wp2
  go_ret
  exact ⟨rfl, K.out⟩

set_option maxHeartbeats 8000000 in
set_option maxRecDepth 100000 in
theorem msums_with (A B : Option Addr) (n c m d : Nat) (k : Nat) (y1 y2 y3 : Int) (w : World) (hn : n ≤ 100) (hm : m ≤ 100) (HC0 : Hid (∀ W, Kp w W → Calls Try.prog 22 #[.agg #[.slice A n c, .slice B m d]] W fun e w' => e = .returned (.bool true) ∧ Kp W w')) (HSM : Hid (∀ W, Kp w W → Calls Try.prog 25 #[.agg #[.slice A n c, .slice B m d]] W fun e w' => e = .returned (.bool true) ∧ Kp W w')) (s xs sr v l2 k2 l3 k3 l4 k4 l5 k5 : List Int) (a2 b2 a3 b3 a4 b4 a5 b5 : Nat) (e2 e3 sd fr dd r2 tt tz len at_ fa T T2 : Int) (hk : k < n) (hm64 : m ≤ 64)
    (L0 : Hid (s.length = n ∧ xs.length = m)) (L5 : Hid (l5.length = a5 ∧ k5.length = b5)) (HT : Hid (TR w A s B xs)) (HSX : Hid (s[k]? = some sd)) (hs1 : 1 ≤ sd) (hs2 : sd ≤ 16) (g1 : 0 ≤ y1) (h1 : y1 ≤ 255) (g2 : 0 ≤ y2) (h2 : y2 ≤ 255) (g3 : 0 ≤ y3) (h3 : y3 ≤ 255)
    (hfr : y1 % sd = fr) (hfr0 : 0 ≤ fr) (hfr1 : fr < sd) (hdd : sd - fr = dd) (hr2 : y2 % dd = r2) (hr0 : 0 ≤ r2) (hr1 : r2 < dd) (hto : fr + 1 + r2 = tz) (hlen : tz - fr = len) (hat : y3 % len = at_) (hat0 : 0 ≤ at_) (hat1 : at_ < len) (hfa : fr + at_ = fa)
    (HE2 : Hid (e2 ≠ 0 → 16 < m)) (hT2 : IntKind.i64.wrap (2 * T) = T2)
    (C1 : Hid (∀ W, Kp w W → Calls Try.prog 14 #[.agg #[.slice A n c, .slice B m d]] W (RetU sr v n m 0 W)))
    (C2 : Hid (∀ W E q, Kp w W → Rd W E [1, 1, (m : Int)] → Calls Try.prog 11 #[.agg #[.slice A n c, .slice B m d], .slice E 3 q] W (RetU l2 k2 a2 b2 e2 W)))
    (C3 : Hid (∀ W, Kp w W → Calls Try.prog 20 #[.agg #[.slice A n c, .slice B m d], .agg #[.slice A n c, .slice B m d], .int .i64 (k : Int)] W (RetU l3 k3 a3 b3 e3 W)))
    (C4 : Hid (∀ W, Kp w W → Calls Try.prog 16 #[.agg #[.slice A n c, .slice B m d], .int .i64 (k : Int), .int .i64 fr, .int .i64 tz] W (RetU l4 k4 a4 b4 0 W)))
    (C5 : Hid (∀ W A0 B0 c0 d0, Kp w W → TR W A0 l4 B0 k4 → Calls Try.prog 16 #[.agg #[.slice A0 a4 c0, .slice B0 b4 d0], .int .i64 (k : Int), .int .i64 at_, .int .i64 len] W (RetU l5 k5 a5 b5 0 W)))
    (C6 : Hid (∀ W, Kp w W → Calls Try.prog 16 #[.agg #[.slice A n c, .slice B m d], .int .i64 (k : Int), .int .i64 fa, .int .i64 tz] W (RetU l5 k5 a5 b5 0 W)))
    (CT : Hid (∀ W A0 B0 c0 d0, Kp w W → TR W A0 s B0 xs → Calls Try.prog 26 #[.agg #[.slice A0 n c0, .slice B0 m d0]] W fun e w' => e = .returned (.int .i64 T) ∧ Kp W w'))
    (CU : Hid (∀ W A0 B0 c0 d0, Kp w W → TR W A0 sr B0 v → Calls Try.prog 26 #[.agg #[.slice A0 n c0, .slice B0 m d0]] W fun e w' => e = .returned (.int .i64 T) ∧ Kp W w'))
    (CR : Hid (∀ W A0 B0 c0 d0, e2 = 0 → Kp w W → TR W A0 l2 B0 k2 → Calls Try.prog 26 #[.agg #[.slice A0 a2 c0, .slice B0 b2 d0]] W fun e w' => e = .returned (.int .i64 T) ∧ Kp W w'))
    (CJ : Hid (∀ W A0 B0 c0 d0, e3 = 0 → Kp w W → TR W A0 l3 B0 k3 → Calls Try.prog 26 #[.agg #[.slice A0 a3 c0, .slice B0 b3 d0]] W fun e w' => e = .returned (.int .i64 T2) ∧ Kp W w')) :
    Calls Try.prog 7 #[.agg #[.slice A n c, .slice B m d], .int .i64 (k : Int), .int .u8 y1, .int .u8 y2, .int .u8 y3] w fun e w' => e = .returned (.bool true) ∧ Kp w w' := by
  have j1 : (0 : Int) ≤ (k : Int) := by omega
  have j2 : (k : Int) < (n : Int) := by omega
  have hx0 : ¬ (k : Int) < 0 := by omega
  have hx1 : ¬ (n : Int) ≤ (k : Int) := by omega
  have hxn : ¬ n ≤ k := by omega
  have m1 : Int.tmod y1 sd = fr := by rw [IntWalk.rem_in _ _ g1]; exact hfr
  have m2 : Int.tmod y2 dd = r2 := by rw [IntWalk.rem_in _ _ g2]; exact hr2
  have m3 : Int.tmod y3 len = at_ := by rw [IntWalk.rem_in _ _ g3]; exact hat
  have n1 : ¬ sd = 0 := by omega
  have n2 : ¬ dd = 0 := by omega
  have n3 : ¬ len = 0 := by omega
  have w1' : IntKind.i64.wrap (fr + 1) = fr + 1 := IntWalk.i64_in _ (by omega)
  have w2' : IntKind.i64.wrap (sd - fr) = dd := by rw [IntWalk.i64_in _ (by omega)]; exact hdd
  have w3' : IntKind.i64.wrap (fr + 1 + r2) = tz := by rw [IntWalk.i64_in _ (by omega)]; exact hto
  have w4' : IntKind.i64.wrap (tz - fr) = len := by rw [IntWalk.i64_in _ (by omega)]; exact hlen
  have w5' : IntKind.i64.wrap (fr + at_) = fa := by rw [IntWalk.i64_in _ (by omega)]; exact hfa
  have hd1 : 1 ≤ dd := by omega
  have hl1 : 1 ≤ len := by omega
  have hd2 : dd ≤ 16 := by omega
  have hl2 : len ≤ 16 := by omega
  obtain ⟨ad, CA, rfl⟩ := ce_of HT.out.s HSX.out
  go_enter Try.func7, Try.ntmps7
  go_wp2_with fail
  refine (mvawake_any _).mono ?_; rintro e0 w0 ⟨rfl, k0⟩
  have K := Lib.hid ((Kp.alloc_ _ _).tr k0)
  have CA := Lib.hid ((CA.out.alloc_ _).kp k0)
  have HT := Lib.hid ((HT.out.alloc_ _).kp k0)
  have T0B : Hid (Bk w0 (w.heap.size) (some ad) n c B m d) := (Bk.new rfl).kp k0
  clear k0
  have zt0b0 := T0B.out.c0
  have zt0b1 := T0B.out.c1
  have zt0b2 := T0B.out.lt
  go_wp2_with fail
  refine (few_yes hn hm).mono ?_; rintro e0 w1 ⟨rfl, k1⟩
  have K := Lib.hid (K.out.tr k1)
  have T0B := Lib.hid (T0B.out.kp k1)
  have CA := Lib.hid (CA.out.kp k1)
  have HT := Lib.hid (HT.out.kp k1)
  clear k1 zt0b0 zt0b1 zt0b2
  have zt0b0 := T0B.out.c0
  have zt0b1 := T0B.out.c1
  have zt0b2 := T0B.out.lt
  go_wp2_with fail
  refine (HC0.out _ K.out).mono ?_; rintro e0 w2 ⟨rfl, k2⟩
  have K := Lib.hid (K.out.tr k2)
  have T0B := Lib.hid (T0B.out.kp k2)
  have CA := Lib.hid (CA.out.kp k2)
  have HT := Lib.hid (HT.out.kp k2)
  clear k2 zt0b0 zt0b1 zt0b2
  have zt0b0 := T0B.out.c0
  have zt0b1 := T0B.out.c1
  have zt0b2 := T0B.out.lt
  go_wp2_with fail
  refine (HSM.out _ K.out).mono ?_; rintro e0 w3 ⟨rfl, k3⟩
  have K := Lib.hid (K.out.tr k3)
  have T0B := Lib.hid (T0B.out.kp k3)
  have CA := Lib.hid (CA.out.kp k3)
  have HT := Lib.hid (HT.out.kp k3)
  clear k3 zt0b0 zt0b1 zt0b2
  have zt0b0 := T0B.out.c0
  have zt0b1 := T0B.out.c1
  have zt0b2 := T0B.out.lt
  go_wp2_with fail
  refine (C1.out _ K.out).mono ?_; rintro e0 w4 ⟨A4, c4, B4, d4, rfl, r4, k4⟩
  have K := Lib.hid (K.out.tr k4)
  have T0B := Lib.hid (T0B.out.kp k4)
  have CA := Lib.hid (CA.out.kp k4)
  have HT := Lib.hid (HT.out.kp k4)
  have U := Lib.hid r4
  clear k4 r4 zt0b0 zt0b1 zt0b2
  have zt0b0 := T0B.out.c0
  have zt0b1 := T0B.out.c1
  have zt0b2 := T0B.out.lt
  go_wp2_with fail
  refine (C2.out _ _ _ ((K.out.al _).al _) (Rd.lit_ [1, 1, (m : Int)] (by simp) (by simp))).mono ?_; rintro e0 w5 ⟨A5, c5, B5, d5, rfl, r5, k5⟩
  have K := Lib.hid (((K.out.al _).al _).tr k5)
  have T0B := Lib.hid (((T0B.out.alloc_ _).alloc_ _).kp k5)
  have CA := Lib.hid (((CA.out.alloc_ _).alloc_ _).kp k5)
  have HT := Lib.hid (((HT.out.alloc_ _).alloc_ _).kp k5)
  have U := Lib.hid (((U.out.alloc_ _).alloc_ _).kp k5)
  have UB : Hid (Bk w5 w4.heap.size A4 n c4 B4 m d4) := ((Bk.new rfl).alloc_ _).kp k5
  have R := Lib.hid r5
  clear k5 r5 zt0b0 zt0b1 zt0b2
  have zt0b0 := T0B.out.c0
  have zt0b1 := T0B.out.c1
  have zt0b2 := T0B.out.lt
  go_wp2_with fail
  refine (C3.out _ (K.out.al _)).mono ?_; rintro e0 w6 ⟨A6, c6, B6, d6, rfl, r6, k6⟩
  have K := Lib.hid ((K.out.al _).tr k6)
  have T0B := Lib.hid ((T0B.out.alloc_ _).kp k6)
  have UB := Lib.hid ((UB.out.alloc_ _).kp k6)
  have CA := Lib.hid ((CA.out.alloc_ _).kp k6)
  have HT := Lib.hid ((HT.out.alloc_ _).kp k6)
  have U := Lib.hid ((U.out.alloc_ _).kp k6)
  have R := Lib.hid ((R.out.alloc_ _).kp k6)
  have RB : Hid (Bk w6 w5.heap.size A5 a2 c5 B5 b2 d5) := (Bk.new rfl).kp k6
  have J := Lib.hid r6
  clear k6 r6 zt0b0 zt0b1 zt0b2
  have zt0b0 := T0B.out.c0
  have zt0b1 := T0B.out.c1
  have zt0b2 := T0B.out.lt
  have hce := CA.out.1
  have hcl := CA.out.2
  go_wp2_with fail
  refine (C4.out _ (K.out.al _)).mono ?_; rintro e0 w7 ⟨A7, c7, B7, d7, rfl, r7, k7⟩
  have K := Lib.hid ((K.out.al _).tr k7)
  have T0B := Lib.hid ((T0B.out.alloc_ _).kp k7)
  have UB := Lib.hid ((UB.out.alloc_ _).kp k7)
  have RB := Lib.hid ((RB.out.alloc_ _).kp k7)
  have CA := Lib.hid ((CA.out.alloc_ _).kp k7)
  have HT := Lib.hid ((HT.out.alloc_ _).kp k7)
  have U := Lib.hid ((U.out.alloc_ _).kp k7)
  have R := Lib.hid ((R.out.alloc_ _).kp k7)
  have J := Lib.hid ((J.out.alloc_ _).kp k7)
  have JB : Hid (Bk w7 w6.heap.size A6 a3 c6 B6 b3 d6) := (Bk.new rfl).kp k7
  have P := Lib.hid r7
  clear k7 r7 zt0b0 zt0b1 zt0b2 hce hcl
  go_wp2_with fail
  refine (C5.out _ _ _ _ _ (K.out.al _) (P.out.alloc_ _)).mono ?_; rintro e0 w8 ⟨A8, c8, B8, d8, rfl, r8, k8⟩
  have K := Lib.hid ((K.out.al _).tr k8)
  have T0B := Lib.hid ((T0B.out.alloc_ _).kp k8)
  have UB := Lib.hid ((UB.out.alloc_ _).kp k8)
  have RB := Lib.hid ((RB.out.alloc_ _).kp k8)
  have JB := Lib.hid ((JB.out.alloc_ _).kp k8)
  have CA := Lib.hid ((CA.out.alloc_ _).kp k8)
  have HT := Lib.hid ((HT.out.alloc_ _).kp k8)
  have U := Lib.hid ((U.out.alloc_ _).kp k8)
  have R := Lib.hid ((R.out.alloc_ _).kp k8)
  have J := Lib.hid ((J.out.alloc_ _).kp k8)
  have P := Lib.hid ((P.out.alloc_ _).kp k8)
  have PB : Hid (Bk w8 w7.heap.size A7 a4 c7 B7 b4 d7) := (Bk.new rfl).kp k8
  have Q := Lib.hid r8
  clear k8 r8
  have zt0b0 := T0B.out.c0
  have zt0b1 := T0B.out.c1
  have zt0b2 := T0B.out.lt
  go_wp2_with fail
  refine (C6.out _ (K.out.al _)).mono ?_; rintro e0 w9 ⟨A9, c9, B9, d9, rfl, r9, k9⟩
  have K := Lib.hid ((K.out.al _).tr k9)
  have T0B := Lib.hid ((T0B.out.alloc_ _).kp k9)
  have UB := Lib.hid ((UB.out.alloc_ _).kp k9)
  have RB := Lib.hid ((RB.out.alloc_ _).kp k9)
  have JB := Lib.hid ((JB.out.alloc_ _).kp k9)
  have PB := Lib.hid ((PB.out.alloc_ _).kp k9)
  have CA := Lib.hid ((CA.out.alloc_ _).kp k9)
  have HT := Lib.hid ((HT.out.alloc_ _).kp k9)
  have U := Lib.hid ((U.out.alloc_ _).kp k9)
  have R := Lib.hid ((R.out.alloc_ _).kp k9)
  have J := Lib.hid ((J.out.alloc_ _).kp k9)
  have P := Lib.hid ((P.out.alloc_ _).kp k9)
  have Q := Lib.hid ((Q.out.alloc_ _).kp k9)
  have QB : Hid (Bk w9 w8.heap.size A8 a5 c8 B8 b5 d8) := (Bk.new rfl).kp k9
  have V := Lib.hid r9
  clear k9 r9 zt0b0 zt0b1 zt0b2
  go_upto_region 14 with fail
  obtain ⟨W9, HW9⟩ : ∃ W9, Hid (W9 = w9.alloc (.cells #[.slice A9 a5 c9, .slice B9 b5 d9] 24)) := ⟨_, rfl⟩
  have hkx : Kp w9 W9 := by rw [HW9.out]; exact Kp.alloc_ _ _
  have VB : Hid (Bk W9 w9.heap.size A9 a5 c9 B9 b5 d9) := by show Bk _ _ _ _ _ _ _ _; rw [HW9.out]; exact Bk.new rfl
  rw [← HW9.out]
  have K := Lib.hid (K.out.tr hkx)
  have T0B := Lib.hid (T0B.out.kp hkx)
  have UB := Lib.hid (UB.out.kp hkx)
  have RB := Lib.hid (RB.out.kp hkx)
  have JB := Lib.hid (JB.out.kp hkx)
  have PB := Lib.hid (PB.out.kp hkx)
  have QB := Lib.hid (QB.out.kp hkx)
  have CA := Lib.hid (CA.out.kp hkx)
  have HT := Lib.hid (HT.out.kp hkx)
  have U := Lib.hid (U.out.kp hkx)
  have R := Lib.hid (R.out.kp hkx)
  have J := Lib.hid (J.out.kp hkx)
  have P := Lib.hid (P.out.kp hkx)
  have Q := Lib.hid (Q.out.kp hkx)
  have V := Lib.hid (V.out.kp hkx)
  clear hkx HW9 
  have S9 : Hid (∀ V, Kp W9 V → Hid (Kp W9 V)) := fun V kV => kV
  have hdr : Hid (Kp W9 W9.drew) := Below.drew (Kp.refl _)
  have HK14 : Hid (∀ V, Kp W9 V → Hid (Kp W9 V) ∧ (V.cell? ⟨w6.heap.size, 0, none⟩ = some (.slice A6 a3 c6) ∧ V.cell? ⟨w6.heap.size, 1, none⟩ = some (.slice B6 b3 d6) ∧ V.cell? ⟨w.heap.size, 0, none⟩ = some (.slice (some ad) n c) ∧ V.cell? ⟨w.heap.size, 1, none⟩ = some (.slice B m d))) := fun V kV => ⟨kV, ⟨(JB.out.kp kV).c0, (JB.out.kp kV).c1, (T0B.out.kp kV).c0, (T0B.out.kp kV).c1⟩⟩
  go_cut [28] (fun v28 wx => v28 = .bool true ∧ Hid (Kp W9 wx))
  case first =>
    obtain ⟨_, s0, s1, s2, s3⟩ := HK14.out W9 (Kp.refl _)
    by_cases h3e : e3 = 0
    · subst h3e
      go_region_held3 (fun V => V.cell? ⟨w6.heap.size, 0, none⟩ = some (.slice A6 a3 c6) ∧ V.cell? ⟨w6.heap.size, 1, none⟩ = some (.slice B6 b3 d6) ∧ V.cell? ⟨w.heap.size, 0, none⟩ = some (.slice (some ad) n c) ∧ V.cell? ⟨w.heap.size, 1, none⟩ = some (.slice B m d)) (first | exact ⟨p0, p1, p2, p3⟩ | exact ⟨q0, q1, q2, q3⟩ | exact ⟨s0, s1, s2, s3⟩)
        (first
        | (go_at_call_of 26 A6; refine (CJ.out _ _ _ _ _ (by simp) (K.out.tr hdr.out) (J.out.kp hdr.out)).mono ?_; rintro e0 w20 ⟨rfl, k20⟩; obtain ⟨K20, q0, q1, q2, q3⟩ := HK14.out _ (undrawn k20); clear k20)
        | (go_at_call_of 26 (some ad); refine (CT.out _ _ _ _ _ (K.out.tr K20.out) (HT.out.kp K20.out)).mono ?_; rintro e0 w21 ⟨rfl, k21⟩; obtain ⟨K21, p0, p1, p2, p3⟩ := HK14.out _ (K20.out.tr k21); clear k21))
      all_goals go_wp2
      all_goals go_meet
      all_goals exact ⟨by simp, K21⟩
    · have h3b : (e3 != 0) = true := by simpa using h3e
      go_quiet (fail)
      go_wp2
      go_meet
      exact ⟨rfl, Kp.drewN_ _ _⟩
  case rest =>
    obtain ⟨rfl, k14⟩ := hcut
    obtain ⟨W10, hW10⟩ : ∃ W10, W10 = wc := ⟨_, rfl⟩
    subst hW10
    have K := Lib.hid (K.out.tr k14.out)
    have T0B := Lib.hid (T0B.out.kp k14.out)
    have UB := Lib.hid (UB.out.kp k14.out)
    have RB := Lib.hid (RB.out.kp k14.out)
    have JB := Lib.hid (JB.out.kp k14.out)
    have PB := Lib.hid (PB.out.kp k14.out)
    have QB := Lib.hid (QB.out.kp k14.out)
    have VB := Lib.hid (VB.out.kp k14.out)
    have CA := Lib.hid (CA.out.kp k14.out)
    have HT := Lib.hid (HT.out.kp k14.out)
    have U := Lib.hid (U.out.kp k14.out)
    have R := Lib.hid (R.out.kp k14.out)
    have J := Lib.hid (J.out.kp k14.out)
    have P := Lib.hid (P.out.kp k14.out)
    have Q := Lib.hid (Q.out.kp k14.out)
    have V := Lib.hid (V.out.kp k14.out)
    clear S9 hdr HK14
    have hdr : Hid (Kp W10 W10.drew) := Below.drew (Kp.refl _)
    have HK15 : Hid (∀ V, Kp W10 V → V.cell? ⟨w5.heap.size, 0, none⟩ = some (.slice A5 a2 c5) ∧ V.cell? ⟨w5.heap.size, 1, none⟩ = some (.slice B5 b2 d5) ∧ V.cell? ⟨w.heap.size, 0, none⟩ = some (.slice (some ad) n c) ∧ V.cell? ⟨w.heap.size, 1, none⟩ = some (.slice B m d)) := fun V kV => ⟨(RB.out.kp kV).c0, (RB.out.kp kV).c1, (T0B.out.kp kV).c0, (T0B.out.kp kV).c1⟩
    go_wp2
    go_cut [29] (fun v29 wx => v29 = .bool true ∧ Hid (Kp W10 wx))
    case first =>
      by_cases h2e : e2 = 0
      · subst h2e
        have s0 := HK15.out _ hdr.out
        refine wp_region_held_drew (S := fun V => V.cell? ⟨w5.heap.size, 0, none⟩ = some (.slice A5 a2 c5) ∧ V.cell? ⟨w5.heap.size, 1, none⟩ = some (.slice B5 b2 d5) ∧ V.cell? ⟨w.heap.size, 0, none⟩ = some (.slice (some ad) n c) ∧ V.cell? ⟨w.heap.size, 1, none⟩ = some (.slice B m d)) (by kernel_rfl) s0 (fun hHeld => ?_)
        refine wpAnyH_take (i := 0) (v := .int .i64 0) rfl (by kernel_rfl) (by kernel_rfl) (by kernel_rfl) (fun _ _ _ h => h) (Or.inl ⟨by kernel_rfl, fun V hSV => ?_⟩) hHeld ?_
        · (try dsimp only at hSV); go_simp
        try simp only [Act.put, List.setIfInBounds_toArray, List.set_cons_zero, List.set_cons_succ]
        refine wpAnyH_take (i := 1) (v := .bool false) rfl (by kernel_rfl) (by kernel_rfl) (by kernel_rfl) (fun _ _ _ h => h) (Or.inl ⟨by kernel_rfl, fun V hSV => ?_⟩) hHeld ?_
        · (try dsimp only at hSV); go_simp
        try simp only [Act.put, List.setIfInBounds_toArray, List.set_cons_zero, List.set_cons_succ]
        refine wpAnyH_take (i := 2) (v := .bool false) rfl (by kernel_rfl) (by kernel_rfl) (by kernel_rfl) (fun _ _ _ h => h) (Or.inl ⟨by kernel_rfl, fun V hSV => ?_⟩) hHeld ?_
        · (try dsimp only at hSV); go_simp
        try simp only [Act.put, List.setIfInBounds_toArray, List.set_cons_zero, List.set_cons_succ]
        refine wpAnyH_take (i := 3) (v := undef) rfl (by kernel_rfl) (by kernel_rfl) (by kernel_rfl) (fun _ _ _ h => h) (Or.inr ⟨by kernel_rfl, rfl⟩) hHeld ?_
        try simp only [Act.put, List.setIfInBounds_toArray, List.set_cons_zero, List.set_cons_succ]
        refine wpAnyH_take (i := 4) (v := undef) rfl (by kernel_rfl) (by kernel_rfl) (by kernel_rfl) (fun _ _ _ h => h) (Or.inr ⟨by kernel_rfl, rfl⟩) hHeld ?_
        try simp only [Act.put, List.setIfInBounds_toArray, List.set_cons_zero, List.set_cons_succ]
        refine wpAnyH_take (i := 5) (v := undef) rfl (by kernel_rfl) (by kernel_rfl) (by kernel_rfl) (fun _ _ _ h => h) (Or.inr ⟨by kernel_rfl, rfl⟩) hHeld ?_
        try simp only [Act.put, List.setIfInBounds_toArray, List.set_cons_zero, List.set_cons_succ]
        refine wpAnyH_take (i := 6) (v := undef) rfl (by kernel_rfl) (by kernel_rfl) (by kernel_rfl) (fun _ _ _ h => h) (Or.inr ⟨by kernel_rfl, rfl⟩) hHeld ?_
        try simp only [Act.put, List.setIfInBounds_toArray, List.set_cons_zero, List.set_cons_succ]
        refine wpAnyH_take (i := 7) (v := .bool false) rfl (by kernel_rfl) (by kernel_rfl) (by kernel_rfl) (fun _ _ _ h => h) (Or.inl ⟨by kernel_rfl, fun V hSV => ?_⟩) hHeld ?_
        · (try dsimp only at hSV); go_simp
        try simp only [Act.put, List.setIfInBounds_toArray, List.set_cons_zero, List.set_cons_succ]
        refine wpAnyH_take (i := 8) (v := .bool false) rfl (by kernel_rfl) (by kernel_rfl) (by kernel_rfl) (fun _ _ _ h => h) (Or.inl ⟨by kernel_rfl, fun V hSV => ?_⟩) hHeld ?_
        · (try dsimp only at hSV); go_simp
        try simp only [Act.put, List.setIfInBounds_toArray, List.set_cons_zero, List.set_cons_succ]
        refine wpAnyH_take (i := 9) (v := .int .i64 0) rfl (by kernel_rfl) (by kernel_rfl) (by kernel_rfl) (fun _ _ _ h => h) (Or.inl ⟨by kernel_rfl, fun V hSV => ?_⟩) hHeld ?_
        · (try dsimp only at hSV); go_simp
        try simp only [Act.put, List.setIfInBounds_toArray, List.set_cons_zero, List.set_cons_succ]
        refine wpAnyH_take (i := 10) (v := .bool true) rfl (by kernel_rfl) (by kernel_rfl) (by kernel_rfl) (fun _ _ _ h => h) (Or.inl ⟨by kernel_rfl, fun V hSV => ?_⟩) hHeld ?_
        · (try dsimp only at hSV); go_simp
        try simp only [Act.put, List.setIfInBounds_toArray, List.set_cons_zero, List.set_cons_succ]
        refine wpAnyH_take (i := 11) (v := .bool true) rfl (by kernel_rfl) (by kernel_rfl) (by kernel_rfl) (fun _ _ _ h => h) (Or.inl ⟨by kernel_rfl, fun V hSV => ?_⟩) hHeld ?_
        · (try dsimp only at hSV); go_simp
        try simp only [Act.put, List.setIfInBounds_toArray, List.set_cons_zero, List.set_cons_succ]
        refine wpAnyH_take (i := 12) (v := .agg #[.slice A5 a2 c5, .slice B5 b2 d5]) rfl (by kernel_rfl) (by kernel_rfl) (by kernel_rfl) (fun _ _ _ h => h) (Or.inl ⟨by kernel_rfl, fun V hSV => ?_⟩) hHeld ?_
        · (try dsimp only at hSV); go_simp
        try simp only [Act.put, List.setIfInBounds_toArray, List.set_cons_zero, List.set_cons_succ]
        refine wpAnyH_take (i := 14) (v := .agg #[.slice (some ad) n c, .slice B m d]) rfl (by kernel_rfl) (by kernel_rfl) (by kernel_rfl) (fun _ _ _ h => h) (Or.inl ⟨by kernel_rfl, fun V hSV => ?_⟩) hHeld ?_
        · (try dsimp only at hSV); go_simp
        try simp only [Act.put, List.setIfInBounds_toArray, List.set_cons_zero, List.set_cons_succ]
        refine wpAnyH_ready (rs := [13]) (by kernel_rfl) (by simp) ?_
        refine AllReadyH.cons rfl (fun K9_ hK => ?_) AllReadyH.nil
        go_simp
        refine (CR.out _ _ _ _ _ (by simp) (K.out.tr hdr.out) (R.out.kp hdr.out)).mono ?_; rintro e0 w20 ⟨rfl, k20⟩; have K20 : Hid (Kp W10 w20) := undrawn k20; clear k20
        dsimp only
        refine hK.out _ _ ?_ (fun hHeld => ?_)
        · exact HK15.out _ K20.out
        clear hK
        try simp only [Act.put, List.setIfInBounds_toArray, List.set_cons_zero, List.set_cons_succ]
        refine wpAnyH_ready (rs := [15]) (by kernel_rfl) (by simp) ?_
        refine AllReadyH.cons rfl (fun K9_ hK => ?_) AllReadyH.nil
        go_simp
        refine (CT.out _ _ _ _ _ (K.out.tr K20.out) (HT.out.kp K20.out)).mono ?_; rintro e0 w21 ⟨rfl, k21⟩; have K21 := Lib.hid (K20.out.tr k21); clear k21
        dsimp only
        refine hK.out _ _ ?_ (fun hHeld => ?_)
        · exact HK15.out _ K21.out
        clear hK
        try simp only [Act.put, List.setIfInBounds_toArray, List.set_cons_zero, List.set_cons_succ]
        refine wpAnyH_take (i := 16) (v := .bool true) rfl (by kernel_rfl) (by kernel_rfl) (by kernel_rfl) (fun _ _ _ h => h) (Or.inl ⟨by kernel_rfl, fun V hSV => ?_⟩) hHeld ?_
        · (try dsimp only at hSV); go_simp
        try simp only [Act.put, List.setIfInBounds_toArray, List.set_cons_zero, List.set_cons_succ]
        refine wpAnyH_take (i := 17) (v := .bool true) rfl (by kernel_rfl) (by kernel_rfl) (by kernel_rfl) (fun _ _ _ h => h) (Or.inl ⟨by kernel_rfl, fun V hSV => ?_⟩) hHeld ?_
        · (try dsimp only at hSV); go_simp
        try simp only [Act.put, List.setIfInBounds_toArray, List.set_cons_zero, List.set_cons_succ]
        refine wpAnyH_take (i := 18) (v := .bool true) rfl (by kernel_rfl) (by kernel_rfl) (by kernel_rfl) (fun _ _ _ h => h) (Or.inl ⟨by kernel_rfl, fun V hSV => ?_⟩) hHeld ?_
        · (try dsimp only at hSV); go_simp
        try simp only [Act.put, List.setIfInBounds_toArray, List.set_cons_zero, List.set_cons_succ]
        refine wpAnyH_ready (rs := [19]) (by kernel_rfl) (by simp) ?_
        refine AllReadyH.cons rfl (fun K9_ hK => ?_) AllReadyH.nil
        go_simp
        refine hK.out _ _ ?_ (fun hHeld => ?_)
        · exact HK15.out _ K21.out
        clear hK
        try simp only [Act.put, List.setIfInBounds_toArray, List.set_cons_zero, List.set_cons_succ]
        refine wpAnyH_done (by kernel_rfl) ?_ _
        go_wp2
        go_meet
        exact ⟨rfl, K21⟩
      · have h2b : (e2 != 0) = true := by simpa using h2e
        have h16 := HE2.out h2e
        have h16i : (16 : Int) < (m : Int) := by omega
        have s0 := HK15.out W10 (Kp.refl _)
        obtain ⟨s1, s2, s3, s4⟩ := s0
        go_quiet (fail)
        go_wp2
        go_meet
        exact ⟨rfl, Kp.drewN_ _ _⟩
    case rest =>
      obtain ⟨rfl, k15⟩ := hcut
      obtain ⟨W11, hW11⟩ : ∃ W11, W11 = wc := ⟨_, rfl⟩
      subst hW11
      have K := Lib.hid (K.out.tr k15.out)
      have T0B := Lib.hid (T0B.out.kp k15.out)
      have UB := Lib.hid (UB.out.kp k15.out)
      have RB := Lib.hid (RB.out.kp k15.out)
      have JB := Lib.hid (JB.out.kp k15.out)
      have PB := Lib.hid (PB.out.kp k15.out)
      have QB := Lib.hid (QB.out.kp k15.out)
      have VB := Lib.hid (VB.out.kp k15.out)
      have CA := Lib.hid (CA.out.kp k15.out)
      have HT := Lib.hid (HT.out.kp k15.out)
      have U := Lib.hid (U.out.kp k15.out)
      have R := Lib.hid (R.out.kp k15.out)
      have J := Lib.hid (J.out.kp k15.out)
      have P := Lib.hid (P.out.kp k15.out)
      have Q := Lib.hid (Q.out.kp k15.out)
      have V := Lib.hid (V.out.kp k15.out)
      clear hdr HK15
      have hdr : Hid (Kp W11 W11.drew) := Below.drew (Kp.refl _)
      have HK16 : Hid (∀ V, Kp W11 V → Hid (Kp W11 V) ∧ (V.cell? ⟨w4.heap.size, 0, none⟩ = some (.slice A4 n c4) ∧ V.cell? ⟨w4.heap.size, 1, none⟩ = some (.slice B4 m d4) ∧ V.cell? ⟨w.heap.size, 0, none⟩ = some (.slice (some ad) n c) ∧ V.cell? ⟨w.heap.size, 1, none⟩ = some (.slice B m d) ∧ V.cell? ⟨w8.heap.size, 0, none⟩ = some (.slice A8 a5 c8) ∧ V.cell? ⟨w8.heap.size, 1, none⟩ = some (.slice B8 b5 d8) ∧ V.cell? ⟨w9.heap.size, 0, none⟩ = some (.slice A9 a5 c9) ∧ V.cell? ⟨w9.heap.size, 1, none⟩ = some (.slice B9 b5 d9))) := fun V kV => ⟨kV, ⟨(UB.out.kp kV).c0, (UB.out.kp kV).c1, (T0B.out.kp kV).c0, (T0B.out.kp kV).c1, (QB.out.kp kV).c0, (QB.out.kp kV).c1, (VB.out.kp kV).c0, (VB.out.kp kV).c1⟩⟩
      obtain ⟨_, s0, s1, s2, s3, s4, s5, s6, s7⟩ := HK16.out W11 (Kp.refl _)
      go_wp2
      go_region_held3 (fun V => V.cell? ⟨w4.heap.size, 0, none⟩ = some (.slice A4 n c4) ∧ V.cell? ⟨w4.heap.size, 1, none⟩ = some (.slice B4 m d4) ∧ V.cell? ⟨w.heap.size, 0, none⟩ = some (.slice (some ad) n c) ∧ V.cell? ⟨w.heap.size, 1, none⟩ = some (.slice B m d) ∧ V.cell? ⟨w8.heap.size, 0, none⟩ = some (.slice A8 a5 c8) ∧ V.cell? ⟨w8.heap.size, 1, none⟩ = some (.slice B8 b5 d8) ∧ V.cell? ⟨w9.heap.size, 0, none⟩ = some (.slice A9 a5 c9) ∧ V.cell? ⟨w9.heap.size, 1, none⟩ = some (.slice B9 b5 d9)) (first | exact ⟨r0, r1, r2, r3, r4, r5, r6, r7⟩ | exact ⟨p0, p1, p2, p3, p4, p5, p6, p7⟩ | exact ⟨q0, q1, q2, q3, q4, q5, q6, q7⟩ | exact ⟨s0, s1, s2, s3, s4, s5, s6, s7⟩)
        (first
        | (go_at_call_of 26 A4; refine (CU.out _ _ _ _ _ (K.out.tr hdr.out) (U.out.kp hdr.out)).mono ?_; rintro e0 w20 ⟨rfl, k20⟩; obtain ⟨K20, q0, q1, q2, q3, q4, q5, q6, q7⟩ := HK16.out _ (undrawn k20); clear k20)
        | (go_at_call_of 26 (some ad); refine (CT.out _ _ _ _ _ (K.out.tr K20.out) (HT.out.kp K20.out)).mono ?_; rintro e0 w21 ⟨rfl, k21⟩; obtain ⟨K21, p0, p1, p2, p3, p4, p5, p6, p7⟩ := HK16.out _ (K20.out.tr k21); clear k21)
        | (go_at_call 13; refine (tsame_u (Q.out.kp K21.out) (V.out.kp K21.out) L5.out.1 L5.out.2).mono ?_; rintro e0 w22 ⟨rfl, k22⟩; obtain ⟨K22, r0, r1, r2, r3, r4, r5, r6, r7⟩ := HK16.out _ (K21.out.tr k22); clear k22))
      all_goals
        go_wp2
        go_ret
        exact ⟨by simp, K.out.tr K22.out⟩

theorem msums_walk (A B : Option Addr) (c d : Nat) (q1 y1 y2 y3 : Int) (s xs : List Int) (w : World) (g1 : 0 ≤ y1) (h1 : y1 ≤ 255) (g2 : 0 ≤ y2) (h2 : y2 ≤ 255) (g3 : 0 ≤ y3) (h3 : y3 ≤ 255) (R0 : TR w A s B xs) (I0 : I64s xs) :
    Calls Try.prog 7 #[.agg #[.slice A s.length c, .slice B xs.length d], .int .i64 q1, .int .u8 y1, .int .u8 y2, .int .u8 y3] w fun e w' => e = .returned (.bool true) ∧ Kp w w' := by
  by_cases f0 : 100 < s.length ∨ 100 < xs.length
  · exact msums_far0 A B _ c _ d q1 y1 y2 y3 w  R0.s.len R0.d.len f0
  by_cases b0 : tokV s xs = false
  · exact msums_far1 A B _ c _ d q1 y1 y2 y3 w (by omega) (by omega) (Lib.hid fun W k => tcheck_u s xs (R0.kp k) rfl rfl b0)
  have b0 : tokV s xs = true := by simpa using b0
  by_cases hx : q1 < 0
  · exact msums_far2 A B _ c _ d q1 y1 y2 y3 w (by omega) (by omega) (Lib.hid fun W k => tcheck_u s xs (R0.kp k) rfl rfl b0) hx
  by_cases hx' : (s.length : Int) ≤ q1
  · exact msums_far3 A B _ c _ d q1 y1 y2 y3 w (by omega) (by omega) (Lib.hid fun W k => tcheck_u s xs (R0.kp k) rfl rfl b0) hx hx'
  have hx64 := (tok_len b0).2.2.2
  by_cases hsm : smallV xs = false
  · exact msums_far4 A B _ c _ d q1 y1 y2 y3 w (by omega) (by omega) (Lib.hid fun W k => tcheck_u s xs (R0.kp k) rfl rfl b0) hx hx' (Lib.hid fun W k => by have hh := small_any A B c d s.length xs W (R0.d.kp k) (by omega); rw [hsm] at hh; exact hh)
  have hsm : smallV xs = true := by simpa using hsm
  obtain ⟨k, rfl⟩ : ∃ k : Nat, q1 = (k : Int) := ⟨q1.toNat, by omega⟩
  have hk : k < s.length := by omega
  obtain ⟨sd, hsd⟩ : ∃ sd, s[k]? = some sd := ⟨_, List.getElem?_eq_getElem hk⟩
  have hs16 := side_of (ok_all (tok_len b0).1) hsd
  have hbd : Bd 1099511627776 xs := fun j x hj => small_get hsm hj
  have ho := (tok_len b0).1
  obtain ⟨l2, k2, e2, r2⟩ : ∃ l k' e, reshapeV s xs [1, 1, (xs.length : Int)] = (l, k', e) := ⟨_, _, _, rfl⟩
  obtain ⟨l3, k3, e3, r3⟩ : ∃ l k' e, glueV s xs s xs k = (l, k', e) := ⟨_, _, _, rfl⟩
  obtain ⟨fr, hfr⟩ : ∃ fr, y1 % sd = fr := ⟨_, rfl⟩
  have hfr0 : 0 ≤ fr := by rw [← hfr]; exact Int.emod_nonneg _ (by omega)
  have hfr1 : fr < sd := by rw [← hfr]; exact Int.emod_lt_of_pos _ (by omega)
  obtain ⟨rr, hrr⟩ : ∃ rr, y2 % (sd - fr) = rr := ⟨_, rfl⟩
  have hr0 : 0 ≤ rr := by rw [← hrr]; exact Int.emod_nonneg _ (by omega)
  have hr1 : rr < sd - fr := by rw [← hrr]; exact Int.emod_lt_of_pos _ (by omega)
  obtain ⟨at_, hat⟩ : ∃ at_, y3 % (fr + 1 + rr - fr) = at_ := ⟨_, rfl⟩
  have ha0 : 0 ≤ at_ := by rw [← hat]; exact Int.emod_nonneg _ (by omega)
  have ha1 : at_ < fr + 1 + rr - fr := by rw [← hat]; exact Int.emod_lt_of_pos _ (by omega)
  have hT := hbd.tot
  have hrow := row_err b0
  rw [r2] at hrow
  have r4 := slice_is (a := fr) (b := fr + 1 + rr) b0 hsd hfr0 (by omega) (by omega)
  have r6 := slice_is (a := fr + at_) (b := fr + 1 + rr) b0 hsd (by omega) (by omega) (by omega)
  have o1 := ok_part ho hsd (y := fr + 1 + rr - fr) (by omega) (by omega)
  have o2 := ok_part ho hsd (y := fr + 1 + rr - fr - at_) (by omega) (by omega)
  have r5 := slice_slice b0 hsd hfr0 (by omega) (by omega) ha0 ha1 o1 o2
  rw [r6] at r5
  have big : ∀ (ys : List Int), Bd 1099511627776 ys → ∀ (k : Nat) (x : Int), ys[k]? = some x → -2199023255552 ≤ x ∧ x ≤ 2199023255552 := fun ys hy k x hx => by have := hy k x hx; omega
  exact msums_with A B _ c _ d k y1 y2 y3 w (by omega) (by omega) (Lib.hid fun W k => tcheck_u s xs (R0.kp k) rfl rfl b0) (Lib.hid fun W k => by have hh := small_any A B c d s.length xs W (R0.d.kp k) (by omega); rw [hsm] at hh; exact hh)
    s xs s.reverse (turnD s xs) l2 k2 l3 k3 _ _ _ _ _ _ _ _ _ _ _ _ e2 e3 sd fr (sd - fr) rr 0 (fr + 1 + rr) (fr + 1 + rr - fr) at_ (fr + at_) (totL xs) (2 * totL xs) hk hx64
    (Lib.hid ⟨rfl, rfl⟩) (Lib.hid ⟨rfl, rfl⟩) (Lib.hid R0) (Lib.hid hsd) hs16.1 hs16.2 g1 h1 g2 h2 g3 h3 hfr hfr0 hfr1 rfl hrr hr0 hr1 rfl rfl hat ha0 ha1 rfl
    (Lib.hid fun z => by rcases hrow with h | h; (exact absurd h.1 z); exact h.2) (IntWalk.i64_in _ (by omega))
    (Lib.hid fun W k => pturn_u s xs (R0.kp k) rfl rfl (turn_is b0) (List.length_reverse ..) (turnD_len s xs))
    (Lib.hid fun W E q k r => preshape_u s xs _ (R0.kp k) r rfl rfl rfl r2 rfl rfl)
    (Lib.hid fun W k' => pjoin_u s xs s xs k (R0.kp k') (R0.kp k') rfl rfl rfl rfl r3 rfl rfl)
    (Lib.hid fun W k' => pslice_u s xs k _ _ (R0.kp k') rfl rfl r4 rfl rfl)
    (Lib.hid fun W A0 B0 c0 d0 _ r => pslice_u _ _ k _ _ r rfl rfl r5 rfl rfl)
    (Lib.hid fun W k' => pslice_u s xs k _ _ (R0.kp k') rfl rfl r6 rfl rfl)
    (Lib.hid fun W A0 B0 c0 d0 _ r => total_any A0 B0 c0 d0 s.length xs W r.d hx64 (big _ hbd))
    (Lib.hid fun W A0 B0 c0 d0 _ r => by
      have hh := total_any A0 B0 c0 d0 s.length (turnD s xs) W r.d (by rw [turnD_len]; exact hx64) (big _ (hbd.turn (by omega) b0))
      rw [turn_sum b0, turnD_len] at hh
      exact hh)
    (Lib.hid fun W A0 B0 c0 d0 z _ r => by
      have hx : k2 = xs := by rcases hrow with h | h; (exact h.2); exact absurd z h.1
      subst hx
      exact total_any A0 B0 c0 d0 l2.length k2 W r.d hx64 (big _ hbd))
    (Lib.hid fun W A0 B0 c0 d0 z _ r => by
      obtain ⟨g, h1, h2, h3⟩ := glue_sum (k := k) b0 (by rw [r3]; exact z)
      rw [r3] at h1
      obtain ⟨rfl, rfl, rfl⟩ : l3 = g ∧ k3 = bothL s xs s xs g k ∧ e3 = 0 := by simpa using h1
      have hh := total_any A0 B0 c0 d0 l3.length (bothL s xs s xs l3 k) W r.d h3 (big _ (hbd.both hbd (by omega) b0 b0))
      rw [h2] at hh
      exact hh)
end Go.Proofs.Ytdjfjhanffliiaa
