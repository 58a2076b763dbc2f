/- Any tensor in any other shape, turned, any part of it, any part that is laid back, and any two that are joined, are the document's: the law's call returns true. -/
import Derived.Test.YtdjfjhanffliiaaMvAw
import Derived.Test.YtdjfjhanffliiaaMvE
import Derived.Test.YtdjfjhanffliiaaMvJa
import Derived.Test.YtdjfjhanffliiaaMvJb
import Derived.Test.YtdjfjhanffliiaaMvJc
namespace Go.Proofs.Ytdjfjhanffliiaa
open Go.RowKit Go.Proofs.ShM
set_option linter.unusedVariables false
set_option linter.unusedSimpArgs false

set_option maxHeartbeats 1000000 in
theorem rturn_any (A B : Option Addr) (c d : Nat) (s xs : List Int) (w : World) (hA : Rd w A s) (hB : Rd w B xs) :
    Calls Try.prog 15 #[.agg #[.slice A s.length c, .slice B xs.length d]] w (RetT (turnV s xs) w) := by
  cases ht : tokV s xs with
  | true => exact rturn_yes A B c d s xs w hA hB ht
  | false =>
    have hlA := hA.len
    have hlB := hB.len
    have F0 := Lib.hid (Fr.mk_ w A s.length c B xs.length d 24)
    have HT := Lib.hid (rtcheck_any A B c d s xs _ (hA.kp F0.out.kp) (hB.kp F0.out.kp))
    rw [ht] at HT
    have HF : Hid (turnV s xs = ([], [], 30)) := by show turnV s xs = _; unfold turnV; rw [if_pos ht]
    clear ht hA hB
    go_enter Try.func15, Try.ntmps15
    go_wp2_with fail
    refine (Calls.mono (Hid.out HT)) ?_; rintro e0 w1 ⟨rfl, k1⟩
    have F1 := Lib.hid (F0.out.tr k1)
    obtain ⟨_, b0, b1, r0, r1, f0, f1, _⟩ := F1.out
    clear k1
    go_wp2
    refine bodyPost_ret (v := .tuple #[.agg #[.slice none 0 0, .slice none 0 0], .int .i64 30]) (by simp [results, Try.results15, go_sem, r0, r1]; try rfl) rfl ?_
    exact RetT.err HF.out (F1.out.end_ _ _)
theorem rjoin_any (A B C D : Option Addr) (c d e f : Nat) (s xs t ys : List Int) (axis : Int) (w : World) (hA : Rd w A s) (hB : Rd w B xs) (hC : Rd w C t) (hD : Rd w D ys) :
    Calls Try.prog 21 #[.agg #[.slice A s.length c, .slice B xs.length d], .agg #[.slice C t.length e, .slice D ys.length f], .int .i64 axis] w (RetT (glueV s xs t ys axis) w) := by
  by_cases ht : tokV s xs = false ∨ tokV t ys = false
  · exact rj_tok A B C D c d e f s xs t ys axis w hA hB hC hD ht
  have h1 : tokV s xs = true := by
    cases h : tokV s xs with
    | true => rfl
    | false => exact absurd (.inl h) ht
  have h2 : tokV t ys = true := by
    cases h : tokV t ys with
    | true => rfl
    | false => exact absurd (.inr h) ht
  by_cases hx : axis < 0 ∨ (s.length : Int) ≤ axis ∨ s.length ≠ t.length
  · refine rj_bad A B C D c d e f s xs t ys axis w hA hB hC hD h1 h2 ?_ hx
    unfold glueV
    rw [if_neg ht, if_pos]
    rcases hx with h | h | h
    · exact .inl h
    · exact .inr (.inl h)
    · exact .inr (.inr (.inl h))
  obtain ⟨k, rfl⟩ : ∃ k : Nat, axis = (k : Int) := ⟨axis.toNat, by omega⟩
  have hst : s.length = t.length := Classical.byContradiction fun h => hx (.inr (.inr h))
  have hk : k < s.length := by omega
  have e1 : s[k]? = some s[k] := List.getElem?_eq_getElem hk
  have e2 : t[k]? = some (t[k]'(by omega)) := List.getElem?_eq_getElem (by omega)
  by_cases hq : s.set k 1 = t.set k 1
  · cases ho : okS (s.set k (s[k] + t[k]'(by omega))) with
    | false => exact rj_big A B C D c d e f s xs t ys k _ _ w hA hB hC hD h1 h2 e1 e2 hst hq ho
    | true => exact rj_yes A B C D c d e f s xs t ys k _ _ w hA hB hC hD h1 h2 e1 e2 hst hq ho
  · exact rj_neq A B C D c d e f s xs t ys k _ _ w hA hB hC hD h1 h2 e1 e2 hst hq

section
variable {A B C D : Option Addr} {c d e f n m p q a b : Nat} {l k : List Int} {err : Int} {w : World}
theorem rturn_u (s xs : List Int) (h : TR w A s B xs) (hn : n = s.length) (hm : m = xs.length) (hr : turnV s xs = (l, k, err)) (ha : l.length = a) (hb : k.length = b) :
    Calls Try.prog 15 #[.agg #[.slice A n c, .slice B m d]] w (RetU l k a b err w) := by
  subst hn hm
  exact (rturn_any A B c d s xs w h.s h.d).mono fun _ _ r => r.u hr ha hb
theorem rreshape_u (s xs g : List Int) (h : TR w A s B xs) (h2 : Rd w C g) (hn : n = s.length) (hm : m = xs.length) (hp : p = g.length) (hr : reshapeV s xs g = (l, k, err)) (ha : l.length = a) (hb : k.length = b) :
    Calls Try.prog 12 #[.agg #[.slice A n c, .slice B m d], .slice C p e] w (RetU l k a b err w) := by
  subst hn hm hp
  exact (rreshape_any A B C c d e s xs g w h.s h.d h2).mono fun _ _ r => r.u hr ha hb
theorem rslice_u (s xs : List Int) (x y z : Int) (h : TR w A s B xs) (hn : n = s.length) (hm : m = xs.length) (hr : sliceV s xs x y z = (l, k, err)) (ha : l.length = a) (hb : k.length = b) :
    Calls Try.prog 17 #[.agg #[.slice A n c, .slice B m d], .int .i64 x, .int .i64 y, .int .i64 z] w (RetU l k a b err w) := by
  subst hn hm
  exact (rslice_any A B c d s xs x y z w h.s h.d).mono fun _ _ r => r.u hr ha hb
theorem rpad_u (s xs : List Int) (x y z : Int) (hi : I64 z) (h : TR w A s B xs) (hn : n = s.length) (hm : m = xs.length) (hr : padV s xs x y z = (l, k, err)) (ha : l.length = a) (hb : k.length = b) :
    Calls Try.prog 19 #[.agg #[.slice A n c, .slice B m d], .int .i64 x, .int .i64 y, .int .i64 z] w (RetU l k a b err w) := by
  subst hn hm
  exact (rpad_any A B c d s xs x y z w h.s h.d hi).mono fun _ _ r => r.u hr ha hb
theorem rjoin_u (s xs t ys : List Int) (x : Int) (h : TR w A s B xs) (h2 : TR w C t D ys) (hn : n = s.length) (hm : m = xs.length) (hp : p = t.length) (hq : q = ys.length) (hr : glueV s xs t ys x = (l, k, err)) (ha : l.length = a) (hb : k.length = b) :
    Calls Try.prog 21 #[.agg #[.slice A n c, .slice B m d], .agg #[.slice C p e, .slice D q f], .int .i64 x] w (RetU l k a b err w) := by
  subst hn hm hp hq
  exact (rjoin_any A B C D c d e f s xs t ys x w h.s h.d h2.s h2.d).mono fun _ _ r => r.u hr ha hb
end

set_option maxHeartbeats 8000000 in
set_option maxRecDepth 100000 in
theorem mtells_f0 (A B C D E : Option Addr) (n c m d o e q f p g : Nat) (q1 q2 q3 : Int) (w : World) (zn : n ≤ 9223372036854775807) (zm : m ≤ 9223372036854775807) (zp : p ≤ 9223372036854775807) (hf : 100 < n ∨ 100 < m) :
    Calls Try.prog 3 #[.agg #[.slice A n c, .slice B m d], .agg #[.slice C o e, .slice D q f], .slice E p g, .int .i64 q1, .int .i64 q2, .int .i64 q3] w fun e w' => e = .returned (.bool true) ∧ Kp w w' := by
  have HN : Hid (∀ W, Calls Try.prog 10 #[.agg #[.slice A n c, .slice B m d]] W fun e w' => e = .returned (.bool false) ∧ Kp W w') := fun W => few_no zn zm hf
  clear hf
  go_enter Try.func3, Try.ntmps3
  go_wp2_with fail
  refine (mvawake_any _).mono ?_; rintro e0 w0 ⟨rfl, k0⟩
  have K := Lib.hid (((Kp.alloc_ _ _).al _).tr k0)
  have T0B : Hid (Bk w0 (w.heap.size) A n c B m d) := ((Bk.new rfl).alloc_ _).kp k0
  have T1B : Hid (Bk w0 (w.heap.size + 1) C o e D q f) := (Bk.new (by simp)).kp k0
  clear k0
  have zt0b0 := T0B.out.c0
  have zt0b1 := T0B.out.c1
  have zt0b2 := T0B.out.lt
  have zt1b0 := T1B.out.c0
  have zt1b1 := T1B.out.c1
  have zt1b2 := T1B.out.lt
  go_wp2_with fail
  refine (HN.out _).mono ?_; rintro e0 w1 ⟨rfl, k1⟩
  have K := Lib.hid (K.out.tr k1)
  have T0B := Lib.hid (T0B.out.kp k1)
  have T1B := Lib.hid (T1B.out.kp k1)
  clear k1 zt0b0 zt0b1 zt0b2 zt1b0 zt1b1 zt1b2
  have zt0b0 := T0B.out.c0
  have zt0b1 := T0B.out.c1
  have zt0b2 := T0B.out.lt
  have zt1b0 := T1B.out.c0
  have zt1b1 := T1B.out.c1
  have zt1b2 := T1B.out.lt
  go_wp2
  go_ret
  exact ⟨rfl, K.out⟩

set_option maxHeartbeats 8000000 in
set_option maxRecDepth 100000 in
theorem mtells_f1 (A B C D E : Option Addr) (n c m d o e q f p g : Nat) (q1 q2 q3 : Int) (w : World) (hn : n ≤ 100) (hm : m ≤ 100) (zo : o ≤ 9223372036854775807) (zq : q ≤ 9223372036854775807) (zp : p ≤ 9223372036854775807) (hf : 100 < o ∨ 100 < q) :
    Calls Try.prog 3 #[.agg #[.slice A n c, .slice B m d], .agg #[.slice C o e, .slice D q f], .slice E p g, .int .i64 q1, .int .i64 q2, .int .i64 q3] w fun e w' => e = .returned (.bool true) ∧ Kp w w' := by
  have HN : Hid (∀ W, Calls Try.prog 10 #[.agg #[.slice C o e, .slice D q f]] W fun e w' => e = .returned (.bool false) ∧ Kp W w') := fun W => few_no zo zq hf
  clear hf
  go_enter Try.func3, Try.ntmps3
  go_wp2_with fail
  refine (mvawake_any _).mono ?_; rintro e0 w0 ⟨rfl, k0⟩
  have K := Lib.hid (((Kp.alloc_ _ _).al _).tr k0)
  have T0B : Hid (Bk w0 (w.heap.size) A n c B m d) := ((Bk.new rfl).alloc_ _).kp k0
  have T1B : Hid (Bk w0 (w.heap.size + 1) C o e D q f) := (Bk.new (by simp)).kp k0
  clear k0
  have zt0b0 := T0B.out.c0
  have zt0b1 := T0B.out.c1
  have zt0b2 := T0B.out.lt
  have zt1b0 := T1B.out.c0
  have zt1b1 := T1B.out.c1
  have zt1b2 := T1B.out.lt
  go_wp2_with fail
  refine (few_yes hn hm).mono ?_; rintro e0 w1 ⟨rfl, k1⟩
  have K := Lib.hid (K.out.tr k1)
  have T0B := Lib.hid (T0B.out.kp k1)
  have T1B := Lib.hid (T1B.out.kp k1)
  clear k1 zt0b0 zt0b1 zt0b2 zt1b0 zt1b1 zt1b2
  have zt0b0 := T0B.out.c0
  have zt0b1 := T0B.out.c1
  have zt0b2 := T0B.out.lt
  have zt1b0 := T1B.out.c0
  have zt1b1 := T1B.out.c1
  have zt1b2 := T1B.out.lt
  go_wp2_with fail
  refine (HN.out _).mono ?_; rintro e0 w2 ⟨rfl, k2⟩
  have K := Lib.hid (K.out.tr k2)
  have T0B := Lib.hid (T0B.out.kp k2)
  have T1B := Lib.hid (T1B.out.kp k2)
  clear k2 zt0b0 zt0b1 zt0b2 zt1b0 zt1b1 zt1b2
  have zt0b0 := T0B.out.c0
  have zt0b1 := T0B.out.c1
  have zt0b2 := T0B.out.lt
  have zt1b0 := T1B.out.c0
  have zt1b1 := T1B.out.c1
  have zt1b2 := T1B.out.lt
  go_wp2
  go_ret
  exact ⟨rfl, K.out⟩

set_option maxHeartbeats 8000000 in
set_option maxRecDepth 100000 in
theorem mtells_f2 (A B C D E : Option Addr) (n c m d o e q f p g : Nat) (q1 q2 q3 : Int) (w : World) (hn : n ≤ 100) (hm : m ≤ 100) (ho : o ≤ 100) (hq : q ≤ 100) (zp : p ≤ 9223372036854775807) (hp : 100 < p) :
    Calls Try.prog 3 #[.agg #[.slice A n c, .slice B m d], .agg #[.slice C o e, .slice D q f], .slice E p g, .int .i64 q1, .int .i64 q2, .int .i64 q3] w fun e w' => e = .returned (.bool true) ∧ Kp w w' := by
  go_enter Try.func3, Try.ntmps3
  go_wp2_with fail
  refine (mvawake_any _).mono ?_; rintro e0 w0 ⟨rfl, k0⟩
  have K := Lib.hid (((Kp.alloc_ _ _).al _).tr k0)
  have T0B : Hid (Bk w0 (w.heap.size) A n c B m d) := ((Bk.new rfl).alloc_ _).kp k0
  have T1B : Hid (Bk w0 (w.heap.size + 1) C o e D q f) := (Bk.new (by simp)).kp k0
  clear k0
  have zt0b0 := T0B.out.c0
  have zt0b1 := T0B.out.c1
  have zt0b2 := T0B.out.lt
  have zt1b0 := T1B.out.c0
  have zt1b1 := T1B.out.c1
  have zt1b2 := T1B.out.lt
  go_wp2_with fail
  refine (few_yes hn hm).mono ?_; rintro e0 w1 ⟨rfl, k1⟩
  have K := Lib.hid (K.out.tr k1)
  have T0B := Lib.hid (T0B.out.kp k1)
  have T1B := Lib.hid (T1B.out.kp k1)
  clear k1 zt0b0 zt0b1 zt0b2 zt1b0 zt1b1 zt1b2
  have zt0b0 := T0B.out.c0
  have zt0b1 := T0B.out.c1
  have zt0b2 := T0B.out.lt
  have zt1b0 := T1B.out.c0
  have zt1b1 := T1B.out.c1
  have zt1b2 := T1B.out.lt
  go_wp2_with fail
  refine (few_yes ho hq).mono ?_; rintro e0 w2 ⟨rfl, k2⟩
  have K := Lib.hid (K.out.tr k2)
  have T0B := Lib.hid (T0B.out.kp k2)
  have T1B := Lib.hid (T1B.out.kp k2)
  clear k2 zt0b0 zt0b1 zt0b2 zt1b0 zt1b1 zt1b2
  have zt0b0 := T0B.out.c0
  have zt0b1 := T0B.out.c1
  have zt0b2 := T0B.out.lt
  have zt1b0 := T1B.out.c0
  have zt1b1 := T1B.out.c1
  have zt1b2 := T1B.out.lt
  go_wp2
  go_ret
  exact ⟨rfl, K.out⟩

set_option maxHeartbeats 8000000 in
set_option maxRecDepth 100000 in
theorem mtells_with (A B C D E : Option Addr) (n c m d o e q f p g : Nat) (q1 q2 q3 : Int) (w : World) (hn : n ≤ 100) (hm : m ≤ 100) (ho : o ≤ 100) (hq : q ≤ 100) (hp : p ≤ 100) (l1 k1 l2 k2 l3 k3 l4 k4 l5 k5 : List Int) (a1 b1 a2 b2 a3 b3 a4 b4 a5 b5 : Nat) (e1 e2 e3 e4 e5 : Int)
    (L1 : Hid (l1.length = a1 ∧ k1.length = b1)) (L2 : Hid (l2.length = a2 ∧ k2.length = b2)) (L3 : Hid (l3.length = a3 ∧ k3.length = b3)) (L4 : Hid (l4.length = a4 ∧ k4.length = b4)) (L5 : Hid (l5.length = a5 ∧ k5.length = b5))
    (C1 : Hid (∀ W, Kp w W → Calls Try.prog 11 #[.agg #[.slice A n c, .slice B m d], .slice E p g] W (RetU l1 k1 a1 b1 e1 W)))
    (D1 : Hid (∀ W, Kp w W → Calls Try.prog 12 #[.agg #[.slice A n c, .slice B m d], .slice E p g] W (RetU l1 k1 a1 b1 e1 W)))
    (C2 : Hid (∀ W, Kp w W → Calls Try.prog 14 #[.agg #[.slice A n c, .slice B m d]] W (RetU l2 k2 a2 b2 e2 W)))
    (D2 : Hid (∀ W, Kp w W → Calls Try.prog 15 #[.agg #[.slice A n c, .slice B m d]] W (RetU l2 k2 a2 b2 e2 W)))
    (C3 : Hid (∀ W, Kp w W → Calls Try.prog 16 #[.agg #[.slice A n c, .slice B m d], .int .i64 q1, .int .i64 q2, .int .i64 q3] W (RetU l3 k3 a3 b3 e3 W)))
    (D3 : Hid (∀ W, Kp w W → Calls Try.prog 17 #[.agg #[.slice A n c, .slice B m d], .int .i64 q1, .int .i64 q2, .int .i64 q3] W (RetU l3 k3 a3 b3 e3 W)))
    (C4 : Hid (∀ W, Kp w W → Calls Try.prog 18 #[.agg #[.slice A n c, .slice B m d], .int .i64 q1, .int .i64 q2, .int .i64 q3] W (RetU l4 k4 a4 b4 e4 W)))
    (D4 : Hid (∀ W, Kp w W → Calls Try.prog 19 #[.agg #[.slice A n c, .slice B m d], .int .i64 q1, .int .i64 q2, .int .i64 q3] W (RetU l4 k4 a4 b4 e4 W)))
    (C5 : Hid (∀ W, Kp w W → Calls Try.prog 20 #[.agg #[.slice A n c, .slice B m d], .agg #[.slice C o e, .slice D q f], .int .i64 q1] W (RetU l5 k5 a5 b5 e5 W)))
    (D5 : Hid (∀ W, Kp w W → Calls Try.prog 21 #[.agg #[.slice A n c, .slice B m d], .agg #[.slice C o e, .slice D q f], .int .i64 q1] W (RetU l5 k5 a5 b5 e5 W))) :
    Calls Try.prog 3 #[.agg #[.slice A n c, .slice B m d], .agg #[.slice C o e, .slice D q f], .slice E p g, .int .i64 q1, .int .i64 q2, .int .i64 q3] w fun e w' => e = .returned (.bool true) ∧ Kp w w' := by
  go_enter Try.func3, Try.ntmps3
  go_wp2_with fail
  refine (mvawake_any _).mono ?_; rintro e0 w0 ⟨rfl, k0⟩
  have K := Lib.hid (((Kp.alloc_ _ _).al _).tr k0)
  have T0B : Hid (Bk w0 (w.heap.size) A n c B m d) := ((Bk.new rfl).alloc_ _).kp k0
  have T1B : Hid (Bk w0 (w.heap.size + 1) C o e D q f) := (Bk.new (by simp)).kp k0
  clear k0
  have zt0b0 := T0B.out.c0
  have zt0b1 := T0B.out.c1
  have zt0b2 := T0B.out.lt
  have zt1b0 := T1B.out.c0
  have zt1b1 := T1B.out.c1
  have zt1b2 := T1B.out.lt
  go_wp2_with fail
  refine (few_yes hn hm).mono ?_; rintro e0 w1 ⟨rfl, k1⟩
  have K := Lib.hid (K.out.tr k1)
  have T0B := Lib.hid (T0B.out.kp k1)
  have T1B := Lib.hid (T1B.out.kp k1)
  clear k1 zt0b0 zt0b1 zt0b2 zt1b0 zt1b1 zt1b2
  have zt0b0 := T0B.out.c0
  have zt0b1 := T0B.out.c1
  have zt0b2 := T0B.out.lt
  have zt1b0 := T1B.out.c0
  have zt1b1 := T1B.out.c1
  have zt1b2 := T1B.out.lt
  go_wp2_with fail
  refine (few_yes ho hq).mono ?_; rintro e0 w2 ⟨rfl, k2⟩
  have K := Lib.hid (K.out.tr k2)
  have T0B := Lib.hid (T0B.out.kp k2)
  have T1B := Lib.hid (T1B.out.kp k2)
  clear k2 zt0b0 zt0b1 zt0b2 zt1b0 zt1b1 zt1b2
  have zt0b0 := T0B.out.c0
  have zt0b1 := T0B.out.c1
  have zt0b2 := T0B.out.lt
  have zt1b0 := T1B.out.c0
  have zt1b1 := T1B.out.c1
  have zt1b2 := T1B.out.lt
  go_wp2_with fail
  refine (C1.out _ K.out).mono ?_; rintro e0 w3 ⟨A3, c3, B3, d3, rfl, r3, k3⟩
  have K := Lib.hid (K.out.tr k3)
  have T0B := Lib.hid (T0B.out.kp k3)
  have T1B := Lib.hid (T1B.out.kp k3)
  have X := Lib.hid r3
  clear k3 r3 zt0b0 zt0b1 zt0b2 zt1b0 zt1b1 zt1b2
  have zt0b0 := T0B.out.c0
  have zt0b1 := T0B.out.c1
  have zt0b2 := T0B.out.lt
  have zt1b0 := T1B.out.c0
  have zt1b1 := T1B.out.c1
  have zt1b2 := T1B.out.lt
  have HB2 : Hid (w.heap.size + 2 ≤ w3.heap.size) := T1B.out.lt
  go_wp2_with fail
  refine (D1.out _ (K.out.al _)).mono ?_; rintro e0 w4 ⟨A4, c4, B4, d4, rfl, r4, k4⟩
  have K := Lib.hid ((K.out.al _).tr k4)
  have T0B := Lib.hid ((T0B.out.alloc_ _).kp k4)
  have T1B := Lib.hid ((T1B.out.alloc_ _).kp k4)
  have X := Lib.hid ((X.out.alloc_ _).kp k4)
  have XB : Hid (Bk w4 w3.heap.size A3 a1 c3 B3 b1 d3) := (Bk.new rfl).kp k4
  have Y := Lib.hid r4
  clear k4 r4 zt0b0 zt0b1 zt0b2 zt1b0 zt1b1 zt1b2
  have zt0b0 := T0B.out.c0
  have zt0b1 := T0B.out.c1
  have zt0b2 := T0B.out.lt
  have zt1b0 := T1B.out.c0
  have zt1b1 := T1B.out.c1
  have zt1b2 := T1B.out.lt
  have zxb0 := XB.out.c0
  have zxb1 := XB.out.c1
  have zxb2 := XB.out.lt
  have HXY : Hid (w3.heap.size < w4.heap.size) := XB.out.lt
  go_wp2_with fail
  refine (tsame_u (X.out.alloc_ _) (Y.out.alloc_ _) L1.out.1 L1.out.2).mono ?_; rintro e0 w5 ⟨rfl, k5⟩
  have K := Lib.hid ((K.out.al _).tr k5)
  have T0B := Lib.hid ((T0B.out.alloc_ _).kp k5)
  have T1B := Lib.hid ((T1B.out.alloc_ _).kp k5)
  have XB := Lib.hid ((XB.out.alloc_ _).kp k5)
  have YB : Hid (Bk w5 w4.heap.size A4 a1 c4 B4 b1 d4) := (Bk.new rfl).kp k5
  clear k5 zt0b0 zt0b1 zt0b2 zt1b0 zt1b1 zt1b2 zxb0 zxb1 zxb2 X Y
  have zt0b0 := T0B.out.c0
  have zt0b1 := T0B.out.c1
  have zt0b2 := T0B.out.lt
  have zt1b0 := T1B.out.c0
  have zt1b1 := T1B.out.c1
  have zt1b2 := T1B.out.lt
  have zxb0 := XB.out.c0
  have zxb1 := XB.out.c1
  have zxb2 := XB.out.lt
  have zyb0 := YB.out.c0
  have zyb1 := YB.out.c1
  have zyb2 := YB.out.lt
  clear zt0b0 zt0b1 zt0b2 zt1b0 zt1b1 zt1b2 zxb0 zxb1 zxb2 zyb0 zyb1 zyb2
  have hbx : w.heap.size + 2 ≤ w3.heap.size := HB2.out
  have hxy : w3.heap.size < w4.heap.size := HXY.out
  have n0x : w.heap.size ≠ w3.heap.size := by omega
  have n1x : w.heap.size + 1 ≠ w3.heap.size := by omega
  have nyx : w4.heap.size ≠ w3.heap.size := by omega
  have n0y : w.heap.size ≠ w4.heap.size := by omega
  have n1y : w.heap.size + 1 ≠ w4.heap.size := by omega
  have nxy : w3.heap.size ≠ w4.heap.size := by omega
  have lbx : w.heap.size ≤ w3.heap.size := by omega
  have lby : w.heap.size ≤ w4.heap.size := by omega
  have zt0b0 := T0B.out.c0
  have zt0b1 := T0B.out.c1
  have zt0b2 := T0B.out.lt
  have zt1b0 := T1B.out.c0
  have zt1b1 := T1B.out.c1
  have zt1b2 := T1B.out.lt
  have zxb0 := XB.out.c0
  have zxb1 := XB.out.c1
  have zxb2 := XB.out.lt
  have zyb0 := YB.out.c0
  have zyb1 := YB.out.c1
  have zyb2 := YB.out.lt
  go_wp2_with fail
  refine (C2.out _ K.out).mono ?_; rintro e0 w6 ⟨A6, c6, B6, d6, rfl, r6, k6⟩
  have K := Lib.hid (Kp.tr K.out k6)
  have T0B := Lib.hid (T0B.out.kp k6)
  have T1B := Lib.hid (T1B.out.kp k6)
  have XB := Lib.hid (XB.out.kp k6)
  have YB := Lib.hid (YB.out.kp k6)
  have X := Lib.hid r6
  clear k6 r6 zt0b0 zt0b1 zt0b2 zt1b0 zt1b1 zt1b2 zxb0 zxb1 zxb2 zyb0 zyb1 zyb2
  have zt0b0 := T0B.out.c0
  have zt0b1 := T0B.out.c1
  have zt0b2 := T0B.out.f0 0
  have zt0b3 := T0B.out.f0 1
  have zt1b0 := T1B.out.c0
  have zt1b1 := T1B.out.c1
  have zt1b2 := T1B.out.f0 0
  have zt1b3 := T1B.out.f0 1
  have zxb0 := XB.out.c0
  have zxb1 := XB.out.c1
  have zxb2 := XB.out.f0 0
  have zxb3 := XB.out.f0 1
  have zyb0 := YB.out.c0
  have zyb1 := YB.out.c1
  have zyb2 := YB.out.f0 0
  have zyb3 := YB.out.f0 1
  have yxb0 : ((w6.setCell ⟨w3.heap.size, 0, none⟩ (.slice A6 a2 c6)).setCell ⟨w3.heap.size, 1, none⟩ (.slice B6 b2 d6)).cell? ⟨w3.heap.size, 0, none⟩ = some (.slice A6 a2 c6) := (XB.out.put).c0
  have yxb1 : ((w6.setCell ⟨w3.heap.size, 0, none⟩ (.slice A6 a2 c6)).setCell ⟨w3.heap.size, 1, none⟩ (.slice B6 b2 d6)).cell? ⟨w3.heap.size, 1, none⟩ = some (.slice B6 b2 d6) := (XB.out.put).c1
  go_wp2_with fail
  refine (D2.out _ ((K.out.setCell (p := ⟨w3.heap.size, 0, none⟩) lbx _).setCell (p := ⟨w3.heap.size, 1, none⟩) lbx _)).mono ?_; rintro e0 w7 ⟨A7, c7, B7, d7, rfl, r7, k7⟩
  have K := Lib.hid (Kp.tr ((K.out.setCell (p := ⟨w3.heap.size, 0, none⟩) lbx _).setCell (p := ⟨w3.heap.size, 1, none⟩) lbx _) k7)
  have X := Lib.hid ((X.out.past XB.out _ _).kp k7)
  have T0B := Lib.hid ((T0B.out.other n0x _ _).kp k7)
  have T1B := Lib.hid ((T1B.out.other n1x _ _).kp k7)
  have YB := Lib.hid ((YB.out.other nyx _ _).kp k7)
  have XB := Lib.hid ((XB.out.put).kp k7)
  have Y := Lib.hid r7
  clear k7 r7 zt0b0 zt0b1 zt0b2 zt0b3 zt1b0 zt1b1 zt1b2 zt1b3 zxb0 zxb1 zxb2 zxb3 zyb0 zyb1 zyb2 zyb3 yxb0 yxb1
  have zt0b0 := T0B.out.c0
  have zt0b1 := T0B.out.c1
  have zt0b2 := T0B.out.f0 0
  have zt0b3 := T0B.out.f0 1
  have zt1b0 := T1B.out.c0
  have zt1b1 := T1B.out.c1
  have zt1b2 := T1B.out.f0 0
  have zt1b3 := T1B.out.f0 1
  have zxb0 := XB.out.c0
  have zxb1 := XB.out.c1
  have zxb2 := XB.out.f0 0
  have zxb3 := XB.out.f0 1
  have zyb0 := YB.out.c0
  have zyb1 := YB.out.c1
  have zyb2 := YB.out.f0 0
  have zyb3 := YB.out.f0 1
  have yyb0 : ((w7.setCell ⟨w4.heap.size, 0, none⟩ (.slice A7 a2 c7)).setCell ⟨w4.heap.size, 1, none⟩ (.slice B7 b2 d7)).cell? ⟨w4.heap.size, 0, none⟩ = some (.slice A7 a2 c7) := (YB.out.put).c0
  have yyb1 : ((w7.setCell ⟨w4.heap.size, 0, none⟩ (.slice A7 a2 c7)).setCell ⟨w4.heap.size, 1, none⟩ (.slice B7 b2 d7)).cell? ⟨w4.heap.size, 1, none⟩ = some (.slice B7 b2 d7) := (YB.out.put).c1
  go_wp2_with fail
  refine (tsame_u (X.out.past YB.out _ _) (Y.out.past YB.out _ _) L2.out.1 L2.out.2).mono ?_; rintro e0 w8 ⟨rfl, k8⟩
  have K := Lib.hid (Kp.tr ((K.out.setCell (p := ⟨w4.heap.size, 0, none⟩) lby _).setCell (p := ⟨w4.heap.size, 1, none⟩) lby _) k8)
  have T0B := Lib.hid ((T0B.out.other n0y _ _).kp k8)
  have T1B := Lib.hid ((T1B.out.other n1y _ _).kp k8)
  have XB := Lib.hid ((XB.out.other nxy _ _).kp k8)
  have YB := Lib.hid ((YB.out.put).kp k8)
  clear k8 zt0b0 zt0b1 zt0b2 zt0b3 zt1b0 zt1b1 zt1b2 zt1b3 zxb0 zxb1 zxb2 zxb3 zyb0 zyb1 zyb2 zyb3 yyb0 yyb1 X Y
  have zt0b0 := T0B.out.c0
  have zt0b1 := T0B.out.c1
  have zt0b2 := T0B.out.f0 0
  have zt0b3 := T0B.out.f0 1
  have zt1b0 := T1B.out.c0
  have zt1b1 := T1B.out.c1
  have zt1b2 := T1B.out.f0 0
  have zt1b3 := T1B.out.f0 1
  have zxb0 := XB.out.c0
  have zxb1 := XB.out.c1
  have zxb2 := XB.out.f0 0
  have zxb3 := XB.out.f0 1
  have zyb0 := YB.out.c0
  have zyb1 := YB.out.c1
  have zyb2 := YB.out.f0 0
  have zyb3 := YB.out.f0 1
  go_wp2_with fail
  refine (C3.out _ K.out).mono ?_; rintro e0 w9 ⟨A9, c9, B9, d9, rfl, r9, k9⟩
  have K := Lib.hid (Kp.tr K.out k9)
  have T0B := Lib.hid (T0B.out.kp k9)
  have T1B := Lib.hid (T1B.out.kp k9)
  have XB := Lib.hid (XB.out.kp k9)
  have YB := Lib.hid (YB.out.kp k9)
  have X := Lib.hid r9
  clear k9 r9 zt0b0 zt0b1 zt0b2 zt0b3 zt1b0 zt1b1 zt1b2 zt1b3 zxb0 zxb1 zxb2 zxb3 zyb0 zyb1 zyb2 zyb3
  have zt0b0 := T0B.out.c0
  have zt0b1 := T0B.out.c1
  have zt0b2 := T0B.out.f0 0
  have zt0b3 := T0B.out.f0 1
  have zt1b0 := T1B.out.c0
  have zt1b1 := T1B.out.c1
  have zt1b2 := T1B.out.f0 0
  have zt1b3 := T1B.out.f0 1
  have zxb0 := XB.out.c0
  have zxb1 := XB.out.c1
  have zxb2 := XB.out.f0 0
  have zxb3 := XB.out.f0 1
  have zyb0 := YB.out.c0
  have zyb1 := YB.out.c1
  have zyb2 := YB.out.f0 0
  have zyb3 := YB.out.f0 1
  have yxb0 : ((w9.setCell ⟨w3.heap.size, 0, none⟩ (.slice A9 a3 c9)).setCell ⟨w3.heap.size, 1, none⟩ (.slice B9 b3 d9)).cell? ⟨w3.heap.size, 0, none⟩ = some (.slice A9 a3 c9) := (XB.out.put).c0
  have yxb1 : ((w9.setCell ⟨w3.heap.size, 0, none⟩ (.slice A9 a3 c9)).setCell ⟨w3.heap.size, 1, none⟩ (.slice B9 b3 d9)).cell? ⟨w3.heap.size, 1, none⟩ = some (.slice B9 b3 d9) := (XB.out.put).c1
  go_wp2_with fail
  refine (D3.out _ ((K.out.setCell (p := ⟨w3.heap.size, 0, none⟩) lbx _).setCell (p := ⟨w3.heap.size, 1, none⟩) lbx _)).mono ?_; rintro e0 w10 ⟨A10, c10, B10, d10, rfl, r10, k10⟩
  have K := Lib.hid (Kp.tr ((K.out.setCell (p := ⟨w3.heap.size, 0, none⟩) lbx _).setCell (p := ⟨w3.heap.size, 1, none⟩) lbx _) k10)
  have X := Lib.hid ((X.out.past XB.out _ _).kp k10)
  have T0B := Lib.hid ((T0B.out.other n0x _ _).kp k10)
  have T1B := Lib.hid ((T1B.out.other n1x _ _).kp k10)
  have YB := Lib.hid ((YB.out.other nyx _ _).kp k10)
  have XB := Lib.hid ((XB.out.put).kp k10)
  have Y := Lib.hid r10
  clear k10 r10 zt0b0 zt0b1 zt0b2 zt0b3 zt1b0 zt1b1 zt1b2 zt1b3 zxb0 zxb1 zxb2 zxb3 zyb0 zyb1 zyb2 zyb3 yxb0 yxb1
  have zt0b0 := T0B.out.c0
  have zt0b1 := T0B.out.c1
  have zt0b2 := T0B.out.f0 0
  have zt0b3 := T0B.out.f0 1
  have zt1b0 := T1B.out.c0
  have zt1b1 := T1B.out.c1
  have zt1b2 := T1B.out.f0 0
  have zt1b3 := T1B.out.f0 1
  have zxb0 := XB.out.c0
  have zxb1 := XB.out.c1
  have zxb2 := XB.out.f0 0
  have zxb3 := XB.out.f0 1
  have zyb0 := YB.out.c0
  have zyb1 := YB.out.c1
  have zyb2 := YB.out.f0 0
  have zyb3 := YB.out.f0 1
  have yyb0 : ((w10.setCell ⟨w4.heap.size, 0, none⟩ (.slice A10 a3 c10)).setCell ⟨w4.heap.size, 1, none⟩ (.slice B10 b3 d10)).cell? ⟨w4.heap.size, 0, none⟩ = some (.slice A10 a3 c10) := (YB.out.put).c0
  have yyb1 : ((w10.setCell ⟨w4.heap.size, 0, none⟩ (.slice A10 a3 c10)).setCell ⟨w4.heap.size, 1, none⟩ (.slice B10 b3 d10)).cell? ⟨w4.heap.size, 1, none⟩ = some (.slice B10 b3 d10) := (YB.out.put).c1
  go_wp2_with fail
  refine (tsame_u (X.out.past YB.out _ _) (Y.out.past YB.out _ _) L3.out.1 L3.out.2).mono ?_; rintro e0 w11 ⟨rfl, k11⟩
  have K := Lib.hid (Kp.tr ((K.out.setCell (p := ⟨w4.heap.size, 0, none⟩) lby _).setCell (p := ⟨w4.heap.size, 1, none⟩) lby _) k11)
  have T0B := Lib.hid ((T0B.out.other n0y _ _).kp k11)
  have T1B := Lib.hid ((T1B.out.other n1y _ _).kp k11)
  have XB := Lib.hid ((XB.out.other nxy _ _).kp k11)
  have YB := Lib.hid ((YB.out.put).kp k11)
  clear k11 zt0b0 zt0b1 zt0b2 zt0b3 zt1b0 zt1b1 zt1b2 zt1b3 zxb0 zxb1 zxb2 zxb3 zyb0 zyb1 zyb2 zyb3 yyb0 yyb1 X Y
  have zt0b0 := T0B.out.c0
  have zt0b1 := T0B.out.c1
  have zt0b2 := T0B.out.f0 0
  have zt0b3 := T0B.out.f0 1
  have zt1b0 := T1B.out.c0
  have zt1b1 := T1B.out.c1
  have zt1b2 := T1B.out.f0 0
  have zt1b3 := T1B.out.f0 1
  have zxb0 := XB.out.c0
  have zxb1 := XB.out.c1
  have zxb2 := XB.out.f0 0
  have zxb3 := XB.out.f0 1
  have zyb0 := YB.out.c0
  have zyb1 := YB.out.c1
  have zyb2 := YB.out.f0 0
  have zyb3 := YB.out.f0 1
  go_wp2_with fail
  refine (C4.out _ K.out).mono ?_; rintro e0 w12 ⟨A12, c12, B12, d12, rfl, r12, k12⟩
  have K := Lib.hid (Kp.tr K.out k12)
  have T0B := Lib.hid (T0B.out.kp k12)
  have T1B := Lib.hid (T1B.out.kp k12)
  have XB := Lib.hid (XB.out.kp k12)
  have YB := Lib.hid (YB.out.kp k12)
  have X := Lib.hid r12
  clear k12 r12 zt0b0 zt0b1 zt0b2 zt0b3 zt1b0 zt1b1 zt1b2 zt1b3 zxb0 zxb1 zxb2 zxb3 zyb0 zyb1 zyb2 zyb3
  have zt0b0 := T0B.out.c0
  have zt0b1 := T0B.out.c1
  have zt0b2 := T0B.out.f0 0
  have zt0b3 := T0B.out.f0 1
  have zt1b0 := T1B.out.c0
  have zt1b1 := T1B.out.c1
  have zt1b2 := T1B.out.f0 0
  have zt1b3 := T1B.out.f0 1
  have zxb0 := XB.out.c0
  have zxb1 := XB.out.c1
  have zxb2 := XB.out.f0 0
  have zxb3 := XB.out.f0 1
  have zyb0 := YB.out.c0
  have zyb1 := YB.out.c1
  have zyb2 := YB.out.f0 0
  have zyb3 := YB.out.f0 1
  have yxb0 : ((w12.setCell ⟨w3.heap.size, 0, none⟩ (.slice A12 a4 c12)).setCell ⟨w3.heap.size, 1, none⟩ (.slice B12 b4 d12)).cell? ⟨w3.heap.size, 0, none⟩ = some (.slice A12 a4 c12) := (XB.out.put).c0
  have yxb1 : ((w12.setCell ⟨w3.heap.size, 0, none⟩ (.slice A12 a4 c12)).setCell ⟨w3.heap.size, 1, none⟩ (.slice B12 b4 d12)).cell? ⟨w3.heap.size, 1, none⟩ = some (.slice B12 b4 d12) := (XB.out.put).c1
  go_wp2_with fail
  refine (D4.out _ ((K.out.setCell (p := ⟨w3.heap.size, 0, none⟩) lbx _).setCell (p := ⟨w3.heap.size, 1, none⟩) lbx _)).mono ?_; rintro e0 w13 ⟨A13, c13, B13, d13, rfl, r13, k13⟩
  have K := Lib.hid (Kp.tr ((K.out.setCell (p := ⟨w3.heap.size, 0, none⟩) lbx _).setCell (p := ⟨w3.heap.size, 1, none⟩) lbx _) k13)
  have X := Lib.hid ((X.out.past XB.out _ _).kp k13)
  have T0B := Lib.hid ((T0B.out.other n0x _ _).kp k13)
  have T1B := Lib.hid ((T1B.out.other n1x _ _).kp k13)
  have YB := Lib.hid ((YB.out.other nyx _ _).kp k13)
  have XB := Lib.hid ((XB.out.put).kp k13)
  have Y := Lib.hid r13
  clear k13 r13 zt0b0 zt0b1 zt0b2 zt0b3 zt1b0 zt1b1 zt1b2 zt1b3 zxb0 zxb1 zxb2 zxb3 zyb0 zyb1 zyb2 zyb3 yxb0 yxb1
  have zt0b0 := T0B.out.c0
  have zt0b1 := T0B.out.c1
  have zt0b2 := T0B.out.f0 0
  have zt0b3 := T0B.out.f0 1
  have zt1b0 := T1B.out.c0
  have zt1b1 := T1B.out.c1
  have zt1b2 := T1B.out.f0 0
  have zt1b3 := T1B.out.f0 1
  have zxb0 := XB.out.c0
  have zxb1 := XB.out.c1
  have zxb2 := XB.out.f0 0
  have zxb3 := XB.out.f0 1
  have zyb0 := YB.out.c0
  have zyb1 := YB.out.c1
  have zyb2 := YB.out.f0 0
  have zyb3 := YB.out.f0 1
  have yyb0 : ((w13.setCell ⟨w4.heap.size, 0, none⟩ (.slice A13 a4 c13)).setCell ⟨w4.heap.size, 1, none⟩ (.slice B13 b4 d13)).cell? ⟨w4.heap.size, 0, none⟩ = some (.slice A13 a4 c13) := (YB.out.put).c0
  have yyb1 : ((w13.setCell ⟨w4.heap.size, 0, none⟩ (.slice A13 a4 c13)).setCell ⟨w4.heap.size, 1, none⟩ (.slice B13 b4 d13)).cell? ⟨w4.heap.size, 1, none⟩ = some (.slice B13 b4 d13) := (YB.out.put).c1
  go_wp2_with fail
  refine (tsame_u (X.out.past YB.out _ _) (Y.out.past YB.out _ _) L4.out.1 L4.out.2).mono ?_; rintro e0 w14 ⟨rfl, k14⟩
  have K := Lib.hid (Kp.tr ((K.out.setCell (p := ⟨w4.heap.size, 0, none⟩) lby _).setCell (p := ⟨w4.heap.size, 1, none⟩) lby _) k14)
  have T0B := Lib.hid ((T0B.out.other n0y _ _).kp k14)
  have T1B := Lib.hid ((T1B.out.other n1y _ _).kp k14)
  have XB := Lib.hid ((XB.out.other nxy _ _).kp k14)
  have YB := Lib.hid ((YB.out.put).kp k14)
  clear k14 zt0b0 zt0b1 zt0b2 zt0b3 zt1b0 zt1b1 zt1b2 zt1b3 zxb0 zxb1 zxb2 zxb3 zyb0 zyb1 zyb2 zyb3 yyb0 yyb1 X Y
  have zt0b0 := T0B.out.c0
  have zt0b1 := T0B.out.c1
  have zt0b2 := T0B.out.f0 0
  have zt0b3 := T0B.out.f0 1
  have zt1b0 := T1B.out.c0
  have zt1b1 := T1B.out.c1
  have zt1b2 := T1B.out.f0 0
  have zt1b3 := T1B.out.f0 1
  have zxb0 := XB.out.c0
  have zxb1 := XB.out.c1
  have zxb2 := XB.out.f0 0
  have zxb3 := XB.out.f0 1
  have zyb0 := YB.out.c0
  have zyb1 := YB.out.c1
  have zyb2 := YB.out.f0 0
  have zyb3 := YB.out.f0 1
  go_wp2_with fail
  refine (C5.out _ K.out).mono ?_; rintro e0 w15 ⟨A15, c15, B15, d15, rfl, r15, k15⟩
  have K := Lib.hid (Kp.tr K.out k15)
  have T0B := Lib.hid (T0B.out.kp k15)
  have T1B := Lib.hid (T1B.out.kp k15)
  have XB := Lib.hid (XB.out.kp k15)
  have YB := Lib.hid (YB.out.kp k15)
  have X := Lib.hid r15
  clear k15 r15 zt0b0 zt0b1 zt0b2 zt0b3 zt1b0 zt1b1 zt1b2 zt1b3 zxb0 zxb1 zxb2 zxb3 zyb0 zyb1 zyb2 zyb3
  have zt0b0 := T0B.out.c0
  have zt0b1 := T0B.out.c1
  have zt0b2 := T0B.out.f0 0
  have zt0b3 := T0B.out.f0 1
  have zt1b0 := T1B.out.c0
  have zt1b1 := T1B.out.c1
  have zt1b2 := T1B.out.f0 0
  have zt1b3 := T1B.out.f0 1
  have zxb0 := XB.out.c0
  have zxb1 := XB.out.c1
  have zxb2 := XB.out.f0 0
  have zxb3 := XB.out.f0 1
  have zyb0 := YB.out.c0
  have zyb1 := YB.out.c1
  have zyb2 := YB.out.f0 0
  have zyb3 := YB.out.f0 1
  have yxb0 : ((w15.setCell ⟨w3.heap.size, 0, none⟩ (.slice A15 a5 c15)).setCell ⟨w3.heap.size, 1, none⟩ (.slice B15 b5 d15)).cell? ⟨w3.heap.size, 0, none⟩ = some (.slice A15 a5 c15) := (XB.out.put).c0
  have yxb1 : ((w15.setCell ⟨w3.heap.size, 0, none⟩ (.slice A15 a5 c15)).setCell ⟨w3.heap.size, 1, none⟩ (.slice B15 b5 d15)).cell? ⟨w3.heap.size, 1, none⟩ = some (.slice B15 b5 d15) := (XB.out.put).c1
  go_wp2_with fail
  refine (D5.out _ ((K.out.setCell (p := ⟨w3.heap.size, 0, none⟩) lbx _).setCell (p := ⟨w3.heap.size, 1, none⟩) lbx _)).mono ?_; rintro e0 w16 ⟨A16, c16, B16, d16, rfl, r16, k16⟩
  have K := Lib.hid (Kp.tr ((K.out.setCell (p := ⟨w3.heap.size, 0, none⟩) lbx _).setCell (p := ⟨w3.heap.size, 1, none⟩) lbx _) k16)
  have X := Lib.hid ((X.out.past XB.out _ _).kp k16)
  have T0B := Lib.hid ((T0B.out.other n0x _ _).kp k16)
  have T1B := Lib.hid ((T1B.out.other n1x _ _).kp k16)
  have YB := Lib.hid ((YB.out.other nyx _ _).kp k16)
  have XB := Lib.hid ((XB.out.put).kp k16)
  have Y := Lib.hid r16
  clear k16 r16 zt0b0 zt0b1 zt0b2 zt0b3 zt1b0 zt1b1 zt1b2 zt1b3 zxb0 zxb1 zxb2 zxb3 zyb0 zyb1 zyb2 zyb3 yxb0 yxb1
  have zt0b0 := T0B.out.c0
  have zt0b1 := T0B.out.c1
  have zt0b2 := T0B.out.f0 0
  have zt0b3 := T0B.out.f0 1
  have zt1b0 := T1B.out.c0
  have zt1b1 := T1B.out.c1
  have zt1b2 := T1B.out.f0 0
  have zt1b3 := T1B.out.f0 1
  have zxb0 := XB.out.c0
  have zxb1 := XB.out.c1
  have zxb2 := XB.out.f0 0
  have zxb3 := XB.out.f0 1
  have zyb0 := YB.out.c0
  have zyb1 := YB.out.c1
  have zyb2 := YB.out.f0 0
  have zyb3 := YB.out.f0 1
  have yyb0 : ((w16.setCell ⟨w4.heap.size, 0, none⟩ (.slice A16 a5 c16)).setCell ⟨w4.heap.size, 1, none⟩ (.slice B16 b5 d16)).cell? ⟨w4.heap.size, 0, none⟩ = some (.slice A16 a5 c16) := (YB.out.put).c0
  have yyb1 : ((w16.setCell ⟨w4.heap.size, 0, none⟩ (.slice A16 a5 c16)).setCell ⟨w4.heap.size, 1, none⟩ (.slice B16 b5 d16)).cell? ⟨w4.heap.size, 1, none⟩ = some (.slice B16 b5 d16) := (YB.out.put).c1
  go_wp2_with fail
  refine (tsame_u (X.out.past YB.out _ _) (Y.out.past YB.out _ _) L5.out.1 L5.out.2).mono ?_; rintro e0 w17 ⟨rfl, k17⟩
  have K := Lib.hid (Kp.tr ((K.out.setCell (p := ⟨w4.heap.size, 0, none⟩) lby _).setCell (p := ⟨w4.heap.size, 1, none⟩) lby _) k17)
  have T0B := Lib.hid ((T0B.out.other n0y _ _).kp k17)
  have T1B := Lib.hid ((T1B.out.other n1y _ _).kp k17)
  have XB := Lib.hid ((XB.out.other nxy _ _).kp k17)
  have YB := Lib.hid ((YB.out.put).kp k17)
  clear k17 zt0b0 zt0b1 zt0b2 zt0b3 zt1b0 zt1b1 zt1b2 zt1b3 zxb0 zxb1 zxb2 zxb3 zyb0 zyb1 zyb2 zyb3 yyb0 yyb1 X Y
  have zt0b0 := T0B.out.c0
  have zt0b1 := T0B.out.c1
  have zt0b2 := T0B.out.f0 0
  have zt0b3 := T0B.out.f0 1
  have zt1b0 := T1B.out.c0
  have zt1b1 := T1B.out.c1
  have zt1b2 := T1B.out.f0 0
  have zt1b3 := T1B.out.f0 1
  have zxb0 := XB.out.c0
  have zxb1 := XB.out.c1
  have zxb2 := XB.out.f0 0
  have zxb3 := XB.out.f0 1
  have zyb0 := YB.out.c0
  have zyb1 := YB.out.c1
  have zyb2 := YB.out.f0 0
  have zyb3 := YB.out.f0 1
  go_wp2
  go_ret
  exact ⟨rfl, K.out⟩

theorem mtells_walk (A B C D E : Option Addr) (c d e f g : Nat) (q1 q2 q3 : Int) (s xs t ys gs : List Int) (w : World) (hi : I64 q3) (R0 : TR w A s B xs) (I0 : I64s xs) (R1 : TR w C t D ys) (I1 : I64s ys) (E2 : Rd w E gs) :
    Calls Try.prog 3 #[.agg #[.slice A s.length c, .slice B xs.length d], .agg #[.slice C t.length e, .slice D ys.length f], .slice E gs.length g, .int .i64 q1, .int .i64 q2, .int .i64 q3] w fun e w' => e = .returned (.bool true) ∧ Kp w w' := by
  by_cases f0 : 100 < s.length ∨ 100 < xs.length
  · exact mtells_f0 A B C D E _ c _ d _ e _ f _ g q1 q2 q3 w R0.s.len R0.d.len E2.len f0
  by_cases f1 : 100 < t.length ∨ 100 < ys.length
  · exact mtells_f1 A B C D E _ c _ d _ e _ f _ g q1 q2 q3 w (by omega) (by omega) R1.s.len R1.d.len E2.len f1
  by_cases f2 : 100 < gs.length
  · exact mtells_f2 A B C D E _ c _ d _ e _ f _ g q1 q2 q3 w (by omega) (by omega) (by omega) (by omega) E2.len f2
  obtain ⟨l1, k1, e1, r1⟩ : ∃ l k e, reshapeV s xs gs = (l, k, e) := ⟨_, _, _, rfl⟩
  obtain ⟨l2, k2, e2, r2⟩ : ∃ l k e, turnV s xs = (l, k, e) := ⟨_, _, _, rfl⟩
  obtain ⟨l3, k3, e3, r3⟩ : ∃ l k e, sliceV s xs q1 q2 q3 = (l, k, e) := ⟨_, _, _, rfl⟩
  obtain ⟨l4, k4, e4, r4⟩ : ∃ l k e, padV s xs q1 q2 q3 = (l, k, e) := ⟨_, _, _, rfl⟩
  obtain ⟨l5, k5, e5, r5⟩ : ∃ l k e, glueV s xs t ys q1 = (l, k, e) := ⟨_, _, _, rfl⟩
  exact mtells_with A B C D E _ c _ d _ e _ f _ g q1 q2 q3 w (by omega) (by omega) (by omega) (by omega) (by omega) l1 k1 l2 k2 l3 k3 l4 k4 l5 k5 _ _ _ _ _ _ _ _ _ _ e1 e2 e3 e4 e5 (Lib.hid ⟨rfl, rfl⟩) (Lib.hid ⟨rfl, rfl⟩) (Lib.hid ⟨rfl, rfl⟩) (Lib.hid ⟨rfl, rfl⟩) (Lib.hid ⟨rfl, rfl⟩)
    (Lib.hid fun W k => preshape_u s xs gs (R0.kp k) (E2.kp k) rfl rfl rfl r1 rfl rfl) (Lib.hid fun W k => rreshape_u s xs gs (R0.kp k) (E2.kp k) rfl rfl rfl r1 rfl rfl)
    (Lib.hid fun W k => pturn_u s xs (R0.kp k) rfl rfl r2 rfl rfl) (Lib.hid fun W k => rturn_u s xs (R0.kp k) rfl rfl r2 rfl rfl)
    (Lib.hid fun W k => pslice_u s xs q1 q2 q3 (R0.kp k) rfl rfl r3 rfl rfl) (Lib.hid fun W k => rslice_u s xs q1 q2 q3 (R0.kp k) rfl rfl r3 rfl rfl)
    (Lib.hid fun W k => ppad_u s xs q1 q2 q3 (R0.kp k) rfl rfl r4 rfl rfl) (Lib.hid fun W k => rpad_u s xs q1 q2 q3 hi (R0.kp k) rfl rfl r4 rfl rfl)
    (Lib.hid fun W k => pjoin_u s xs t ys q1 (R0.kp k) (R1.kp k) rfl rfl rfl rfl r5 rfl rfl) (Lib.hid fun W k => rjoin_u s xs t ys q1 (R0.kp k) (R1.kp k) rfl rfl rfl rfl r5 rfl rfl)
end Go.Proofs.Ytdjfjhanffliiaa
