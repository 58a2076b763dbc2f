/- The document's Join of layer 5 (fullerref05). -/
import Derived.Test.YtdjfjhanffliiaaMvD
import Derived.RangeFuncBox
namespace Go.Proofs.Ytdjfjhanffliiaa
open Go.RowKit Go.Proofs.ShM
set_option linter.unusedVariables false
set_option linter.unusedSimpArgs false

/-- The tensors' boxes, the answer's. -/
structure Kf (w : World) (A : Option Addr) (n c : Nat) (B : Option Addr) (m d : Nat) (C : Option Addr) (n2 e : Nat) (D : Option Addr) (m2 f : Nat) (W : World) : Prop where
  kp : Kp w W
  t : Bk W w.heap.size A n c B m d
  t2 : Bk W (w.heap.size + 1) C n2 e D m2 f
  r : Bk W (w.heap.size + 1 + 1) none 0 0 none 0 0
section
variable {w W W' : World} {A B C D : Option Addr} {n c m d n2 e m2 f : Nat}
theorem Kf.tr (h : Kf w A n c B m d C n2 e D m2 f W) (k : Kp W W') : Kf w A n c B m d C n2 e D m2 f W' := ⟨h.kp.tr k, h.t.kp k, h.t2.kp k, h.r.kp k⟩
theorem Kf.mk_ (w : World) (A : Option Addr) (n c : Nat) (B : Option Addr) (m d : Nat) (C : Option Addr) (n2 e : Nat) (D : Option Addr) (m2 f : Nat) :
    Kf w A n c B m d C n2 e D m2 f (((w.alloc (.cells #[.slice A n c, .slice B m d] 24)).alloc (.cells #[.slice C n2 e, .slice D m2 f] 24)).alloc (.cells #[.slice none 0 0, .slice none 0 0] 24)) where
  kp := ((Kp.alloc_ _ _).al _).al _
  t := ((Bk.new rfl).alloc_ _).alloc_ _
  t2 := (Bk.new (by simp)).alloc_ _
  r := Bk.new (by simp)
theorem Kf.end_ (h : Kf w A n c B m d C n2 e D m2 f W) (x y : Value) : Kp w ((W.setCell ⟨w.heap.size + 1 + 1, 0, none⟩ x).setCell ⟨w.heap.size + 1 + 1, 1, none⟩ y) :=
  (h.kp.setCell (p := ⟨w.heap.size + 1 + 1, 0, none⟩) (by show w.heap.size ≤ w.heap.size + 1 + 1; omega) x).setCell (p := ⟨w.heap.size + 1 + 1, 1, none⟩) (by show w.heap.size ≤ w.heap.size + 1 + 1; omega) y
/-- A box of the call's own, made since w: a tensor. -/
def Bn (w : World) (b : Nat) (A : Option Addr) (n c : Nat) (B : Option Addr) (m d : Nat) (W : World) : Prop := w.heap.size ≤ b ∧ Bk W b A n c B m d
end

set_option maxHeartbeats 4000000 in
theorem rj_tok (A B C D : Option Addr) (c d e f : Nat) (s xs t ys : List Int) (axis : Int) (w : World) (hA : Rd w A s) (hB : Rd w B xs) (hC : Rd w C t) (hD : Rd w D ys) (ht : tokV s xs = false ∨ tokV t ys = false) :
    Calls Try.prog 21 #[.agg #[.slice A s.length c, .slice B xs.length d], .agg #[.slice C t.length e, .slice D ys.length f], .int .i64 axis] w (RetT (glueV s xs t ys axis) w) := by
  have hlA := hA.len
  have hlB := hB.len
  have hlC := hC.len
  have hlD := hD.len
  have F0 := Lib.hid (Kf.mk_ w A s.length c B xs.length d C t.length e D ys.length f)
  have HT := Lib.hid (fun W (k : Kp w W) => rtcheck_any A B c d s xs W (hA.kp k) (hB.kp k))
  have HT2 := Lib.hid (fun W (k : Kp w W) => rtcheck_any C D e f t ys W (hC.kp k) (hD.kp k))
  have HF : Hid (glueV s xs t ys axis = ([], [], 30)) := by show glueV s xs t ys axis = _; unfold glueV; rw [if_pos ht]
  cases h1 : tokV s xs with
  | false =>
    rw [h1] at HT
    cases h2 : tokV t ys with
    | false =>
      rw [h2] at HT2
      clear hA hB hC hD ht h1 h2
      go_enter Try.func21, Try.ntmps21
      go_wp2_with fail
      refine (HT.out _ F0.out.kp).mono ?_; rintro e0 w1 ⟨rfl, k1⟩
      have F1 := Lib.hid (F0.out.tr k1)
      clear k1
      have t0 := F1.out.t.c0
      have t1 := F1.out.t.c1
      have t2 := F1.out.t2.c0
      have t3 := F1.out.t2.c1
      have r0 := F1.out.r.c0
      have r1 := F1.out.r.c1
      have u0 := F1.out.r.f0 0
      have u1 := F1.out.r.f0 1
      go_wp2_with fail
      refine (HT2.out _ F1.out.kp).mono ?_; rintro e0 w2 ⟨rfl, k2⟩
      have F1 := Lib.hid (F1.out.tr k2)
      clear k2 t0 t1 t2 t3 r0 r1 u0 u1
      have t0 := F1.out.t.c0
      have t1 := F1.out.t.c1
      have t2 := F1.out.t2.c0
      have t3 := F1.out.t2.c1
      have r0 := F1.out.r.c0
      have r1 := F1.out.r.c1
      have u0 := F1.out.r.f0 0
      have u1 := F1.out.r.f0 1
      go_wp2
      refine bodyPost_ret (v := .tuple #[.agg #[.slice none 0 0, .slice none 0 0], .int .i64 30]) (by simp [results, Try.results21, go_sem, r0, r1]; try rfl) rfl ?_
      exact RetT.err HF.out (F1.out.end_ _ _)
    | true =>
      rw [h2] at HT2
      clear hA hB hC hD ht h1 h2
      go_enter Try.func21, Try.ntmps21
      go_wp2_with fail
      refine (HT.out _ F0.out.kp).mono ?_; rintro e0 w1 ⟨rfl, k1⟩
      have F1 := Lib.hid (F0.out.tr k1)
      clear k1
      have t0 := F1.out.t.c0
      have t1 := F1.out.t.c1
      have t2 := F1.out.t2.c0
      have t3 := F1.out.t2.c1
      have r0 := F1.out.r.c0
      have r1 := F1.out.r.c1
      have u0 := F1.out.r.f0 0
      have u1 := F1.out.r.f0 1
      go_wp2_with fail
      refine (HT2.out _ F1.out.kp).mono ?_; rintro e0 w2 ⟨rfl, k2⟩
      have F1 := Lib.hid (F1.out.tr k2)
      clear k2 t0 t1 t2 t3 r0 r1 u0 u1
      have t0 := F1.out.t.c0
      have t1 := F1.out.t.c1
      have t2 := F1.out.t2.c0
      have t3 := F1.out.t2.c1
      have r0 := F1.out.r.c0
      have r1 := F1.out.r.c1
      have u0 := F1.out.r.f0 0
      have u1 := F1.out.r.f0 1
      go_wp2
      refine bodyPost_ret (v := .tuple #[.agg #[.slice none 0 0, .slice none 0 0], .int .i64 30]) (by simp [results, Try.results21, go_sem, r0, r1]; try rfl) rfl ?_
      exact RetT.err HF.out (F1.out.end_ _ _)
  | true =>
    have h2 : tokV t ys = false := by rcases ht with h | h; (rw [h1] at h; cases h); exact h
    rw [h1] at HT
    rw [h2] at HT2
    clear hA hB hC hD ht h1 h2
    go_enter Try.func21, Try.ntmps21
    go_wp2_with fail
    refine (HT.out _ F0.out.kp).mono ?_; rintro e0 w1 ⟨rfl, k1⟩
    have F1 := Lib.hid (F0.out.tr k1)
    clear k1
    have t0 := F1.out.t.c0
    have t1 := F1.out.t.c1
    have t2 := F1.out.t2.c0
    have t3 := F1.out.t2.c1
    have r0 := F1.out.r.c0
    have r1 := F1.out.r.c1
    have u0 := F1.out.r.f0 0
    have u1 := F1.out.r.f0 1
    go_wp2_with fail
    refine (HT2.out _ F1.out.kp).mono ?_; rintro e0 w2 ⟨rfl, k2⟩
    have F1 := Lib.hid (F1.out.tr k2)
    clear k2 t0 t1 t2 t3 r0 r1 u0 u1
    have t0 := F1.out.t.c0
    have t1 := F1.out.t.c1
    have t2 := F1.out.t2.c0
    have t3 := F1.out.t2.c1
    have r0 := F1.out.r.c0
    have r1 := F1.out.r.c1
    have u0 := F1.out.r.f0 0
    have u1 := F1.out.r.f0 1
    go_wp2
    refine bodyPost_ret (v := .tuple #[.agg #[.slice none 0 0, .slice none 0 0], .int .i64 30]) (by simp [results, Try.results21, go_sem, r0, r1]; try rfl) rfl ?_
    exact RetT.err HF.out (F1.out.end_ _ _)

set_option maxHeartbeats 4000000 in
theorem rj_bad (A B C D : Option Addr) (c d e f : Nat) (s xs t ys : List Int) (axis : Int) (w : World) (hA : Rd w A s) (hB : Rd w B xs) (hC : Rd w C t) (hD : Rd w D ys) (ht : tokV s xs = true) (ht2 : tokV t ys = true) (hF : glueV s xs t ys axis = ([], [], 20)) (hx : axis < 0 ∨ (s.length : Int) ≤ axis ∨ s.length ≠ t.length) :
    Calls Try.prog 21 #[.agg #[.slice A s.length c, .slice B xs.length d], .agg #[.slice C t.length e, .slice D ys.length f], .int .i64 axis] w (RetT (glueV s xs t ys axis) w) := by
  have hlA := hA.len
  have hlB := hB.len
  have hlC := hC.len
  have hlD := hD.len
  have F0 := Lib.hid (Kf.mk_ w A s.length c B xs.length d C t.length e D ys.length f)
  have HT := Lib.hid (fun W (k : Kp w W) => rtcheck_any A B c d s xs W (hA.kp k) (hB.kp k))
  have HT2 := Lib.hid (fun W (k : Kp w W) => rtcheck_any C D e f t ys W (hC.kp k) (hD.kp k))
  have HF := Lib.hid hF
  rw [ht] at HT
  rw [ht2] at HT2
  by_cases c1 : axis < 0
  · have d1 : decide (axis < 0) = true := by simpa using c1
    skip
    clear hA hB hC hD ht ht2 hF hx
    go_enter Try.func21, Try.ntmps21
    go_wp2_with fail
    refine (HT.out _ F0.out.kp).mono ?_; rintro e0 w1 ⟨rfl, k1⟩
    have F1 := Lib.hid (F0.out.tr k1)
    clear k1
    have t0 := F1.out.t.c0
    have t1 := F1.out.t.c1
    have t2 := F1.out.t2.c0
    have t3 := F1.out.t2.c1
    have r0 := F1.out.r.c0
    have r1 := F1.out.r.c1
    have u0 := F1.out.r.f0 0
    have u1 := F1.out.r.f0 1
    go_wp2_with fail
    refine (HT2.out _ F1.out.kp).mono ?_; rintro e0 w2 ⟨rfl, k2⟩
    have F1 := Lib.hid (F1.out.tr k2)
    clear k2 t0 t1 t2 t3 r0 r1 u0 u1
    have t0 := F1.out.t.c0
    have t1 := F1.out.t.c1
    have t2 := F1.out.t2.c0
    have t3 := F1.out.t2.c1
    have r0 := F1.out.r.c0
    have r1 := F1.out.r.c1
    have u0 := F1.out.r.f0 0
    have u1 := F1.out.r.f0 1
    go_wp2
    go_quiet (fail)
    obtain ⟨wq, hwq⟩ : ∃ wq, wq = w2.drewN nq := ⟨_, rfl⟩
    have kq : Kp w2 wq := by rw [hwq]; exact Kp.drewN_ _ _
    rw [← hwq]
    have F1 := Lib.hid (F1.out.tr kq)
    clear hwq kq t0 t1 t2 t3 r0 r1 u0 u1
    have t0 := F1.out.t.c0
    have t1 := F1.out.t.c1
    have t2 := F1.out.t2.c0
    have t3 := F1.out.t2.c1
    have r0 := F1.out.r.c0
    have r1 := F1.out.r.c1
    have u0 := F1.out.r.f0 0
    have u1 := F1.out.r.f0 1
    go_wp2
    refine bodyPost_ret (v := .tuple #[.agg #[.slice none 0 0, .slice none 0 0], .int .i64 20]) (by simp [results, Try.results21, go_sem, r0, r1]; try rfl) rfl ?_
    exact RetT.err HF.out (F1.out.end_ _ _)
  by_cases c2 : (s.length : Int) ≤ axis
  · have d1 : decide (axis < 0) = false := by simpa using c1
    have d2 : decide ((s.length : Int) ≤ axis) = true := by simpa using c2
    skip
    clear hA hB hC hD ht ht2 hF hx
    go_enter Try.func21, Try.ntmps21
    go_wp2_with fail
    refine (HT.out _ F0.out.kp).mono ?_; rintro e0 w1 ⟨rfl, k1⟩
    have F1 := Lib.hid (F0.out.tr k1)
    clear k1
    have t0 := F1.out.t.c0
    have t1 := F1.out.t.c1
    have t2 := F1.out.t2.c0
    have t3 := F1.out.t2.c1
    have r0 := F1.out.r.c0
    have r1 := F1.out.r.c1
    have u0 := F1.out.r.f0 0
    have u1 := F1.out.r.f0 1
    go_wp2_with fail
    refine (HT2.out _ F1.out.kp).mono ?_; rintro e0 w2 ⟨rfl, k2⟩
    have F1 := Lib.hid (F1.out.tr k2)
    clear k2 t0 t1 t2 t3 r0 r1 u0 u1
    have t0 := F1.out.t.c0
    have t1 := F1.out.t.c1
    have t2 := F1.out.t2.c0
    have t3 := F1.out.t2.c1
    have r0 := F1.out.r.c0
    have r1 := F1.out.r.c1
    have u0 := F1.out.r.f0 0
    have u1 := F1.out.r.f0 1
    go_wp2
    go_quiet (fail)
    obtain ⟨wq, hwq⟩ : ∃ wq, wq = w2.drewN nq := ⟨_, rfl⟩
    have kq : Kp w2 wq := by rw [hwq]; exact Kp.drewN_ _ _
    rw [← hwq]
    have F1 := Lib.hid (F1.out.tr kq)
    clear hwq kq t0 t1 t2 t3 r0 r1 u0 u1
    have t0 := F1.out.t.c0
    have t1 := F1.out.t.c1
    have t2 := F1.out.t2.c0
    have t3 := F1.out.t2.c1
    have r0 := F1.out.r.c0
    have r1 := F1.out.r.c1
    have u0 := F1.out.r.f0 0
    have u1 := F1.out.r.f0 1
    go_wp2
    refine bodyPost_ret (v := .tuple #[.agg #[.slice none 0 0, .slice none 0 0], .int .i64 20]) (by simp [results, Try.results21, go_sem, r0, r1]; try rfl) rfl ?_
    exact RetT.err HF.out (F1.out.end_ _ _)
  have c3 : s.length ≠ t.length := by omega
  have d1 : decide (axis < 0) = false := by simpa using c1
  have d2 : decide ((s.length : Int) ≤ axis) = false := by simpa using c2
  have d3 : ((s.length : Int) != (t.length : Int)) = true := by simp; omega
  clear c3
  skip
  clear hA hB hC hD ht ht2 hF hx
  go_enter Try.func21, Try.ntmps21
  go_wp2_with fail
  refine (HT.out _ F0.out.kp).mono ?_; rintro e0 w1 ⟨rfl, k1⟩
  have F1 := Lib.hid (F0.out.tr k1)
  clear k1
  have t0 := F1.out.t.c0
  have t1 := F1.out.t.c1
  have t2 := F1.out.t2.c0
  have t3 := F1.out.t2.c1
  have r0 := F1.out.r.c0
  have r1 := F1.out.r.c1
  have u0 := F1.out.r.f0 0
  have u1 := F1.out.r.f0 1
  go_wp2_with fail
  refine (HT2.out _ F1.out.kp).mono ?_; rintro e0 w2 ⟨rfl, k2⟩
  have F1 := Lib.hid (F1.out.tr k2)
  clear k2 t0 t1 t2 t3 r0 r1 u0 u1
  have t0 := F1.out.t.c0
  have t1 := F1.out.t.c1
  have t2 := F1.out.t2.c0
  have t3 := F1.out.t2.c1
  have r0 := F1.out.r.c0
  have r1 := F1.out.r.c1
  have u0 := F1.out.r.f0 0
  have u1 := F1.out.r.f0 1
  go_wp2
  go_quiet (fail)
  obtain ⟨wq, hwq⟩ : ∃ wq, wq = w2.drewN nq := ⟨_, rfl⟩
  have kq : Kp w2 wq := by rw [hwq]; exact Kp.drewN_ _ _
  rw [← hwq]
  have F1 := Lib.hid (F1.out.tr kq)
  clear hwq kq t0 t1 t2 t3 r0 r1 u0 u1
  have t0 := F1.out.t.c0
  have t1 := F1.out.t.c1
  have t2 := F1.out.t2.c0
  have t3 := F1.out.t2.c1
  have r0 := F1.out.r.c0
  have r1 := F1.out.r.c1
  have u0 := F1.out.r.f0 0
  have u1 := F1.out.r.f0 1
  go_wp2
  refine bodyPost_ret (v := .tuple #[.agg #[.slice none 0 0, .slice none 0 0], .int .i64 20]) (by simp [results, Try.results21, go_sem, r0, r1]; try rfl) rfl ?_
  exact RetT.err HF.out (F1.out.end_ _ _)

end Go.Proofs.Ytdjfjhanffliiaa
