/- Left and Right of layer 7 (matmul), and the document's: what they answer. -/
import Derived.Test.YtepnhmdjglpmeaaMmC
import Derived.Test.YtepnhmdjglpmeaaMmE
namespace Go.Proofs.Ytepnhmdjglpmeaa
open Go.RowKit Go.Shelf Go.Proofs.ShM Go.Proofs.FixM
set_option linter.unusedVariables false

theorem turn_i64 {s xs : List Int} (h : I64s xs) : I64s (turnD s xs) := fun y hy => by
  unfold turnD at hy
  obtain ⟨i, _, rfl⟩ := List.mem_map.1 hy
  unfold atV
  split
  · exact getD_i64 h _
  · show _ ≤ (0 : Int) ∧ (0 : Int) ≤ _; omega
theorem left_no {g xs t ys : List Int} (h : tokV g xs = false ∨ tokV t ys = false) : leftV g xs t ys = ([], [], 30) := by unfold leftV; rw [if_pos h]
theorem right_no {s xs g ys : List Int} (h : tokV s xs = false ∨ tokV g ys = false) : rightV s xs g ys = ([], [], 30) := by unfold rightV; rw [if_pos h]
theorem left_is {g xs t ys : List Int} (h : tokV t ys = true) : leftV g xs t ys = matV g xs t.reverse (turnD t ys) := by
  unfold leftV
  by_cases h1 : tokV g xs = false
  · rw [if_pos (Or.inl h1)]; unfold matV; rw [if_pos (Or.inl h1)]
  · rw [if_neg (by simp [h, h1]), turn_is h]
    by_cases h2 : t.length ≠ 2
    · rw [if_pos h2]; unfold matV; rw [if_neg (by simp [h1, turn_tok h]), if_pos (Or.inr (Or.inl (by simpa using h2)))]
    · rw [if_neg h2]
theorem right_is {s xs g ys : List Int} (h : tokV s xs = true) : rightV s xs g ys = matV s.reverse (turnD s xs) g ys := by
  unfold rightV
  by_cases h1 : tokV g ys = false
  · rw [if_pos (Or.inr h1)]; unfold matV; rw [if_pos (Or.inr h1)]
  · rw [if_neg (by simp [h, h1]), turn_is h]
    by_cases h2 : s.length ≠ 2
    · rw [if_pos h2]; unfold matV; rw [if_neg (by simp [h1, turn_tok h]), if_pos (Or.inl (by simpa using h2))]
    · rw [if_neg h2]
theorem left_shape {g xs t ys : List Int} (h1 : tokV g xs = true) (h2 : tokV t ys = true) (h : ¬ t.length = 2) : leftV g xs t ys = ([], [], 20) := by unfold leftV; rw [if_neg (by simp [h1, h2]), if_pos h]
theorem right_shape {s xs g ys : List Int} (h1 : tokV s xs = true) (h2 : tokV g ys = true) (h : ¬ s.length = 2) : rightV s xs g ys = ([], [], 20) := by unfold rightV; rw [if_neg (by simp [h1, h2]), if_pos h]

set_option maxHeartbeats 8000000 in
set_option maxRecDepth 100000 in
theorem pleft_any (A B C D : Option Addr) (c d e f : Nat) (s xs t ys : List Int) (w : World) (hA : Rd w A s) (hB : Rd w B xs) (hC : Rd w C t) (hD : Rd w D ys) (hI : I64s xs) (hJ : I64s ys) :
    Calls Try.prog 14 #[.agg #[.slice A s.length c, .slice B xs.length d], .agg #[.slice C t.length e, .slice D ys.length f]] w (RetT (leftV s xs t ys) w) := by
  have hl1 := hA.len
  have hl2 := hC.len
  have F0 := Lib.hid (Mb.mk_ w A s.length c B xs.length d C t.length e D ys.length f)
  have HTU : Hid (∀ W, Kp w W → Calls Try.prog 20 #[.agg #[.slice C t.length e, .slice D ys.length f]] W (RetT (turnV t ys) W)) := fun W k => pturn_any C D e f t ys W (hC.kp k) (hD.kp k)
  cases ht : tokV t ys with
  | false =>
    have e0 : turnV t ys = ([], [], 30) := by unfold turnV; rw [if_pos ht]
    rw [e0] at HTU
    have HF : Hid (leftV s xs t ys = ([], [], 30)) := left_no (Or.inr ht)
    clear ht e0 hA hB hC hD hI hJ
    go_enter Try.func14, Try.ntmps14
    go_wp2_with fail
    refine (HTU.out _ F0.out.kp).mono ?_; rintro e0 w1 ⟨A3, c3, B3, d3, rfl, _, _, k1⟩
    have F1 := Lib.hid (F0.out.tr k1)
    clear k1
    dsimp only
    have lt0 := F1.out.o.lt
    have r0 := F1.out.o.c0
    have r1 := F1.out.o.c1
    have u0 := F1.out.o.f0 0
    have u1 := F1.out.o.f0 1
    go_wp2
    have HZ := ((F1.out.o.put (C := none) (n' := 0) (c' := 0) (D := none) (m' := 0) (d' := 0)).alloc_ (.cells #[.slice A3 0 c3, .slice B3 0 d3] 24))
    have z0 := HZ.c0
    have z1 := HZ.c1
    refine bodyPost_ret (v := .tuple #[.agg #[.slice none 0 0, .slice none 0 0], .int .i64 30]) (by simp [results, Try.results14, go_sem, z0, z1]; try rfl) rfl ?_
    exact RetT.err HF.out ((F1.out.end_ _ _).al _)
  | true =>
    rw [turn_is ht] at HTU
    have HF : Hid (leftV s xs t ys = matV s xs t.reverse (turnD t ys)) := left_is ht
    have HM : Hid (∀ W A3 B3 c3 d3, Kp w W → Rd W A3 t.reverse → Rd W B3 (turnD t ys) → Calls Try.prog 11 #[.agg #[.slice A s.length c, .slice B xs.length d], .agg #[.slice A3 t.reverse.length c3, .slice B3 (turnD t ys).length d3]] W (RetT (leftV s xs t ys) W)) := fun W A3 B3 c3 d3 k r1 r2 => by
      rw [HF.out]
      exact pmat_pre A B A3 B3 c d c3 d3 s xs t.reverse (turnD t ys) W (hA.kp k) (hB.kp k) r1 r2 hI (turn_i64 hJ)
    obtain ⟨R1, R2, R3, hR⟩ : ∃ R1 R2 R3, leftV s xs t ys = (R1, R2, R3) := ⟨_, _, _, rfl⟩
    rw [hR] at HM ⊢
    generalize t.reverse = T1 at HTU HM
    generalize turnD t ys = T2 at HTU HM
    clear ht hA hB hC hD hI hJ HF hR
    go_enter Try.func14, Try.ntmps14
    go_wp2_with fail
    refine (HTU.out _ F0.out.kp).mono ?_; rintro e0 w1 ⟨A3, c3, B3, d3, rfl, r1, r2, k1⟩
    have F1 := Lib.hid (F0.out.tr k1)
    have HR := Lib.hid (And.intro r1 r2)
    clear k1 r1 r2
    dsimp only
    have p0 := F1.out.t0.c0
    have p1 := F1.out.t0.c1
    have p4 := F1.out.o.lt
    have p5 : w.heap.size < w1.heap.size := by omega
    have p6 : w.heap.size + 1 < w1.heap.size := by omega
    go_wp2_with fail
    refine (HM.out _ _ _ _ _ (F1.out.kp.al _) (HR.out.1.alloc_ _) (HR.out.2.alloc_ _)).mono ?_; rintro e0 w2 ⟨A4, c4, B4, d4, rfl, r3, r4, k2⟩
    have F2 := Lib.hid ((F1.out.tr (Kp.alloc_ _ _)).tr k2)
    have HS := Lib.hid (And.intro r3 r4)
    clear k2 r3 r4 p0 p1 p4 p5 p6
    dsimp only
    have r0 := F2.out.o.c0
    have r1 := F2.out.o.c1
    have u0 := F2.out.o.f0 0
    have u1 := F2.out.o.f0 1
    go_wp2
    refine bodyPost_ret (v := .tuple #[.agg #[.slice A4 R1.length c4, .slice B4 R2.length d4], .int .i64 R3]) (by simp [results, Try.results14, go_sem, r0, r1]; try rfl) rfl ?_
    exact RetT.of rfl (HS.out.1.past F2.out.o _ _) (HS.out.2.past F2.out.o _ _) (F2.out.end_ _ _)

set_option maxHeartbeats 8000000 in
set_option maxRecDepth 100000 in
theorem pright_any (A B C D : Option Addr) (c d e f : Nat) (s xs t ys : List Int) (w : World) (hA : Rd w A s) (hB : Rd w B xs) (hC : Rd w C t) (hD : Rd w D ys) (hI : I64s xs) (hJ : I64s ys) :
    Calls Try.prog 16 #[.agg #[.slice A s.length c, .slice B xs.length d], .agg #[.slice C t.length e, .slice D ys.length f]] w (RetT (rightV s xs t ys) w) := by
  have hl1 := hA.len
  have hl2 := hC.len
  have F0 := Lib.hid (Mb.mk_ w A s.length c B xs.length d C t.length e D ys.length f)
  have HTU : Hid (∀ W, Kp w W → Calls Try.prog 20 #[.agg #[.slice A s.length c, .slice B xs.length d]] W (RetT (turnV s xs) W)) := fun W k => pturn_any A B c d s xs W (hA.kp k) (hB.kp k)
  cases ht : tokV s xs with
  | false =>
    have e0 : turnV s xs = ([], [], 30) := by unfold turnV; rw [if_pos ht]
    rw [e0] at HTU
    have HF : Hid (rightV s xs t ys = ([], [], 30)) := right_no (Or.inl ht)
    clear ht e0 hA hB hC hD hI hJ
    go_enter Try.func16, Try.ntmps16
    go_wp2_with fail
    refine (HTU.out _ F0.out.kp).mono ?_; rintro e0 w1 ⟨A3, c3, B3, d3, rfl, _, _, k1⟩
    have F1 := Lib.hid (F0.out.tr k1)
    clear k1
    dsimp only
    have lt0 := F1.out.o.lt
    have r0 := F1.out.o.c0
    have r1 := F1.out.o.c1
    have u0 := F1.out.o.f0 0
    have u1 := F1.out.o.f0 1
    go_wp2
    have HZ := ((F1.out.o.put (C := none) (n' := 0) (c' := 0) (D := none) (m' := 0) (d' := 0)).alloc_ (.cells #[.slice A3 0 c3, .slice B3 0 d3] 24))
    have z0 := HZ.c0
    have z1 := HZ.c1
    refine bodyPost_ret (v := .tuple #[.agg #[.slice none 0 0, .slice none 0 0], .int .i64 30]) (by simp [results, Try.results16, go_sem, z0, z1]; try rfl) rfl ?_
    exact RetT.err HF.out ((F1.out.end_ _ _).al _)
  | true =>
    rw [turn_is ht] at HTU
    have HF : Hid (rightV s xs t ys = matV s.reverse (turnD s xs) t ys) := right_is ht
    have HM : Hid (∀ W A3 B3 c3 d3, Kp w W → Rd W A3 s.reverse → Rd W B3 (turnD s xs) → Calls Try.prog 11 #[.agg #[.slice A3 s.reverse.length c3, .slice B3 (turnD s xs).length d3], .agg #[.slice C t.length e, .slice D ys.length f]] W (RetT (rightV s xs t ys) W)) := fun W A3 B3 c3 d3 k r1 r2 => by
      rw [HF.out]
      exact pmat_pre A3 B3 C D c3 d3 e f s.reverse (turnD s xs) t ys W r1 r2 (hC.kp k) (hD.kp k) (turn_i64 hI) hJ
    obtain ⟨R1, R2, R3, hR⟩ : ∃ R1 R2 R3, rightV s xs t ys = (R1, R2, R3) := ⟨_, _, _, rfl⟩
    rw [hR] at HM ⊢
    generalize s.reverse = T1 at HTU HM
    generalize turnD s xs = T2 at HTU HM
    clear ht hA hB hC hD hI hJ HF hR
    go_enter Try.func16, Try.ntmps16
    go_wp2_with fail
    refine (HTU.out _ F0.out.kp).mono ?_; rintro e0 w1 ⟨A3, c3, B3, d3, rfl, r1, r2, k1⟩
    have F1 := Lib.hid (F0.out.tr k1)
    have HR := Lib.hid (And.intro r1 r2)
    clear k1 r1 r2
    dsimp only
    have p0 := F1.out.t1.c0
    have p1 := F1.out.t1.c1
    have p4 := F1.out.o.lt
    have p5 : w.heap.size < w1.heap.size := by omega
    have p6 : w.heap.size + 1 < w1.heap.size := by omega
    go_wp2_with fail
    refine (HM.out _ _ _ _ _ (F1.out.kp.al _) (HR.out.1.alloc_ _) (HR.out.2.alloc_ _)).mono ?_; rintro e0 w2 ⟨A4, c4, B4, d4, rfl, r3, r4, k2⟩
    have F2 := Lib.hid ((F1.out.tr (Kp.alloc_ _ _)).tr k2)
    have HS := Lib.hid (And.intro r3 r4)
    clear k2 r3 r4 p0 p1 p4 p5 p6
    dsimp only
    have r0 := F2.out.o.c0
    have r1 := F2.out.o.c1
    have u0 := F2.out.o.f0 0
    have u1 := F2.out.o.f0 1
    go_wp2
    refine bodyPost_ret (v := .tuple #[.agg #[.slice A4 R1.length c4, .slice B4 R2.length d4], .int .i64 R3]) (by simp [results, Try.results16, go_sem, r0, r1]; try rfl) rfl ?_
    exact RetT.of rfl (HS.out.1.past F2.out.o _ _) (HS.out.2.past F2.out.o _ _) (F2.out.end_ _ _)

set_option maxHeartbeats 8000000 in
set_option maxRecDepth 100000 in
theorem rleft_any (A B C D : Option Addr) (c d e f : Nat) (s xs t ys : List Int) (w : World) (hA : Rd w A s) (hB : Rd w B xs) (hC : Rd w C t) (hD : Rd w D ys) (hI : I64s xs) (hJ : I64s ys) :
    Calls Try.prog 15 #[.agg #[.slice A s.length c, .slice B xs.length d], .agg #[.slice C t.length e, .slice D ys.length f]] w (RetT (leftV s xs t ys) w) := by
  have hl1 := hA.len
  have hl2 := hC.len
  have F0 := Lib.hid (Mb.mk_ w A s.length c B xs.length d C t.length e D ys.length f)
  have HT1 := Lib.hid (fun W (k : Kp w W) => rtcheck_any A B c d s xs W (hA.kp k) (hB.kp k))
  have HT2 := Lib.hid (fun W (k : Kp w W) => rtcheck_any C D e f t ys W (hC.kp k) (hD.kp k))
  by_cases h1 : tokV s xs = false
  · have HF : Hid (leftV s xs t ys = ([], [], 30)) := left_no (Or.inl h1)
    rw [h1] at HT1
    generalize tokV t ys = b2 at HT2
    clear h1 hA hB hC hD hI hJ
    go_enter Try.func15, Try.ntmps15
    go_wp2_with fail
    refine (HT1.out _ F0.out.kp).mono ?_; rintro e0 w1 ⟨rfl, k1⟩
    have F1 := Lib.hid (F0.out.tr k1)
    clear k1
    have p2 := F1.out.t1.c0
    have p3 := F1.out.t1.c1
    go_wp2_with fail
    refine (HT2.out _ F1.out.kp).mono ?_; rintro e0 w2 ⟨rfl, k2⟩
    have F2 := Lib.hid (F1.out.tr k2)
    clear k2 p2 p3
    have lt0 := F2.out.o.lt
    have r0 := F2.out.o.c0
    have r1 := F2.out.o.c1
    have u0 := F2.out.o.f0 0
    have u1 := F2.out.o.f0 1
    go_wp2
    refine bodyPost_ret (v := .tuple #[.agg #[.slice none 0 0, .slice none 0 0], .int .i64 30]) (by simp [results, Try.results15, go_sem, r0, r1]; try rfl) rfl ?_
    exact RetT.err HF.out (F2.out.end_ _ _)
  have h1 : tokV s xs = true := by simpa using h1
  rw [h1] at HT1
  by_cases h2 : tokV t ys = false
  · have HF : Hid (leftV s xs t ys = ([], [], 30)) := left_no (Or.inr h2)
    rw [h2] at HT2
    clear h1 h2 hA hB hC hD hI hJ
    go_enter Try.func15, Try.ntmps15
    go_wp2_with fail
    refine (HT1.out _ F0.out.kp).mono ?_; rintro e0 w1 ⟨rfl, k1⟩
    have F1 := Lib.hid (F0.out.tr k1)
    clear k1
    have p2 := F1.out.t1.c0
    have p3 := F1.out.t1.c1
    go_wp2_with fail
    refine (HT2.out _ F1.out.kp).mono ?_; rintro e0 w2 ⟨rfl, k2⟩
    have F2 := Lib.hid (F1.out.tr k2)
    clear k2 p2 p3
    have lt0 := F2.out.o.lt
    have r0 := F2.out.o.c0
    have r1 := F2.out.o.c1
    have u0 := F2.out.o.f0 0
    have u1 := F2.out.o.f0 1
    go_wp2
    refine bodyPost_ret (v := .tuple #[.agg #[.slice none 0 0, .slice none 0 0], .int .i64 30]) (by simp [results, Try.results15, go_sem, r0, r1]; try rfl) rfl ?_
    exact RetT.err HF.out (F2.out.end_ _ _)
  have h2 : tokV t ys = true := by simpa using h2
  rw [h2] at HT2
  by_cases h3 : t.length = 2
  · have h3' : ((t.length : Int) != 2) = false := by simp; omega
    have HTU : Hid (∀ W, Kp w W → Calls Try.prog 35 #[.agg #[.slice C t.length e, .slice D ys.length f]] W (RetT (turnV t ys) W)) := fun W k => rturn_yes C D e f t ys W (hC.kp k) (hD.kp k) h2
    rw [turn_is h2] at HTU
    have HF : Hid (leftV s xs t ys = matV s xs t.reverse (turnD t ys)) := left_is h2
    have HM : Hid (∀ W A3 B3 c3 d3, Kp w W → Rd W A3 t.reverse → Rd W B3 (turnD t ys) → Calls Try.prog 12 #[.agg #[.slice A s.length c, .slice B xs.length d], .agg #[.slice A3 t.reverse.length c3, .slice B3 (turnD t ys).length d3]] W (RetT (leftV s xs t ys) W)) := fun W A3 B3 c3 d3 k r1 r2 => by
      rw [HF.out]
      exact rmat_any A B A3 B3 c d c3 d3 s xs t.reverse (turnD t ys) W (hA.kp k) (hB.kp k) r1 r2 hI (turn_i64 hJ)
    obtain ⟨R1, R2, R3, hR⟩ : ∃ R1 R2 R3, leftV s xs t ys = (R1, R2, R3) := ⟨_, _, _, rfl⟩
    rw [hR] at HM ⊢
    generalize t.reverse = T1 at HTU HM
    generalize turnD t ys = T2 at HTU HM
    have HL3 := Lib.hid h3
    clear h1 h2 h3 hA hB hC hD hI hJ HF hR
    go_enter Try.func15, Try.ntmps15
    go_wp2_with fail
    refine (HT1.out _ F0.out.kp).mono ?_; rintro e0 w1 ⟨rfl, k1⟩
    have F1 := Lib.hid (F0.out.tr k1)
    clear k1
    have p2 := F1.out.t1.c0
    have p3 := F1.out.t1.c1
    go_wp2_with fail
    refine (HT2.out _ F1.out.kp).mono ?_; rintro e0 w2 ⟨rfl, k2⟩
    have F2 := Lib.hid (F1.out.tr k2)
    clear k2 p2 p3
    have p0 := F2.out.t1.c0
    have p1 := F2.out.t1.c1
    go_wp2_with fail
    refine (HTU.out _ F2.out.kp).mono ?_; rintro e0 w3 ⟨A3, c3, B3, d3, rfl, r1, r2, k3⟩
    have F3 := Lib.hid (F2.out.tr k3)
    have HR := Lib.hid (And.intro r1 r2)
    clear k3 r1 r2 p0 p1
    dsimp only
    have p0 := F3.out.t0.c0
    have p1 := F3.out.t0.c1
    have p4 := F3.out.o.lt
    have p5 : w.heap.size < w3.heap.size := by omega
    have p6 : w.heap.size + 1 < w3.heap.size := by omega
    go_wp2_with fail
    refine (HM.out _ _ _ _ _ (F3.out.kp.al _) (HR.out.1.alloc_ _) (HR.out.2.alloc_ _)).mono ?_; rintro e0 w4 ⟨A4, c4, B4, d4, rfl, r3, r4, k4⟩
    have F4 := Lib.hid ((F3.out.tr (Kp.alloc_ _ _)).tr k4)
    have HS := Lib.hid (And.intro r3 r4)
    clear k4 r3 r4 p0 p1 p4 p5 p6
    dsimp only
    have r0 := F4.out.o.c0
    have r1 := F4.out.o.c1
    have u0 := F4.out.o.f0 0
    have u1 := F4.out.o.f0 1
    go_wp2
    refine bodyPost_ret (v := .tuple #[.agg #[.slice A4 R1.length c4, .slice B4 R2.length d4], .int .i64 R3]) (by simp [results, Try.results15, go_sem, r0, r1]; try rfl) rfl ?_
    exact RetT.of rfl (HS.out.1.past F4.out.o _ _) (HS.out.2.past F4.out.o _ _) (F4.out.end_ _ _)
  · have h3' : ((t.length : Int) != 2) = true := by simp; omega
    have HF : Hid (leftV s xs t ys = ([], [], 20)) := left_shape h1 h2 h3
    clear h1 h2 h3 hA hB hC hD hI hJ
    go_enter Try.func15, Try.ntmps15
    go_wp2_with fail
    refine (HT1.out _ F0.out.kp).mono ?_; rintro e0 w1 ⟨rfl, k1⟩
    have F1 := Lib.hid (F0.out.tr k1)
    clear k1
    have p2 := F1.out.t1.c0
    have p3 := F1.out.t1.c1
    go_wp2_with fail
    refine (HT2.out _ F1.out.kp).mono ?_; rintro e0 w2 ⟨rfl, k2⟩
    have F2 := Lib.hid (F1.out.tr k2)
    clear k2 p2 p3
    have p0 := F2.out.t1.c0
    have p1 := F2.out.t1.c1
    have lt0 := F2.out.o.lt
    have r0 := F2.out.o.c0
    have r1 := F2.out.o.c1
    have u0 := F2.out.o.f0 0
    have u1 := F2.out.o.f0 1
    go_wp2
    refine bodyPost_ret (v := .tuple #[.agg #[.slice none 0 0, .slice none 0 0], .int .i64 20]) (by simp [results, Try.results15, go_sem, r0, r1]; try rfl) rfl ?_
    exact RetT.err HF.out (F2.out.end_ _ _)

set_option maxHeartbeats 8000000 in
set_option maxRecDepth 100000 in
theorem rright_any (A B C D : Option Addr) (c d e f : Nat) (s xs t ys : List Int) (w : World) (hA : Rd w A s) (hB : Rd w B xs) (hC : Rd w C t) (hD : Rd w D ys) (hI : I64s xs) (hJ : I64s ys) :
    Calls Try.prog 17 #[.agg #[.slice A s.length c, .slice B xs.length d], .agg #[.slice C t.length e, .slice D ys.length f]] w (RetT (rightV s xs t ys) w) := by
  have hl1 := hA.len
  have hl2 := hC.len
  have F0 := Lib.hid (Mb.mk_ w A s.length c B xs.length d C t.length e D ys.length f)
  have HT1 := Lib.hid (fun W (k : Kp w W) => rtcheck_any A B c d s xs W (hA.kp k) (hB.kp k))
  have HT2 := Lib.hid (fun W (k : Kp w W) => rtcheck_any C D e f t ys W (hC.kp k) (hD.kp k))
  by_cases h1 : tokV s xs = false
  · have HF : Hid (rightV s xs t ys = ([], [], 30)) := right_no (Or.inl h1)
    rw [h1] at HT1
    generalize tokV t ys = b2 at HT2
    clear h1 hA hB hC hD hI hJ
    go_enter Try.func17, Try.ntmps17
    go_wp2_with fail
    refine (HT1.out _ F0.out.kp).mono ?_; rintro e0 w1 ⟨rfl, k1⟩
    have F1 := Lib.hid (F0.out.tr k1)
    clear k1
    have p2 := F1.out.t1.c0
    have p3 := F1.out.t1.c1
    go_wp2_with fail
    refine (HT2.out _ F1.out.kp).mono ?_; rintro e0 w2 ⟨rfl, k2⟩
    have F2 := Lib.hid (F1.out.tr k2)
    clear k2 p2 p3
    have lt0 := F2.out.o.lt
    have r0 := F2.out.o.c0
    have r1 := F2.out.o.c1
    have u0 := F2.out.o.f0 0
    have u1 := F2.out.o.f0 1
    go_wp2
    refine bodyPost_ret (v := .tuple #[.agg #[.slice none 0 0, .slice none 0 0], .int .i64 30]) (by simp [results, Try.results17, go_sem, r0, r1]; try rfl) rfl ?_
    exact RetT.err HF.out (F2.out.end_ _ _)
  have h1 : tokV s xs = true := by simpa using h1
  rw [h1] at HT1
  by_cases h2 : tokV t ys = false
  · have HF : Hid (rightV s xs t ys = ([], [], 30)) := right_no (Or.inr h2)
    rw [h2] at HT2
    clear h1 h2 hA hB hC hD hI hJ
    go_enter Try.func17, Try.ntmps17
    go_wp2_with fail
    refine (HT1.out _ F0.out.kp).mono ?_; rintro e0 w1 ⟨rfl, k1⟩
    have F1 := Lib.hid (F0.out.tr k1)
    clear k1
    have p2 := F1.out.t1.c0
    have p3 := F1.out.t1.c1
    go_wp2_with fail
    refine (HT2.out _ F1.out.kp).mono ?_; rintro e0 w2 ⟨rfl, k2⟩
    have F2 := Lib.hid (F1.out.tr k2)
    clear k2 p2 p3
    have lt0 := F2.out.o.lt
    have r0 := F2.out.o.c0
    have r1 := F2.out.o.c1
    have u0 := F2.out.o.f0 0
    have u1 := F2.out.o.f0 1
    go_wp2
    refine bodyPost_ret (v := .tuple #[.agg #[.slice none 0 0, .slice none 0 0], .int .i64 30]) (by simp [results, Try.results17, go_sem, r0, r1]; try rfl) rfl ?_
    exact RetT.err HF.out (F2.out.end_ _ _)
  have h2 : tokV t ys = true := by simpa using h2
  rw [h2] at HT2
  by_cases h3 : s.length = 2
  · have h3' : ((s.length : Int) != 2) = false := by simp; omega
    have HTU : Hid (∀ W, Kp w W → Calls Try.prog 35 #[.agg #[.slice A s.length c, .slice B xs.length d]] W (RetT (turnV s xs) W)) := fun W k => rturn_yes A B c d s xs W (hA.kp k) (hB.kp k) h1
    rw [turn_is h1] at HTU
    have HF : Hid (rightV s xs t ys = matV s.reverse (turnD s xs) t ys) := right_is h1
    have HM : Hid (∀ W A3 B3 c3 d3, Kp w W → Rd W A3 s.reverse → Rd W B3 (turnD s xs) → Calls Try.prog 12 #[.agg #[.slice A3 s.reverse.length c3, .slice B3 (turnD s xs).length d3], .agg #[.slice C t.length e, .slice D ys.length f]] W (RetT (rightV s xs t ys) W)) := fun W A3 B3 c3 d3 k r1 r2 => by
      rw [HF.out]
      exact rmat_any A3 B3 C D c3 d3 e f s.reverse (turnD s xs) t ys W r1 r2 (hC.kp k) (hD.kp k) (turn_i64 hI) hJ
    obtain ⟨R1, R2, R3, hR⟩ : ∃ R1 R2 R3, rightV s xs t ys = (R1, R2, R3) := ⟨_, _, _, rfl⟩
    rw [hR] at HM ⊢
    generalize s.reverse = T1 at HTU HM
    generalize turnD s xs = T2 at HTU HM
    have HL3 := Lib.hid h3
    clear h1 h2 h3 hA hB hC hD hI hJ HF hR
    go_enter Try.func17, Try.ntmps17
    go_wp2_with fail
    refine (HT1.out _ F0.out.kp).mono ?_; rintro e0 w1 ⟨rfl, k1⟩
    have F1 := Lib.hid (F0.out.tr k1)
    clear k1
    have p2 := F1.out.t1.c0
    have p3 := F1.out.t1.c1
    go_wp2_with fail
    refine (HT2.out _ F1.out.kp).mono ?_; rintro e0 w2 ⟨rfl, k2⟩
    have F2 := Lib.hid (F1.out.tr k2)
    clear k2 p2 p3
    have p0 := F2.out.t0.c0
    have p1 := F2.out.t0.c1
    go_wp2_with fail
    refine (HTU.out _ F2.out.kp).mono ?_; rintro e0 w3 ⟨A3, c3, B3, d3, rfl, r1, r2, k3⟩
    have F3 := Lib.hid (F2.out.tr k3)
    have HR := Lib.hid (And.intro r1 r2)
    clear k3 r1 r2 p0 p1
    dsimp only
    have p0 := F3.out.t1.c0
    have p1 := F3.out.t1.c1
    have p4 := F3.out.o.lt
    have p5 : w.heap.size < w3.heap.size := by omega
    have p6 : w.heap.size + 1 < w3.heap.size := by omega
    go_wp2_with fail
    refine (HM.out _ _ _ _ _ (F3.out.kp.al _) (HR.out.1.alloc_ _) (HR.out.2.alloc_ _)).mono ?_; rintro e0 w4 ⟨A4, c4, B4, d4, rfl, r3, r4, k4⟩
    have F4 := Lib.hid ((F3.out.tr (Kp.alloc_ _ _)).tr k4)
    have HS := Lib.hid (And.intro r3 r4)
    clear k4 r3 r4 p0 p1 p4 p5 p6
    dsimp only
    have r0 := F4.out.o.c0
    have r1 := F4.out.o.c1
    have u0 := F4.out.o.f0 0
    have u1 := F4.out.o.f0 1
    go_wp2
    refine bodyPost_ret (v := .tuple #[.agg #[.slice A4 R1.length c4, .slice B4 R2.length d4], .int .i64 R3]) (by simp [results, Try.results17, go_sem, r0, r1]; try rfl) rfl ?_
    exact RetT.of rfl (HS.out.1.past F4.out.o _ _) (HS.out.2.past F4.out.o _ _) (F4.out.end_ _ _)
  · have h3' : ((s.length : Int) != 2) = true := by simp; omega
    have HF : Hid (rightV s xs t ys = ([], [], 20)) := right_shape h1 h2 h3
    clear h1 h2 h3 hA hB hC hD hI hJ
    go_enter Try.func17, Try.ntmps17
    go_wp2_with fail
    refine (HT1.out _ F0.out.kp).mono ?_; rintro e0 w1 ⟨rfl, k1⟩
    have F1 := Lib.hid (F0.out.tr k1)
    clear k1
    have p2 := F1.out.t1.c0
    have p3 := F1.out.t1.c1
    go_wp2_with fail
    refine (HT2.out _ F1.out.kp).mono ?_; rintro e0 w2 ⟨rfl, k2⟩
    have F2 := Lib.hid (F1.out.tr k2)
    clear k2 p2 p3
    have p0 := F2.out.t0.c0
    have p1 := F2.out.t0.c1
    have lt0 := F2.out.o.lt
    have r0 := F2.out.o.c0
    have r1 := F2.out.o.c1
    have u0 := F2.out.o.f0 0
    have u1 := F2.out.o.f0 1
    go_wp2
    refine bodyPost_ret (v := .tuple #[.agg #[.slice none 0 0, .slice none 0 0], .int .i64 20]) (by simp [results, Try.results17, go_sem, r0, r1]; try rfl) rfl ?_
    exact RetT.err HF.out (F2.out.end_ _ _)

end Go.Proofs.Ytepnhmdjglpmeaa
