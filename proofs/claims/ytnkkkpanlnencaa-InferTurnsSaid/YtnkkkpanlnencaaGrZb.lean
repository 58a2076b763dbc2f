/- The landed graph: whether a node has such Nums, whether two agree. -/
import Derived.Test.YtnkkkpanlnencaaGrZa
namespace Go.Proofs.Ytnkkkpanlnencaa.Gz
open Go.RowKit Go.Proofs.ShM Go.Proofs.GrM
set_option linter.unusedVariables false
set_option linter.unusedSimpArgs false
set_option maxHeartbeats 4000000

theorem num_w (op : Int) (n m c d : Nat) (l : List Int) (r : Bool) (P Q : Option Addr) (w : World) (HM : Hid (m = l.length)) (hQ : Rd w Q l) (hd1 : m ≤ d) (hd2 : d ≤ 9223372036854775807) (hk : 0 ≤ arityV op) (hr : ∀ a : List Int, numsB (op, a, l) = r) :
    Calls Try.prog 59 #[.agg #[.int .i64 op, .slice P n c, .slice Q m d]] w fun e w' => e = .returned (.bool r) ∧ Kp w w' := by
  have hr := hr []
  have F0 := Lib.hid (Nb.new (W := w) (b := w.heap.size) (op := op) (P := P) (n := n) (c := c) (Q := Q) (m := m) (d := d) rfl)
  have K0 : Hid (Kp w (w.alloc (.cells #[.int .i64 op, .slice P n c, .slice Q m d] 25))) := Kp.alloc_ _ _
  have HR0 := Lib.hid (hQ.kp K0.out)
  obtain ⟨q, hq⟩ : ∃ q, q = okS l := ⟨_, rfl⟩
  have HC : Hid (∀ W, Rd W Q l → Calls Try.prog 18 #[.slice Q m d] W fun e w' => e = .returned (.bool q) ∧ W = w') := fun W h => by rw [hq, HM.out]; exact check_any Q d l W h
  have p0 := F0.out.c0
  have p1 := F0.out.c1
  have p2 := F0.out.c2
  have hml : m ≤ 9223372036854775807 := by omega
  by_cases h2 : op = 2
  · subst h2
    have hv : parB l = r := by rw [← hr]; unfold numsB; simp
    clear hr hq hk
    by_cases hm0 : m = 0
    · have hl0 : l = [] := List.eq_nil_of_length_eq_zero (by rw [← HM.out]; exact hm0)
      subst hl0 hm0
      have hv' : r = false := hv.symm
      subst hv'
      clear hv
      go_enter Try.func59, Try.ntmps59
      go_wp2
      go_ret
      exact ⟨rfl, K0.out⟩
    · obtain ⟨x, s, rfl⟩ : ∃ x s, l = x :: s := by
        cases l with
        | nil => exact absurd HM.out hm0
        | cons x s => exact ⟨x, s, rfl⟩
      have hms : m = s.length + 1 := HM.out
      have HMS := Lib.hid hms
      obtain ⟨ad, y, rfl, hlt, hx, hcell⟩ := HR0.out.at_ (k := 0) (by simp)
      have hxy : x = y := by simpa using hx
      subst hxy
      have e1 : ad.add 0 = ad := by unfold Addr.add; simp
      rw [e1] at hcell
      have hm1 : ((m : Int) == 0) = false := by simp; omega
      have hi1 : (0 : Int) < (m : Int) := by omega
      have hi2 : (1 : Int) ≤ (m : Int) := by omega
      have HQ0 := Lib.hid hQ
      clear hms hx e1 hQ
      by_cases hx0 : x < 0
      · have hv' : r = false := by rw [← hv]; unfold parB; simp; omega
        subst hv'
        clear hv
        go_enter Try.func59, Try.ntmps59
        go_wp2
        go_ret
        exact ⟨rfl, K0.out⟩
      by_cases hx7 : (8 : Int) ≤ x
      · have hv' : r = false := by rw [← hv]; unfold parB; simp; omega
        subst hv'
        clear hv
        go_enter Try.func59, Try.ntmps59
        go_wp2
        go_ret
        exact ⟨rfl, K0.out⟩
      · have hv' : r = okS s := by rw [← hv]; unfold parB; simp; omega
        have HC2 : Hid (∀ W, Kp w W → Calls Try.prog 18 #[.slice (tailA (some ad) d) (m - 1) (d - 1)] W fun e w' => e = .returned (.bool r) ∧ W = w') := fun W k => by
          rw [hv', show m - 1 = s.length by have := HMS.out; omega]
          exact check_any _ (d - 1) s W ((HQ0.out.kp k).tail_ (by have := HMS.out; omega))
        obtain ⟨Q2, hQ2⟩ : ∃ Q2, Q2 = tailA (some ad) d := ⟨_, rfl⟩
        obtain ⟨d2, hd2'⟩ : ∃ d2, d2 = d - 1 := ⟨_, rfl⟩
        have hcut : ∀ W, (Instr.sliceAt 23 (.slice (some ad) m d) (some (.int .i64 1)) none none).run Try.prog W = .ok (.slice Q2 (m - 1) d2) W := fun W => by rw [hQ2, hd2']; exact run_tail W ad m d (by have := HMS.out; omega)
        rw [← hQ2, ← hd2'] at HC2
        clear hv hv' hQ2 hd2'
        go_enter Try.func59, Try.ntmps59
        go_wp2_with fail
        refine (HC2.out _ K0.out).mono ?_; rintro e w2 ⟨rfl, rfl⟩
        go_wp2
        go_ret
        exact ⟨rfl, K0.out⟩
  have e2 : (op == 2) = false := by simpa using h2
  by_cases h1 : op = 1
  · subst h1
    have hv : r = q := by rw [← hr, hq]; unfold numsB; simp
    subst hv
    clear hr hq hQ
    go_enter Try.func59, Try.ntmps59
    go_wp2_with fail
    refine (HC.out _ HR0.out).mono ?_; rintro e w1 ⟨rfl, rfl⟩
    go_wp2
    go_ret
    exact ⟨rfl, K0.out⟩
  by_cases h40 : op = 40
  · subst h40
    have hv : r = q := by rw [← hr, hq]; unfold numsB; simp
    subst hv
    clear hr hq hQ
    go_enter Try.func59, Try.ntmps59
    go_wp2_with fail
    refine (HC.out _ HR0.out).mono ?_; rintro e w1 ⟨rfl, rfl⟩
    go_wp2
    go_ret
    exact ⟨rfl, K0.out⟩
  have e1 : (op == 1) = false := by simpa using h1
  have e40 : (op == 40) = false := by simpa using h40
  by_cases h42 : op = 42
  · subst h42
    have hv : r = decide (m = 3) := by rw [← hr, HM.out]; unfold numsB; simp
    have hv2 : r = ((m : Int) == 3) := by rw [hv, Bool.eq_iff_iff, decide_eq_true_iff, beq_iff_eq]; omega
    subst hv2
    clear hr hq hQ hv
    go_enter Try.func59, Try.ntmps59
    go_wp2
    go_ret
    exact ⟨rfl, K0.out⟩
  have e42 : (op == 42) = false := by simpa using h42
  have hone : ∀ b : Bool, (b = true ↔ op = 3 ∨ op = 43 ∨ 50 ≤ op) → r = (if b = true then ((m : Int) == 1) else ((m : Int) == 0)) := by
    intro b hb
    rw [← hr]
    unfold numsB
    rw [if_neg (by omega), if_neg h2, if_neg h42]
    show (if op = 3 ∨ op = 43 ∨ 50 ≤ op then decide (l.length = 1) else decide (l.length = 0)) = _
    rw [← HM.out]
    by_cases h : op = 3 ∨ op = 43 ∨ 50 ≤ op
    · rw [if_pos h, if_pos (hb.2 h), Bool.eq_iff_iff, decide_eq_true_iff, beq_iff_eq]; omega
    · rw [if_neg h, if_neg (fun g => h (hb.1 g)), Bool.eq_iff_iff, decide_eq_true_iff, beq_iff_eq]; omega
  have hsome : op = 3 ∨ op = 43 ∨ op = 50 ∨ op = 51 ∨ op = 52 ∨ ¬ (op = 3 ∨ op = 43 ∨ 50 ≤ op) := by
    have : op ≤ 52 := by
      unfold arityV at hk
      by_cases g : op ≤ 52
      · exact g
      · exfalso
        rw [if_neg (by omega), if_neg (by omega), if_neg (by omega)] at hk
        omega
    omega
  rcases hsome with h3 | h3 | h3 | h3 | h3 | h3
  · have hv := hone true (by simp [h3])
    rw [if_pos rfl] at hv
    subst h3 hv
    clear hr hq hQ hone
    go_enter Try.func59, Try.ntmps59
    go_wp2
    go_ret
    exact ⟨rfl, K0.out⟩
  · have hv := hone true (by simp [h3])
    rw [if_pos rfl] at hv
    subst h3 hv
    clear hr hq hQ hone
    go_enter Try.func59, Try.ntmps59
    go_wp2
    go_ret
    exact ⟨rfl, K0.out⟩
  · have hv := hone true (by simp [h3])
    rw [if_pos rfl] at hv
    subst h3 hv
    clear hr hq hQ hone
    go_enter Try.func59, Try.ntmps59
    go_wp2
    go_ret
    exact ⟨rfl, K0.out⟩
  · have hv := hone true (by simp [h3])
    rw [if_pos rfl] at hv
    subst h3 hv
    clear hr hq hQ hone
    go_enter Try.func59, Try.ntmps59
    go_wp2
    go_ret
    exact ⟨rfl, K0.out⟩
  · have hv := hone true (by simp [h3])
    rw [if_pos rfl] at hv
    subst h3 hv
    clear hr hq hQ hone
    go_enter Try.func59, Try.ntmps59
    go_wp2
    go_ret
    exact ⟨rfl, K0.out⟩
  · have hv := hone false (by simp; omega)
    rw [if_neg (by simp)] at hv
    have e3 : (op == 3) = false := by simp; omega
    have e43 : (op == 43) = false := by simp; omega
    have e50 : (op == 50) = false := by simp; omega
    have e51 : (op == 51) = false := by simp; omega
    have e52 : (op == 52) = false := by simp; omega
    subst hv
    clear hr hq hQ hone h1 h2 h3 h40 h42 hk
    go_enter Try.func59, Try.ntmps59
    go_wp2
    go_ret
    exact ⟨rfl, K0.out⟩
theorem num_any (t : Nd) (P Q : Option Addr) (c d : Nat) (w : World) (hQ : Rd w Q t.2.2) (hd : t.2.2.length ≤ d ∧ d ≤ 9223372036854775807) (hk : 0 ≤ arityV t.1) :
    Calls Try.prog 59 #[ndV t P c Q d] w fun e w' => e = .returned (.bool (numsB t)) ∧ Kp w w' :=
  num_w t.1 t.2.1.length t.2.2.length c d t.2.2 (numsB t) P Q w rfl hQ hd.1 hd.2 hk (fun _ => rfl)
end Go.Proofs.Ytnkkkpanlnencaa.Gz
