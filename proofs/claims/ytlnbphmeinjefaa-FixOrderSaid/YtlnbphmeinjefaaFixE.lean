/- What the teller's closure of layer 1 answers, and so products and quotients. -/
import Derived.Test.YtlnbphmeinjefaaFixD
namespace Go.Proofs.Ytlnbphmeinjefaa
open Go.RowKit Go.Proofs.FixM

/-- n divided by d, floored: of what is below 0 (its other side is n), or of n. -/
def tellV (below : Bool) (n d : Nat) : Int × Int := if below = true then put (-(((n + (d - 1)) / d : Nat) : Int)) else put ((n / d : Nat) : Int)
/-- Two results, a number and an error; nothing that was there has changed. -/
def Two (p : Int × Int) (w : World) (e : Ending) (w' : World) : Prop := e = .returned (.tuple #[.int .i64 p.1, .int .i64 p.2]) ∧ Gr w w'

namespace FixE
theorem hi_over {n d : Nat} (hd : 0 < d) (h : d ≤ n / 18446744073709551616) : 18446744073709551616 ≤ n / d := by
  rw [Nat.le_div_iff_mul_le hd]
  have := Nat.div_add_mod n 18446744073709551616
  have : 18446744073709551616 * d ≤ n := by
    have := Nat.mul_le_mul_left 18446744073709551616 h
    omega
  omega
theorem hi_fits {n d : Nat} (hd : 0 < d) (h : n / 18446744073709551616 < d) : n / d < 18446744073709551616 := by
  rw [Nat.div_lt_iff_lt_mul hd]
  have := Nat.div_add_mod n 18446744073709551616
  have := Nat.mul_le_mul_left 18446744073709551616 (show n / 18446744073709551616 + 1 ≤ d from h)
  have : n < 18446744073709551616 * d := by omega
  omega
end FixE

set_option maxHeartbeats 400000 in
theorem tell_no (n d : Nat) (hd : 0 < d) (hd2 : d < 18446744073709551616) (w : World) (pb pm : Addr) (hb : w.cell? pb = some (.bool false)) (hm : w.cell? pm = some (.int .u64 9223372036854775807))
    (hb1 : pb.block < w.heap.size) (hm1 : pm.block < w.heap.size) :
    Calls Try.prog 39 #[wv n, .int .u64 d, .pointer (some pb), .pointer (some pm)] w (Two (tellV false n d) w) := by
  have hdiv := fun (c : n / 18446744073709551616 < d) w' => div64_any (n / 18446744073709551616) (n % 18446744073709551616) d c hd2 (by omega) w'
  rw [show n / 18446744073709551616 * 18446744073709551616 + n % 18446744073709551616 = n by omega] at hdiv
  by_cases c1 : n / 18446744073709551616 < d
  · have hD := hdiv c1
    have hq := FixE.hi_fits hd c1
    have ht : tellV false n d = put ((n / d : Nat) : Int) := rfl
    rw [ht]
    unfold wv
    generalize n / d = q at *
    generalize n / 18446744073709551616 = n1 at *
    generalize n % 18446744073709551616 = n0 at *
    have H := Lib.hid hD; clear hD hdiv ht
    by_cases c2 : (9223372036854775807 : Int) < (q : Int)
    · have hP : put (q : Int) = (0, 10) := put_out (by omega)
      rw [hP]; clear hP hq
      go_enter Try.func39, Try.ntmps39
      go_wp2_with (go_at_call 41; refine (H.out _).mono ?_; rintro e w1 ⟨r, rfl, hg⟩; have hg' := Gr.trans ((Gr.refl w).alloc _ _) hg; have hb' := hg'.cell hb1 hb; have hm' := hg'.cell hm1 hm; clear hb hm)
      go_ret2
      exact ⟨rfl, hg'⟩
    · have hP : put (q : Int) = ((q : Int), 0) := put_in (by omega) (by omega)
      rw [hP]; clear hP hq
      have hi : (q : Int) ≤ 9223372036854775807 := by omega
      go_enter Try.func39, Try.ntmps39
      go_wp2_with (go_at_call 41; refine (H.out _).mono ?_; rintro e w1 ⟨r, rfl, hg⟩; have hg' := Gr.trans ((Gr.refl w).alloc _ _) hg; have hb' := hg'.cell hb1 hb; have hm' := hg'.cell hm1 hm; clear hb hm)
      go_ret2
      exact ⟨ret2_int (by first | rfl | go_arith) rfl, hg'⟩
  · have hP : tellV false n d = (0, 10) := by
      have := FixE.hi_over hd (show d ≤ n / 18446744073709551616 by omega)
      exact put_out (by omega)
    rw [hP]
    unfold wv
    generalize n / 18446744073709551616 = n1 at *
    generalize n % 18446744073709551616 = n0 at *
    clear hdiv hP
    go_enter Try.func39, Try.ntmps39
    go_wp2
    go_ret2
    exact ⟨rfl, (Gr.refl _).alloc _ _⟩

set_option maxHeartbeats 400000 in
theorem tell_yes (n d : Nat) (hd : 0 < d) (hd2 : d < 18446744073709551616) (hn : n + (d - 1) < 340282366920938463463374607431768211456) (w : World) (pb pm : Addr) (hb : w.cell? pb = some (.bool true)) (hm : w.cell? pm = some (.int .u64 9223372036854775808))
    (hb1 : pb.block < w.heap.size) (hm1 : pm.block < w.heap.size) :
    Calls Try.prog 39 #[wv n, .int .u64 d, .pointer (some pb), .pointer (some pm)] w (Two (tellV true n d) w) := by
  have hplus := fun w' => plus_any n (d - 1) hn w'
  have hd1 : ((d - 1 : Nat) : Int) = (d : Int) - 1 := by omega
  rw [hd1] at hplus
  have ht : tellV true n d = put (-(((n + (d - 1)) / d : Nat) : Int)) := rfl
  rw [ht]
  clear ht hd1 hn
  generalize n + (d - 1) = m at *
  have hdiv := fun (c : m / 18446744073709551616 < d) w' => div64_any (m / 18446744073709551616) (m % 18446744073709551616) d c hd2 (by omega) w'
  rw [show m / 18446744073709551616 * 18446744073709551616 + m % 18446744073709551616 = m by omega] at hdiv
  unfold wv at *
  generalize n / 18446744073709551616 = n1 at *
  generalize n % 18446744073709551616 = n0 at *
  have HP := Lib.hid hplus; clear hplus
  have HBM := Lib.hid (And.intro hb hm)
  by_cases c1 : m / 18446744073709551616 < d
  · have hD := hdiv c1
    have hq := FixE.hi_fits hd c1
    generalize m / d = q at *
    generalize m / 18446744073709551616 = m1 at *
    generalize m % 18446744073709551616 = m0 at *
    have H := Lib.hid hD; clear hD hdiv
    by_cases c2 : (9223372036854775808 : Int) < (q : Int)
    · have hP : put (-(q : Int)) = (0, 10) := put_out (by omega)
      rw [hP]; clear hP hq
      go_enter Try.func39, Try.ntmps39
      go_wp2_with first | (go_at_call 40; refine (HP.out _).mono ?_; rintro e w1 ⟨rfl, hg⟩; have hg' := Gr.trans ((Gr.refl w).alloc _ _) hg; have hb' := hg'.cell hb1 hb; have hm' := hg'.cell hm1 hm; have hz := hg.below.size; have z0 := hg.ncell 0 rfl; have z1 := hg.ncell 1 rfl; have y0 := hg.nfroz 0; have y1 := hg.nfroz 1; clear hb hm hg) | (go_at_call 41; refine (H.out _).mono ?_; rintro e w2 ⟨r, rfl, hg⟩; have hg2 := Gr.trans (Gr.setCell (Gr.setCell hg' (p := ⟨w.heap.size, 0, none⟩) (by simp) _) (p := ⟨w.heap.size, 1, none⟩) (by simp) _) hg; have hb2 := hg2.cell hb1 HBM.out.1; have hm2 := hg2.cell hm1 HBM.out.2; clear hb' hm' hg z0 z1 y0 y1 hg')
      go_ret2
      exact ⟨rfl, hg2⟩
    · have hP : put (-(q : Int)) = (-(q : Int), 0) := put_in (by omega) (by omega)
      rw [hP]; clear hP hq
      have hi : (q : Int) ≤ 9223372036854775808 := by omega
      go_enter Try.func39, Try.ntmps39
      go_wp2_with first | (go_at_call 40; refine (HP.out _).mono ?_; rintro e w1 ⟨rfl, hg⟩; have hg' := Gr.trans ((Gr.refl w).alloc _ _) hg; have hb' := hg'.cell hb1 hb; have hm' := hg'.cell hm1 hm; have hz := hg.below.size; have z0 := hg.ncell 0 rfl; have z1 := hg.ncell 1 rfl; have y0 := hg.nfroz 0; have y1 := hg.nfroz 1; clear hb hm hg) | (go_at_call 41; refine (H.out _).mono ?_; rintro e w2 ⟨r, rfl, hg⟩; have hg2 := Gr.trans (Gr.setCell (Gr.setCell hg' (p := ⟨w.heap.size, 0, none⟩) (by simp) _) (p := ⟨w.heap.size, 1, none⟩) (by simp) _) hg; have hb2 := hg2.cell hb1 HBM.out.1; have hm2 := hg2.cell hm1 HBM.out.2; clear hb' hm' hg z0 z1 y0 y1 hg')
      go_ret2
      exact ⟨ret2_int (by first | rfl | go_arith) rfl, hg2⟩
  · have hP : put (-((m / d : Nat) : Int)) = (0, 10) := by
      have := FixE.hi_over hd (show d ≤ m / 18446744073709551616 by omega)
      exact put_out (by omega)
    rw [hP]
    generalize m / 18446744073709551616 = m1 at *
    generalize m % 18446744073709551616 = m0 at *
    clear hdiv hP
    go_enter Try.func39, Try.ntmps39
    go_wp2_with (go_at_call 40; refine (HP.out _).mono ?_; rintro e w1 ⟨rfl, hg⟩; have hg' := Gr.trans ((Gr.refl w).alloc _ _) hg; have hb' := hg'.cell hb1 hb; have hm' := hg'.cell hm1 hm; have hz := hg.below.size; have z0 := hg.ncell 0 rfl; have z1 := hg.ncell 1 rfl; have y0 := hg.nfroz 0; have y1 := hg.nfroz 1; clear hb hm hg)
    go_ret2
    exact ⟨rfl, (hg'.setCell (p := ⟨w.heap.size, 0, none⟩) (by simp) _).setCell (p := ⟨w.heap.size, 1, none⟩) (by simp) _⟩
end Go.Proofs.Ytlnbphmeinjefaa
