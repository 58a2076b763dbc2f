/- The program's along of layer 7 (matmul), the document's number: sums of products. -/
import Derived.Test.YtepnhmdjglpmeaaMmA
import Derived.Test.YtepnhmdjglpmeaaMmM
import Derived.Test.YtepnhmdjglpmeaaFxAll
namespace Go.Proofs.Ytepnhmdjglpmeaa
open Go.RowKit Go.Proofs.ShM Go.Proofs.FixM
set_option linter.unusedVariables false

def lineF (b : Nat) : Value := .func (.func 52) #[] #[.pointer (some ⟨b, 0, none⟩), .pointer (some ⟨b + 1, 0, none⟩), .pointer (some ⟨b + 1 + 1, 0, none⟩)]
theorem pmul_k (x y : Int) (hx : I64 x) (hy : I64 y) (W : World) : Calls Try.prog 25 #[.int .i64 x, .int .i64 y] W fun e W' => e = .returned (.tuple #[.int .i64 (mulV x y).1, .int .i64 (mulV x y).2]) ∧ Kp W W' := (Fx.mul_any x y hx hy W).mono fun e w' ⟨h1, h2⟩ => ⟨h1, h2.below⟩
theorem rmul_k (x y : Int) (hx : I64 x) (hy : I64 y) (W : World) : Calls Try.prog 56 #[.int .i64 x, .int .i64 y] W fun e W' => e = .returned (.tuple #[.int .i64 (mulV x y).1, .int .i64 (mulV x y).2]) ∧ Kp W W' := (Fx.rmul_any x y hx hy W).mono fun e w' ⟨h1, h2⟩ => ⟨h1, h2.below⟩

set_option maxHeartbeats 2000000 in
theorem along_any (b1 b2 K : Nat) (f g : Nat → Int) (w : World) (hK : K ≤ 16) (hf : ∀ k, k < K → I64 (f k)) (hg : ∀ k, k < K → I64 (g k))
    (h1 : ∀ (k : Nat) W, k < K → Kp w W → Calls Try.prog 52 #[.int .i64 (k : Int), .pointer (some ⟨b1, 0, none⟩), .pointer (some ⟨b1 + 1, 0, none⟩), .pointer (some ⟨b1 + 1 + 1, 0, none⟩)] W fun e W' => e = .returned (.int .i64 (f k)) ∧ W = W')
    (h2 : ∀ (k : Nat) W, k < K → Kp w W → Calls Try.prog 52 #[.int .i64 (k : Int), .pointer (some ⟨b2, 0, none⟩), .pointer (some ⟨b2 + 1, 0, none⟩), .pointer (some ⟨b2 + 1 + 1, 0, none⟩)] W fun e W' => e = .returned (.int .i64 (g k)) ∧ W = W') :
    Calls Try.prog 31 #[.func (.func 52) #[] #[.pointer (some ⟨b1, 0, none⟩), .pointer (some ⟨b1 + 1, 0, none⟩), .pointer (some ⟨b1 + 1 + 1, 0, none⟩)], .func (.func 52) #[] #[.pointer (some ⟨b2, 0, none⟩), .pointer (some ⟨b2 + 1, 0, none⟩), .pointer (some ⟨b2 + 1 + 1, 0, none⟩)], .int .i64 (K : Int)] w
      fun e w' => e = .returned (.tuple #[.int .i64 (dotV f g K).1, .int .i64 (dotV f g K).2]) ∧ Kp w w' := by
  have H1 := Lib.hid h1
  have H2 := Lib.hid h2
  have HI := Lib.hid (And.intro hf hg)
  have HD0 : Hid (Dt f g K 0 0) := dt_start
  have HP := Lib.hid pmul_k
  have HA : Hid (∀ (x y : Int) (W : World), I64 x → I64 y → Calls Try.prog 46 #[.int .i64 x, .int .i64 y] W fun e W' => e = .returned (.tuple #[.int .i64 (addV x y).1, .int .i64 (addV x y).2]) ∧ W = W') := fun x y W hx hy => add_any x y hx hy W
  obtain ⟨R, hR⟩ : ∃ R, R = dotV f g K := ⟨_, rfl⟩
  have HRR := Lib.hid hR
  rw [← hR]
  clear h1 h2 hf hg hR
  go_enter Try.func31, Try.ntmps31
  go_wp2
  go_loopw [8, 13] (fun v i wx => ∃ (j : Nat) (y : Int), v = .int .i64 y ∧ i = .int .i64 j ∧ Hid (Dt f g K j y) ∧ Hid (I64 y) ∧ Hid (Kp w wx)) (fun _ i _ => K - (intOf i).toNat)
  case atStart => exact ⟨0, 0, rfl, rfl, HD0.out, (by show I64 0; unfold I64; omega), Kp.refl _⟩
  case round =>
    obtain ⟨j, y, rfl, rfl, hT, hy, hk⟩ := hrel
    by_cases hj : j < K
    · have hj' : (j : Int) < (K : Int) := by omega
      have HG1 := Lib.hid (H1.out j wr hj hk.out)
      have HG2 := Lib.hid (H2.out j wr hj hk.out)
      have i1 := HI.out.1 j hj
      have i2 := HI.out.2 j hj
      have HM := Lib.hid (HP.out _ _ i1 i2 wr)
      by_cases hm : (mulV (f j) (g j)).2 = 0
      · obtain ⟨p, hp⟩ : ∃ p, mulV (f j) (g j) = (p, 0) := ⟨_, Prod.ext rfl hm⟩
        have hp64 : I64 p := by have := put_i64 (f j * g j / 4294967296); rw [show put (f j * g j / 4294967296) = (p, 0) from hp] at this; exact this
        have HAD := Lib.hid (fun W => HA.out y p W hy.out hp64)
        rw [hp] at HM
        by_cases ha : (addV y p).2 = 0
        · have HST := Lib.hid (dt_step hT.out hj hp ha)
          have HY : Hid (I64 (addV y p).1) := put_i64 _
          rw [ha] at HAD
          generalize (addV y p).1 = z at HST HY HAD
          generalize f j = fj at HG1 HM
          generalize g j = gj at HG2 HM
          clear i1 i2 hm hp ha hp64
          go_wp2_with fail
          refine (Hid.out HG1).mono ?_; rintro e0 w5 ⟨rfl, rfl⟩
          go_wp2_with fail
          refine (Hid.out HG2).mono ?_; rintro e0 w5 ⟨rfl, rfl⟩
          go_wp2_with fail
          refine (Hid.out HM).mono ?_; rintro e0 w6 ⟨rfl, k6⟩
          have K6 := Lib.hid (hk.out.tr k6)
          clear k6
          go_wp2_with fail
          refine (HAD.out _).mono ?_; rintro e0 w7 ⟨rfl, rfl⟩
          go_wp2
          go_roundw
          case rel => exact ⟨j + 1, z, rfl, by go_num, HST.out, HY.out, K6.out⟩
          case measure => simp [intOf]; omega
        · have HBD := Lib.hid (dt_bada hT.out hj hp ha)
          have he' : ((addV y p).2 != 0) = true := by simpa using ha
          generalize (addV y p).2 = er at HAD HBD he'
          generalize (addV y p).1 = z at HAD
          generalize f j = fj at HG1 HM
          generalize g j = gj at HG2 HM
          clear i1 i2 hm hp ha hp64
          go_wp2_with fail
          refine (Hid.out HG1).mono ?_; rintro e0 w5 ⟨rfl, rfl⟩
          go_wp2_with fail
          refine (Hid.out HG2).mono ?_; rintro e0 w5 ⟨rfl, rfl⟩
          go_wp2_with fail
          refine (Hid.out HM).mono ?_; rintro e0 w6 ⟨rfl, k6⟩
          have K6 := Lib.hid (hk.out.tr k6)
          clear k6
          go_wp2_with fail
          refine (HAD.out _).mono ?_; rintro e0 w7 ⟨rfl, rfl⟩
          go_wp2
          go_ret2
          exact ⟨ret_ints (by rw [HRR.out]; exact HBD.out), K6.out⟩
      · have HBD := Lib.hid (dt_badm hT.out hj hm)
        have he' : ((mulV (f j) (g j)).2 != 0) = true := by simpa using hm
        generalize (mulV (f j) (g j)).2 = er at HM HBD he'
        generalize (mulV (f j) (g j)).1 = z at HM
        generalize f j = fj at HG1 HM
        generalize g j = gj at HG2 HM
        clear i1 i2 hm
        go_wp2_with fail
        refine (Hid.out HG1).mono ?_; rintro e0 w5 ⟨rfl, rfl⟩
        go_wp2_with fail
        refine (Hid.out HG2).mono ?_; rintro e0 w5 ⟨rfl, rfl⟩
        go_wp2_with fail
        refine (Hid.out HM).mono ?_; rintro e0 w6 ⟨rfl, k6⟩
        have K6 := Lib.hid (hk.out.tr k6)
        clear k6
        go_wp2
        go_ret2
        exact ⟨ret_ints (by rw [HRR.out]; exact HBD.out), K6.out⟩
    · have hj' : ¬ (j : Int) < (K : Int) := by omega
      have HEN := Lib.hid (dt_end hT.out hj)
      go_wp2
      go_ret2
      exact ⟨ret_ints (by rw [HRR.out]; exact HEN.out), hk.out⟩
end Go.Proofs.Ytepnhmdjglpmeaa
