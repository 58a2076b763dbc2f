/- GraphTells, over the contracts of the calls. -/
import Derived.Test.YtklphpphgkbjoaaGrMore
namespace Go.Proofs.Ytklphpphgkbjoaa
open Go.RowKit Go.Proofs.ShM Go.Proofs.GrM
set_option linter.unusedVariables false
set_option maxHeartbeats 8000000

set_option maxRecDepth 100000 in
theorem gtells_main (C : GrC) (A : Option Addr) (c : Nat) (l : List Nd) (node : Int) (W : World) (R : RdG W A l) (L : l.length ≤ c) (M : c ≤ 9223372036854775807) (hS : SmallG l) (hf : fewN l = true) (hi : I64 node) (b is : Bool) (s : List Int) (hb : checkB l = b) (hin : inputsV l = (s, is)) :
    Calls Try.prog 3 #[.slice A l.length c, .int .i64 node] W fun e w' => e = .returned (.bool true) ∧ Below W.heap.size W w' := by
  have HC := Lib.hid C
  have HRD := Lib.hid R
  have HAW : Hid (Calls Try.prog 9 #[] W fun e w' => e = .returned (.bool true) ∧ Kp W w') := grawake_any C W
  have HF : Hid (∀ V, Kp W V → Calls Try.prog 10 #[.slice A l.length c] V fun e w' => e = .returned (.bool true) ∧ w' = V) := fun V k => by
    have := rfew10_any A c l V (R.kp k)
    rw [hf] at this; exact this
  have H1 : Hid (∀ V, Kp W V → Calls Try.prog 11 #[.slice A l.length c] V (RetSh s is s.length V)) := fun V k => C.inputs A c l.length s.length l (s, is) V (R.kp k) L M hS rfl hin rfl
  have H2 : Hid (∀ V, Kp W V → Calls Try.prog 12 #[.slice A l.length c] V (RetIn A l s is V)) := fun V k => by
    have := rinputs_any rcheck10 A c l V (R.kp k)
    rw [hin] at this; exact this
  have H3 : Hid (∀ V, Kp W V → Calls Try.prog 13 #[.slice A l.length c] V fun e w' => e = .returned (.bool b) ∧ Kp V w') := fun V k => C.check A c l.length l b V (R.kp k) L M hS rfl hb
  have H4 : Hid (∀ V, Kp W V → Calls Try.prog 14 #[.slice A l.length c] V fun e w' => e = .returned (.bool b) ∧ Kp V w') := fun V k => by
    have := rcheck10 A c l V (R.kp k)
    rw [hb] at this; exact this
  obtain ⟨v, hv⟩ : ∃ v, arityV node = v := ⟨_, rfl⟩
  have H5 : Hid (∀ V, Calls Try.prog 15 #[.int .i64 node] V fun e w' => e = .returned (.int .i64 v) ∧ Kp V w') := fun V => C.arity node v V hi hv
  have H6 : Hid (∀ V, Calls Try.prog 16 #[.int .i64 node] V fun e w' => e = .returned (.int .i64 v) ∧ w' = V) := fun V => by
    have := rarity_any node V
    rw [hv] at this; exact this
  obtain ⟨p, hp⟩ : ∃ p, paramsV l = p := ⟨_, rfl⟩
  have H7 : Hid (∀ V, Kp W V → Calls Try.prog 18 #[.slice A l.length c] V (RetG p p.length V)) := fun V k => C.params A c l.length p.length l p V (R.kp k) L M hS rfl hp rfl
  have H8 : Hid (∀ V, Kp W V → Calls Try.prog 19 #[.slice A l.length c] V (RetOg p V)) := fun V k => by
    have := rparams_any rcheck10 A c l V (R.kp k)
    rw [hp] at this; exact this
  obtain ⟨u, hu⟩ : ∃ u, usesV l node = u := ⟨_, rfl⟩
  have H9 : Hid (∀ V, Kp W V → Calls Try.prog 20 #[.slice A l.length c, .int .i64 node] V (RetG u u.length V)) := fun V k => C.uses A c l.length u.length l node u V (R.kp k) L M hS hi rfl hu rfl
  have H10 : Hid (∀ V, Kp W V → Calls Try.prog 21 #[.slice A l.length c, .int .i64 node] V (RetOg u V)) := fun V k => by
    have := ruses_any rcheck10 A c l node V (R.kp k)
    rw [hu] at this; exact this
  obtain ⟨q, hq⟩ : ∃ q, liveV l = q := ⟨_, rfl⟩
  have H11 : Hid (∀ V, Kp W V → Calls Try.prog 22 #[.slice A l.length c] V (RetG q q.length V)) := fun V k => C.live A c l.length q.length l q V (R.kp k) L M hS rfl hq rfl
  have H12 : Hid (∀ V, Kp W V → Calls Try.prog 23 #[.slice A l.length c] V (RetOg q V)) := fun V k => by
    have := rlive_any rcheck10 A c l V (R.kp k)
    rw [hq] at this; exact this
  have hvv : (v == v) = true := by simp
  clear C R hS hf hi hb hin hv hp hu hq L M
  cases b <;> cases is
  all_goals
    go_enter Try.func3, Try.ntmps3
    go_wp2_with fail
    refine (Hid.out HAW).mono ?_; rintro e w1 ⟨rfl, k1⟩
    have K1 := Lib.hid k1
    clear k1
    go_wp2_with fail
    refine (HF.out _ K1.out).mono ?_; rintro e w2 ⟨rfl, rfl⟩
    go_wp2_with fail
    refine (H1.out _ K1.out).mono ?_; rintro e w3 ⟨A3, c3, rfl, r3, _, k3⟩
    have K3 := Lib.hid (K1.out.tr k3)
    clear k3
    go_wp2_with fail
    refine (H2.out _ K3.out).mono ?_; rintro e w4 ⟨A4, c4, rfl, r4, _, _, k4⟩
    have K4 := Lib.hid (K3.out.tr k4)
    have r3 := Lib.hid (r3.out.kp k4)
    have r4 := Lib.hid (r4 _ k4)
    clear k4
    go_wp2_with fail
    refine (H3.out _ K4.out).mono ?_; rintro e w5 ⟨rfl, k5⟩
    have K5 := Lib.hid (K4.out.tr k5)
    have r3 := Lib.hid (r3.out.kp k5)
    have r4 := Lib.hid (r4.out.kp k5)
    clear k5
    go_wp2_with fail
    refine (H4.out _ K5.out).mono ?_; rintro e w6 ⟨rfl, k6⟩
    have K6 := Lib.hid (K5.out.tr k6)
    have r3 := Lib.hid (r3.out.kp k6)
    have r4 := Lib.hid (r4.out.kp k6)
    clear k6
    go_wp2_with fail
    refine (H5.out _).mono ?_; rintro e w7 ⟨rfl, k7⟩
    have K7 := Lib.hid (K6.out.tr k7)
    have r3 := Lib.hid (r3.out.kp k7)
    have r4 := Lib.hid (r4.out.kp k7)
    clear k7
    go_wp2_with fail
    refine (H6.out _).mono ?_; rintro e w8 ⟨rfl, rfl⟩
    go_wp2_with fail
    refine (same_g s s r3.out r4.out rfl rfl (r := true) (by simp)).mono ?_; rintro e w9 ⟨rfl, k9⟩
    have K9 := Lib.hid (K7.out.tr k9)
    clear k9 r3 r4
    go_wp2_with fail
    refine (H7.out _ K9.out).mono ?_; rintro e w10 ⟨A10, c10, rfl, r10, _, k10⟩
    have K10 := Lib.hid (K9.out.tr k10)
    clear k10
    go_wp2_with fail
    refine (H8.out _ K10.out).mono ?_; rintro e w11 ⟨A11, c11, rfl, r11, k11⟩
    have K11 := Lib.hid (K10.out.tr k11)
    have r10 := Lib.hid (r10.out.kp k11)
    have r11 := Lib.hid (i_of_own r11)
    clear k11
    go_wp2_with fail
    refine (same_g p p r10.out r11.out rfl rfl (r := true) (by simp)).mono ?_; rintro e w12 ⟨rfl, k12⟩
    have K12 := Lib.hid (K11.out.tr k12)
    clear k12 r10 r11
    go_wp2_with fail
    refine (H9.out _ K12.out).mono ?_; rintro e w13 ⟨A13, c13, rfl, r13, _, k13⟩
    have K13 := Lib.hid (K12.out.tr k13)
    clear k13
    go_wp2_with fail
    refine (H10.out _ K13.out).mono ?_; rintro e w14 ⟨A14, c14, rfl, r14, k14⟩
    have K14 := Lib.hid (K13.out.tr k14)
    have r13 := Lib.hid (r13.out.kp k14)
    have r14 := Lib.hid (i_of_own r14)
    clear k14
    go_wp2_with fail
    refine (same_g u u r13.out r14.out rfl rfl (r := true) (by simp)).mono ?_; rintro e w15 ⟨rfl, k15⟩
    have K15 := Lib.hid (K14.out.tr k15)
    clear k15 r13 r14
    go_wp2_with fail
    refine (H11.out _ K15.out).mono ?_; rintro e w16 ⟨A16, c16, rfl, r16, _, k16⟩
    have K16 := Lib.hid (K15.out.tr k16)
    clear k16
    go_wp2_with fail
    refine (H12.out _ K16.out).mono ?_; rintro e w17 ⟨A17, c17, rfl, r17, k17⟩
    have K17 := Lib.hid (K16.out.tr k17)
    have r16 := Lib.hid (r16.out.kp k17)
    have r17 := Lib.hid (i_of_own r17)
    clear k17
    go_wp2_with fail
    refine (same_g q q r16.out r17.out rfl rfl (r := true) (by simp)).mono ?_; rintro e w18 ⟨rfl, k18⟩
    have K18 := Lib.hid (K17.out.tr k18)
    clear k18 r16 r17
    go_wp2
    go_ret
    exact ⟨rfl, K18.out⟩
set_option maxRecDepth 100000 in
theorem gtells_walk (C : GrC) (A : Option Addr) (c : Nat) (l : List Nd) (node : Int) (W : World) (R : RdG W A l) (N : ∀ t ∈ l, Nd64 t) (L : l.length ≤ c) (M : c ≤ 9223372036854775807) (hi : I64 node) :
    Calls Try.prog 3 #[.slice A l.length c, .int .i64 node] W fun e w' => e = .returned (.bool true) ∧ Below W.heap.size W w' := by
  cases hf : fewN l with
  | false =>
    have HAW : Hid (Calls Try.prog 9 #[] W fun e w' => e = .returned (.bool true) ∧ Kp W w') := grawake_any C W
    have HF : Hid (∀ V, Kp W V → Calls Try.prog 10 #[.slice A l.length c] V fun e w' => e = .returned (.bool false) ∧ w' = V) := fun V k => by
      have := rfew10_any A c l V (R.kp k)
      rw [hf] at this; exact this
    clear hf C R N hi
    go_enter Try.func3, Try.ntmps3
    go_wp2_with fail
    refine (Hid.out HAW).mono ?_; rintro e w1 ⟨rfl, k1⟩
    have K := Lib.hid k1
    clear k1
    go_wp2_with fail
    refine (HF.out _ K.out).mono ?_; rintro e w2 ⟨rfl, rfl⟩
    go_wp2
    go_ret
    exact ⟨rfl, K.out⟩
  | true => exact gtells_main C A c l node W R L M (small_few hf N) hf hi _ _ _ rfl rfl
end Go.Proofs.Ytklphpphgkbjoaa
