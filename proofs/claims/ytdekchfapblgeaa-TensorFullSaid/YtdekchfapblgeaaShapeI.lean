/- Whether one shape fits another, in layer 2 and in the document; the calls whose answers the document fixes. -/
import Derived.Test.YtdekchfapblgeaaShapeH
namespace Go.Proofs.Ytdekchfapblgeaa
open Go.RowKit Go.Proofs.ShM

namespace ShI
theorem fits_of {a b c : List Int} (h : joinV a b = (c, 0)) : (c == b) = fitsV a b := by
  unfold fitsV; rw [h, Bool.eq_iff_iff]; simp
theorem fits_no {a b : List Int} (h : joinV a b = ([], 20)) : false = fitsV a b := by unfold fitsV; rw [h]; simp
end ShI

set_option maxHeartbeats 1000000 in
theorem fits_any (A B : Option Addr) (c d : Nat) (a b : List Int) (w : World) (h : Rd w A a) (g : Rd w B b) :
    Calls Try.prog 26 #[.slice A a.length c, .slice B b.length d] w fun e w' => e = .returned (.bool (fitsV a b)) ∧ Kp w w' := by
  have HJ := Lib.hid (join_any A B c d a b w h g)
  have G := Lib.hid g
  clear h g
  rcases join_cases a b with ⟨l, hl, _⟩ | hl
  · rw [hl] at HJ
    have HF := Lib.hid (ShI.fits_of hl)
    clear hl
    go_enter Try.func26, Try.ntmps26
    go_wp2_with fail
    refine (Calls.mono (Hid.out HJ)) ?_; rintro e w1 ⟨A1, c1, rfl, h1, k1⟩
    have HE := Lib.hid (equal_any A1 B c1 d l b w1 h1.rd (G.out.kp k1))
    have K1 := Lib.hid k1
    clear h1 k1
    go_wp2_with (go_at_call 41; refine (Calls.mono (Hid.out HE)) ?_; rintro e w2 ⟨rfl, n, rfl⟩)
    go_ret
    exact ⟨ret_bool HF.out, K1.out.tr (Kp.drewN_ _ _)⟩
  · rw [hl] at HJ
    have HF := Lib.hid (ShI.fits_no hl)
    clear hl
    go_enter Try.func26, Try.ntmps26
    go_wp2_with fail
    refine (Calls.mono (Hid.out HJ)) ?_; rintro e w1 ⟨A1, c1, rfl, h1, k1⟩
    go_wp2
    go_ret
    exact ⟨ret_bool HF.out, k1⟩

set_option maxHeartbeats 1000000 in
theorem rfits_any (A B : Option Addr) (c d : Nat) (a b : List Int) (w : World) (h : Rd w A a) (g : Rd w B b) :
    Calls Try.prog 36 #[.slice A a.length c, .slice B b.length d] w fun e w' => e = .returned (.bool (fitsV a b)) ∧ Kp w w' := by
  have HJ := Lib.hid (rjoin_any A B c d a b w h g)
  have G := Lib.hid g
  clear h g
  rcases join_cases a b with ⟨l, hl, _⟩ | hl
  · rw [hl] at HJ
    have HF := Lib.hid (ShI.fits_of hl)
    clear hl
    go_enter Try.func36, Try.ntmps36
    go_wp2_with fail
    refine (Calls.mono (Hid.out HJ)) ?_; rintro e w1 ⟨A1, c1, rfl, h1, k1⟩
    have HE := Lib.hid (same_any A1 B c1 d l b w1 h1.rd (G.out.kp k1))
    have K1 := Lib.hid k1
    clear h1 k1
    go_wp2_with (go_at_call 27; refine (Calls.mono (Hid.out HE)) ?_; rintro e w2 ⟨rfl, n, rfl⟩)
    go_ret
    exact ⟨ret_bool HF.out, K1.out.tr (Kp.drewN_ _ _)⟩
  · rw [hl] at HJ
    have HF := Lib.hid (ShI.fits_no hl)
    clear hl
    go_enter Try.func36, Try.ntmps36
    go_wp2_with fail
    refine (Calls.mono (Hid.out HJ)) ?_; rintro e w1 ⟨A1, c1, rfl, h1, k1⟩
    go_wp2
    go_ret
    exact ⟨ret_bool HF.out, k1⟩
end Go.Proofs.Ytdekchfapblgeaa
