/- What roots of layer 1 answer. -/
import Derived.Test.YtlnbphmeinjefaaFixF
import Derived.Deep.RegionWith
namespace Go.Proofs.Ytlnbphmeinjefaa
open Go.RowKit Go.Proofs.FixM

set_option maxHeartbeats 400000 in
theorem fits_any (W n : Nat) (hn : n < 18446744073709551616) (b : Nat) (w : World) (hb : b < w.heap.size)
    (h0 : w.cell? ⟨b, 0, none⟩ = some (.int .u64 ((W / 18446744073709551616 : Nat) : Int))) (h1 : w.cell? ⟨b, 1, none⟩ = some (.int .u64 ((W % 18446744073709551616 : Nat) : Int))) :
    Calls Try.prog 43 #[.int .u64 n, .pointer (some ⟨b, 0, none⟩)] w fun e w' => e = .returned (.bool (!decide (W < n * n))) ∧ Gr w w' := by
  have Ht := fun w' => times_any n n hn hn w'
  have Ha := fun w' => above_any (n * n) W w'
  generalize decide (W < n * n) = z at *
  generalize wv (n * n) = v at *
  unfold wv at Ha
  generalize ((W / 18446744073709551616 : Nat) : Int) = x at *
  generalize ((W % 18446744073709551616 : Nat) : Int) = y at *
  have H := Lib.hid (And.intro Ht Ha); clear Ht Ha
  go_enter Try.func43, Try.ntmps43
  go_wp2
  go_region_with first
    | (go_at_call 28; refine (H.out.1 _).mono ?_; rintro e w1 ⟨rfl, hg⟩; have h0' := hg.cell hb h0; have h1' := hg.cell hb h1; have hG := Lib.hid hg)
    | (go_at_call 44; refine (H.out.2 _).mono ?_; rintro e w2 ⟨rfl, hg2⟩)
  all_goals
    go_wp2
    go_ret
    refine ⟨rfl, ?_⟩
    exact (hg.trans hg2).undrew

set_option maxHeartbeats 400000 in
theorem root_any (W : Nat) (hW : W < 79228162514264337593543950336) (w : World) :
    Calls Try.prog 34 #[wv W] w fun e w' => e = .returned (.int .i64 (sqR W : Nat)) ∧ Gr w w' := by
  have Hf := fun n hn w' hb h0 h1 => fits_any W n hn w.heap.size w' hb h0 h1
  have hini := rinit W
  have hlt := sqR_lt hW
  unfold wv
  generalize ((W / 18446744073709551616 : Nat) : Int) = x at *
  generalize ((W % 18446744073709551616 : Nat) : Int) = y at *
  have H := Lib.hid Hf; clear Hf
  have HI := Lib.hid hini; clear hini
  have HL := Lib.hid (And.intro hlt hW); clear hlt hW
  go_enter Try.func34, Try.ntmps34
  go_wp2
  go_loopw [4, 5] (fun a c wr => ∃ k n b : Nat, a = .int .u64 n ∧ c = .int .u64 b ∧ Hid (b = 2 ^ k / 2) ∧ RInv W k n ∧ Gr (w.alloc (.cells #[.int .u64 x, .int .u64 y] 39)) wr) (fun _ c _ => (intOf c).toNat)
  case atStart => exact ⟨48, 0, 140737488355328, rfl, rfl, Lib.hid (by decide), HI.out, Gr.refl _⟩
  case round =>
    obtain ⟨k, n, b, rfl, rfl, hb, inv, hg⟩ := hrel
    cases k with
    | zero =>
      obtain rfl : b = 0 := hb.out
      have he : n = sqR W := inv.eq
      have HE := Lib.hid he; clear he inv hb
      go_wp2
      go_ret
      refine ⟨ret1_int ?_, ((Gr.refl _).alloc _ _).trans hg⟩
      have := HE.out; have := HL.out.1
      go_arith
    | succ k =>
      have e2 : b = 2 ^ k := by have := hb.out; rw [Nat.pow_succ] at this; omega
      have hb0 : 0 < b := by rw [e2]; exact Nat.two_pow_pos k
      have hm1 : n + b < 281474976710656 := by have := inv.lt; rw [Nat.pow_succ, ← e2] at this; omega
      have EO : bits .or .u64 (n : Int) (b : Int) = ((n + b : Nat) : Int) := by
        rw [bits_or_u64_nat n b (by omega) (by omega), e2, or_add inv.mod]
      have h0 := hg.ncell 0 rfl
      have h1 := hg.ncell 1 rfl
      have hz := hg.below.size
      simp only [World.size_alloc] at hz
      have HF := H.out (n + b) (by omega) wr (by omega) h0 h1
      have h2 : (b : Int) / 2 = ((b / 2 : Nat) : Int) := by omega
      by_cases hc : W < (n + b) * (n + b)
      · have inv' : RInv W k n := rno inv (by rw [← e2]; exact hc)
        simp only [hc, decide_true, Bool.not_true] at HF
        have hb' : Hid (b / 2 = 2 ^ k / 2) := by rw [e2]; exact Lib.hid rfl
        have HF' := Lib.hid HF
        have hlt : n < 281474976710656 := by omega
        clear HF inv hb e2 hc h0 h1 hz hm1
        generalize b / 2 = b2 at *
        generalize n + b = m at *
        go_wp2_with (go_at_call 43; refine HF'.out.mono ?_; rintro e w1 ⟨rfl, hg1⟩)
        go_roundw
        case rel => exact ⟨k, n, b2, rfl, rfl, hb', inv', hg.trans hg1⟩
        case measure => simp [intOf]; omega
      · have inv' : RInv W k (n + b) := by have := ryes inv (by rw [← e2]; exact hc); rwa [← e2] at this
        simp only [hc, decide_false, Bool.not_false] at HF
        have hb' : Hid (b / 2 = 2 ^ k / 2) := by rw [e2]; exact Lib.hid rfl
        have HF' := Lib.hid HF
        clear HF inv hb e2 hc h0 h1 hz
        generalize b / 2 = b2 at *
        generalize n + b = m at *
        go_wp2_with (go_at_call 43; refine HF'.out.mono ?_; rintro e w1 ⟨rfl, hg1⟩)
        go_roundw
        case rel => exact ⟨k, m, b2, rfl, rfl, hb', inv', hg.trans hg1⟩
        case measure => simp [intOf]; omega

set_option maxHeartbeats 400000 in
theorem sqrt_any (a : Int) (ha : I64 a) (w : World) :
    Calls Try.prog 21 #[.int .i64 a] w (Two (sqrtV a) w) := by
  by_cases c : a < 0
  · rw [show sqrtV a = (0, 12) from if_pos c]
    go_enter Try.func21, Try.ntmps21
    go_wp2
    go_ret2
    exact ⟨rfl, Gr.refl _⟩
  · rw [show sqrtV a = (((sqR (a.natAbs * 4294967296) : Nat) : Int), (0 : Int)) from if_neg c]
    have la := abs_lt ha
    have Hs := fun w' => size_any a ha w'
    have Ht := fun w' => times_any a.natAbs 4294967296 (by omega) (by omega) w'
    have Hr := fun w' => root_any (a.natAbs * 4294967296) (by omega) w'
    rw [show ((4294967296 : Nat) : Int) = 4294967296 from rfl] at Ht
    generalize sqR (a.natAbs * 4294967296) = r at *
    generalize wv (a.natAbs * 4294967296) = v at *
    generalize a.natAbs = x at *
    have H := Lib.hid (And.intro Hs (And.intro Ht Hr))
    clear Hs Ht Hr la
    go_enter Try.func21, Try.ntmps21
    go_wp2_with first
      | (go_at_call 29; refine (H.out.1 _).mono ?_; rintro e w1 ⟨rfl, rfl⟩)
      | (go_at_call 28; refine (H.out.2.1 _).mono ?_; rintro e w1 ⟨rfl, hg⟩)
      | (go_at_call 34; refine (H.out.2.2 _).mono ?_; rintro e w2 ⟨rfl, hg2⟩)
    go_ret2
    exact ⟨rfl, hg.trans hg2⟩
end Go.Proofs.Ytlnbphmeinjefaa
