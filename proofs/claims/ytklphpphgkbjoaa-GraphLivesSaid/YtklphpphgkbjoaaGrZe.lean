/- The landed graph: numbers, each as often as is told. -/
import Derived.Test.YtklphpphgkbjoaaGrZa
import Derived.Conc.MuLone
namespace Go.Proofs.Ytklphpphgkbjoaa.Gz
open Go.RowKit Go.Proofs.ShM Go.Proofs.GrM
set_option linter.unusedVariables false
set_option linter.unusedSimpArgs false
set_option maxHeartbeats 4000000

def numbersV (n : Nat) (f : Nat → Nat) : List Int := (List.range n).flatMap fun i => List.replicate (f i) (i : Int)
theorem numbersV_succ (n : Nat) (f : Nat → Nat) : numbersV (n + 1) f = numbersV n f ++ List.replicate (f n) (n : Int) := by
  unfold numbersV
  rw [List.range_succ, List.flatMap_append]
  simp
theorem numbersV_len {f : Nat → Nat} (h : ∀ i, f i ≤ 100) : ∀ n, (numbersV n f).length ≤ 100 * n
  | 0 => by simp [numbersV]
  | n + 1 => by
    rw [numbersV_succ, List.length_append, List.length_replicate]
    have := numbersV_len h n
    have := h n
    omega
set_option maxRecDepth 100000 in
theorem numbers_any (N F : Nat) (L : List Value) (f : Nat → Nat) (r : List Int) (w : World) (hN : N ≤ 100) (hf : ∀ i, f i ≤ 100) (hr : r = numbersV N f)
    (HF : ∀ args W, (callFunc F args).run Try.prog W = .ok (.enter F args) W)
    (HT : Hid (∀ (k : Nat) W, k < N → Kp w W → Calls Try.prog F (Value.int .i64 (k : Int) :: L).toArray W fun e W' => e = .returned (.int .i64 (f k : Int)) ∧ Kp W W')) :
    Calls Try.prog 30 #[.int .i64 (N : Int), .func (.func F) #[] L.toArray] w (RetOg r w) := by
  have HR := Lib.hid hr
  have HFF := Lib.hid hf
  clear hr hf
  go_enter Try.func30, Try.ntmps30
  go_wp2
  go_loopw [5, 8] (fun v i wx => ∃ (k : Nat) (E : Option Addr) (g : Nat) (done : List Int), v = .slice E done.length g ∧ i = .int .i64 (k : Int) ∧ Hid (k ≤ N) ∧ Hid (done = numbersV k f) ∧ Hid (Own w.heap.size wx (.slice E done.length g) done) ∧ Hid (Kp w wx)) (fun _ i _ => N - (intOf i).toNat)
  case atStart => exact ⟨0, none, 0, [], rfl, rfl, Nat.zero_le _, rfl, Own.nil_ _ _, Kp.refl _⟩
  case round =>
    obtain ⟨k, E, g, done, rfl, rfl, hk, hD, hO, hK⟩ := hrel
    by_cases hj : k < N
    · have hj' : (k : Int) < (N : Int) := by omega
      obtain ⟨y, hy⟩ : ∃ y, y = f k := ⟨_, rfl⟩
      have HC := Lib.hid (HT.out k wr hj hK.out)
      rw [← hy] at HC
      have hy100 : y ≤ 100 := by rw [hy]; exact HFF.out k
      have HS : Hid (numbersV (k + 1) f = numbersV k f ++ List.replicate y (k : Int)) := by show _ = _; rw [hy]; exact numbersV_succ k f
      have HLN : Hid ((numbersV k f).length ≤ 10000) := by show _ ≤ _; have := numbersV_len HFF.out k; omega
      clear hy
      go_wp2_with fail
      refine HC.out.mono ?_; rintro e0 w1 ⟨rfl, k1⟩
      have K1 : Hid (Kp w w1) := hK.out.tr k1
      have O1 := Lib.hid (hO.out.kp k1)
      clear k1
      go_wp2
      go_loopw [5, 14] (fun v i wx => ∃ (j : Nat) (E : Option Addr) (g : Nat) (d2 : List Int), v = .slice E d2.length g ∧ i = .int .i64 (j : Int) ∧ Hid (j ≤ y) ∧ Hid (d2 = numbersV k f ++ List.replicate j (k : Int)) ∧ Hid (Own w.heap.size wx (.slice E d2.length g) d2) ∧ Hid (Kp w wx)) (fun _ i _ => y - (intOf i).toNat)
      case atStart => exact ⟨0, E, g, done, rfl, rfl, Nat.zero_le _, (by show done = _; rw [hD.out]; simp), O1.out, K1.out⟩
      case round =>
        obtain ⟨j, E2, g2, d2, rfl, rfl, hj2, hD2, hO2, hK2⟩ := hrel
        by_cases hq : j < y
        · have hq' : (j : Int) < (y : Int) := by omega
          have hdl : d2.length ≤ 10200 := by have := HLN.out; rw [hD2.out, List.length_append, List.length_replicate]; omega
          have HD3 : Hid (d2 ++ [(k : Int)] = numbersV k f ++ List.replicate (j + 1) (k : Int)) := by show _ = _; rw [hD2.out, List.append_assoc, List.replicate_succ']
          have hO5 := Lib.hid (hO2.out.kp (Kp.alloc_ wr (.cells #[.int .i64 (k : Int)] 3)))
          have hR5 := Lib.hid (Rd.one wr (k : Int) 3)
          have hs5 : Hid (w.heap.size ≤ (wr.alloc (.cells #[.int .i64 (k : Int)] 3)).heap.size) := by show w.heap.size ≤ _; have := hK2.out.size; simp; omega
          go_wp2_with (at_builtin; refine wpList_app rfl (.tmp 16) (.tmp 18) rfl _ d2 rfl hO5.out _ 1 [(k : Int)] 1 rfl rfl hR5.out (by simp; omega) hs5.out ?_; intro z1 A1 c1 w6 HZ o1 b1; have K6 : Hid (Kp w w6) := ((Below.alloc hK2.out hK2.out.size _).trans b1); have O6 := Lib.hid o1; clear o1 b1)
          go_roundw
          case rel => exact ⟨j + 1, A1, c1, z1, rfl, by go_num, (by show j + 1 ≤ y; omega), (by rw [HZ.out]; exact HD3.out), O6.out, K6.out⟩
          case measure => simp [intOf]; omega
        · have hq' : ¬ (j : Int) < (y : Int) := by omega
          obtain rfl : j = y := by have := hj2.out; omega
          go_wp2
          go_roundw
          case rel => exact ⟨k + 1, E2, g2, d2, rfl, by go_num, (by show k + 1 ≤ N; omega), (by rw [HS.out]; exact hD2.out), hO2.out, hK2.out⟩
          case measure => simp [intOf]; omega
    · have hj' : ¬ (k : Int) < (N : Int) := by omega
      obtain rfl : k = N := by have := hk.out; omega
      go_wp2
      go_ret
      rw [HR.out, ← hD.out]
      exact ⟨E, g, rfl, hO.out, hK.out⟩
end Go.Proofs.Ytklphpphgkbjoaa.Gz
