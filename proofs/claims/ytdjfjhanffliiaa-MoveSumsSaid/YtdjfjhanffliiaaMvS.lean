/- The law's own functions of layer 5: small, total. -/
import Derived.Test.YtdjfjhanffliiaaMvP
namespace Go.Proofs.ShM
def smB (x : Int) : Bool := decide (-1099511627776 ≤ x) && decide (x ≤ 1099511627776)
def smallV (xs : List Int) : Bool := xs.all smB
theorem small_step {xs : List Int} {k : Nat} {x : Int} (h : smallV (xs.drop k) = smallV xs) (hx : xs[k]? = some x) (hb : smB x = true) : smallV (xs.drop (k + 1)) = smallV xs := by
  rw [← h, drop_of hx]; unfold smallV; rw [List.all_cons, hb, Bool.true_and]
theorem small_bad {xs : List Int} {k : Nat} {x : Int} (hx : xs[k]? = some x) (hb : smB x = false) : smallV xs = false := by
  unfold smallV
  rw [List.all_eq_false]
  exact ⟨x, List.mem_of_getElem? hx, by simp [hb]⟩
theorem small_end {xs : List Int} {k : Nat} (h : smallV (xs.drop k) = smallV xs) (hk : ¬ k < xs.length) : smallV xs = true := by
  rw [← h, List.drop_eq_nil_of_le (by omega)]; rfl
theorem small_get {xs : List Int} (h : smallV xs = true) {k : Nat} {x : Int} (hx : xs[k]? = some x) : -1099511627776 ≤ x ∧ x ≤ 1099511627776 := by
  have := List.all_eq_true.1 h x (List.mem_of_getElem? hx)
  unfold smB at this
  simpa using this
/-- The sum of the first ones. -/
def totK (xs : List Int) (k : Nat) : Int := sg k fun i => xs.getD i 0
theorem totK_step {xs : List Int} {k : Nat} {x : Int} (hx : xs[k]? = some x) : totK xs (k + 1) = totK xs k + x := by
  have e : xs.getD k 0 = x := by rw [List.getD, hx]; rfl
  rw [← e]
  rfl
theorem totK_bnd {xs : List Int} {b : Int} (hb : ∀ (k : Nat) (x : Int), xs[k]? = some x → -b ≤ x ∧ x ≤ b) : ∀ k : Nat, k ≤ xs.length → -(b * k) ≤ totK xs k ∧ totK xs k ≤ b * k := by
  intro k
  induction k with
  | zero => intro _; simp [totK, sg]
  | succ k ih =>
    intro hk
    obtain ⟨g1, g2⟩ := ih (by omega)
    have hx : xs[k]? = some xs[k] := List.getElem?_eq_getElem (by omega)
    have := hb k _ hx
    rw [totK_step hx]
    have e : b * ((k + 1 : Nat) : Int) = b * (k : Int) + b := by rw [Int.natCast_add, Int.mul_add]; simp
    rw [e]
    omega
end Go.Proofs.ShM
namespace Go.Proofs.Ytdjfjhanffliiaa
open Go.RowKit Go.Proofs.ShM
set_option linter.unusedVariables false

set_option maxHeartbeats 1000000 in
theorem small_any (A B : Option Addr) (c d n : Nat) (xs : List Int) (w : World) (hB : Rd w B xs) (hl : xs.length ≤ 1000) :
    Calls Try.prog 25 #[.agg #[.slice A n c, .slice B xs.length d]] w fun e w' => e = .returned (.bool (smallV xs)) ∧ Kp w w' := by
  have HB := Lib.hid hB
  have TB0 : Hid (Bk (w.alloc (.cells #[.slice A n c, .slice B xs.length d] 24)) w.heap.size A n c B xs.length d) := Bk.new rfl
  obtain ⟨W0, HW0⟩ : ∃ W0, Hid (W0 = w.alloc (.cells #[.slice A n c, .slice B xs.length d] 24)) := ⟨_, rfl⟩
  rw [← HW0.out] at TB0
  have K0 : Hid (Kp w W0) := by show Kp _ _; rw [HW0.out]; exact Kp.alloc_ _ _
  clear hB
  go_enter Try.func25, Try.ntmps25
  go_wp2
  rw [← HW0.out]
  go_loopw [3] (fun i wr => ∃ k : Nat, i = .int .i64 k ∧ Hid (k ≤ xs.length) ∧ Hid (smallV (xs.drop k) = smallV xs) ∧ Hid (wr = W0)) (fun i _ => xs.length - (intOf i).toNat)
  case atStart => exact ⟨0, rfl, Lib.hid (Nat.zero_le _), Lib.hid rfl, Lib.hid rfl⟩
  case round =>
    obtain ⟨k, rfl, hkl, hs, hw0⟩ := hrel
    obtain rfl : wr = W0 := hw0.out
    have hkl' : k ≤ xs.length := hkl.out
    have t1 := TB0.out.c1
    by_cases hlt : k < xs.length
    · obtain ⟨ad, x, rfl, hb, hx, hc⟩ := (HB.out.kp K0.out).at_ hlt
      have j1 : (0 : Int) ≤ (k : Int) := by omega
      have j2 : (k : Int) < (xs.length : Int) := by omega
      by_cases c1 : x < -1099511627776
      · have HF := Lib.hid (small_bad hx (by unfold smB; simp; omega))
        have c1' : (decide (x < -1099511627776)) = true := by simpa using c1
        clear hx c1
        go_wp2
        go_ret
        rw [HF.out]; exact ⟨rfl, K0.out⟩
      · by_cases c2 : 1099511627776 < x
        · have HF := Lib.hid (small_bad hx (by unfold smB; simp; omega))
          have c1' : (decide (x < -1099511627776)) = false := by simpa using c1
          have c2' : (decide (1099511627776 < x)) = true := by simpa using c2
          clear hx c1 c2
          go_wp2
          go_ret
          rw [HF.out]; exact ⟨rfl, K0.out⟩
        · have HS := Lib.hid (small_step hs.out hx (by unfold smB; simp; omega))
          have c1' : (decide (x < -1099511627776)) = false := by simpa using c1
          have c2' : (decide (1099511627776 < x)) = false := by simpa using c2
          clear hx c1 c2
          go_wp2
          go_roundw
          case rel => exact ⟨k + 1, by go_num, Lib.hid hlt, HS.out, by first | exact Lib.hid rfl | exact Lib.hid trivial⟩
          case measure => simp [intOf]; omega
    · have HF := Lib.hid (small_end hs.out hlt)
      go_wp2
      go_ret
      rw [HF.out]; exact ⟨rfl, K0.out⟩

set_option maxHeartbeats 1000000 in
theorem total_any (A B : Option Addr) (c d n : Nat) (xs : List Int) (w : World) (hB : Rd w B xs) (hl : xs.length ≤ 64) (hb : ∀ (k : Nat) (x : Int), xs[k]? = some x → -2199023255552 ≤ x ∧ x ≤ 2199023255552) :
    Calls Try.prog 26 #[.agg #[.slice A n c, .slice B xs.length d]] w fun e w' => e = .returned (.int .i64 (totL xs)) ∧ Kp w w' := by
  have HB := Lib.hid hB
  have HBD := Lib.hid (totK_bnd hb)
  have HX := Lib.hid hb
  have TB0 : Hid (Bk (w.alloc (.cells #[.slice A n c, .slice B xs.length d] 24)) w.heap.size A n c B xs.length d) := Bk.new rfl
  obtain ⟨W0, HW0⟩ : ∃ W0, Hid (W0 = w.alloc (.cells #[.slice A n c, .slice B xs.length d] 24)) := ⟨_, rfl⟩
  rw [← HW0.out] at TB0
  have K0 : Hid (Kp w W0) := by show Kp _ _; rw [HW0.out]; exact Kp.alloc_ _ _
  clear hB hb
  go_enter Try.func26, Try.ntmps26
  go_wp2
  rw [← HW0.out]
  go_loopw [3, 4] (fun v i wr => ∃ (k : Nat) (z : Int), i = .int .i64 k ∧ v = .int .i64 z ∧ Hid (k ≤ xs.length) ∧ Hid (z = totK xs k) ∧ Hid (wr = W0)) (fun _ i _ => xs.length - (intOf i).toNat)
  case atStart => exact ⟨0, 0, rfl, rfl, Lib.hid (Nat.zero_le _), Lib.hid rfl, Lib.hid rfl⟩
  case round =>
    obtain ⟨k, z, rfl, rfl, hkl, hz, hw0⟩ := hrel
    obtain rfl : wr = W0 := hw0.out
    have hkl' : k ≤ xs.length := hkl.out
    have t1 := TB0.out.c1
    by_cases hlt : k < xs.length
    · obtain ⟨ad, x, rfl, hb, hx, hc⟩ := (HB.out.kp K0.out).at_ hlt
      have j1 : (0 : Int) ≤ (k : Int) := by omega
      have j2 : (k : Int) < (xs.length : Int) := by omega
      have HS := Lib.hid (totK_step hx)
      have b1 := HBD.out k hkl'
      have b2 := HX.out k x hx
      obtain ⟨y, hy⟩ : ∃ y, z + x = y := ⟨_, rfl⟩
      have hw : IntKind.i64.wrap (z + x) = y := by
        rw [IntWalk.i64_in _ (by rw [hz.out]; omega)]; exact hy
      have HY : Hid (y = totK xs (k + 1)) := by show y = _; rw [HS.out, ← hy, hz.out]
      clear hx b1 b2 hy
      go_wp2
      go_roundw
      case rel => exact ⟨k + 1, y, by go_num, rfl, Lib.hid hlt, HY.out, by first | exact Lib.hid rfl | exact Lib.hid trivial⟩
      case measure => simp [intOf]; omega
    · have HF : Hid (z = totL xs) := by show z = _; rw [hz.out]; unfold totL totK; rw [show k = xs.length by omega]
      go_wp2
      go_ret
      rw [← HF.out]; exact ⟨rfl, K0.out⟩
end Go.Proofs.Ytdjfjhanffliiaa
