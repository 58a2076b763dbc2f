/- The document's own division of two words, bit by bit, and its quotient: as the program's. -/
import Derived.Test.YtlnbphmeinjefaaFixU
import Derived.Test.YtlnbphmeinjefaaFixParts
namespace Go.Proofs.Ytlnbphmeinjefaa
open Go.RowKit Go.Proofs.FixM

/-- Three words: the quotient's two, and what is left. -/
def PartsPost (n d : Nat) (w : World) (e : Ending) (w' : World) : Prop :=
  e = .returned (.tuple #[.int .u64 ((n / d / 18446744073709551616 : Nat) : Int), .int .u64 ((n / d % 18446744073709551616 : Nat) : Int), .int .u64 ((n % d : Nat) : Int)]) ∧ w = w'

namespace FixV
theorem w0 {h X : Nat} (e : X = h / 9223372036854775808) (hb : h < 18446744073709551616) : IntKind.u64.wrap ((h : Int) / 9223372036854775808) = (X : Int) := by
  rw [IntKind.wrap_u64]; omega
theorem w1 {h l X : Nat} (e : X = (h * 2 + l / 9223372036854775808) % 18446744073709551616) : IntKind.u64.wrap (IntKind.u64.wrap ((h : Int) * 2) + IntKind.u64.wrap ((l : Int) / 9223372036854775808)) = (X : Int) := by
  rw [IntKind.wrap_u64, IntKind.wrap_u64, IntKind.wrap_u64]; omega
theorem w2 {l X : Nat} (e : X = l * 2 % 18446744073709551616) : IntKind.u64.wrap ((l : Int) * 2) = (X : Int) := by
  rw [IntKind.wrap_u64]; omega
theorem w3 {r b X : Nat} (e : X = (r * 2 + b) % 18446744073709551616) : IntKind.u64.wrap (IntKind.u64.wrap ((r : Int) * 2) + (b : Int)) = (X : Int) := by
  rw [IntKind.wrap_u64, IntKind.wrap_u64]; omega
theorem w3' {r b X : Nat} (e : X = (r * 2 + b) % 18446744073709551616) : IntKind.u64.wrap ((r : Int) * 2 + (b : Int)) = (X : Int) := by
  rw [IntKind.wrap_u64]; omega
theorem w4 {rr r b d X : Nat} (e : rr = (r * 2 + b) % 18446744073709551616) (eX : X = 2 * r + b - d) (h : d ≤ 2 * r + b) (hX : X < 18446744073709551616) : IntKind.u64.wrap ((rr : Int) - (d : Int)) = (X : Int) := by
  rw [IntKind.wrap_u64]; omega
theorem w6 {l : Nat} (h : l + 1 < 18446744073709551616) : IntKind.u64.wrap ((l : Int) + 1) = ((l + 1 : Nat) : Int) := by
  rw [IntKind.wrap_u64]; omega
theorem ret3 {k l m : IntKind} {a b c a' b' c' : Int} (h : a = a') (h' : b = b') (h'' : c = c') : Ending.returned (.tuple #[.int k a, .int l b, .int m c]) = .returned (.tuple #[.int k a', .int l b', .int m c']) := by rw [h, h', h'']
end FixV

set_option maxHeartbeats 1000000 in
theorem parts_any (h l d : Nat) (hd : 0 < d) (hd2 : d < 18446744073709551616) (hh : h < 18446744073709551616) (hl : l < 18446744073709551616) (w : World) :
    Calls Try.prog 33 #[.int .u64 h, .int .u64 l, .int .u64 d] w (PartsPost (h * 18446744073709551616 + l) d w) := by
  have ini := pinit hd hh hl
  have hN : h * 18446744073709551616 + l < 340282366920938463463374607431768211456 := by omega
  generalize h * 18446744073709551616 + l = N at *
  have HI := Lib.hid ini
  have HB := Lib.hid (And.intro hN (And.intro hd (And.intro hd2 (And.intro hh hl))))
  clear ini hN hd hd2 hh hl
  go_enter Try.func33, Try.ntmps33
  go_wp2
  go_loop [0, 1, 9, 10, 11, 12] (fun a b c p q i => ∃ m h l r qh ql : Nat, a = .int .u64 h ∧ b = .int .u64 l ∧ c = .int .u64 r ∧ p = .int .u64 qh ∧ q = .int .u64 ql ∧ i = .int .i64 ((m : Int) - 1) ∧ PInv N d m h l qh ql r) (fun _ _ _ _ _ i => (intOf i + 1).toNat)
  case atStart => exact ⟨128, h, l, 0, 0, 0, rfl, rfl, rfl, rfl, rfl, rfl, HI.out⟩
  case round =>
    rename_i hw; clear hw HI
    obtain ⟨m, h, l, r, qh, ql, rfl, rfl, rfl, rfl, rfl, rfl, inv⟩ := hrel
    have hm := inv.m128
    cases m with
    | zero =>
      rw [show ((0 : Nat) : Int) - 1 = -1 from rfl]
      have HV := Lib.hid inv; clear inv hm
      go_wp2
      go_ret3
      obtain ⟨e1, e2, e3⟩ := pdone HV.out
      exact ⟨FixV.ret3 (congrArg (fun z : Nat => (z : Int)) e1) (congrArg (fun z : Nat => (z : Int)) e2) (congrArg (fun z : Nat => (z : Int)) e3), rfl⟩
    | succ m =>
      rw [show ((m + 1 : Nat) : Int) - 1 = (m : Int) by omega]
      have hm1 : (m : Int) ≤ 127 := by omega
      clear hm
      obtain ⟨hN, hd, hd2, _, _⟩ := HB.out
      have rd := inv.rd
      have hb := inv.hb
      have qlb := inv.qlb
      obtain ⟨bt, hbt⟩ : ∃ bt, bt = h / 9223372036854775808 := ⟨_, rfl⟩
      obtain ⟨H', hH⟩ : ∃ X, X = (h * 2 + l / 9223372036854775808) % 18446744073709551616 := ⟨_, rfl⟩
      obtain ⟨L', hL⟩ : ∃ X, X = l * 2 % 18446744073709551616 := ⟨_, rfl⟩
      obtain ⟨Q', hQ⟩ : ∃ X, X = (qh * 2 + ql / 9223372036854775808) % 18446744073709551616 := ⟨_, rfl⟩
      obtain ⟨K', hK⟩ : ∃ X, X = ql * 2 % 18446744073709551616 := ⟨_, rfl⟩
      obtain ⟨rr, hrr⟩ : ∃ X, X = (r * 2 + bt) % 18446744073709551616 := ⟨_, rfl⟩
      have EB := FixV.w0 hbt hb
      have E1 := FixV.w1 hH
      have E2 := FixV.w2 hL
      have E3 := FixV.w1 hQ
      have E4 := FixV.w2 hK
      have E5 := FixV.w3 hrr
      have E6 := FixV.w3' hrr
      have HE := Lib.hid (And.intro E1 (And.intro E2 (And.intro E3 (And.intro E4 (And.intro EB (And.intro E5 E6))))))
      clear E1 E2 E3 E4 EB E5 E6
      have hbt1 : bt ≤ 1 := by omega
      have K1 : K' + 1 < 18446744073709551616 := by omega
      by_cases cA : (9223372036854775808 : Int) ≤ (r : Int)
      · have nx := pyes hN inv (by rw [← hbt]; omega)
        rw [← hbt, ← hH, ← hL, ← hQ, ← hK] at nx
        obtain ⟨X, hX⟩ : ∃ X, X = 2 * r + bt - d := ⟨_, rfl⟩
        have E7 := FixV.w4 hrr hX (by omega) (by omega)
        rw [← hX] at nx
        have NX := Lib.hid (And.intro nx (And.intro E7 (FixV.w6 K1)))
        clear nx E7 inv hN hd hd2 rd hb qlb hbt hH hL hQ hK hrr hX hbt1 K1
        go_upto_region 14 with (fail)
        obtain ⟨E1, E2, E3, E4, EB, E5, E6⟩ := HE.out
        simp only [E1, E2, E3, E4, EB, E5]
        clear E1 E2 E3 E4 EB E5 E6 cA
        go_wp2
        go_round
        case rel =>
          obtain ⟨nx, E7, E8⟩ := NX.out
          exact ⟨m, H', L', X, Q', K' + 1, rfl, rfl, congrArg _ E7, rfl, congrArg _ E8, rfl, nx⟩
        case measure => simp [intOf]
      · by_cases cB : d ≤ 2 * r + bt
        · have nx := pyes hN inv (by rw [← hbt]; exact cB)
          rw [← hbt, ← hH, ← hL, ← hQ, ← hK] at nx
          obtain ⟨X, hX⟩ : ∃ X, X = 2 * r + bt - d := ⟨_, rfl⟩
          have E7 := FixV.w4 hrr hX cB (by omega)
          rw [← hX] at nx
          have NX := Lib.hid (And.intro nx (And.intro E7 (FixV.w6 K1)))
          have dA : decide ((9223372036854775808 : Int) ≤ (r : Int)) = false := decide_eq_false cA
          have dB : decide (d ≤ rr) = true := decide_eq_true (by omega)
          clear nx E7 inv hN hd hd2 rd hb qlb hbt hH hL hQ hK hrr hX hbt1 K1 cB cA
          go_upto_region 14 with (fail)
          obtain ⟨E1, E2, E3, E4, EB, E5, E6⟩ := HE.out
          simp only [E1, E2, E3, E4, EB, E5]
          clear E1 E2 E3 E4 EB E5 E6 dA
          go_wp2
          go_round
          case rel =>
            obtain ⟨nx, E7, E8⟩ := NX.out
            exact ⟨m, H', L', X, Q', K' + 1, rfl, rfl, congrArg _ E7, rfl, congrArg _ E8, rfl, nx⟩
          case measure => simp [intOf]
        · have nx := pno hN inv (by rw [← hbt]; exact cB)
          rw [← hbt, ← hH, ← hL, ← hQ, ← hK] at nx
          have e : 2 * r + bt = rr := by omega
          rw [e] at nx
          have NX := Lib.hid nx
          have dA : decide ((9223372036854775808 : Int) ≤ (r : Int)) = false := decide_eq_false cA
          have dB : decide (d ≤ rr) = false := decide_eq_false (by omega)
          clear nx inv hN hd hd2 rd hb qlb hbt hH hL hQ hK hrr hbt1 K1 cB cA e
          go_upto_region 14 with (fail)
          obtain ⟨E1, E2, E3, E4, EB, E5, E6⟩ := HE.out
          simp only [E1, E2, E3, E4, EB, E5]
          clear E1 E2 E3 E4 EB E5 E6 dA
          go_wp2
          go_round
          case rel => exact ⟨m, H', L', rr, Q', K', rfl, rfl, rfl, rfl, rfl, rfl, NX.out⟩
          case measure => simp [intOf]
end Go.Proofs.Ytlnbphmeinjefaa
