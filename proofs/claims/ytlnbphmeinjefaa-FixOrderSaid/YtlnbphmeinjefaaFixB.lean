/- What math/bits answers, as far as layer 1 calls it: products and sums of two words, leading noughts. -/
import Derived.Test.YtlnbphmeinjefaaFixA
import Derived.Lib.Mul64
import Derived.Lib.BitFns
import Derived.Lib.ItoaNum
import Derived.Laws.Externs
import Derived.Lib.Strings
namespace Go.Proofs.Ytlnbphmeinjefaa
open Go.RowKit Go.Proofs.FixM

namespace FixB
theorem mask (a : Nat) (ha : a < 18446744073709551616) : bits .and .u64 (a : Int) 4294967295 = ((a % 4294967296 : Nat) : Int) := by
  have h := bits_and_u64_nat a 4294967295 ha (by omega)
  rw [show a &&& 4294967295 = a % 4294967296 from Nat.and_two_pow_sub_one_eq_mod a 32] at h
  exact h
theorem divc (a : Nat) : (a : Int) / 4294967296 = ((a / 4294967296 : Nat) : Int) := by omega
theorem mulc (a b : Nat) : (a : Int) * (b : Int) = ((a * b : Nat) : Int) := (Int.natCast_mul a b).symm
theorem addc (a b : Nat) : (a : Int) + (b : Int) = ((a + b : Nat) : Int) := (Int.natCast_add a b).symm
theorem wrapc (a : Nat) (ha : a < 18446744073709551616) : IntKind.u64.wrap (a : Int) = (a : Int) := by rw [IntKind.wrap_u64]; omega
theorem wrapm (a : Nat) : IntKind.u64.wrap (a : Int) = ((a % 18446744073709551616 : Nat) : Int) := by rw [IntKind.wrap_u64]; omega
end FixB

set_option maxHeartbeats 1000000 in
theorem mul64_any (x y : Nat) (hx : x < 18446744073709551616) (hy : y < 18446744073709551616) (w : World) :
    Calls Try.prog 42 #[.int .u64 x, .int .u64 y] w fun e w' => e = .returned (.tuple #[.int .u64 ((x * y / 18446744073709551616 : Nat) : Int), .int .u64 ((x * y % 18446744073709551616 : Nat) : Int)]) ∧ w = w' := by
  obtain ⟨bd, bt, bw, hhi⟩ := Lib.mul64_hi x y hx hy
  have ba := Lib.half_mul_le (a := x / 4294967296) (b := y / 4294967296) (by omega) (by omega)
  have bb := Lib.half_mul_le (a := x / 4294967296) (b := y % 4294967296) (by omega) (by omega)
  have bc := Lib.half_mul_le (a := x % 4294967296) (b := y / 4294967296) (by omega) (by omega)
  have ba' : x / 4294967296 * (y / 4294967296) < 18446744073709551616 := by omega
  have bb' : x / 4294967296 * (y % 4294967296) < 18446744073709551616 := by omega
  have bc' : x % 4294967296 * (y / 4294967296) < 18446744073709551616 := by omega
  have b1 : x / 4294967296 * (y / 4294967296) + (x / 4294967296 * (y % 4294967296) + x % 4294967296 * (y % 4294967296) / 4294967296) / 4294967296 < 18446744073709551616 := by omega
  have b2 : x / 4294967296 * (y / 4294967296) + (x / 4294967296 * (y % 4294967296) + x % 4294967296 * (y % 4294967296) / 4294967296) / 4294967296 + ((x / 4294967296 * (y % 4294967296) + x % 4294967296 * (y % 4294967296) / 4294967296) % 4294967296 + x % 4294967296 * (y / 4294967296)) / 4294967296 < 18446744073709551616 := by omega
  go_enter Try.func42, Try.ntmps42
  go_wp2
  simp only [FixB.mask x hx, FixB.mask y hy, FixB.divc, FixB.mulc, FixB.addc, FixB.wrapc _ bd, FixB.wrapc _ bb', FixB.wrapc _ bt, FixB.mask _ bt, FixB.wrapc _ bc', FixB.wrapc _ bw, FixB.wrapc _ ba', FixB.wrapc _ b1, FixB.wrapc _ b2, FixB.wrapm (x * y)]
  rw [hhi]
  go_ret2
  exact ⟨rfl, rfl⟩

namespace FixB
theorem ext1 : (Try.f46.name == "runtime.NumGoroutine") = false := by kernel_rfl
theorem ext2 : Try.f46.body.isNone = true := by kernel_rfl
theorem ext3 : Extern.findNext Try.f46 = none := by kernel_rfl
theorem ext4 : Extern.find Try.f46 = some add64Entry := by kernel_rfl
end FixB
theorem add64_extern (args : Array Value) (w : World) :
    (callFunc 46 args).run Try.prog w = ((add64Entry args).run Try.prog w).andThen fun v w' => .ok (.value v) w' :=
  run_callFunc_extern Try.func46 FixB.ext1 FixB.ext2 FixB.ext3 FixB.ext4 args w

theorem add64_run (x y : Nat) (w : World) :
    (callFunc 46 #[.int .u64 (x : Int), .int .u64 (y : Int), .int .u64 (0 : Int)]).run Try.prog w =
      .ok (.value (.tuple #[.int .u64 (((x + y) % 18446744073709551616 : Nat) : Int), .int .u64 (((x + y) / 18446744073709551616 : Nat) : Int)])) w := by
  have e1 : ((x : Int) + (y : Int) + 0) % 18446744073709551616 = (((x + y) % 18446744073709551616 : Nat) : Int) := by omega
  have e2 : ((x : Int) + (y : Int) + 0) / 18446744073709551616 = (((x + y) / 18446744073709551616 : Nat) : Int) := by omega
  have h := run_add64 (P := Try.prog) x y 0 (by omega) (by omega) (by omega) (by omega) w
  rw [e1, e2] at h
  rw [add64_extern, h]
  simp only [Result.andThen]

namespace FixB
theorem len8_tab : ∀ i : Fin 256, Lib.len8tab[i.val]? = some (UInt8.ofNat (Lib.bitLen i.val)) := by decide +kernel
theorem len8_size : Lib.len8tab.size = 256 := by decide +kernel
theorem len8_size' : (256 : Int) ≤ (Lib.len8tab.size : Int) := by rw [len8_size]; omega
theorem len8_le : ∀ i : Fin 256, Lib.bitLen i.val ≤ 8 := by decide +kernel
theorem len8_get {y : Int} (h : y.toNat < Lib.len8tab.size) : (((Lib.len8tab[y.toNat]'h).toNat : Nat) : Int) = Lib.bitLen y.toNat ∧ Lib.bitLen y.toNat ≤ 8 := by
  have h' : y.toNat < 256 := by rw [← len8_size]; exact h
  have e := len8_tab ⟨y.toNat, h'⟩
  have l := len8_le ⟨y.toNat, h'⟩
  simp only at e l
  rw [getElem?_pos Lib.len8tab y.toNat h] at e
  rw [Option.some.inj e]
  refine ⟨?_, l⟩
  have : (UInt8.ofNat (Lib.bitLen y.toNat)).toNat = Lib.bitLen y.toNat := by
    rw [UInt8.toNat_ofNat']; omega
  omega
theorem len_sum {k q m : Nat} {T : Int} (e : T = (q : Int)) (l : q ≤ 8) (hk : k ≤ 56) (hm : m = k + q) : wrap64 ((k : Int) + wrap64 T) = (m : Int) := by
  subst e hm
  unfold wrap64
  omega
/-- The eight ways of Len64: shift k (a multiple of 8), the byte y that is left. -/
theorem len_way {x : Int} (h1 : x ≤ 18446744073709551615) (k : Nat) {y : Int} {g : y.toNat < Lib.len8tab.size} (hk : 2 ^ k ≤ x.toNat) (hy : y.toNat = x.toNat / 2 ^ k) (hk' : k ≤ 56) :
    wrap64 ((k : Int) + wrap64 ((Lib.len8tab[y.toNat]'g).toNat : Int)) = (Lib.bitLen x.toNat : Int) :=
  len_sum (len8_get g).1 (len8_get g).2 hk' (by rw [hy]; exact Lib.bitLen_shift k x.toNat hk (by clear hk hy g; omega))
theorem len_way0 {x : Int} {g : x.toNat < Lib.len8tab.size} :
    wrap64 (wrap64 ((Lib.len8tab[x.toNat]'g).toNat : Int)) = (Lib.bitLen x.toNat : Int) := by
  have := len_sum (k := 0) (len8_get g).1 (len8_get g).2 (by omega) (Nat.zero_add _).symm
  simpa using this
end FixB

set_option maxHeartbeats 4000000 in
set_option maxRecDepth 100000 in
theorem len64_any (x : Int) (w : World) (h0 : 0 ≤ x) (h1 : x ≤ 18446744073709551615) :
    Calls Try.prog 47 #[.int .u64 x] w fun e w' => e = .returned (.int .i64 (Lib.bitLen x.toNat)) ∧ w = w' := by
  have hs := FixB.len8_size'
  go_enter Try.func47, Try.ntmps47
  go_wp2
  all_goals go_ret
  all_goals refine ⟨ret1_int ?_, rfl⟩
  all_goals first
    | exact FixB.len_way h1 56 (by omega) (by omega) (by omega)
    | exact FixB.len_way h1 48 (by omega) (by omega) (by omega)
    | exact FixB.len_way h1 40 (by omega) (by omega) (by omega)
    | exact FixB.len_way h1 32 (by omega) (by omega) (by omega)
    | exact FixB.len_way h1 24 (by omega) (by omega) (by omega)
    | exact FixB.len_way h1 16 (by omega) (by omega) (by omega)
    | exact FixB.len_way h1 8 (by omega) (by omega) (by omega)
    | exact FixB.len_way0

theorem lead64_any (x : Int) (w : World) (h0 : 0 ≤ x) (h1 : x ≤ 18446744073709551615) :
    Calls Try.prog 45 #[.int .u64 x] w fun e w' => e = .returned (.int .i64 (64 - (Lib.bitLen x.toNat : Int))) ∧ w = w' := by
  have l : Lib.bitLen x.toNat ≤ 64 := Lib.bitLen_le x.toNat 64 (by omega) (by omega)
  generalize hq : Lib.bitLen x.toNat = q at l ⊢
  have H := Lib.hid hq; clear hq
  go_enter Try.func45, Try.ntmps45
  go_wp2_with (go_at_call 47; refine (len64_any x _ h0 h1).mono ?_; rw [H.out]; rintro e w' ⟨rfl, rfl⟩)
  go_ret
  exact ⟨ret1_int (by go_arith), rfl⟩
end Go.Proofs.Ytlnbphmeinjefaa
