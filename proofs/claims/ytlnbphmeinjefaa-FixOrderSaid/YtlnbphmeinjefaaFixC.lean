/- What math/bits.Div64 answers where the quotient is a word: its first result is the quotient. -/
import Derived.Test.YtlnbphmeinjefaaFixB
import Derived.Test.YtlnbphmeinjefaaFixDiv
import Derived.Deep.Cut
import Derived.Deep.CutBlock
namespace Go.Proofs.Ytlnbphmeinjefaa
open Go.RowKit Go.Proofs.FixM

/-- The first result is q; nothing was changed. -/
def DivPost (q : Nat) (w : World) (e : Ending) (w' : World) : Prop := ∃ r : Int, e = .returned (.tuple #[.int .u64 (q : Int), .int .u64 r]) ∧ w = w'

namespace FixC
theorem shl {x s X : Nat} (h : X = x * 2 ^ s) (hX : X < 18446744073709551616) : IntKind.u64.wrap ((x : Int) * 2 ^ s) = (X : Int) := by
  have : (x : Int) * 2 ^ s = (X : Int) := by rw [h, Int.natCast_mul, Int.natCast_pow]; rfl
  rw [this]; exact FixB.wrapc X hX
theorem shlm {x s X : Nat} (h : X = x * 2 ^ s % 18446744073709551616) : IntKind.u64.wrap ((x : Int) * 2 ^ s) = (X : Int) := by
  have : (x : Int) * 2 ^ s = ((x * 2 ^ s : Nat) : Int) := by rw [Int.natCast_mul, Int.natCast_pow]; rfl
  rw [this, FixB.wrapm, h]
theorem shr {x s X : Nat} (h : X = x / 2 ^ s) : (x : Int) / 2 ^ s = (X : Int) := by
  rw [h, Int.natCast_ediv, Int.natCast_pow]; rfl
theorem orp {x y s : Nat} (hx : x % 2 ^ s = 0) (hy : y < 2 ^ s) (h1 : x < 18446744073709551616) (h2 : y < 18446744073709551616) : bits .or .u64 (x : Int) (y : Int) = ((x + y : Nat) : Int) := by
  rw [bits_or_u64_nat x y h1 h2, nat_join s x y hx hy]
theorem quo {x d X : Nat} (h : X = x / d) (hx : x < 18446744073709551616) : IntKind.u64.wrap ((x : Int) / (d : Int)) = (X : Int) := by
  rw [← Int.natCast_ediv, ← h]
  refine FixB.wrapc X ?_
  have := Nat.div_le_self x d
  omega
theorem rem {U q n r : Nat} (h : q * n + r = U) (hU : U < 18446744073709551616) : IntKind.u64.wrap ((U : Int) - IntKind.u64.wrap ((q : Int) * (n : Int))) = (r : Int) := by
  rw [FixB.mulc, IntKind.wrap_u64, IntKind.wrap_u64]
  generalize q * n = a at *
  omega
theorem left {U u1 q Y T : Nat} (h : T = U * 4294967296 + u1 - q * Y) (h1 : q * Y ≤ U * 4294967296 + u1) (hT : T < 18446744073709551616) :
    IntKind.u64.wrap (IntKind.u64.wrap (IntKind.u64.wrap ((U : Int) * 4294967296) + (u1 : Int)) - IntKind.u64.wrap ((q : Int) * (Y : Int))) = (T : Int) := by
  rw [FixB.mulc, IntKind.wrap_u64, IntKind.wrap_u64, IntKind.wrap_u64, IntKind.wrap_u64]
  generalize q * Y = a at *
  omega
end FixC

set_option maxHeartbeats 1000000 in
set_option maxRecDepth 100000 in
theorem div64_big (hi lo y : Nat) (h0 : 0 < hi) (h1 : hi < y) (h2 : y < 18446744073709551616) (h3 : lo < 18446744073709551616) (w : World) :
    Calls Try.prog 41 #[.int .u64 hi, .int .u64 lo, .int .u64 y] w (DivPost ((hi * 18446744073709551616 + lo) / y) w) := by
  obtain ⟨l1, l2, l3⟩ := Lib.bitLenAux_bounds 64 y h2 (by omega)
  have l4 : Lib.bitLen y ≤ 64 := Lib.bitLen_le y 64 (by omega) (by omega)
  have HL : ∀ w', Calls Try.prog 45 #[.int .u64 y] w' fun e w'' => e = .returned (.int .i64 (64 - (Lib.bitLen y : Int))) ∧ w' = w'' := fun w' => by
    have := lead64_any (y : Int) w' (by omega) (by omega)
    rwa [Int.toNat_natCast] at this
  change 1 ≤ Lib.bitLen y at l1
  change 2 ^ (Lib.bitLen y - 1) ≤ y at l2
  change y < 2 ^ Lib.bitLen y at l3
  obtain ⟨t1, t2⟩ := shift_top l1 l2 l3 l4
  generalize Lib.bitLen y = L at *
  obtain ⟨s, hs⟩ : ∃ s, s = 64 - L := ⟨_, rfl⟩
  rw [← hs] at t1 t2
  rw [show (64 - (L : Int)) = (s : Int) by omega] at HL
  have hs1 : s ≤ 63 := by omega
  obtain ⟨f1, f2, f3, f4, f5, f6⟩ := shift_words h1 h3 hs1 t2
  clear hs l1 l2 l3 l4
  obtain ⟨Y, hY⟩ : ∃ Y, Y = y * 2 ^ s := ⟨_, rfl⟩
  obtain ⟨A, hA⟩ : ∃ A, A = hi * 2 ^ s := ⟨_, rfl⟩
  obtain ⟨C, hC⟩ : ∃ C, C = lo / 2 ^ (64 - s) := ⟨_, rfl⟩
  obtain ⟨U, hU⟩ : ∃ U, U = A + C := ⟨_, rfl⟩
  obtain ⟨V, hV⟩ : ∃ V, V = lo * 2 ^ s % 18446744073709551616 := ⟨_, rfl⟩
  have EY := FixC.shl hY (by omega)
  have EA := FixC.shl hA (by omega)
  have EC := FixC.shr hC
  have EV := FixC.shlm hV
  have hp : 2 ^ s ≤ 9223372036854775808 := by
    have := Nat.pow_le_pow_right (show 0 < 2 by omega) hs1
    omega
  have EU : bits .or .u64 (A : Int) (C : Int) = (U : Int) := by
    rw [hU]; exact FixC.orp (s := s) (by rw [hA]; exact f2) (by omega) (by omega) (by omega)
  have hV1 : V < 18446744073709551616 := by omega
  have hY1 : Y < 18446744073709551616 := by omega
  have hY2 : 9223372036854775808 ≤ Y := by omega
  have hUY : U < Y := by omega
  have hfin : (hi * 18446744073709551616 + lo) / y = (U * 18446744073709551616 + V) / Y := by rw [← f6, hU, hA, hC, hV, f4, hY]
  rw [hfin]
  clear hfin f1 f2 f3 f4 f5 f6 hp t1 t2 hY hA hC hU hV
  obtain ⟨n1, hn1⟩ : ∃ n, n = Y / 4294967296 := ⟨_, rfl⟩
  obtain ⟨n0, hn0⟩ : ∃ n, n = Y % 4294967296 := ⟨_, rfl⟩
  obtain ⟨u1, hu1⟩ : ∃ n, n = V / 4294967296 := ⟨_, rfl⟩
  obtain ⟨u0, hu0⟩ : ∃ n, n = V % 4294967296 := ⟨_, rfl⟩
  have D1 : (Y : Int) / 4294967296 = (n1 : Int) := by omega
  have D0 : bits .and .u64 (Y : Int) 4294967295 = (n0 : Int) := by rw [FixB.mask Y hY1, hn0]
  have C1 : (V : Int) / 4294967296 = (u1 : Int) := by omega
  have C0 : bits .and .u64 (V : Int) 4294967295 = (u0 : Int) := by rw [FixB.mask V hV1, hu0]
  have hYs : Y = n1 * 4294967296 + n0 := by omega
  have hVs : V = u1 * 4294967296 + u0 := by omega
  have env : KEnv U u1 n1 n0 := ⟨by omega, by omega, by omega, by omega, by omega⟩
  have b0 : u0 < 4294967296 := by omega
  have inv := kinit env
  obtain ⟨q, hq⟩ : ∃ q, q = U / n1 := ⟨_, rfl⟩
  obtain ⟨r, hr⟩ : ∃ r, r = U % n1 := ⟨_, rfl⟩
  rw [← hq, ← hr] at inv
  have EQ := FixC.quo hq (by omega)
  have ER := FixC.rem inv.sum (by omega)
  clear hn1 hn0 hu1 hu0 hq hr
  have HYs := Lib.hid hYs; clear hYs
  have HVs := Lib.hid hVs; clear hVs
  have hn : 2147483648 ≤ n1 := env.hl
  have HE := Lib.hid env; clear env
  have HLh := Lib.hid HL; clear HL
  have Hinv := Lib.hid inv; clear inv
  have hz : ((hi : Int) == 0) = false := by rw [beq_eq_false_iff_ne]; omega
  go_enter Try.func41, Try.ntmps41
  go_wp2_with (go_at_call 45; refine (HLh.out _).mono ?_; rintro e w' ⟨rfl, rfl⟩)
  clear EY EA EC EV EU D1 D0 C1 C0 EQ ER
  have env := HE.out
  have HB := Lib.hid (And.intro h2 (And.intro h3 (And.intro hV1 (And.intro hY1 hY2))))
  clear h2 h3 hV1 hY1 hY2 hUY HLh hz h0 h1
  have inv := Hinv.out
  clear Hinv
  go_loop [15, 16] (fun a b => ∃ q r : Nat, a = .int .u64 q ∧ b = .int .u64 r ∧ KInv U u1 n1 n0 q r) (fun a _ => (intOf a).toNat)
  case atStart => exact ⟨q, r, rfl, rfl, inv⟩
  case round =>
    rename_i hw; clear hw inv
    obtain ⟨q, r, rfl, rfl, inv⟩ := hrel
    obtain ⟨g1, g2, g3, g4, g5, g6⟩ := kbounds env inv
    have p1 : (q : Int) * (n0 : Int) ≤ 4294967297 * 4294967295 := by rw [FixB.mulc]; omega
    have p0 : 0 ≤ (q : Int) * (n0 : Int) := by rw [FixB.mulc]; omega
    have i1 : (q : Int) ≤ 4294967297 := by omega
    have i2 : (r : Int) < 4294967296 := by omega
    have i3 : (n1 : Int) < 4294967296 := by omega
    have i4 : (u1 : Int) < 4294967296 := by omega
    clear g1 g2 g3 g4 g5 g6
    have ex : (4294967296 ≤ (q : Int) ∧ 4294967296 ≤ (r : Int) + (n1 : Int)) ∨ (¬ 4294967296 ≤ (q : Int) ∧ 4294967296 * (r : Int) + (u1 : Int) < (q : Int) * (n0 : Int) ∧ 4294967296 ≤ (r : Int) + (n1 : Int)) ∨
        (¬ 4294967296 ≤ (q : Int) ∧ ¬ 4294967296 * (r : Int) + (u1 : Int) < (q : Int) * (n0 : Int)) ∨
        (4294967296 ≤ (q : Int) ∧ ¬ 4294967296 ≤ (r : Int) + (n1 : Int)) ∨ (¬ 4294967296 ≤ (q : Int) ∧ 4294967296 * (r : Int) + (u1 : Int) < (q : Int) * (n0 : Int) ∧ ¬ 4294967296 ≤ (r : Int) + (n1 : Int)) := by omega
    rcases ex with ⟨c1, c3⟩ | ⟨c1, c2, c3⟩ | ⟨c1, c2⟩ | ⟨c1, c3⟩ | ⟨c1, c2, c3⟩
    case inr.inr.inr.inl =>
      have cp : (0 : Int) < (q : Int) := by omega
      have R := Lib.hid (kmore env inv (.inl (by omega)) (by omega))
      clear inv env hn
      go_wp2
      go_round
      case rel => exact ⟨q - 1, r + n1, by go_num, by go_num, R.out⟩
      case measure => simp [intOf]; omega
    case inr.inr.inr.inr =>
      have cc : 4294967296 ≤ q ∨ 4294967296 * r + u1 < q * n0 := .inr (by rw [FixB.mulc] at c2; omega)
      have cp : (0 : Int) < (q : Int) := by have := kpos cc; omega
      have R := Lib.hid (kmore env inv cc (by omega))
      clear inv env hn cc
      go_wp2
      go_round
      case rel => exact ⟨q - 1, r + n1, by go_num, by go_num, R.out⟩
      case measure => simp [intOf]; omega
    case' inl =>
      have cp : (0 : Int) < (q : Int) := by omega
      have R := Lib.hid (kbreak env inv (.inl (by omega)) (by omega))
      clear inv env hn
      go_upto_region 21 with (fail)
      rw [show (q : Int) - 1 = ((q - 1 : Nat) : Int) by omega]
      generalize q - 1 = q2 at R ⊢
      generalize (r : Int) + (n1 : Int) = rr
      clear p1 p0 i1 i2 cp c1 c3
    case' inr.inl =>
      have cc : 4294967296 ≤ q ∨ 4294967296 * r + u1 < q * n0 := .inr (by rw [FixB.mulc] at c2; omega)
      have cp : (0 : Int) < (q : Int) := by have := kpos cc; omega
      have R := Lib.hid (kbreak env inv cc (by omega))
      clear inv env hn cc
      go_upto_region 21 with (fail)
      rw [show (q : Int) - 1 = ((q - 1 : Nat) : Int) by omega]
      generalize q - 1 = q2 at R ⊢
      generalize (r : Int) + (n1 : Int) = rr
      clear p1 p0 i1 i2 cp c1 c2 c3
    case' inr.inr.inl =>
      have R := Lib.hid (kstop inv (by rw [FixB.mulc] at c2; omega))
      have d1 : decide ((4294967296 : Int) ≤ (q : Int)) = false := decide_eq_false c1
      have d2 : decide (4294967296 * (r : Int) + (u1 : Int) < (q : Int) * (n0 : Int)) = false := decide_eq_false c2
      clear inv env hn c1 c2
      go_upto_region 21 with (fail)
      clear p1 p0 i1 i2 d1 d2
      obtain ⟨q2, hq2⟩ : ∃ q2, q2 = q := ⟨_, rfl⟩
      subst hq2
    all_goals
      have hYs := HYs.out
      have env := HE.out
      have D := R.out
      have env2 := knext (u0 := u0) env D b0
      have D1 := D.lo
      obtain ⟨T, hT⟩ : ∃ T, T = U * 4294967296 + u1 - q2 * Y := ⟨_, rfl⟩
      rw [← hYs, ← hT] at env2
      rw [← hYs] at D1
      have hTY := env2.lt
      rw [← hYs] at hTY
      obtain ⟨h2, h3, hV1, hY1, hY2⟩ := HB.out
      have EL := FixC.left hT D1 (by omega)
      have inv := kinit env2
      obtain ⟨q, hq⟩ : ∃ q, q = T / n1 := ⟨_, rfl⟩
      obtain ⟨r, hr⟩ : ∃ r, r = T % n1 := ⟨_, rfl⟩
      rw [← hq, ← hr] at inv
      have EQ := FixC.quo hq (by omega)
      have ER := FixC.rem inv.sum (by omega)
      have hn := env.hl
      have HT := Lib.hid hT; clear hT
      have HI := Lib.hid (And.intro inv env2)
      clear hYs env D env2 D1 hTY h2 h3 hV1 hY1 hY2 hq hr inv
      go_wp2
      clear EL EQ ER hn
      obtain ⟨inv, env2⟩ := HI.out
      go_loop [18, 16] (fun a b => ∃ q r : Nat, a = .int .u64 q ∧ b = .int .u64 r ∧ KInv T u0 n1 n0 q r) (fun a _ => (intOf a).toNat)
      case atStart => exact ⟨q, r, rfl, rfl, inv⟩
      case round =>
        rename_i hw; clear hw inv
        obtain ⟨q, r, rfl, rfl, inv⟩ := hrel
        obtain ⟨g1, g2, g3, g4, g5, g6⟩ := kbounds env2 inv
        have hn := env2.hl
        have p1 : (q : Int) * (n0 : Int) ≤ 4294967297 * 4294967295 := by rw [FixB.mulc]; omega
        have p0 : 0 ≤ (q : Int) * (n0 : Int) := by rw [FixB.mulc]; omega
        have i1 : (q : Int) ≤ 4294967297 := by omega
        have i2 : (r : Int) < 4294967296 := by omega
        have i3 : (n1 : Int) < 4294967296 := by omega
        have i4 : (u0 : Int) < 4294967296 := by omega
        clear g1 g2 g3 g4 g5 g6
        have ex : (4294967296 ≤ (q : Int) ∧ 4294967296 ≤ (r : Int) + (n1 : Int)) ∨ (¬ 4294967296 ≤ (q : Int) ∧ 4294967296 * (r : Int) + (u0 : Int) < (q : Int) * (n0 : Int) ∧ 4294967296 ≤ (r : Int) + (n1 : Int)) ∨
            (¬ 4294967296 ≤ (q : Int) ∧ ¬ 4294967296 * (r : Int) + (u0 : Int) < (q : Int) * (n0 : Int)) ∨
            (4294967296 ≤ (q : Int) ∧ ¬ 4294967296 ≤ (r : Int) + (n1 : Int)) ∨ (¬ 4294967296 ≤ (q : Int) ∧ 4294967296 * (r : Int) + (u0 : Int) < (q : Int) * (n0 : Int) ∧ ¬ 4294967296 ≤ (r : Int) + (n1 : Int)) := by omega
        rcases ex with ⟨c1, c3⟩ | ⟨c1, c2, c3⟩ | ⟨c1, c2⟩ | ⟨c1, c3⟩ | ⟨c1, c2, c3⟩
        case inr.inr.inr.inl =>
          have cp : (0 : Int) < (q : Int) := by omega
          have R' := Lib.hid (kmore env2 inv (.inl (by omega)) (by omega))
          clear inv env2 hn
          go_wp2
          go_round
          case rel => exact ⟨q - 1, r + n1, by go_num, by go_num, R'.out⟩
          case measure => simp [intOf]; omega
        case inr.inr.inr.inr =>
          have cc : 4294967296 ≤ q ∨ 4294967296 * r + u0 < q * n0 := .inr (by rw [FixB.mulc] at c2; omega)
          have cp : (0 : Int) < (q : Int) := by have := kpos cc; omega
          have R' := Lib.hid (kmore env2 inv cc (by omega))
          clear inv env2 hn cc
          go_wp2
          go_round
          case rel => exact ⟨q - 1, r + n1, by go_num, by go_num, R'.out⟩
          case measure => simp [intOf]; omega
        case' inl =>
          have cp : (0 : Int) < (q : Int) := by omega
          have R' := Lib.hid (kbreak env2 inv (.inl (by omega)) (by omega))
          clear inv env2 hn
          go_upto_region 28 with (fail)
          rw [show (q : Int) - 1 = ((q - 1 : Nat) : Int) by omega]
          generalize q - 1 = q3 at R' ⊢
          clear p1 p0 i1 i2 cp c1 c3
        case' inr.inl =>
          have cc : 4294967296 ≤ q ∨ 4294967296 * r + u0 < q * n0 := .inr (by rw [FixB.mulc] at c2; omega)
          have cp : (0 : Int) < (q : Int) := by have := kpos cc; omega
          have R' := Lib.hid (kbreak env2 inv cc (by omega))
          clear inv env2 hn cc
          go_upto_region 28 with (fail)
          rw [show (q : Int) - 1 = ((q - 1 : Nat) : Int) by omega]
          generalize q - 1 = q3 at R' ⊢
          clear p1 p0 i1 i2 cp c1 c2 c3
        case' inr.inr.inl =>
          have R' := Lib.hid (kstop inv (by rw [FixB.mulc] at c2; omega))
          have d1 : decide ((4294967296 : Int) ≤ (q : Int)) = false := decide_eq_false c1
          have d2 : decide (4294967296 * (r : Int) + (u0 : Int) < (q : Int) * (n0 : Int)) = false := decide_eq_false c2
          clear inv env2 hn c1 c2
          go_upto_region 28 with (fail)
          clear p1 p0 i1 i2 d1 d2
          obtain ⟨q3, hq3⟩ : ∃ q3, q3 = q := ⟨_, rfl⟩
          subst hq3
        all_goals
          have hYs := HYs.out
          have hVs := HVs.out
          have hT := HT.out
          have D := R.out
          have D' := R'.out
          rw [hT, hYs] at D'
          obtain ⟨k1, k2, k3⟩ := kquot HE.out D b0 D'
          rw [← hYs, ← hVs] at k1
          have k4 : IntKind.u64.wrap (IntKind.u64.wrap ((q2 : Int) * 4294967296) + (q3 : Int)) = (((U * 18446744073709551616 + V) / Y : Nat) : Int) := by
            rw [← k1, IntKind.wrap_u64, IntKind.wrap_u64]; omega
          have K4 := Lib.hid k4
          clear hYs hVs hT D D' k1 k2 k3 k4
          go_wp2
          go_ret2
          exact ⟨_, congrArg (fun z => Ending.returned (.tuple #[.int .u64 z, .int .u64 _])) K4.out, rfl⟩
end Go.Proofs.Ytlnbphmeinjefaa
