/- The document's layer 8: may, bytes, Put, List. -/
import Derived.Test.YtdcgmnkoomhocaaPkAll
namespace Go.Proofs.Ytdcgmnkoomhocaa
open Go.RowKit Go.Proofs.ShM Go.Proofs.PkM
set_option linter.unusedVariables false
set_option maxHeartbeats 4000000

theorem rmay_any (n size : Int) (w : World) : Calls Try.prog 47 #[.int .i64 n, .int .i64 size] w fun e w' => e = .returned (.bool (mayB n size)) ∧ w' = w := by
  obtain ⟨r, hr⟩ : ∃ r, r = mayB n size := ⟨_, rfl⟩
  rw [← hr]
  by_cases h1 : size = 1
  · subst h1
    by_cases h0 : (0 : Int) ≤ n
    · by_cases h2 : n ≤ 255
      · obtain rfl : r = true := by rw [hr]; unfold mayB; simp; omega
        clear hr
        go_enter Try.func47, Try.ntmps47
        go_wp2
        go_ret
        exact ⟨by first | rfl | simp [*], rfl⟩
      · obtain rfl : r = false := by rw [hr]; unfold mayB; simp; omega
        clear hr
        go_enter Try.func47, Try.ntmps47
        go_wp2
        go_ret
        exact ⟨by first | rfl | simp [*], rfl⟩
    · obtain rfl : r = false := by rw [hr]; unfold mayB; simp; omega
      clear hr
      go_enter Try.func47, Try.ntmps47
      go_wp2
      go_ret
      exact ⟨by first | rfl | simp [*], rfl⟩
  · by_cases h2 : size = 2
    · subst h2
      by_cases h0 : (0 : Int) ≤ n
      · by_cases h2 : n ≤ 65535
        · obtain rfl : r = true := by rw [hr]; unfold mayB; simp; omega
          clear hr
          go_enter Try.func47, Try.ntmps47
          go_wp2
          go_ret
          exact ⟨by first | rfl | simp [*], rfl⟩
        · obtain rfl : r = false := by rw [hr]; unfold mayB; simp; omega
          clear hr
          go_enter Try.func47, Try.ntmps47
          go_wp2
          go_ret
          exact ⟨by first | rfl | simp [*], rfl⟩
      · obtain rfl : r = false := by rw [hr]; unfold mayB; simp; omega
        clear hr
        go_enter Try.func47, Try.ntmps47
        go_wp2
        go_ret
        exact ⟨by first | rfl | simp [*], rfl⟩
    · have e1 : (size == 1) = false := by simpa using h1
      have e2 : (size == 2) = false := by simpa using h2
      by_cases h8 : size = 8
      · obtain rfl : r = true := by rw [hr]; unfold mayB; simp [h8]
        have e8 : (size == 8) = true := by simpa using h8
        clear hr h1 h2 h8
        go_enter Try.func47, Try.ntmps47
        go_wp2
        go_ret
        exact ⟨rfl, rfl⟩
      · obtain rfl : r = false := by rw [hr]; unfold mayB; simp; omega
        have e8 : (size == 8) = false := by simpa using h8
        clear hr h1 h2 h8
        go_enter Try.func47, Try.ntmps47
        go_wp2
        go_ret
        exact ⟨rfl, rfl⟩

theorem u_byte (n : Int) (k : Nat) (hk : k < 8) : n % 18446744073709551616 / pw k % 256 = n / pw k % 256 := by
  match k, hk with
  | 0, _ => show n % 18446744073709551616 / 1 % 256 = n / 1 % 256; omega
  | 1, _ => show n % 18446744073709551616 / 256 % 256 = n / 256 % 256; omega
  | 2, _ => show n % 18446744073709551616 / 65536 % 256 = n / 65536 % 256; omega
  | 3, _ => show n % 18446744073709551616 / 16777216 % 256 = n / 16777216 % 256; omega
  | 4, _ => show n % 18446744073709551616 / 4294967296 % 256 = n / 4294967296 % 256; omega
  | 5, _ => show n % 18446744073709551616 / 1099511627776 % 256 = n / 1099511627776 % 256; omega
  | 6, _ => show n % 18446744073709551616 / 281474976710656 % 256 = n / 281474976710656 % 256; omega
  | 7, _ => show n % 18446744073709551616 / 72057594037927936 % 256 = n / 72057594037927936 % 256; omega
theorem u_next (u : Int) (k : Nat) : u / pw k / 256 = u / pw (k + 1) := by
  show u / pw k / 256 = u / (256 * pw k)
  rw [Int.mul_comm, Int.ediv_ediv_of_nonneg (by have := pw_pos k; omega)]

theorem rbytes_any (n size : Int) (w : World) (hs : sizB size = true) : Calls Try.prog 48 #[.int .i64 n, .int .i64 size] w (RetBO (byteL n size.toNat) w) := by
  obtain ⟨sz, hsz, hsz2, hsz3⟩ : ∃ sz : Nat, size = (sz : Int) ∧ sz ≤ 8 ∧ 1 ≤ sz := by
    rcases siz_cases hs with rfl | rfl | rfl
    · exact ⟨1, rfl, by omega, by omega⟩
    · exact ⟨2, rfl, by omega, by omega⟩
    · exact ⟨8, rfl, by omega, by omega⟩
  subst hsz
  rw [Int.toNat_natCast]
  obtain ⟨U, hU⟩ : ∃ U, IntKind.u64.wrap n = U := ⟨_, rfl⟩
  have HU : Hid (n % 18446744073709551616 = U) := by show _ = U; rw [← hU, IntKind.wrap_u64]
  clear hs
  go_enter Try.func48, Try.ntmps48
  go_wp2
  clear hU
  go_loopw [5, 6, 7] (fun u o i wx => ∃ (k : Nat) (A : Option Addr) (c : Nat) (x : Int), u = .int .u64 x ∧ o = .slice A k c ∧ i = .int .i64 (k : Int) ∧ Hid (k ≤ sz) ∧ Hid (x = U / pw k ∧ 0 ≤ x ∧ x < 18446744073709551616) ∧ Hid (B8.Own w.heap.size wx (.slice A k c) (byteL n k)) ∧ Hid (Kp w wx)) (fun _ _ i _ => sz - (intOf i).toNat)
  case atStart => exact ⟨0, none, 0, _, rfl, rfl, rfl, Nat.zero_le _, ⟨(by show U = U / 1; omega), by have := HU.out; omega, by have := HU.out; omega⟩, B8.Own.nil_ _ _, Kp.refl _⟩
  case round =>
    obtain ⟨k, A, c, x, rfl, rfl, rfl, hk, hx, hO, hK⟩ := hrel
    by_cases hj : k < sz
    · have hj' : (k : Int) < (sz : Int) := by omega
      obtain ⟨y, hy⟩ : ∃ y, x.tmod 256 = y := ⟨_, rfl⟩
      have hy' : x % 256 = y := by rw [← hy, Int.tmod_eq_emod_of_nonneg hx.out.2.1]
      have hyb : Hid (y :: byteL n k = byteL n (k + 1)) := by show _ = _; rw [byte_hd, ← hy', hx.out.1, ← HU.out, u_byte n k (by omega)]
      obtain ⟨z, hz⟩ : ∃ z, x.tdiv 256 = z := ⟨_, rfl⟩
      have hz' : x / 256 = z := by rw [← hz, Int.tdiv_eq_ediv_of_nonneg hx.out.2.1]
      have hzb : Hid (z = U / pw (k + 1) ∧ 0 ≤ z ∧ z < 18446744073709551616) := ⟨by rw [← hz', hx.out.1, u_next], by have := hx.out.2.1; omega, by have := hx.out.2.2; omega⟩
      have hy8 : y % 256 = y := by omega
      clear hy' hz'
      have hO1 := Lib.hid (B8.Own.one (B := w.heap.size) wr y hK.out.size)
      have hR1 : Hid (B8.Rd (wr.alloc (.cells #[.int .u8 y] 5)) A (byteL n k)) := by
        obtain ⟨A', c', e, hr⟩ := hO.out.form
        injection e with e1 e2 e3
        rw [e1]
        exact hr.alloc_ _
      have hkl : Hid (k = (byteL n k).length) := (byte_len k n).symm
      go_wp2_with (at_builtin; go_loud (refine B8.wpList_app rfl (.tmp 18) (.tmp 19) rfl _ [y] rfl hO1.out _ _ (byteL n k) _ rfl hkl.out hR1.out (by rw [byte_len]; simp; omega) (by have := hK.out.size; simp; omega) ?_; intro z1 A1 c1 w5 HZ o1 b1; have K1 := Lib.hid ((hK.out.trans (Below.alloc (Below.refl _ _) hK.out.size _)).trans b1); have O1 := Lib.hid o1; clear o1 b1))
      have hz1 : Hid (z1 = byteL n (k + 1)) := by show z1 = _; rw [HZ.out, ← hyb.out]; rfl
      have hzl : z1.length = k + 1 := by rw [hz1.out, byte_len]
      rw [hzl] at O1 ⊢
      rw [hz1.out] at O1
      clear hzl
      have hzu : IntKind.u64.wrap z = z := by rw [IntKind.wrap_u64]; have := hzb.out.2.1; have := hzb.out.2.2; omega
      go_wp2
      go_roundw
      case rel => exact ⟨k + 1, A1, c1, z, by rw [hzu], rfl, by go_num, (by show k + 1 ≤ sz; omega), hzb.out, O1.out, K1.out⟩
      case measure => simp [intOf]; omega
    · have hj' : ¬ (k : Int) < (sz : Int) := by omega
      obtain rfl : k = sz := by have := hk.out; omega
      go_wp2
      go_ret
      exact ⟨A, c, by rw [byte_len]; rfl, by rw [byte_len]; exact hO.out, hK.out⟩

/-- Bytes of the call's own, and an error. -/
def RetBE (r : List Int) (err : Int) (w : World) (e : Ending) (w' : World) : Prop := ∃ A c, e = .returned (.tuple #[.slice A r.length c, .int .i64 err]) ∧ B8.Own w.heap.size w' (.slice A r.length c) r ∧ Kp w w'
theorem rput8_any (A : Option Addr) (c : Nat) (bs : List Int) (n size : Int) (w : World) (h : B8.Rd w A bs) (hl : bs.length ≤ 300000) :
    Calls Try.prog 36 #[.slice A bs.length c, .int .i64 n, .int .i64 size] w (RetBE (putV bs n size).1 (putV bs n size).2 w) := by
  have HM := fun W => rmay_any n size W
  by_cases hm : mayB n size = true
  · rw [hm] at HM
    have HM := Lib.hid HM
    have HB := Lib.hid (fun W => rbytes_any n size W (may_siz hm))
    have hz8 : Hid ((byteL n size.toNat).length ≤ 8) := by show _ ≤ 8; rw [byte_len]; rcases siz_cases (may_siz hm) with rfl | rfl | rfl <;> decide
    obtain ⟨r, hr⟩ : ∃ r, r = putV bs n size := ⟨_, rfl⟩
    have hr2 : Hid (r = (bs ++ byteL n size.toNat, 0)) := by show r = _; rw [hr]; unfold putV; rw [if_pos hm]
    rw [← hr]
    clear hm hr
    generalize byteL n size.toNat = y at *
    have hO1 := Lib.hid (B8.Own.zero (B := w.heap.size) w (Nat.le_refl _))
    have hR1 := Lib.hid (h.alloc_ (.cells #[] 5))
    go_enter Try.func36, Try.ntmps36
    go_wp2_with fail
    refine (HM.out _).mono ?_; rintro e w1 ⟨rfl, rfl⟩
    go_wp2_with (first
      | (at_builtin; refine B8.wpList_app rfl (.tmp 12) (.tmp 13) rfl _ [] rfl hO1.out A c bs _ rfl rfl hR1.out (by simp; omega) (by simp) ?_; intro z1 A1 c1 w5 HZ o1 b1; have K1 : Hid (Kp w1 w5) := ((Below.alloc (Below.refl _ _) (Nat.le_refl _) _).trans b1); have O1 := Lib.hid o1; clear o1 b1)
      | fail)
    refine (HB.out _).mono ?_; rintro e w6 ⟨Y, d, rfl, oy, ky⟩
    have O2 := Lib.hid (O1.out.kp ky)
    obtain ⟨Y', d', ey, ry⟩ := oy.form
    injection ey with ey1 ey2 ey3
    rw [← ey1] at ry
    have RY := Lib.hid ry
    have K2 := Lib.hid (K1.out.tr ky)
    have hzl : Hid (z1.length = bs.length) := by show _ = _; rw [HZ.out]; simp
    clear oy ky ey1 ey3 ry
    go_wp2_with (at_builtin; refine B8.wpList_app rfl (.tmp 14) (.tmp 17) rfl _ z1 rfl O2.out Y d y _ rfl rfl RY.out (by rw [hzl.out]; have := hz8.out; omega) K2.out.size ?_; intro z2 A2 c2 w7 HZ2 o2 b2; have K3 := Lib.hid (K2.out.trans b2); have O3 := Lib.hid o2; clear o2 b2)
    go_ret2
    have e1 : z2 = bs ++ y := by rw [HZ2.out, HZ.out]; simp
    rw [hr2.out]
    subst e1
    exact ⟨A2, c2, rfl, O3.out, K3.out⟩
  · have hm' : mayB n size = false := by simpa using hm
    rw [hm'] at HM
    have HM := Lib.hid HM
    have e : putV bs n size = ([], 40) := by unfold putV; rw [if_neg hm]
    rw [e]
    clear hm hm' e
    go_enter Try.func36, Try.ntmps36
    go_wp2_with fail
    refine (HM.out _).mono ?_; rintro e w1 ⟨rfl, rfl⟩
    go_wp2
    go_ret2
    exact ⟨none, 0, rfl, B8.Own.nil_ _ _, Kp.refl _⟩
end Go.Proofs.Ytdcgmnkoomhocaa
