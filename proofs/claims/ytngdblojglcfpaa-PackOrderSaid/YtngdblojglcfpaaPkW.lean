/- Layer 8 of the program: write: a number's bytes behind bytes of the call's own. -/
import Derived.Test.YtngdblojglcfpaaPkP
namespace Go.Proofs.Ytngdblojglcfpaa
open Go.RowKit Go.Proofs.ShM Go.Proofs.PkM
set_option linter.unusedVariables false
set_option maxHeartbeats 4000000

/-- The answer is bytes of the call's own (from block B on). -/
def RetW (B : Nat) (r : List Int) (W : World) (e : Ending) (W' : World) : Prop := ∃ E f, e = .returned (.slice E r.length f) ∧ B8.Own B W' (.slice E r.length f) r ∧ Below B W W'

theorem mul8 (k : Nat) (hk : k < 8) : IntKind.i64.wrap (8 * (k : Int)) = 8 * (k : Int) := by
  match k, hk with
  | 0, _ | 1, _ | 2, _ | 3, _ | 4, _ | 5, _ | 6, _ | 7, _ => rfl
theorem pw_pow (k : Nat) : (2 : Int) ^ (8 * k) = pw k := by
  induction k with
  | zero => rfl
  | succ k ih =>
    show _ = 256 * pw k
    rw [Nat.mul_succ, Int.pow_add, ih, Int.mul_comm]
    rfl

theorem write_yes (B : Nat) (D : Option Addr) (m d : Nat) (bs : List Int) (n size : Int) (W : World) (hO : B8.Own B W (.slice D m d) bs) (hB : B ≤ W.heap.size) (hl : bs.length ≤ 100000) (h : mayB n size = true) :
    Calls Try.prog 16 #[.slice D m d, .int .i64 n, .int .i64 size] W (RetW B (bs ++ byteL n size.toNat) W) := by
  have hs := siz_cases (may_siz h)
  have HI := fun W => isOf_any n size W
  rw [h] at HI
  have HI := Lib.hid HI
  have HM := Lib.hid must_yes
  obtain ⟨sz, hsz, hsz2, hsz3⟩ : ∃ sz : Nat, size = (sz : Int) ∧ sz ≤ 8 ∧ 1 ≤ sz := ⟨size.toNat, by omega, by omega, by omega⟩
  subst hsz
  rw [Int.toNat_natCast]
  have H0 := Lib.hid (wr_start bs n sz)
  obtain ⟨r, hr⟩ : ∃ r, r = bs ++ byteL n sz := ⟨_, rfl⟩
  rw [← hr] at H0 ⊢
  have hr' : Hid (r.length ≤ 100008) := by show r.length ≤ 100008; rw [hr, List.length_append, byte_len]; omega
  have hO := Lib.hid hO
  have hL := Lib.hid hl
  have hBW := Lib.hid hB
  clear hr h hs hl hB
  have hm : m = bs.length := by obtain ⟨A, c, e, _⟩ := hO.out.form; injection e
  subst hm
  go_enter Try.func16, Try.ntmps16
  go_wp2_with fail
  refine (HI.out _).mono ?_; rintro e w1 ⟨rfl, rfl⟩
  go_wp2_with fail
  refine (HM.out _).mono ?_; rintro e w1 ⟨rfl, rfl⟩
  go_wp2
  go_loopw [0, 7] (fun v i wx => ∃ (j : Nat) (E : Option Addr) (f : Nat) (cur : List Int) (t : Int), v = .slice E cur.length f ∧ i = .int .i64 t ∧ Hid (t = (j : Int) - 1) ∧ Hid (j ≤ sz) ∧ Hid (Wr r cur n j) ∧ Hid (B8.Own B wx (.slice E cur.length f) cur) ∧ Hid (Below B w1 wx)) (fun _ i _ => (intOf i + 1).toNat)
  case atStart => exact ⟨sz, D, d, bs, _, rfl, by go_num, (by show (_ : Int) = _; go_num), Nat.le_refl _, H0.out, hO.out, Below.refl _ _⟩
  case round =>
    obtain ⟨j, E, f, cur, t, rfl, rfl, ht, hj, hT, hOw, hk⟩ := hrel
    match j, hj with
    | 0, hj =>
      obtain rfl : t = -1 := by have := ht.out; omega
      obtain rfl := wr_end hT.out
      go_wp2
      go_ret
      exact ⟨E, f, rfl, hOw.out, hk.out⟩
    | k + 1, hj =>
      obtain rfl : t = (k : Int) := by have := ht.out; push_cast at this; omega
      have hk8 : k < 8 := by have := hj.out; omega
      have e1 := mul8 k hk8
      obtain ⟨y, hy⟩ : ∃ y, n / 2 ^ (8 * k) % 256 = y := ⟨_, rfl⟩
      have hT2 := Lib.hid (wr_step hT.out)
      have hy2 : Hid (n / pw k % 256 = y) := by rw [← pw_pow]; exact hy
      have hl2 := wr_len hT2.out
      rw [hy2.out] at hT2
      have hl3 := Lib.hid (show cur.length + 1 ≤ 100008 by have := hr'.out; rw [List.length_append] at hl2; simp at hl2; omega)
      have hO1 := Lib.hid (hOw.out.kp (Kp.alloc_ wr (.cells #[.int .u8 y] 5)))
      have hR1 := Lib.hid (B8.Rd.one wr y 5)
      have hB1 : Hid (B ≤ (wr.alloc (.cells #[.int .u8 y] 5)).heap.size) := by show B ≤ _; have := hk.out.size; have := hBW.out; simp; omega
      clear hl2
      go_wp2_with (at_builtin; refine B8.wpList_app rfl (.tmp 18) (.tmp 24) rfl _ cur rfl hO1.out _ 1 [y] 1 rfl rfl hR1.out (by have := hl3.out; simp; omega) hB1.out ?_; intro z1 A1 c1 w5 HZ o1 b1; have K1 := Lib.hid (hk.out.trans (((Below.refl _ _).alloc (by have := hk.out.size; have := hBW.out; omega) _).trans b1)); have O1 := Lib.hid o1; clear o1 b1)
      go_roundw
      case rel => exact ⟨k, A1, c1, z1, _, rfl, rfl, (by show (_ : Int) = _; go_num), (by show k ≤ sz; have := hj.out; omega), (by rw [HZ.out]; exact hT2.out), O1.out, K1.out⟩
      case measure => simp [intOf]
theorem write_no (D : Option Addr) (m d : Nat) (n size : Int) (W : World) (h : mayB n size = false) :
    Calls Try.prog 16 #[.slice D m d, .int .i64 n, .int .i64 size] W fun e W' => e = thrown40 ∧ W' = W := by
  have HI := fun W => isOf_any n size W
  rw [h] at HI
  have HI := Lib.hid HI
  have HM := Lib.hid must_no
  clear h
  go_enter Try.func16, Try.ntmps16
  go_wp2_with fail
  refine (HI.out _).mono ?_; rintro e w1 ⟨rfl, rfl⟩
  go_wp2_with fail
  refine (HM.out _).mono ?_; rintro e w1 ⟨rfl, rfl⟩
  go_wp2
  exact ⟨rfl, rfl, rfl⟩
end Go.Proofs.Ytngdblojglcfpaa
