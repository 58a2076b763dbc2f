/- Each place has an index that stands there, and indices stand as lists of numbers do: the law's call returns true. -/
import Derived.Test.YtggdhfdklmmgjaaShWideW
namespace Go.Proofs.Ytggdhfdklmmgjaa
open Go.RowKit Go.Proofs.ShM

set_option maxHeartbeats 1000000 in
theorem places_far (A : Option Addr) (c n : Nat) (a b : Int) (w : World) (h0 : n ≤ 9223372036854775807) (h : 100 < n) :
    Calls Try.prog 4 #[.slice A n c, .int .i64 a, .int .i64 b] w fun e w' => e = .returned (.bool true) ∧ Kp w w' := by
  go_enter Try.func4, Try.ntmps4
  go_wp2_with (go_at_call 10; refine (shawake_any _).mono ?_; rintro e0 w0 ⟨rfl, k0⟩)
  go_ret
  exact ⟨rfl, k0⟩

set_option maxHeartbeats 1000000 in
/-- The first is no place. -/
theorem places_bada (A : Option Addr) (c : Nat) (s : List Int) (a b : Int) (w : World) (h : Rd w A s) (h1 : s.length ≤ 100) (hp : a < 0 ∨ sizeV s ≤ a) :
    Calls Try.prog 4 #[.slice A s.length c, .int .i64 a, .int .i64 b] w fun e w' => e = .returned (.bool true) ∧ Kp w w' := by
  have C1 := index_k (c := c) h (index_no hp)
  have C2 := index_k (c := c) h (p := b) rfl
  have C3 := size_k (c := c) h rfl
  generalize (indexV s b).1 = ys at *
  generalize (indexV s b).2 = f at *
  generalize sizeV s = z at *
  clear h
  by_cases ha : a < 0
  · clear hp
    go_enter Try.func4, Try.ntmps4
    go_wp2_with fail
    refine (shawake_any _).mono ?_; rintro e0 w0 ⟨rfl, k0⟩
    go_wp2_with fail
    refine (C1.out _ k0).mono ?_; rintro e1 w1 ⟨A1, c1, rfl, r1, k1⟩
    have K1 := Lib.hid (k0.tr k1); clear k0 k1
    go_wp2_with fail
    refine (C2.out _ K1.out).mono ?_; rintro e1 w2 ⟨A2, c2, rfl, r2, k2⟩
    have K2 := Lib.hid (K1.out.tr k2); clear k2 K1
    go_wp2
    go_ret
    exact ⟨rfl, K2.out⟩
  · have hz : z ≤ a := by omega
    clear hp
    go_enter Try.func4, Try.ntmps4
    go_wp2_with fail
    refine (shawake_any _).mono ?_; rintro e0 w0 ⟨rfl, k0⟩
    go_wp2_with fail
    refine (C1.out _ k0).mono ?_; rintro e1 w1 ⟨A1, c1, rfl, r1, k1⟩
    have K1 := Lib.hid (k0.tr k1); clear k0 k1
    go_wp2_with fail
    refine (C2.out _ K1.out).mono ?_; rintro e1 w2 ⟨A2, c2, rfl, r2, k2⟩
    have K2 := Lib.hid (K1.out.tr k2); clear k2 K1
    go_wp2_with fail
    refine (C3.out _ K2.out).mono ?_; rintro e1 w3 ⟨rfl, rfl⟩
    go_wp2
    go_ret
    exact ⟨rfl, K2.out⟩

set_option maxHeartbeats 1000000 in
/-- The second is none. -/
theorem places_badb (A : Option Addr) (c : Nat) (s : List Int) (a b : Int) (w : World) (h : Rd w A s) (h1 : s.length ≤ 100) (a0 : 0 ≤ a) (a1 : a < sizeV s) (hp : b < 0 ∨ sizeV s ≤ b) :
    Calls Try.prog 4 #[.slice A s.length c, .int .i64 a, .int .i64 b] w fun e w' => e = .returned (.bool true) ∧ Kp w w' := by
  have C1 := index_k (c := c) h (index_yes a0 a1)
  have C2 := index_k (c := c) h (index_no hp)
  have C3 := size_k (c := c) h rfl
  generalize digs s a = xs at *
  generalize sizeV s = z at *
  clear h
  by_cases ha : b < 0
  · clear hp
    go_enter Try.func4, Try.ntmps4
    go_wp2_with fail
    refine (shawake_any _).mono ?_; rintro e0 w0 ⟨rfl, k0⟩
    go_wp2_with fail
    refine (C1.out _ k0).mono ?_; rintro e1 w1 ⟨A1, c1, rfl, r1, k1⟩
    have K1 := Lib.hid (k0.tr k1); clear k0 k1
    go_wp2_with fail
    refine (C2.out _ K1.out).mono ?_; rintro e1 w2 ⟨A2, c2, rfl, r2, k2⟩
    have K2 := Lib.hid (K1.out.tr k2); clear k2 K1
    go_wp2_with fail
    refine (C3.out _ K2.out).mono ?_; rintro e1 w3 ⟨rfl, rfl⟩
    go_wp2
    go_ret
    exact ⟨rfl, K2.out⟩
  · have hz : z ≤ b := by omega
    clear hp
    go_enter Try.func4, Try.ntmps4
    go_wp2_with fail
    refine (shawake_any _).mono ?_; rintro e0 w0 ⟨rfl, k0⟩
    go_wp2_with fail
    refine (C1.out _ k0).mono ?_; rintro e1 w1 ⟨A1, c1, rfl, r1, k1⟩
    have K1 := Lib.hid (k0.tr k1); clear k0 k1
    go_wp2_with fail
    refine (C2.out _ K1.out).mono ?_; rintro e1 w2 ⟨A2, c2, rfl, r2, k2⟩
    have K2 := Lib.hid (K1.out.tr k2); clear k2 K1
    go_wp2_with fail
    refine (C3.out _ K2.out).mono ?_; rintro e1 w3 ⟨rfl, rfl⟩
    go_wp2_with fail
    refine (C3.out _ K2.out).mono ?_; rintro e1 w3 ⟨rfl, rfl⟩
    go_wp2
    go_ret
    exact ⟨rfl, K2.out⟩

namespace ShP
def Rel (xs ys : List Int) (r : Bool × Bool) (k : Nat) (l d : Bool) : Prop := k ≤ xs.length ∧ lexF l d (xs.drop k) (ys.drop k) = r
theorem step {xs ys : List Int} {r : Bool × Bool} {k : Nat} {l d l' d' : Bool} {x y : Int} (h : Rel xs ys r k l d) (hx : xs[k]? = some x) (hy : ys[k]? = some y) (hl : l' = (l || (!d && decide (x < y)))) (hd : d' = (d || (x != y))) : Rel xs ys r (k + 1) l' d' := by
  subst hl hd
  exact ⟨(List.getElem?_eq_some_iff.1 hx).1, by rw [← h.2, lex_round hx hy]⟩
theorem end_ {xs ys : List Int} {r : Bool × Bool} {k : Nat} {l d : Bool} (h : Rel xs ys r k l d) (hk : k = xs.length) : l = r.1 ∧ d = r.2 := by
  obtain ⟨_, h⟩ := h
  subst hk
  rw [List.drop_length] at h
  simp only [lexF] at h
  rw [← h]; exact ⟨rfl, rfl⟩
end ShP

set_option maxHeartbeats 2000000 in
/-- Both are places. -/
theorem places_good (A : Option Addr) (c : Nat) (s : List Int) (a b : Int) (w : World) (h : Rd w A s) (h1 : s.length ≤ 100) (a0 : 0 ≤ a) (a1 : a < sizeV s) (b0 : 0 ≤ b) (b1 : b < sizeV s) :
    Calls Try.prog 4 #[.slice A s.length c, .int .i64 a, .int .i64 b] w fun e w' => e = .returned (.bool true) ∧ Kp w w' := by
  have H := Lib.hid h
  obtain ⟨xs, hxs⟩ : ∃ xs, xs = digs s a := ⟨_, rfl⟩
  obtain ⟨ys, hys⟩ : ∃ ys, ys = digs s b := ⟨_, rfl⟩
  have H1 := Lib.hid (index_yes a0 a1)
  have H2 := Lib.hid (index_yes b0 b1)
  have H3 := Lib.hid (places_in a0 a1)
  have HR := Lib.hid (places_lex a0 a1 b0 b1)
  have HX := Lib.hid (digs_len s a)
  have HY := Lib.hid (digs_len s b)
  rw [← hxs] at H1 H3 HR HX
  rw [← hys] at H2 HR HY
  clear hxs hys h a0 a1 b0 b1
  obtain ⟨m, hm⟩ : ∃ m, m = s.length := ⟨_, rfl⟩
  rw [← hm] at h1 HX HY ⊢
  have HM := Lib.hid hm
  clear hm
  go_enter Try.func4, Try.ntmps4
  go_wp2_with fail
  refine (shawake_any _).mono ?_; rintro e0 w0 ⟨rfl, k0⟩
  have K0 := Lib.hid k0; clear k0
  go_wp2_with fail
  refine (index_m s a (H.out.kp K0.out) HM.out H1.out HX.out).mono ?_; rintro e1 w1 ⟨A1, c1, rfl, r1, k1⟩
  have K1 := Lib.hid (K0.out.tr k1); have R1 := Lib.hid r1.rd; clear k1 K0 r1
  go_wp2_with fail
  refine (index_m s b (H.out.kp K1.out) HM.out H2.out HY.out).mono ?_; rintro e1 w2 ⟨A2, c2, rfl, r2, k2⟩
  have K2 := Lib.hid (K1.out.tr k2); have R2 := Lib.hid (And.intro (R1.out.kp k2) r2.rd); clear k2 K1 r2 R1
  go_wp2_with fail
  refine (place_n s xs (H.out.kp K2.out) R2.out.1 HM.out HX.out.symm H3.out).mono ?_; rintro e1 w3 ⟨rfl, q3, h3⟩
  have k3 : Kp w2 w3 := by rw [h3]; exact Kp.drewN_ _ _
  have K3 := Lib.hid (K2.out.tr k3); have R3 := Lib.hid (And.intro (R2.out.1.kp k3) (R2.out.2.kp k3)); clear k3 K2 R2 h3
  go_wp2
  go_loopw [14, 15, 16] (fun l d i wr => ∃ (k n : Nat) (lv dv : Bool), i = .int .i64 k ∧ l = .bool lv ∧ d = .bool dv ∧ wr = w3.drewN n ∧ Hid (ShP.Rel xs ys (decide (a < b), a != b) k lv dv)) (fun _ _ i _ => m - (intOf i).toNat)
  case atStart => exact ⟨0, 0, false, false, rfl, rfl, rfl, rfl, ⟨Nat.zero_le _, HR.out⟩⟩
  case round =>
    obtain ⟨k, n, lv, dv, rfl, rfl, rfl, rfl, hr⟩ := hrel
    by_cases hk : k < m
    · obtain ⟨ad, x, hA, _, hx, hc⟩ := R3.out.1.at_ (k := k) (by have := HX.out; omega)
      obtain ⟨bd, y, hB, _, hy, hcy⟩ := R3.out.2.at_ (k := k) (by have := HY.out; omega)
      subst hA hB
      have X := Lib.hid hx
      have Y := Lib.hid hy
      have i1 : (0 : Int) ≤ (k : Int) := by omega
      have i2 : (k : Int) < (m : Int) := by omega
      clear hx hy
      cases lv <;> cases dv
      all_goals
        go_wp2
        go_quiet (fail)
        go_wp2
        go_quiet (fail)
        go_wp2
        go_roundw
        case rel => exact ⟨k + 1, _, _, _, by go_num, rfl, rfl, by first | rfl | exact World.drewN_drewN _ _ _, ShP.step hr.out X.out Y.out (by simp) (by simp)⟩
        case measure => simp [intOf]; omega
    · have hk2 : k = xs.length := by have := hr.out.1; have := HX.out; omega
      obtain ⟨hl, hd⟩ := ShP.end_ hr.out hk2
      simp only at hl hd
      subst hl hd
      clear hk2 hr
      go_wp2
      go_ret
      exact ⟨rfl, K3.out.tr (Kp.drewN_ _ _)⟩

theorem shplaces_walk (A : Option Addr) (c : Nat) (s : List Int) (a b : Int) (w : World) (h : Rd w A s) :
    Calls Try.prog 4 #[.slice A s.length c, .int .i64 a, .int .i64 b] w fun e w' => e = .returned (.bool true) ∧ Kp w w' := by
  by_cases hf : 100 < s.length
  · exact places_far A c _ a b w h.len hf
  · by_cases ha : a < 0 ∨ sizeV s ≤ a
    · exact places_bada A c s a b w h (by omega) ha
    · by_cases hb : b < 0 ∨ sizeV s ≤ b
      · exact places_badb A c s a b w h (by omega) (by omega) (by omega) hb
      · exact places_good A c s a b w h (by omega) (by omega) (by omega) (by omega) (by omega)
end Go.Proofs.Ytggdhfdklmmgjaa
