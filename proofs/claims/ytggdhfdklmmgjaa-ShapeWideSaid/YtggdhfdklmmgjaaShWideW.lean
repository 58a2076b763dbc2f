/- The index of a shape with a side 1 ahead is that of the shape, with 0 ahead: the law's call returns true. -/
import Derived.Test.YtggdhfdklmmgjaaShFitsW
namespace Go.Proofs.Ytggdhfdklmmgjaa
open Go.RowKit Go.Proofs.ShM

theorem index_k {A : Option Addr} {c : Nat} {a : List Int} {w : World} (h : Rd w A a) {p : Int} {l : List Int} {e : Int} (hr : indexV a p = (l, e)) : Hid (∀ W, Kp w W → Calls Try.prog 13 #[.slice A a.length c, .int .i64 p] W (RetL l e W)) :=
  fun _ k => index_n a p (h.kp k) rfl hr

set_option maxHeartbeats 1000000 in
/-- Of a shape of more sides, or that may not be, nothing is asked. -/
theorem wide_far (A : Option Addr) (c : Nat) (s : List Int) (p : Int) (w : World) (h : Rd w A s) (hf : 100 < s.length ∨ 2 < s.length ∨ okS s = false) :
    Calls Try.prog 8 #[.slice A s.length c, .int .i64 p] w fun e w' => e = .returned (.bool true) ∧ Kp w w' := by
  have hl := h.len
  by_cases h1 : 100 < s.length
  · go_enter Try.func8, Try.ntmps8
    go_wp2_with (go_at_call 10; refine (shawake_any _).mono ?_; rintro e0 w0 ⟨rfl, k0⟩)
    go_ret
    exact ⟨rfl, k0⟩
  · by_cases h2 : 2 < s.length
    · go_enter Try.func8, Try.ntmps8
      go_wp2_with (go_at_call 10; refine (shawake_any _).mono ?_; rintro e0 w0 ⟨rfl, k0⟩)
      go_ret
      exact ⟨rfl, k0⟩
    · have C1 := check_k (c := c) h (by simpa [h1, h2] using hf)
      clear hf h
      go_enter Try.func8, Try.ntmps8
      go_wp2_with fail
      refine (shawake_any _).mono ?_; rintro e0 w0 ⟨rfl, k0⟩
      go_wp2_with fail
      refine (C1.out _ k0).mono ?_; rintro e1 w1 ⟨rfl, k1⟩
      go_wp2
      go_ret
      exact ⟨rfl, k0.tr k1⟩

set_option maxHeartbeats 1000000 in
/-- The place is none. -/
theorem wide_none (A : Option Addr) (c : Nat) (s : List Int) (p : Int) (w : World) (h : Rd w A s) (h2 : s.length ≤ 2) (ho : okS s = true) (hp : p < 0 ∨ sizeV s ≤ p) :
    Calls Try.prog 8 #[.slice A s.length c, .int .i64 p] w fun e w' => e = .returned (.bool true) ∧ Kp w w' := by
  have C1 := check_k (c := c) h ho
  have C2 := index_k (c := c) h (index_no hp)
  have HI := Lib.hid (index_no (s := 1 :: s) (p := p) (by rw [size_wide ho h2]; exact hp))
  have H := Lib.hid h
  clear h ho hp
  go_enter Try.func8, Try.ntmps8
  go_wp2_with fail
  refine (shawake_any _).mono ?_; rintro e0 w0 ⟨rfl, k0⟩
  have K0 := Lib.hid k0; clear k0
  go_wp2_with fail
  refine (C1.out _ K0.out).mono ?_; rintro e1 w1 ⟨rfl, k1⟩
  have K1 := Lib.hid (K0.out.tr k1); clear k1 K0
  go_wp2_with fail
  refine (C2.out _ K1.out).mono ?_; rintro e1 w2 ⟨A2, c2, rfl, r2, k2⟩
  have K2 := Lib.hid (K1.out.tr k2); clear k2 K1
  go_wp2_with (at_builtin; refine wpList_app rfl (.tmp 33) (.tmp 34) rfl _ [1] rfl (Own.one w2 1 (Nat.le_refl _)) A c s _ rfl rfl ((H.out.kp K2.out).alloc_ _) (by simp; omega) (by simp) ?_; intro z1 A1 c1 w3 HZ1 o1 b1; have K23 := Lib.hid (((Below.refl _ _).alloc (Nat.le_refl _) _).trans b1); have K3 := Lib.hid (K2.out.tr K23.out); have R3 := Lib.hid o1.sl.rd; clear o1 b1)
  refine (index_n z1 p R3.out rfl (l := []) (e := 20) (by rw [HZ1.out]; exact HI.out)).mono ?_; rintro e1 w4 ⟨A4, c4, rfl, r4, k4⟩
  have K4 := Lib.hid (K3.out.tr k4); clear k4 K3
  go_wp2
  go_ret
  exact ⟨rfl, K4.out⟩

theorem index_m {A : Option Addr} {c n m : Nat} (a : List Int) {w : World} (p : Int) (h : Rd w A a) (hn : n = a.length) {l : List Int} {e : Int} (hr : indexV a p = (l, e)) (hm : l.length = m) :
    Calls Try.prog 13 #[.slice A n c, .int .i64 p] w fun en w' => ∃ A c, en = .returned (.tuple #[.slice A m c, .int .i64 e]) ∧ Sl w' A c l ∧ Kp w w' := by
  subst hm
  exact index_n a p h hn hr

set_option maxHeartbeats 1000000 in
/-- A shape without sides. -/
theorem wide_zero (A : Option Addr) (c : Nat) (p : Int) (w : World) (h0 : 0 ≤ p) (h1 : p < sizeV []) :
    Calls Try.prog 8 #[.slice A 0 c, .int .i64 p] w fun e w' => e = .returned (.bool true) ∧ Kp w w' := by
  have HI := Lib.hid (index_yes h0 h1)
  have HJ := Lib.hid (index_wide (s := []) (by decide) (by simp) h0 h1)
  have hp1 : p ≤ 0 := by have : sizeV [] = 1 := by decide
                         omega
  have HA : Hid (∀ W, Rd W A []) := fun W => Rd.nil W A
  clear h1
  go_enter Try.func8, Try.ntmps8
  go_wp2_with fail
  refine (shawake_any _).mono ?_; rintro e0 w0 ⟨rfl, k0⟩
  have K0 := Lib.hid k0; clear k0
  go_wp2_with fail
  refine (check_n [] (HA.out _) rfl (r := true) (by decide)).mono ?_; rintro e1 w1 ⟨rfl, rfl⟩
  go_wp2_with fail
  refine (index_m [] p (HA.out _) rfl HI.out (m := 0) rfl).mono ?_; rintro e1 w2 ⟨A2, c2, rfl, r2, k2⟩
  have K2 := Lib.hid (K0.out.tr k2); have R2 := Lib.hid r2.rd; clear k2 K0 r2
  go_wp2_with (at_builtin; refine wpList_app rfl (.tmp 33) (.tmp 34) rfl _ [1] rfl (Own.one w2 1 (Nat.le_refl _)) A c [] _ rfl rfl (HA.out _) (by simp) (by simp) ?_; intro z1 A1 c1 w3 HZ1 o1 b1; have K23 := Lib.hid (((Below.refl _ _).alloc (Nat.le_refl _) _).trans b1); have K3 := Lib.hid (K2.out.tr K23.out); have R3 := Lib.hid (And.intro (R2.out.kp K23.out) o1.sl.rd); clear o1 b1)
  refine (index_n z1 p R3.out.2 rfl (l := 0 :: digs [] p) (e := 0) (by rw [HZ1.out]; exact HJ.out)).mono ?_; rintro e1 w4 ⟨A4, c4, rfl, r4, k4⟩
  have K4 := Lib.hid (K3.out.tr k4); have R4 := Lib.hid (And.intro (R3.out.1.kp k4) r4.rd); clear k4 K3 r4 R3 HZ1
  go_wp2_with (at_builtin; refine wpList_app rfl (.tmp 82) (.tmp 83) rfl _ [0] rfl (Own.one w4 0 (Nat.le_refl _)) A2 c2 (digs [] p) _ rfl rfl (R4.out.1.alloc_ _) (by simp [digs]) (by simp) ?_; intro z5 A5 c5 w5 HZ5 o5 b5; have K45 := Lib.hid (((Below.refl _ _).alloc (Nat.le_refl _) _).trans b5); have K5 := Lib.hid (K4.out.tr K45.out); have R5 := Lib.hid (And.intro (R4.out.2.kp K45.out) o5.sl.rd); clear o5 b5)
  refine (same_n z5 (0 :: digs [] p) R5.out.2 R5.out.1 rfl rfl (r := true) (by rw [HZ5.out]; simp)).mono ?_; rintro e1 w6 ⟨rfl, q, h6⟩
  have K6 := Lib.hid (K5.out.tr (show Kp w5 w6 by rw [h6]; exact Kp.drewN_ _ _)); clear h6
  go_wp2
  go_ret
  exact ⟨rfl, K6.out⟩

set_option maxHeartbeats 2000000 in
/-- A shape with sides. -/
theorem wide_some (A : Option Addr) (c : Nat) (s : List Int) (k : Nat) (p : Int) (w : World) (h : Rd w A s) (hk : s.length = k + 1) (k1 : k ≤ 1) (ho : okS s = true) (h0 : 0 ≤ p) (h1 : p < sizeV s) :
    Calls Try.prog 8 #[.slice A (k + 1) c, .int .i64 p] w fun e w' => e = .returned (.bool true) ∧ Kp w w' := by
  obtain ⟨ad, x, rfl, hlt, hx, hc⟩ := h.at_ (k := k) (by omega)
  obtain ⟨ds, hds⟩ : ∃ ds, ds = digs s p := ⟨_, rfl⟩
  have hl := digs_len s p
  rw [← hds, hk] at hl
  have he := digs_end ho (by omega) hx h0 h1
  rw [← hds] at he
  have HI := Lib.hid (index_yes h0 h1)
  have HJ := Lib.hid (index_wide ho (by omega) h0 h1)
  rw [← hds] at HI HJ
  have HL := Lib.hid hl
  have HK := Lib.hid hk
  have HO := Lib.hid ho
  have H := Lib.hid h
  have HC := Lib.hid hc
  have HX := Lib.hid (side_of (ok_iff.1 ho).2.1 hx).1
  have hmod : p < x → p % x = p := fun hp => Int.emod_eq_of_lt h0 hp
  by_cases hpx : x ≤ p
  · clear hds hl hk ho h hc hx he h1 hmod
    go_enter Try.func8, Try.ntmps8
    go_wp2_with fail
    refine (shawake_any _).mono ?_; rintro e0 w0 ⟨rfl, k0⟩
    have K0 := Lib.hid k0; clear k0
    go_wp2_with fail
    refine (check_n s (H.out.kp K0.out) HK.out.symm (r := true) HO.out).mono ?_; rintro e1 w1 ⟨rfl, rfl⟩
    go_wp2_with fail
    refine (index_m s p (H.out.kp K0.out) HK.out.symm HI.out HL.out).mono ?_; rintro e1 w2 ⟨A2, c2, rfl, r2, k2⟩
    have K2 := Lib.hid (K0.out.tr k2); have R2 := Lib.hid r2.rd; clear k2 K0 r2
    go_wp2_with (at_builtin; refine wpList_app rfl (.tmp 33) (.tmp 34) rfl _ [1] rfl (Own.one w2 1 (Nat.le_refl _)) _ c s _ rfl HK.out.symm ((H.out.kp K2.out).alloc_ _) (by have := HK.out; simp; omega) (by simp) ?_; intro z1 A1 c1 w3 HZ1 o1 b1; have K23 := Lib.hid (((Below.refl _ _).alloc (Nat.le_refl _) _).trans b1); have K3 := Lib.hid (K2.out.tr K23.out); have R3 := Lib.hid (And.intro (R2.out.kp K23.out) o1.sl.rd); clear o1 b1)
    refine (index_n z1 p R3.out.2 rfl (l := 0 :: ds) (e := 0) (by rw [HZ1.out]; exact HJ.out)).mono ?_; rintro e1 w4 ⟨A4, c4, rfl, r4, k4⟩
    have K4 := Lib.hid (K3.out.tr k4); have R4 := Lib.hid (And.intro (R3.out.1.kp k4) r4.rd); clear k4 K3 r4 R3 HZ1
    have hcs : w4.cell? (ad.add k) = some (.int .i64 x) := (K4.out.cell (by rw [block_of_add]; exact hlt)).trans HC.out
    go_wp2_with (at_builtin; refine wpList_app rfl (.tmp 82) (.tmp 83) rfl _ [0] rfl (Own.one w4 0 (Nat.le_refl _)) _ c2 ds _ rfl HL.out.symm (R4.out.1.alloc_ _) (by have := HL.out; simp; omega) (by simp) ?_; intro z5 A5 c5 w5 HZ5 o5 b5; have K45 := Lib.hid (((Below.refl _ _).alloc (Nat.le_refl _) _).trans b5); have K5 := Lib.hid (K4.out.tr K45.out); have R5 := Lib.hid (And.intro (R4.out.2.kp K45.out) o5.sl.rd); clear o5 b5)
    refine (same_n z5 (0 :: ds) R5.out.2 R5.out.1 rfl rfl (r := true) (by rw [HZ5.out]; simp)).mono ?_; rintro e1 w6 ⟨rfl, q, h6⟩
    have K6 := Lib.hid (K5.out.tr (show Kp w5 w6 by rw [h6]; exact Kp.drewN_ _ _)); clear h6
    go_wp2
    go_ret
    exact ⟨rfl, K6.out⟩
  · have hy := he
    rw [hmod (by omega)] at hy
    have HY := Lib.hid hy
    clear hds hl hk ho h hc hx he h1 hmod hy
    go_enter Try.func8, Try.ntmps8
    go_wp2_with fail
    refine (shawake_any _).mono ?_; rintro e0 w0 ⟨rfl, k0⟩
    have K0 := Lib.hid k0; clear k0
    go_wp2_with fail
    refine (check_n s (H.out.kp K0.out) HK.out.symm (r := true) HO.out).mono ?_; rintro e1 w1 ⟨rfl, rfl⟩
    go_wp2_with fail
    refine (index_m s p (H.out.kp K0.out) HK.out.symm HI.out HL.out).mono ?_; rintro e1 w2 ⟨A2, c2, rfl, r2, k2⟩
    have K2 := Lib.hid (K0.out.tr k2); have R2 := Lib.hid r2.rd; clear k2 K0 r2
    go_wp2_with (at_builtin; refine wpList_app rfl (.tmp 33) (.tmp 34) rfl _ [1] rfl (Own.one w2 1 (Nat.le_refl _)) _ c s _ rfl HK.out.symm ((H.out.kp K2.out).alloc_ _) (by have := HK.out; simp; omega) (by simp) ?_; intro z1 A1 c1 w3 HZ1 o1 b1; have K23 := Lib.hid (((Below.refl _ _).alloc (Nat.le_refl _) _).trans b1); have K3 := Lib.hid (K2.out.tr K23.out); have R3 := Lib.hid (And.intro (R2.out.kp K23.out) o1.sl.rd); clear o1 b1)
    refine (index_n z1 p R3.out.2 rfl (l := 0 :: ds) (e := 0) (by rw [HZ1.out]; exact HJ.out)).mono ?_; rintro e1 w4 ⟨A4, c4, rfl, r4, k4⟩
    have K4 := Lib.hid (K3.out.tr k4); have R4 := Lib.hid (And.intro (R3.out.1.kp k4) r4.rd); clear k4 K3 r4 R3 HZ1
    have hcs : w4.cell? (ad.add k) = some (.int .i64 x) := (K4.out.cell (by rw [block_of_add]; exact hlt)).trans HC.out
    obtain ⟨bd, hA2, hlt2, hcb⟩ := R4.out.1.2 (by have := HL.out; omega)
    have hcd : w4.cell? (bd.add k) = some (.int .i64 p) := hcb k p HY.out
    subst hA2
    clear hcb hlt2
    go_wp2_with (at_builtin; refine wpList_app rfl (.tmp 82) (.tmp 83) rfl _ [0] rfl (Own.one w4 0 (Nat.le_refl _)) _ c2 ds _ rfl HL.out.symm (R4.out.1.alloc_ _) (by have := HL.out; simp; omega) (by simp) ?_; intro z5 A5 c5 w5 HZ5 o5 b5; have K45 := Lib.hid (((Below.refl _ _).alloc (Nat.le_refl _) _).trans b5); have K5 := Lib.hid (K4.out.tr K45.out); have R5 := Lib.hid (And.intro (R4.out.2.kp K45.out) o5.sl.rd); clear o5 b5)
    refine (same_n z5 (0 :: ds) R5.out.2 R5.out.1 rfl rfl (r := true) (by rw [HZ5.out]; simp)).mono ?_; rintro e1 w6 ⟨rfl, q, h6⟩
    have K6 := Lib.hid (K5.out.tr (show Kp w5 w6 by rw [h6]; exact Kp.drewN_ _ _)); clear h6
    go_wp2
    go_ret
    exact ⟨rfl, K6.out⟩

theorem shwide_walk (A : Option Addr) (c : Nat) (s : List Int) (p : Int) (w : World) (h : Rd w A s) :
    Calls Try.prog 8 #[.slice A s.length c, .int .i64 p] w fun e w' => e = .returned (.bool true) ∧ Kp w w' := by
  by_cases hf : 100 < s.length ∨ 2 < s.length ∨ okS s = false
  · exact wide_far A c s p w h hf
  · have ho : okS s = true := by
      cases e : okS s with
      | true => rfl
      | false => exact absurd (.inr (.inr e)) hf
    have h2 : s.length ≤ 2 := by omega
    by_cases hp : p < 0 ∨ sizeV s ≤ p
    · exact wide_none A c s p w h h2 ho hp
    · rcases Nat.eq_zero_or_pos s.length with h0 | h0
      · obtain rfl : s = [] := List.eq_nil_of_length_eq_zero h0
        exact wide_zero A c p w (by omega) (by omega)
      · obtain ⟨k, hk⟩ : ∃ k, s.length = k + 1 := ⟨s.length - 1, by omega⟩
        rw [hk]
        exact wide_some A c s k p w h hk (by omega) ho (by omega) (by omega)
end Go.Proofs.Ytggdhfdklmmgjaa
