/- The law on all tensors, shapes and indices: it returns true. -/
import Derived.Test.YtdekchfapblgeaaTnTells
namespace Go.Proofs.Ytdekchfapblgeaa
open Go.RowKit Go.Proofs.ShM

set_option maxHeartbeats 2000000 in
set_option maxRecDepth 100000 in
/-- Beyond a hundred nothing is asked. -/
theorem ttells_far (A B C D : Option Addr) (c d e h n m o p : Nat) (x : Int) (w : World) (zn : n ≤ 9223372036854775807) (zm : m ≤ 9223372036854775807) (zo : o ≤ 9223372036854775807) (zp : p ≤ 9223372036854775807) (hf : 100 < n ∨ 100 < m ∨ 100 < o ∨ 100 < p) :
    Calls Try.prog 3 #[.agg #[.slice A n c, .slice B m d], .slice C o e, .slice D p h, .int .i64 x] w fun e w' => e = .returned (.bool true) ∧ Kp w w' := by
  by_cases h1 : 100 < n ∨ 100 < m
  · have HN : Hid (∀ W, Calls Try.prog 10 #[.agg #[.slice A n c, .slice B m d]] W fun e w' => e = .returned (.bool false) ∧ Kp W w') := fun W => few_no zn zm h1
    clear hf h1
    go_enter Try.func3, Try.ntmps3
    go_wp2_with fail
    refine (tnawake_any _).mono ?_; rintro e0 w0 ⟨rfl, k0⟩
    have TB : Hid (Bk w0 w.heap.size A n c B m d) := (Bk.new rfl).kp k0
    have t0 := TB.out.c0
    have t1 := TB.out.c1
    have K := Lib.hid ((Kp.alloc_ _ _).tr k0)
    clear k0
    go_wp2_with fail
    refine (HN.out _).mono ?_; rintro e0 w1 ⟨rfl, k1⟩
    go_wp2
    go_ret
    exact ⟨rfl, K.out.tr k1⟩
  · have hn : n ≤ 100 := by omega
    have hm : m ≤ 100 := by omega
    have hq : 100 < o ∨ 100 < p := by omega
    clear hf h1
    by_cases h2 : 100 < o
    all_goals by_cases h3 : 100 < p
    all_goals
      first
      | exact absurd hq (by omega)
      | (clear hq
         go_enter Try.func3, Try.ntmps3
         go_wp2_with fail
         refine (tnawake_any _).mono ?_; rintro e0 w0 ⟨rfl, k0⟩
         have TB : Hid (Bk w0 w.heap.size A n c B m d) := (Bk.new rfl).kp k0
         have t0 := TB.out.c0
         have t1 := TB.out.c1
         have K := Lib.hid ((Kp.alloc_ _ _).tr k0)
         clear k0
         go_wp2_with fail
         refine (few_yes hn hm).mono ?_; rintro e0 w1 ⟨rfl, k1⟩
         go_wp2
         go_ret
         exact ⟨rfl, K.out.tr k1⟩)

theorem ttells_walk (A B C D : Option Addr) (c d e h : Nat) (s xs g t : List Int) (x : Int) (w : World) (hT : TR w A s B xs) (hi : I64s xs) (hC : Rd w C g) (hD : Rd w D t) :
    Calls Try.prog 3 #[.agg #[.slice A s.length c, .slice B xs.length d], .slice C g.length e, .slice D t.length h, .int .i64 x] w fun e w' => e = .returned (.bool true) ∧ Kp w w' := by
  by_cases hf : 100 < s.length ∨ 100 < xs.length ∨ 100 < g.length ∨ 100 < t.length
  · exact ttells_far A B C D c d e h _ _ _ _ x w hT.s.len hT.d.len hC.len hD.len hf
  · exact ttells_with A B C D c d e h _ _ _ _ x w (by omega) (by omega) (by omega) (by omega) _ _ _ _ _ _ _ _ _ _ _ _ _ _ _ _ _ _ _ _ _ _ _ (Lib.hid ⟨rfl, rfl⟩) (Lib.hid ⟨rfl, rfl⟩) (Lib.hid ⟨rfl, rfl⟩) (Lib.hid ⟨rfl, rfl⟩)
      (Lib.hid fun W k => (full_any C e g x W (hC.kp k)).mono fun _ _ r => r.u rfl rfl rfl)
      (Lib.hid fun W k => (rfull_any C e g x W (hC.kp k)).mono fun _ _ r => r.u rfl rfl rfl)
      (Lib.hid fun W k => (with_any A B D c d h s xs t x W (hT.s.kp k) (hT.d.kp k) (hD.kp k)).mono fun _ _ r => r.u rfl rfl rfl)
      (Lib.hid fun W k => (rwith_any A B D c d h s xs t x W (hT.s.kp k) (hT.d.kp k) (hD.kp k)).mono fun _ _ r => r.u rfl rfl rfl)
      (Lib.hid fun W k => (spread_any A B C c d e s xs g W (hT.s.kp k) (hT.d.kp k) (hC.kp k)).mono fun _ _ r => r.u rfl rfl rfl)
      (Lib.hid fun W k => (rspread_any A B C c d e s xs g W (hT.s.kp k) (hT.d.kp k) (hC.kp k)).mono fun _ _ r => r.u rfl rfl rfl)
      (Lib.hid fun W k => (fold_any A B C c d e s xs g W (hT.s.kp k) (hT.d.kp k) (hC.kp k) hi).mono fun _ _ r => r.u rfl rfl rfl)
      (Lib.hid fun W k => (rfold_any A B C c d e s xs g W (hT.s.kp k) (hT.d.kp k) (hC.kp k) hi).mono fun _ _ r => r.u rfl rfl rfl)
      (Lib.hid fun W k => at_any A B D c d h s xs t W (hT.s.kp k) (hT.d.kp k) (hD.kp k))
      (Lib.hid fun W k => rat_any A B D c d h s xs t W (hT.s.kp k) (hT.d.kp k) (hD.kp k))
      (Lib.hid fun W k => tcheck_any A B c d s xs W (hT.s.kp k) (hT.d.kp k))
      (Lib.hid fun W k => rtcheck_any A B c d s xs W (hT.s.kp k) (hT.d.kp k))
end Go.Proofs.Ytdekchfapblgeaa
