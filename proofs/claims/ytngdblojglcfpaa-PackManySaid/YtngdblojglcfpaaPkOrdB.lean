/- Numbers of a size have bytes that stand as they do: the way of both that are. -/
import Derived.Test.YtngdblojglcfpaaPkOrdA
import Derived.Deep.QuietTactic
import Derived.BigQuiet
namespace Go.Proofs.Ytngdblojglcfpaa
open Go.RowKit Go.Proofs.ShM Go.Proofs.PkM
set_option linter.unusedVariables false

theorem may_sides {m n size : Int} (h : mayB m size = false ∨ mayB n size = false) : (¬ size = 1 ∧ ¬ size = 2 ∧ ¬ size = 8) ∨ (size = 1 ∧ (m < 0 ∨ (¬ m < 0 ∧ n < 0) ∨ (¬ m < 0 ∧ ¬ n < 0 ∧ 256 ≤ m) ∨ (¬ m < 0 ∧ ¬ n < 0 ∧ ¬ 256 ≤ m ∧ 256 ≤ n))) ∨ (size = 2 ∧ (m < 0 ∨ (¬ m < 0 ∧ n < 0) ∨ (¬ m < 0 ∧ ¬ n < 0 ∧ 65536 ≤ m) ∨ (¬ m < 0 ∧ ¬ n < 0 ∧ ¬ 65536 ≤ m ∧ 65536 ≤ n))) := by
  rcases h with h | h
  all_goals
    have h := may_not h
    unfold sizB at h
    simp at h
    omega

set_option maxHeartbeats 8000000 in
set_option maxRecDepth 100000 in
theorem pord_both (A : Option Addr) (c p k : Nat) (m n size : Int) (bs r1 r2 : List Int) (w : World) (f1 : ¬ (300 : Int) < (p : Int)) (hA : Hid (B8.Rd w A bs)) (hk : Hid (bs.length = p ∧ p ≤ k ∧ r1.take p = bs)) (w1 : IntKind.i64.wrap ((p : Int) + size) = (k : Int))
    (h : m < 0 ∨ (¬ m < 0 ∧ n < 0) ∨ (¬ m < 0 ∧ ¬ n < 0 ∧ Op.bytesLess (strOfNums r1).toList (strOfNums r2).toList = decide (m < n)))
    (HAW : Hid (∀ w : World, Calls Try.prog 8 #[] w fun e w' => e = .returned (.bool true) ∧ Kp w w'))
    (C1 : Hid (∀ W, Kp w W → Calls Try.prog 9 #[.slice A p c, .int .i64 m, .int .i64 size] W (RetB r1 0 k W)))
    (C2 : Hid (∀ W, Kp w W → Calls Try.prog 9 #[.slice A p c, .int .i64 n, .int .i64 size] W (RetB r2 0 k W))) (hr : Hid (r1.length = k ∧ r2.length = k)) :
    Calls Try.prog 4 #[.slice A p c, .int .i64 m, .int .i64 n, .int .i64 size] w fun e w' => e = .returned (.bool true) ∧ Kp w w' := by
  go_enter Try.func4, Try.ntmps4
  go_wp2_with fail
  refine (HAW.out _).mono ?_; rintro e0 w1 ⟨rfl, k1⟩
  have K := Lib.hid k1
  clear k1
  go_wp2_with fail
  refine (C1.out _ K.out).mono ?_; rintro e0 w2 ⟨A1, c1, rfl, ra, la, k2⟩
  have K := Lib.hid (K.out.tr k2)
  clear k2
  go_wp2_with fail
  refine (C2.out _ K.out).mono ?_; rintro e0 w3 ⟨A2, c2, rfl, rb, lb, k3⟩
  have ra := Lib.hid (ra.out.kp k3)
  have K := Lib.hid (K.out.tr k3)
  clear k3
  have rt := Lib.hid (ra.out.take_ p)
  rw [hk.out.2.2] at rt
  have q1 := fun n => run_str c1 (rt.out.kp (Kp.drewN_ w3 n)) hk.out.1.symm
  have q2 := fun n => run_str c (hA.out.kp (K.out.tr (Kp.drewN_ w3 n))) hk.out.1.symm
  have q3 := fun n => run_str c1 (ra.out.kp (Kp.drewN_ w3 n)) hr.out.1.symm
  have q4 := fun n => run_str c2 (rb.out.kp (Kp.drewN_ w3 n)) hr.out.2.symm
  have q5 := str_self bs
  have g1 : (0 : Int) ≤ (p : Int) := by omega
  have g2 : p ≤ c1 := by have h1 := la.out.1; have h2 := hk.out.2.1; have h3 := hr.out.1; omega
  have g3 : ¬ k < p := by have h2 := hk.out.2.1; omega
  have g4 : (if k < p then (k : Int) else (p : Int)) = (p : Int) := if_neg g3
  rcases h with h1 | ⟨h1, h2⟩ | ⟨h1, h2, h3⟩
  · go_wp2_with fail
    go_quiet (fail)
    go_wp2
    go_ret
    exact ⟨rfl, K.out.tr (Kp.drewN_ _ _)⟩
  · have d1 : decide (m < 0) = false := by simpa using h1
    have d2 : decide (n < 0) = true := by simpa using h2
    go_wp2_with fail
    go_quiet (fail)
    go_wp2
    go_ret
    exact ⟨rfl, K.out.tr (Kp.drewN_ _ _)⟩
  · have d1 : decide (m < 0) = false := by simpa using h1
    have d2 : decide (n < 0) = false := by simpa using h2
    have d3 : (decide (m < n) == decide (m < n)) = true := by simp
    go_wp2_with fail
    go_quiet (fail)
    go_wp2
    go_ret
    exact ⟨rfl, K.out.tr (Kp.drewN_ _ _)⟩

set_option maxHeartbeats 4000000 in
theorem pord_walk (C : PkC) (A : Option Addr) (c : Nat) (bs : List Int) (m n size : Int) (w : World) (hA : B8.Rd w A bs) (hb : Bytes bs) (hm : I64 m) (hn : I64 n) (hs : I64 size) (hc : bs.length ≤ c ∧ c ≤ 9223372036854775807) :
    Calls Try.prog 4 #[.slice A bs.length c, .int .i64 m, .int .i64 n, .int .i64 size] w fun e w' => e = .returned (.bool true) ∧ Kp w w' := by
  have hl := hA.1
  have HAW := Lib.hid (pkawake_any C)
  by_cases f0 : 300 < bs.length
  · have f1 : (300 : Int) < (bs.length : Int) := by omega
    clear f0 C hA hb hm hn hs hc
    go_enter Try.func4, Try.ntmps4
    go_wp2_with fail
    refine (HAW.out _).mono ?_; rintro e0 w1 ⟨rfl, k1⟩
    go_wp2
    go_ret
    exact ⟨rfl, k1⟩
  have f1 : ¬ (300 : Int) < (bs.length : Int) := by omega
  have CP : ∀ (x : Int) (r : List Int) (e : Int), I64 x → putV bs x size = (r, e) → Hid (∀ W, Kp w W → Calls Try.prog 9 #[.slice A bs.length c, .int .i64 x, .int .i64 size] W (RetB r e r.length W)) := fun x r e hx h W k =>
    C.put A c bs.length bs x size r e r.length W (hA.kp k) hc.1 hc.2 (by omega) hb hx hs rfl h rfl
  rcases put_ends bs m size with ⟨r1, h1, g1, i1⟩ | ⟨h1, g1⟩ <;> rcases put_ends bs n size with ⟨r2, h2, g2, i2⟩ | ⟨h2, g2⟩
  · have hsz := may_siz g1
    have e1 : (size.toNat : Int) = size := by rcases siz_cases hsz with rfl | rfl | rfl <;> rfl
    have l1 : r1.length = bs.length + size.toNat := by rw [i1, List.length_append, byte_len]
    have l2 : r2.length = bs.length + size.toNat := by rw [i2, List.length_append, byte_len]
    have s8 := siz_8 hsz
    have C1 := CP m r1 0 hm h1
    have C2 := CP n r2 0 hn h2
    rw [l1] at C1
    rw [l2] at C2
    refine pord_both A c bs.length (bs.length + size.toNat) m n size bs r1 r2 w f1 hA ⟨rfl, by omega, by rw [i1]; exact List.take_left'  rfl⟩ (by rw [IntWalk.i64_in _ (by omega)]; omega) ?_ HAW C1 C2 ⟨l1, l2⟩
    by_cases m0 : m < 0
    · exact Or.inl m0
    by_cases n0 : n < 0
    · exact Or.inr (Or.inl ⟨m0, n0⟩)
    · refine Or.inr (Or.inr ⟨m0, n0, ?_⟩)
      rw [i1, i2]
      exact put_order g1 g2 (by omega) (by omega) hm.2 hn.2
  · exact pord_none A c bs.length m n size r1 [] 0 40 r1.length 0 w f1 (Or.inr ⟨rfl, rfl⟩) (may_sides (Or.inr g2)) HAW (CP m r1 0 hm h1) (CP n [] 40 hn h2)
  · exact pord_none A c bs.length m n size [] r2 40 0 0 r2.length w f1 (Or.inl rfl) (may_sides (Or.inl g1)) HAW (CP m [] 40 hm h1) (CP n r2 0 hn h2)
  · exact pord_none A c bs.length m n size [] [] 40 40 0 0 w f1 (Or.inl rfl) (may_sides (Or.inl g1)) HAW (CP m [] 40 hm h1) (CP n [] 40 hn h2)
end Go.Proofs.Ytngdblojglcfpaa
