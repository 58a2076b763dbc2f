/- Layer 8 of the program: told, must, isSize, isOf, slices.Clone: what each answers, or ends at. -/
import Derived.Test.YtngdblojglcfpaaPkC
import Derived.Test.YtngdblojglcfpaaPkN
import Derived.Tactics
import Derived.Tactics2
import Derived.Defers
import Derived.Recover
import Derived.Laws.Pointers
namespace Go.Proofs.Ytngdblojglcfpaa
open Go.RowKit Go.Proofs.ShM Go.Proofs.PkM
set_option linter.unusedVariables false
set_option maxHeartbeats 4000000

abbrev thrown40 : Ending := .panicked [{ v := .iface 25 (.int .i64 40), recovered := false }]
theorem told_nil (w : World) : Calls Try.prog 15 #[.nilIface] w fun e w' => e = .returned (.int .i64 0) ∧ w' = w := by
  go_enter Try.func15, Try.ntmps15
  go_wp2
  go_ret
  exact ⟨rfl, rfl⟩
theorem told_err (w : World) : Calls Try.prog 15 #[.iface 25 (.int .i64 40)] w fun e w' => e = .returned (.int .i64 40) ∧ w' = w := by
  have hta : (Instr.typeAssert (.iface 25 (.int .i64 40)) 20 25 true).run Try.prog w = .ok (.tuple #[.int .i64 40, .bool true]) w := by kernel_rfl
  go_enter Try.func15, Try.ntmps15
  go_wp2
  go_ret
  exact ⟨rfl, rfl⟩
theorem must_yes (w : World) : Calls Try.prog 24 #[.bool true] w fun e w' => e = .returned (.tuple #[]) ∧ w' = w := by
  go_enter Try.func24, Try.ntmps24
  go_wp2
  first | (go_ret; exact ⟨rfl, rfl⟩) | (go_end0; exact ⟨rfl, rfl⟩)
theorem must_no (w : World) : Calls Try.prog 24 #[.bool false] w fun e w' => e = thrown40 ∧ w' = w := by
  go_enter Try.func24, Try.ntmps24
  go_wp2
  exact ⟨rfl, rfl, rfl⟩
theorem isSize_any (n : Int) (w : World) : Calls Try.prog 26 #[.int .i64 n] w fun e w' => e = .returned (.bool (sizB n)) ∧ w' = w := by
  obtain ⟨r, hr⟩ : ∃ r, r = sizB n := ⟨_, rfl⟩
  rw [← hr]
  by_cases h : n = 1 ∨ n = 2 ∨ n = 8
  · obtain rfl : r = true := by rw [hr]; rcases h with rfl | rfl | rfl <;> rfl
    clear hr
    rcases h with rfl | rfl | rfl
    all_goals
      go_enter Try.func26, Try.ntmps26
      go_wp2
      go_ret
      exact ⟨rfl, rfl⟩
  · obtain rfl : r = false := by rw [hr]; unfold sizB; simp; omega
    clear hr
    have h1 : (n == 1) = false := by simp; omega
    have h2 : (n == 2) = false := by simp; omega
    have h8 : (n == 8) = false := by simp; omega
    clear h
    go_enter Try.func26, Try.ntmps26
    go_wp2
    go_ret
    exact ⟨rfl, rfl⟩
theorem isOf_any (n size : Int) (w : World) : Calls Try.prog 25 #[.int .i64 n, .int .i64 size] w fun e w' => e = .returned (.bool (mayB n size)) ∧ w' = w := by
  obtain ⟨r, hr⟩ : ∃ r, r = mayB n size := ⟨_, rfl⟩
  rw [← hr]
  have HI := fun W => isSize_any size W
  by_cases hs : sizB size = true
  · rw [hs] at HI
    have HI := Lib.hid HI
    rcases siz_cases hs with rfl | rfl | rfl
    · by_cases h0 : (0 : Int) ≤ n
      · by_cases h1 : n < 256
        · obtain rfl : r = true := by rw [hr]; unfold mayB; simp; omega
          clear hs hr
          go_enter Try.func25, Try.ntmps25
          go_wp2_with fail
          refine (HI.out _).mono ?_; rintro e w1 ⟨rfl, rfl⟩
          go_wp2
          go_ret
          exact ⟨rfl, rfl⟩
        · obtain rfl : r = false := by rw [hr]; unfold mayB; simp; omega
          clear hs hr
          go_enter Try.func25, Try.ntmps25
          go_wp2_with fail
          refine (HI.out _).mono ?_; rintro e w1 ⟨rfl, rfl⟩
          go_wp2
          go_ret
          exact ⟨by simp [h1], rfl⟩
      · obtain rfl : r = false := by rw [hr]; unfold mayB; simp; omega
        clear hs hr
        go_enter Try.func25, Try.ntmps25
        go_wp2_with fail
        refine (HI.out _).mono ?_; rintro e w1 ⟨rfl, rfl⟩
        go_wp2
        go_ret
        exact ⟨rfl, rfl⟩
    · by_cases h0 : (0 : Int) ≤ n
      · by_cases h1 : n < 65536
        · obtain rfl : r = true := by rw [hr]; unfold mayB; simp; omega
          clear hs hr
          go_enter Try.func25, Try.ntmps25
          go_wp2_with fail
          refine (HI.out _).mono ?_; rintro e w1 ⟨rfl, rfl⟩
          go_wp2
          go_ret
          exact ⟨rfl, rfl⟩
        · obtain rfl : r = false := by rw [hr]; unfold mayB; simp; omega
          clear hs hr
          go_enter Try.func25, Try.ntmps25
          go_wp2_with fail
          refine (HI.out _).mono ?_; rintro e w1 ⟨rfl, rfl⟩
          go_wp2
          go_ret
          exact ⟨by simp [h1], rfl⟩
      · obtain rfl : r = false := by rw [hr]; unfold mayB; simp; omega
        clear hs hr
        go_enter Try.func25, Try.ntmps25
        go_wp2_with fail
        refine (HI.out _).mono ?_; rintro e w1 ⟨rfl, rfl⟩
        go_wp2
        go_ret
        exact ⟨rfl, rfl⟩
    · obtain rfl : r = true := by rw [hr]; unfold mayB; simp
      clear hs hr
      go_enter Try.func25, Try.ntmps25
      go_wp2_with fail
      refine (HI.out _).mono ?_; rintro e w1 ⟨rfl, rfl⟩
      go_wp2
      go_ret
      exact ⟨rfl, rfl⟩
  · have hs' : sizB size = false := by simpa using hs
    rw [hs'] at HI
    have HI := Lib.hid HI
    obtain rfl : r = false := by
      rw [hr]
      cases hm : mayB n size with
      | false => rfl
      | true => exact absurd (may_siz hm) hs
    clear hs hr hs'
    go_enter Try.func25, Try.ntmps25
    go_wp2_with fail
    refine (HI.out _).mono ?_; rintro e w1 ⟨rfl, rfl⟩
    go_wp2
    go_ret
    exact ⟨rfl, rfl⟩

/-- The answer is bytes of the call's own. -/
def RetBO (xs : List Int) (w : World) (e : Ending) (w' : World) : Prop := ∃ A c, e = .returned (.slice A xs.length c) ∧ B8.Own w.heap.size w' (.slice A xs.length c) xs ∧ Kp w w'
theorem clone8_any (A : Option Addr) (c : Nat) (xs : List Int) (w : World) (h : B8.Rd w A xs) (hs : xs.length ≤ 1000000) :
    Calls Try.prog 17 #[.slice A xs.length c] w (RetBO xs w) := by
  have qT : ∀ (w : World) (a : Option Addr) (n c : Nat), (binOp .eql 23 (.slice a n c) (.slice none 0 0)).run Try.prog w = .ok (.bool a.isNone) w := fun w a n c => Lib.run_eql_slice_nil w _ _ a n c 0 0 Try.underlying23
  cases A with
  | none =>
    obtain rfl : xs = [] := by
      cases xs with
      | nil => rfl
      | cons x xs => obtain ⟨ad, e, _⟩ := h.2 (by simp); cases e
    go_enter Try.func17, Try.ntmps17
    go_wp2
    go_ret
    exact ⟨none, 0, rfl, B8.Own.nil_ _ _, Kp.refl _⟩
  | some ad =>
    go_enter Try.func17, Try.ntmps17
    go_wp2_with (at_builtin; refine B8.wpList_app rfl (.tmp 5) (.tmp 6) rfl _ [] rfl (B8.Own.zero w (Nat.le_refl _)) (some ad) c xs _ rfl rfl (h.alloc_ _) (by simpa using hs) (by simp) ?_; intro z1 A1 c1 w1 HZ o1 b1; have K1 := Lib.hid ((Kp.alloc_ w _).trans b1); have R1 := Lib.hid o1; clear o1 b1)
    go_ret
    have hz : z1 = xs := by have := HZ.out; simpa using this
    subst hz
    exact ⟨A1, c1, rfl, R1.out, K1.out⟩
end Go.Proofs.Ytngdblojglcfpaa
