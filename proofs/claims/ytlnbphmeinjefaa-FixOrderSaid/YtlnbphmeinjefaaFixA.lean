/- What each small call of layer 1 answers, and of the document's answer (fullerref01): sums, differences, sizes, parts. -/
import Derived.Test.YtlnbphmeinjefaaRows
import Derived.Test.YtlnbphmeinjefaaFixMath
import Derived.WalkKit
import Derived.WalkSpells
import Derived.WalkLawsBesides
import Derived.Handy
import Derived.Lib.Hide
import Derived.Laws.Bits64b
import Derived.Laws.BitsAllLaws
namespace Go.Proofs.Ytlnbphmeinjefaa
open Go.RowKit Go.Proofs.FixM

/-- What an int may be. -/
def I64 (a : Int) : Prop := -9223372036854775808 ≤ a ∧ a ≤ 9223372036854775807

theorem ret2_int {k l : IntKind} {a b c d : Int} (h : a = c) (h' : b = d) : Ending.returned (.tuple #[.int k a, .int l b]) = .returned (.tuple #[.int k c, .int l d]) := by rw [h, h']
theorem ret1_int {k : IntKind} {a c : Int} (h : a = c) : Ending.returned (.int k a) = .returned (.int k c) := by rw [h]
theorem ret2_pair {k l : IntKind} {a b : Int} {p : Int × Int} (h : p = (a, b)) : Ending.returned (.tuple #[.int k a, .int l b]) = .returned (.tuple #[.int k p.1, .int l p.2]) := by rw [h]

namespace FixA
theorem add_over {a b : Int} (ha : I64 a) (hb : I64 b) (h : (!(decide (wrap64 (a + b) < a) == decide (b < 0))) = true) : addV a b = (0, 10) := by
  unfold I64 at ha hb
  by_cases c : b < 0 <;> by_cases d : wrap64 (a + b) < a <;> simp [c, d] at h <;> (unfold wrap64 at d; exact put_out (by omega))
theorem add_fits {a b : Int} (ha : I64 a) (hb : I64 b) (h : (!(decide (wrap64 (a + b) < a) == decide (b < 0))) = false) : addV a b = (wrap64 (a + b), 0) := by
  unfold I64 at ha hb
  by_cases c : b < 0 <;> by_cases d : wrap64 (a + b) < a <;> simp [c, d] at h <;> (unfold wrap64 at d ⊢; unfold addV; rw [put_in (by omega) (by omega)]; congr 1; omega)
theorem sub_over {a b : Int} (ha : I64 a) (hb : I64 b) (h : (!(decide (a < wrap64 (a - b)) == decide (b < 0))) = true) : subV a b = (0, 10) := by
  unfold I64 at ha hb
  by_cases c : b < 0 <;> by_cases d : a < wrap64 (a - b) <;> simp [c, d] at h <;> (unfold wrap64 at d; exact put_out (by omega))
theorem sub_fits {a b : Int} (ha : I64 a) (hb : I64 b) (h : (!(decide (a < wrap64 (a - b)) == decide (b < 0))) = false) : subV a b = (wrap64 (a - b), 0) := by
  unfold I64 at ha hb
  by_cases c : b < 0 <;> by_cases d : a < wrap64 (a - b) <;> simp [c, d] at h <;> (unfold wrap64 at d ⊢; unfold subV; rw [put_in (by omega) (by omega)]; congr 1; omega)
end FixA

set_option maxHeartbeats 400000 in
theorem size_any (a : Int) (h1 : I64 a) (w : World) :
    Calls Try.prog 29 #[.int .i64 a] w fun e w' => e = .returned (.int .u64 (a.natAbs : Nat)) ∧ w = w' := by
  have H := Lib.hid h1; clear h1
  by_cases h : a < 0
  all_goals
    go_enter Try.func29, Try.ntmps29
    go_wp2
    go_ret
    refine ⟨ret1_int ?_, rfl⟩
    have h1 := H.out; unfold I64 at h1
    go_arith

set_option maxHeartbeats 400000 in
theorem add_any (a b : Int) (ha : I64 a) (hb : I64 b) (w : World) :
    Calls Try.prog 11 #[.int .i64 a, .int .i64 b] w fun e w' => e = .returned (.tuple #[.int .i64 (addV a b).1, .int .i64 (addV a b).2]) ∧ w = w' := by
  go_enter Try.func11, Try.ntmps11
  go_wp2
  all_goals go_ret2
  · exact ⟨ret2_pair (FixA.add_over ha hb (by assumption)), rfl⟩
  · exact ⟨ret2_pair (FixA.add_fits ha hb (by assumption)), rfl⟩

set_option maxHeartbeats 400000 in
theorem sub_any (a b : Int) (ha : I64 a) (hb : I64 b) (w : World) :
    Calls Try.prog 13 #[.int .i64 a, .int .i64 b] w fun e w' => e = .returned (.tuple #[.int .i64 (subV a b).1, .int .i64 (subV a b).2]) ∧ w = w' := by
  go_enter Try.func13, Try.ntmps13
  go_wp2
  all_goals go_ret2
  · exact ⟨ret2_pair (FixA.sub_over ha hb (by assumption)), rfl⟩
  · exact ⟨ret2_pair (FixA.sub_fits ha hb (by assumption)), rfl⟩

set_option maxHeartbeats 400000 in
theorem neg_any (a : Int) (ha : I64 a) (w : World) :
    Calls Try.prog 19 #[.int .i64 a] w fun e w' => e = .returned (.tuple #[.int .i64 (subV 0 a).1, .int .i64 (subV 0 a).2]) ∧ w = w' := by
  go_enter Try.func19, Try.ntmps19
  go_wp2_with (go_at_call 13; refine (sub_any 0 a (by unfold I64; omega) ha _).mono ?_; rintro e w' ⟨rfl, rfl⟩)
  go_ret2
  exact ⟨rfl, rfl⟩

theorem tmod_one (a : Int) : a.tmod 4294967296 = if a < 0 ∧ a % 4294967296 ≠ 0 then a % 4294967296 - 4294967296 else a % 4294967296 := by
  rw [Int.tmod_eq_emod]
  have : (4294967296 : Int) ∣ a ↔ a % 4294967296 = 0 := Int.dvd_iff_emod_eq_zero
  simp only [this]
  split <;> split <;> omega
theorem tdiv_one (a : Int) : a.tdiv 4294967296 = if a < 0 ∧ a % 4294967296 ≠ 0 then a / 4294967296 + 1 else a / 4294967296 := by
  have hs : Int.sign 4294967296 = 1 := rfl
  rw [Int.tdiv_eq_ediv, hs]
  have : (4294967296 : Int) ∣ a ↔ a % 4294967296 = 0 := Int.dvd_iff_emod_eq_zero
  simp only [this]
  split <;> split <;> omega

set_option maxHeartbeats 400000 in
theorem radd_any (a b : Int) (ha : I64 a) (hb : I64 b) (w : World) :
    Calls Try.prog 12 #[.int .i64 a, .int .i64 b] w fun e w' => e = .returned (.tuple #[.int .i64 (addV a b).1, .int .i64 (addV a b).2]) ∧ w = w' := by
  unfold I64 at ha hb
  go_enter Try.func12, Try.ntmps12
  go_wp2
  all_goals
    go_ret2
    refine ⟨ret2_pair ?_, rfl⟩
    first | exact put_out (by omega) | exact put_in (by omega) (by omega)

set_option maxHeartbeats 400000 in
theorem rsub_any (a b : Int) (ha : I64 a) (hb : I64 b) (w : World) :
    Calls Try.prog 14 #[.int .i64 a, .int .i64 b] w fun e w' => e = .returned (.tuple #[.int .i64 (subV a b).1, .int .i64 (subV a b).2]) ∧ w = w' := by
  unfold I64 at ha hb
  go_enter Try.func14, Try.ntmps14
  go_wp2
  all_goals
    go_ret2
    refine ⟨ret2_pair ?_, rfl⟩
    first | exact put_out (by omega) | exact put_in (by omega) (by omega)

set_option maxHeartbeats 400000 in
theorem rneg_any (a : Int) (ha : I64 a) (w : World) :
    Calls Try.prog 20 #[.int .i64 a] w fun e w' => e = .returned (.tuple #[.int .i64 (subV 0 a).1, .int .i64 (subV 0 a).2]) ∧ w = w' := by
  unfold I64 at ha
  go_enter Try.func20, Try.ntmps20
  go_wp2
  all_goals
    go_ret2
    refine ⟨ret2_pair ?_, rfl⟩
    first | exact put_out (by simp_all) | (unfold subV; rw [put_in (by simp_all; omega) (by simp_all; omega)]; first | rfl | (congr 1 <;> go_arith))

set_option maxHeartbeats 400000 in
theorem rsize_any (a : Int) (h1 : I64 a) (w : World) :
    Calls Try.prog 31 #[.int .i64 a] w fun e w' => e = .returned (.int .u64 (a.natAbs : Nat)) ∧ w = w' := by
  unfold I64 at h1
  go_enter Try.func31, Try.ntmps31
  go_wp2
  all_goals
    go_ret
    refine ⟨ret1_int ?_, rfl⟩
    go_arith

set_option maxHeartbeats 400000 in
theorem split_any (a : Int) (ha : I64 a) (w : World) :
    Calls Try.prog 35 #[.int .i64 a] w fun e w' => e = .returned (.tuple #[.int .i64 (a / 4294967296), .int .i64 (a % 4294967296)]) ∧ w = w' := by
  unfold I64 at ha
  go_enter Try.func35, Try.ntmps35
  go_wp2
  all_goals
    go_ret2
    refine ⟨ret2_int ?_ ?_, rfl⟩
    all_goals
      simp only [tmod_one, tdiv_one] at *
      go_arith

set_option maxHeartbeats 400000 in
theorem floor_any (a : Int) (ha : I64 a) (w : World) :
    Calls Try.prog 37 #[.int .i64 a] w fun e w' => e = .returned (.tuple #[.int .i64 (a / 4294967296), .int .i64 (a % 4294967296)]) ∧ w = w' := by
  unfold I64 at ha
  go_enter Try.func37, Try.ntmps37
  go_wp2
  all_goals
    go_ret2
    refine ⟨ret2_int ?_ ?_, rfl⟩
    all_goals
      simp only [tmod_one, tdiv_one] at *
      go_arith
end Go.Proofs.Ytlnbphmeinjefaa
