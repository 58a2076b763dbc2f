/- What products and quotients of layer 1 answer. -/
import Derived.Test.YtlnbphmeinjefaaFixE
namespace Go.Proofs.Ytlnbphmeinjefaa
open Go.RowKit Go.Proofs.FixM

namespace FixF
theorem tell_mul (a b : Int) : tellV (decide (a < 0) != decide (b < 0)) (a.natAbs * b.natAbs) 4294967296 = mulV a b := by
  unfold tellV mulV
  rw [mul_floor a b]
  split
  · rw [show (4294967296 : Int) = ((4294967296 : Nat) : Int) from rfl, neg_ediv_ceil _ _ (by omega)]
  · rw [show (4294967296 : Int) = ((4294967296 : Nat) : Int) from rfl, ← Int.natCast_ediv]
theorem fdiv_pos (x : Int) (d : Nat) : Int.fdiv x (d : Int) = x / (d : Int) := Int.fdiv_eq_ediv_of_nonneg _ (by omega)
theorem tell_div (a b : Int) (hb : b ≠ 0) : tellV (decide (a < 0) != decide (b < 0)) (a.natAbs * 4294967296) b.natAbs = divV a b := by
  unfold tellV divV
  rw [if_neg hb]
  have hz : 0 < b.natAbs := by omega
  have hx : Int.fdiv (a * 4294967296) b = (if (decide (a < 0) != decide (b < 0)) = true then -((a.natAbs * 4294967296 : Nat) : Int) else ((a.natAbs * 4294967296 : Nat) : Int)) / (b.natAbs : Int) := by
    rcases Int.lt_or_lt_of_ne hb with h | h
    · have e : b = -(b.natAbs : Int) := by omega
      have e2 : decide (b < 0) = true := by simpa using h
      rw [e2]
      have e3 : Int.fdiv (a * 4294967296) b = Int.fdiv (-(a * 4294967296)) (b.natAbs : Int) := by
        rw [show (b.natAbs : Int) = -b by omega, Int.neg_fdiv_neg]
      rw [e3, fdiv_pos]
      congr 1
      by_cases c : a < 0 <;> simp [c] <;> omega
    · have e : b = (b.natAbs : Int) := by omega
      have e2 : decide (b < 0) = false := by simp; omega
      rw [e2]
      have e3 : Int.fdiv (a * 4294967296) b = Int.fdiv (a * 4294967296) (b.natAbs : Int) := by rw [← e]
      rw [e3, fdiv_pos]
      congr 1
      by_cases c : a < 0 <;> simp [c] <;> omega
  rw [hx]
  split
  · rw [neg_ediv_ceil _ _ hz]
  · rw [← Int.natCast_ediv]
end FixF

theorem two_new {w w1 : World} {a b : Value} {s t : TypeId} (hg : Gr ((w.alloc (.cells #[a] s)).alloc (.cells #[b] t)) w1) :
    w1.cell? ⟨w.heap.size, 0, none⟩ = some a ∧ w1.cell? ⟨w.heap.size + 1, 0, none⟩ = some b ∧ w.heap.size < w1.heap.size ∧ w.heap.size + 1 < w1.heap.size := by
  have hz := hg.below.size
  simp only [World.size_alloc] at hz
  refine ⟨hg.cell (p := ⟨w.heap.size, 0, none⟩) ?_ ?_, hg.cell (p := ⟨w.heap.size + 1, 0, none⟩) ?_ ?_, by omega, by omega⟩
  · simp only [World.size_alloc]; omega
  · rw [World.cell?_alloc_past _ _ _ (by simp), World.cell?_alloc_at _ _ _ _ rfl]; rfl
  · simp only [World.size_alloc]; omega
  · rw [World.cell?_alloc_at _ _ _ _ (by simp)]; rfl

theorem abs_lt {a : Int} (h : I64 a) : a.natAbs ≤ 9223372036854775808 := by unfold I64 at h; omega
theorem abs_mul {a b : Nat} (ha : a ≤ 9223372036854775808) (hb : b ≤ 9223372036854775808) : a * b ≤ 85070591730234615865843651857942052864 := Nat.mul_le_mul ha hb

set_option maxHeartbeats 400000 in
theorem mul_any (a b : Int) (ha : I64 a) (hb : I64 b) (w : World) :
    Calls Try.prog 15 #[.int .i64 a, .int .i64 b] w (Two (mulV a b) w) := by
  have la := abs_lt ha
  have lb := abs_lt hb
  have lm := abs_mul la lb
  have Ht := fun w' => times_any a.natAbs b.natAbs (by omega) (by omega) w'
  rw [← FixF.tell_mul]
  have HN := fun w' pb pm h1 h2 h3 h4 => tell_no (a.natAbs * b.natAbs) 4294967296 (by omega) (by omega) w' pb pm h1 h2 h3 h4
  have HY := fun w' pb pm h1 h2 h3 h4 => tell_yes (a.natAbs * b.natAbs) 4294967296 (by omega) (by omega) (by omega) w' pb pm h1 h2 h3 h4
  rw [show ((4294967296 : Nat) : Int) = 4294967296 from rfl] at HN HY
  generalize a.natAbs * b.natAbs = n at *
  generalize wv n = v at *
  have H := Lib.hid (And.intro Ht (And.intro HN HY))
  clear Ht HN HY la lb lm
  by_cases c1 : a < 0 <;> by_cases c2 : b < 0
  all_goals first
    | (have hbel : (decide (a < 0) != decide (b < 0)) = true := by simp [c1, c2])
    | (have hbel : (decide (a < 0) != decide (b < 0)) = false := by simp [c1, c2])
  all_goals
    rw [hbel]
    clear hbel
    go_enter Try.func15, Try.ntmps15
    go_wp2_with first
      | (go_at_call 29; refine (size_any _ (by first | exact ha | exact hb) _).mono ?_; rintro e w1 ⟨rfl, rfl⟩)
      | (go_at_call 28; refine (H.out.1 _).mono ?_; rintro e w1 ⟨rfl, hg⟩)
      | (go_at_call 27; go_in)
    have T := two_new hg
    first
      | refine (H.out.2.1 _ _ _ T.1 T.2.1 T.2.2.1 T.2.2.2).mono ?_
      | refine (H.out.2.2 _ _ _ T.1 T.2.1 T.2.2.1 T.2.2.2).mono ?_
    rintro e w2 ⟨rfl, hg2⟩
    go_wp2
    go_ret2
    exact ⟨rfl, (((Gr.refl _).alloc _ _).alloc _ _).trans (hg.trans hg2)⟩

set_option maxHeartbeats 400000 in
theorem div_zero (a : Int) (w : World) : Calls Try.prog 17 #[.int .i64 a, .int .i64 0] w (Two (divV a 0) w) := by
  rw [show divV a 0 = (0, 11) from if_pos rfl]
  go_enter Try.func17, Try.ntmps17
  go_wp2
  go_ret2
  exact ⟨rfl, Gr.refl _⟩

set_option maxHeartbeats 400000 in
theorem div_pos (a b : Int) (ha : I64 a) (hb : I64 b) (hz : b ≠ 0) (w : World) :
    Calls Try.prog 17 #[.int .i64 a, .int .i64 b] w (Two (divV a b) w) := by
  have la := abs_lt ha
  have lb := abs_lt hb
  have lz : 0 < b.natAbs := by omega
  have Ht := fun w' => times_any a.natAbs 4294967296 (by omega) (by omega) w'
  rw [← FixF.tell_div a b hz]
  have HN := fun w' pb pm h1 h2 h3 h4 => tell_no (a.natAbs * 4294967296) b.natAbs (by omega) (by omega) w' pb pm h1 h2 h3 h4
  have HY := fun w' pb pm h1 h2 h3 h4 => tell_yes (a.natAbs * 4294967296) b.natAbs (by omega) (by omega) (by omega) w' pb pm h1 h2 h3 h4
  rw [show ((4294967296 : Nat) : Int) = 4294967296 from rfl] at Ht
  generalize a.natAbs * 4294967296 = n at *
  generalize wv n = v at *
  have H := Lib.hid (And.intro Ht (And.intro HN HY))
  have hz' : (b == 0) = false := by rw [beq_eq_false_iff_ne]; exact hz
  clear Ht HN HY la lb lz hz
  by_cases c1 : a < 0 <;> by_cases c2 : b < 0
  all_goals first
    | (have hbel : (decide (a < 0) != decide (b < 0)) = true := by simp [c1, c2])
    | (have hbel : (decide (a < 0) != decide (b < 0)) = false := by simp [c1, c2])
  all_goals
    rw [hbel]
    clear hbel
    go_enter Try.func17, Try.ntmps17
    go_wp2_with first
      | (go_at_call 29; refine (size_any _ (by first | exact ha | exact hb) _).mono ?_; rintro e w1 ⟨rfl, rfl⟩)
      | (go_at_call 28; refine (H.out.1 _).mono ?_; rintro e w1 ⟨rfl, hg⟩)
      | (go_at_call 27; go_in)
    have T := two_new hg
    first
      | refine (H.out.2.1 _ _ _ T.1 T.2.1 T.2.2.1 T.2.2.2).mono ?_
      | refine (H.out.2.2 _ _ _ T.1 T.2.1 T.2.2.1 T.2.2.2).mono ?_
    rintro e w2 ⟨rfl, hg2⟩
    go_wp2
    go_ret2
    exact ⟨rfl, (((Gr.refl _).alloc _ _).alloc _ _).trans (hg.trans hg2)⟩

theorem div_any (a b : Int) (ha : I64 a) (hb : I64 b) (w : World) :
    Calls Try.prog 17 #[.int .i64 a, .int .i64 b] w (Two (divV a b) w) := by
  by_cases hz : b = 0
  · subst hz; exact div_zero a w
  · exact div_pos a b ha hb hz w
end Go.Proofs.Ytlnbphmeinjefaa
