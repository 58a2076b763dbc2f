/- What the two-word helpers of layer 1 answer: times, plus, above, root, and the teller's closure. -/
import Derived.Test.YtlnbphmeinjefaaFixC
import Derived.BigQuiet
import Derived.Deep.QuietTactic
namespace Go.Proofs.Ytlnbphmeinjefaa
open Go.RowKit Go.Proofs.FixM

/-- Nothing that was there has changed; there may be new blocks. -/
structure Gr (w w' : World) : Prop where
  below : Below w.heap.size w w'
  grown : Grown w w'
theorem Gr.refl (w : World) : Gr w w := ⟨Below.refl _ _, Grown.refl _⟩
theorem Gr.trans {a b c : World} (h : Gr a b) (k : Gr b c) : Gr a c :=
  ⟨h.below.trans (k.below.mono h.below.size), ⟨World.keptBut_trans h.grown.1 (World.keptBut_mono (fun _ f => f.elim) k.grown.1), fun p => (k.grown.2.1 p).trans (h.grown.2.1 p), Nat.le_trans h.grown.2.2 k.grown.2.2⟩⟩
theorem Gr.drew {a b : World} (h : Gr a b) : Gr a b.drew := ⟨h.below.drew, h.grown.drew⟩
theorem Gr.alloc {a b : World} (h : Gr a b) (c : Array Value) (t : TypeId) : Gr a (b.alloc (.cells c t)) := ⟨h.below.alloc h.below.size _, h.grown.alloc c t⟩
theorem Gr.setCell {a b : World} (h : Gr a b) {p : Addr} (hp : a.heap.size ≤ p.block) (v : Value) : Gr a (b.setCell p v) := ⟨h.below.setCell hp v, h.grown.setCell hp v⟩

theorem Gr.cell {a b : World} (h : Gr a b) {p : Addr} {v : Value} (hp : p.block < a.heap.size) (hc : a.cell? p = some v) : b.cell? p = some v := (h.below.cell hp).trans hc
theorem Gr.ncell {w w1 : World} {c : Array Value} {t : TypeId} (h : Gr (w.alloc (.cells c t)) w1) (i : Nat) {v : Value} (hv : c[i]? = some v) : w1.cell? ⟨w.heap.size, i, none⟩ = some v :=
  h.cell (by simp) ((World.cell?_alloc_at c t _ i rfl).trans hv)
theorem Gr.nfroz {w w1 : World} {c : Array Value} {t : TypeId} (h : Gr (w.alloc (.cells c t)) w1) (i : Nat) : w1.frozen? ⟨w.heap.size, i, none⟩ = false :=
  (h.below.frozen (p := ⟨w.heap.size, i, none⟩) (by simp)).trans (World.frozen?_alloc_at c t _ i rfl)
theorem Gr.undrew {a b : World} (h : Gr a.drew b) : Gr a b := ⟨⟨h.below.os, h.below.tape, h.below.output, h.below.size, h.below.block⟩, h.grown⟩
theorem Gr.drewN {a b : World} (h : Gr a b) (n : Nat) : Gr a (b.drewN n) := ⟨⟨h.below.os, h.below.tape, h.below.output, h.below.size, h.below.block⟩, h.grown⟩
/-- The first result is q. -/
def DivG (q : Nat) (w : World) (e : Ending) (w' : World) : Prop := ∃ r : Int, e = .returned (.tuple #[.int .u64 (q : Int), .int .u64 r]) ∧ Gr w w'
theorem ret1_bool {a c : Bool} (h : a = c) : Ending.returned (.bool a) = .returned (.bool c) := by rw [h]
/-- A number of two words. -/
def wv (n : Nat) : Value := .agg #[.int .u64 ((n / 18446744073709551616 : Nat) : Int), .int .u64 ((n % 18446744073709551616 : Nat) : Int)]

set_option maxHeartbeats 400000 in
theorem div64_zero (lo y : Nat) (h1 : 0 < y) (h3 : lo < 18446744073709551616) (w : World) :
    Calls Try.prog 41 #[.int .u64 0, .int .u64 lo, .int .u64 y] w (DivG (lo / y) w) := by
  have hq : IntKind.u64.wrap ((lo : Int) / (y : Int)) = ((lo / y : Nat) : Int) := FixC.quo rfl h3
  generalize lo / y = q at *
  have HQ := Lib.hid hq; clear hq
  have hz : ((y : Int) == 0) = false := by rw [beq_eq_false_iff_ne]; omega
  have hz' : ¬ (y : Int) ≤ 0 := by omega
  go_enter Try.func41, Try.ntmps41
  go_wp2
  go_quiet (fail)
  go_wp2
  go_ret2
  exact ⟨_, congrArg (fun z => Ending.returned (.tuple #[.int .u64 z, .int .u64 _])) HQ.out, by repeat (first | exact Gr.refl _ | apply Gr.drew | apply Gr.drewN)⟩

theorem div64_any (hi lo y : Nat) (h1 : hi < y) (h2 : y < 18446744073709551616) (h3 : lo < 18446744073709551616) (w : World) :
    Calls Try.prog 41 #[.int .u64 hi, .int .u64 lo, .int .u64 y] w (DivG ((hi * 18446744073709551616 + lo) / y) w) := by
  by_cases h0 : 0 < hi
  · exact (div64_big hi lo y h0 h1 h2 h3 w).mono fun e w' ⟨r, he, hw⟩ => ⟨r, he, hw ▸ Gr.refl _⟩
  · obtain rfl : hi = 0 := by omega
    rw [show (0 * 18446744073709551616 + lo) = lo by omega]
    exact div64_zero lo y h1 h3 w

set_option maxHeartbeats 400000 in
theorem times_any (x y : Nat) (hx : x < 18446744073709551616) (hy : y < 18446744073709551616) (w : World) :
    Calls Try.prog 28 #[.int .u64 x, .int .u64 y] w fun e w' => e = .returned (wv (x * y)) ∧ Gr w w' := by
  have HC : ∀ w', Calls Try.prog 42 #[.int .u64 x, .int .u64 y] w' fun e w'' => e = .returned (.tuple #[.int .u64 ((x * y / 18446744073709551616 : Nat) : Int), .int .u64 ((x * y % 18446744073709551616 : Nat) : Int)]) ∧ w' = w'' := fun w' => mul64_any x y hx hy w'
  unfold wv
  generalize x * y / 18446744073709551616 = p at *
  generalize x * y % 18446744073709551616 = q at *
  have H := Lib.hid HC; clear HC
  go_enter Try.func28, Try.ntmps28
  go_wp2_with (go_at_call 42; refine (H.out _).mono ?_; rintro e w' ⟨rfl, rfl⟩)
  go_returns
  exact ⟨rfl, (Gr.refl _).alloc _ _⟩

namespace FixD
theorem above1 {a1 a0 b1 b0 a b : Nat} (H : (18446744073709551616 * a1 + a0 = a) ∧ (18446744073709551616 * b1 + b0 = b) ∧ a0 < 18446744073709551616 ∧ b0 < 18446744073709551616) (h : ((a1 : Int) != (b1 : Int)) = true) :
    decide (b1 < a1) = decide (b < a) := by
  rw [bne_iff_ne] at h
  rw [decide_eq_decide]; omega
theorem above0 {a1 a0 b1 b0 a b : Nat} (H : (18446744073709551616 * a1 + a0 = a) ∧ (18446744073709551616 * b1 + b0 = b) ∧ a0 < 18446744073709551616 ∧ b0 < 18446744073709551616) (h : ((a1 : Int) != (b1 : Int)) = false) :
    decide (b0 < a0) = decide (b < a) := by
  have : (a1 : Int) = (b1 : Int) := by simpa using h
  rw [decide_eq_decide]; omega
end FixD

set_option maxHeartbeats 400000 in
theorem above_any (a b : Nat) (w : World) :
    Calls Try.prog 44 #[wv a, wv b] w fun e w' => e = .returned (.bool (decide (b < a))) ∧ Gr w w' := by
  unfold wv
  have e1 := Nat.div_add_mod a 18446744073709551616
  have e2 := Nat.div_add_mod b 18446744073709551616
  have m1 := Nat.mod_lt a (show 0 < 18446744073709551616 by omega)
  have m2 := Nat.mod_lt b (show 0 < 18446744073709551616 by omega)
  generalize a / 18446744073709551616 = a1 at *
  generalize b / 18446744073709551616 = b1 at *
  generalize a % 18446744073709551616 = a0 at *
  generalize b % 18446744073709551616 = b0 at *
  have H := Lib.hid (And.intro e1 (And.intro e2 (And.intro m1 m2)))
  clear e1 e2 m1 m2
  go_enter Try.func44, Try.ntmps44
  go_wp2
  all_goals go_ret
  · exact ⟨ret1_bool (FixD.above1 H.out (by assumption)), ((Gr.refl _).alloc _ _).alloc _ _⟩
  · exact ⟨ret1_bool (FixD.above0 H.out (by assumption)), ((Gr.refl _).alloc _ _).alloc _ _⟩

set_option maxHeartbeats 400000 in
theorem plus_any (a n : Nat) (ha : a + n < 340282366920938463463374607431768211456) (w : World) :
    Calls Try.prog 40 #[wv a, .int .u64 n] w fun e w' => e = .returned (wv (a + n)) ∧ Gr w w' := by
  unfold wv
  have e1 := Nat.div_add_mod a 18446744073709551616
  have m1 := Nat.mod_lt a (show 0 < 18446744073709551616 by omega)
  have q1 : (a + n) / 18446744073709551616 = a / 18446744073709551616 + (a % 18446744073709551616 + n) / 18446744073709551616 := by omega
  have q2 : (a + n) % 18446744073709551616 = (a % 18446744073709551616 + n) % 18446744073709551616 := by omega
  have q3 : a / 18446744073709551616 + (a % 18446744073709551616 + n) / 18446744073709551616 < 18446744073709551616 := by omega
  rw [q1, q2]
  have hr := fun w' => add64_run (a % 18446744073709551616) n w'
  generalize a / 18446744073709551616 = a1 at *
  generalize a % 18446744073709551616 = a0 at *
  generalize (a0 + n) / 18446744073709551616 = c at *
  generalize (a0 + n) % 18446744073709551616 = s at *
  have hw : IntKind.u64.wrap ((a1 : Int) + (c : Int)) = ((a1 + c : Nat) : Int) := by rw [FixB.addc]; exact FixB.wrapc _ q3
  generalize a1 + c = z at *
  clear e1 m1 q1 q2 q3 ha
  go_enter Try.func40, Try.ntmps40
  go_wp2_with (simp only [hr])
  go_returns
  exact ⟨rfl, ((Gr.refl _).alloc _ _).alloc _ _⟩
end Go.Proofs.Ytlnbphmeinjefaa
