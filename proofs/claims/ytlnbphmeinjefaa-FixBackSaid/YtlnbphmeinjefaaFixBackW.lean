/- What is added is taken away again, what is taken away is added, and sums and products do not hang on which is first: the law's call returns true. -/
import Derived.Test.YtlnbphmeinjefaaFixW
namespace Go.Proofs.Ytlnbphmeinjefaa
open Go.RowKit Go.Proofs.FixM

namespace Back
theorem put_is (n : Int) : I64 (put n).1 := by
  unfold I64
  rcases put_cases n with ⟨h1, h2, e⟩ | ⟨_, e⟩ <;> rw [e] <;> simp <;> omega
theorem add_back {a b : Int} (ha : I64 a) : addV a b = (0, 10) ∨ (∃ s, addV a b = (s, 0) ∧ subV s b = (a, 0)) := by
  unfold I64 at ha
  rcases put_cases (a + b) with ⟨h1, h2, e⟩ | ⟨_, e⟩
  · exact .inr ⟨a + b, e, by unfold subV; rw [Int.add_sub_cancel]; exact put_in ha.1 ha.2⟩
  · exact .inl e
theorem sub_back {a b : Int} (ha : I64 a) : subV a b = (0, 10) ∨ (∃ s, subV a b = (s, 0) ∧ addV s b = (a, 0)) := by
  unfold I64 at ha
  rcases put_cases (a - b) with ⟨h1, h2, e⟩ | ⟨_, e⟩
  · exact .inr ⟨a - b, e, by unfold addV; rw [Int.sub_add_cancel]; exact put_in ha.1 ha.2⟩
  · exact .inl e
theorem add_comm (a b : Int) : addV b a = addV a b := by unfold addV; rw [Int.add_comm]
theorem mul_comm (a b : Int) : mulV b a = mulV a b := by unfold mulV; rw [Int.mul_comm]
end Back

set_option maxHeartbeats 1000000 in
/-- The walk, whatever the answers are, as long as they tell what the law asks. -/
theorem back_with (a b : Int) (w : World) (s e d j : Int) (P U V : Int × Int)
    (G1 : Hid (∀ w', Calls Try.prog 11 #[.int .i64 a, .int .i64 b] w' fun x w'' => x = .returned (.tuple #[.int .i64 s, .int .i64 e]) ∧ w' = w''))
    (G2 : Hid (∀ w', Calls Try.prog 11 #[.int .i64 b, .int .i64 a] w' fun x w'' => x = .returned (.tuple #[.int .i64 s, .int .i64 e]) ∧ w' = w''))
    (G3 : Hid (∀ w', Calls Try.prog 15 #[.int .i64 a, .int .i64 b] w' (Two P w')))
    (G4 : Hid (∀ w', Calls Try.prog 15 #[.int .i64 b, .int .i64 a] w' (Two P w')))
    (G5 : Hid (∀ w', Calls Try.prog 13 #[.int .i64 s, .int .i64 b] w' fun x w'' => x = .returned (.tuple #[.int .i64 U.1, .int .i64 U.2]) ∧ w' = w''))
    (G6 : Hid (∀ w', Calls Try.prog 13 #[.int .i64 a, .int .i64 b] w' fun x w'' => x = .returned (.tuple #[.int .i64 d, .int .i64 j]) ∧ w' = w''))
    (G7 : Hid (∀ w', Calls Try.prog 11 #[.int .i64 d, .int .i64 b] w' fun x w'' => x = .returned (.tuple #[.int .i64 V.1, .int .i64 V.2]) ∧ w' = w''))
    (hs : (s = 0 ∧ e = 10) ∨ (e = 0 ∧ U = (a, 0))) (hd : (d = 0 ∧ j = 10) ∨ (j = 0 ∧ V = (a, 0))) :
    Calls Try.prog 4 #[.int .i64 a, .int .i64 b] w fun e w' => e = .returned (.bool true) ∧ Gr w w' := by
  rcases hs with ⟨rfl, rfl⟩ | ⟨rfl, rfl⟩ <;> rcases hd with ⟨rfl, rfl⟩ | ⟨rfl, rfl⟩
  all_goals
    go_enter Try.func4, Try.ntmps4
    go_wp2_with fail
    refine (awake_any _).mono ?_; rintro e w0 ⟨rfl, h0⟩
    go_wp2_with fail
    refine (G1.out _).mono ?_; rintro e w1 ⟨rfl, rfl⟩
    go_wp2_with fail
    refine (G2.out _).mono ?_; rintro e w2 ⟨rfl, rfl⟩
    go_wp2_with fail
    refine (G3.out _).mono ?_; rintro e w3 ⟨rfl, h3⟩
    go_wp2_with fail
    refine (G4.out _).mono ?_; rintro e w4 ⟨rfl, h4⟩
    go_wp2_with fail
    refine (G5.out _).mono ?_; rintro e w5 ⟨rfl, rfl⟩
    go_wp2_with fail
    refine (G6.out _).mono ?_; rintro e w6 ⟨rfl, rfl⟩
    go_wp2_with fail
    refine (G7.out _).mono ?_; rintro e w7 ⟨rfl, rfl⟩
    go_wp2
    all_goals go_ret
    all_goals first
      | exact ⟨rfl, h0.trans (h3.trans h4)⟩
      | (exfalso; rename_i u v; clear v; simp at u; done)

theorem back_walk (a b : Int) (ha : I64 a) (hb : I64 b) (w : World) : Calls Try.prog 4 #[.int .i64 a, .int .i64 b] w fun e w' => e = .returned (.bool true) ∧ Gr w w' := by
  refine back_with a b w (addV a b).1 (addV a b).2 (subV a b).1 (subV a b).2 (mulV a b) (subV (addV a b).1 b) (addV (subV a b).1 b)
    (fun w' => add_any a b ha hb w') (fun w' => ?_) (fun w' => mul_any a b ha hb w') (fun w' => ?_) (fun w' => sub_any _ b (Back.put_is _) hb w') (fun w' => sub_any a b ha hb w') (fun w' => add_any _ b (Back.put_is _) hb w') ?_ ?_
  · rw [← Back.add_comm]; exact add_any b a hb ha w'
  · rw [← Back.mul_comm]; exact mul_any b a hb ha w'
  · rcases Back.add_back (b := b) ha with e | ⟨s, e, f⟩
    · rw [e]; exact .inl ⟨rfl, rfl⟩
    · rw [e]; exact .inr ⟨rfl, f⟩
  · rcases Back.sub_back (b := b) ha with e | ⟨s, e, f⟩
    · rw [e]; exact .inl ⟨rfl, rfl⟩
    · rw [e]; exact .inr ⟨rfl, f⟩
end Go.Proofs.Ytlnbphmeinjefaa
