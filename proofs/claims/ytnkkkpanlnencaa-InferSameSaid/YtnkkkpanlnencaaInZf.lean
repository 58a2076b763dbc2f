/- The landed infer: which rule stands at an op, and what it answers. -/
import Derived.Test.YtnkkkpanlnencaaInZe
namespace Go.Proofs.Ytnkkkpanlnencaa.Iz
open Go.RowKit Go.Proofs.ShM Go.Proofs.GrM Go.Proofs.InM Go.Proofs.Ytnkkkpanlnencaa.Gz
set_option linter.unusedVariables false
set_option linter.unusedSimpArgs false
set_option maxHeartbeats 1000000

theorem op_cases {op : Int} (h : 0 ≤ arityV op) : op = 1 ∨ op = 2 ∨ op = 3 ∨ op = 10 ∨ op = 11 ∨ op = 12 ∨ op = 13 ∨ op = 20 ∨ op = 21 ∨ op = 22 ∨ op = 23 ∨ op = 30 ∨ op = 40 ∨ op = 41 ∨ op = 42 ∨ op = 43 ∨ op = 50 ∨ op = 51 ∨ op = 52 := by
  unfold arityV at h
  split at h
  · omega
  · split at h
    · omega
    · split at h
      · omega
      · omega
theorem kind_form {nums a b : List Int} (hn : numsB (40, [], nums) = true) : kindV 40 nums a b = formV a nums := by
  have ho : okS nums = true := by simpa [numsB] using hn
  have e : kindV 40 nums a b = toldV nums (decide (sizeV nums = sizeV a)) := by simp [kindV]
  rw [e]
  unfold toldV formV
  by_cases h : sizeV nums = sizeV a
  · rw [if_pos ⟨by simpa using h, ho⟩, if_pos h]
  · rw [if_neg (by simp [h]), if_neg h]
theorem kind_cut {nums a b : List Int} : kindV 42 nums a b = cutV a (nums.getD 0 0) (nums.getD 1 0) (nums.getD 2 0) := by
  have e : kindV 42 nums a b = if axisB a (nums.getD 0 0) = false then ([], 20) else partV a (nums.getD 0 0) (nums.getD 1 0) (nums.getD 2 0) := by simp [kindV, moreV]
  rw [e]; unfold cutV
  cases axisB a (nums.getD 0 0) <;> simp
theorem kind_lay {nums a b : List Int} : kindV 43 nums a b = layV a b (nums.getD 0 0) := by
  have e : kindV 43 nums a b = if axisB a (nums.getD 0 0) = false then ([], 20) else glueS a b (nums.getD 0 0) := by simp [kindV, moreV]
  rw [e]; unfold layV
  cases axisB a (nums.getD 0 0) <;> simp
theorem kind_less {op : Int} {nums a b : List Int} (h : op = 50 ∨ op = 51 ∨ op = 52) : kindV op nums a b = lessV a (nums.getD 0 0) := by
  have e : kindV op nums a b = if axisB a (nums.getD 0 0) = false then ([], 20) else (a.eraseIdx (nums.getD 0 0).toNat, 0) := by
    rcases h with rfl | rfl | rfl <;> simp [kindV, moreV]
  rw [e]; unfold lessV
  cases axisB a (nums.getD 0 0) <;> simp
set_option maxRecDepth 100000 in
theorem rule_fn {W : World} {bn ba bb d c e : Nat} {Q A B : Option Addr} {nums a b : List Int} {op : Int} (H : Ev W bn ba bb Q A B d c e nums a b) (h0 : 0 ≤ arityV op) (hn : numsB (op, [], nums) = true) :
    ∃ f L, atM (ruL (.pointer (some ⟨bn, 0, none⟩)) (.pointer (some ⟨ba, 0, none⟩)) (.pointer (some ⟨bb, 0, none⟩))) op = some (.func (.func f) #[] L) ∧ (∀ args W, (callFunc f args).run Try.prog W = .ok (.enter f args) W) ∧ Calls Try.prog f L W (RetI (kindV op nums a b) W) := by
  rcases op_cases h0 with rfl | rfl | rfl | rfl | rfl | rfl | rfl | rfl | rfl | rfl | rfl | rfl | rfl | rfl | rfl | rfl | rfl | rfl | rfl
  · have e0 : kindV 1 nums a b = (nums, 0) := by simp [kindV, moreV]
    rw [e0]
    exact ⟨39, #[.pointer (some ⟨bn, 0, none⟩)], rfl, fun args W => MuLone.run_callFunc_enter Try.func39 (by kernel_rfl) rfl args W, input_i H ⟩
  · have e0 : kindV 2 nums a b = (nums.drop 1, 0) := by simp [kindV, moreV]
    have h1 : 1 ≤ nums.length := by
      obtain ⟨p, s, rfl, _⟩ := nums_2 hn
      simp
    rw [e0]
    exact ⟨40, #[.pointer (some ⟨bn, 0, none⟩)], rfl, fun args W => MuLone.run_callFunc_enter Try.func40 (by kernel_rfl) rfl args W, param_i H h1⟩
  · have e0 : kindV 3 nums a b = ([], 0) := by simp [kindV, moreV]
    rw [e0]
    exact ⟨41, #[], rfl, fun args W => MuLone.run_callFunc_enter Try.func41 (by kernel_rfl) rfl args W, const_i⟩
  · have e0 : kindV 10 nums a b = joinV a b := by simp [kindV, moreV]
    rw [e0]
    exact ⟨33, #[.pointer (some ⟨ba, 0, none⟩), .pointer (some ⟨bb, 0, none⟩)], rfl, fun args W => MuLone.run_callFunc_enter Try.func33 (by kernel_rfl) rfl args W, joined_i H ⟩
  · have e0 : kindV 11 nums a b = joinV a b := by simp [kindV, moreV]
    rw [e0]
    exact ⟨33, #[.pointer (some ⟨ba, 0, none⟩), .pointer (some ⟨bb, 0, none⟩)], rfl, fun args W => MuLone.run_callFunc_enter Try.func33 (by kernel_rfl) rfl args W, joined_i H ⟩
  · have e0 : kindV 12 nums a b = joinV a b := by simp [kindV, moreV]
    rw [e0]
    exact ⟨33, #[.pointer (some ⟨ba, 0, none⟩), .pointer (some ⟨bb, 0, none⟩)], rfl, fun args W => MuLone.run_callFunc_enter Try.func33 (by kernel_rfl) rfl args W, joined_i H ⟩
  · have e0 : kindV 13 nums a b = joinV a b := by simp [kindV, moreV]
    rw [e0]
    exact ⟨33, #[.pointer (some ⟨ba, 0, none⟩), .pointer (some ⟨bb, 0, none⟩)], rfl, fun args W => MuLone.run_callFunc_enter Try.func33 (by kernel_rfl) rfl args W, joined_i H ⟩
  · have e0 : kindV 20 nums a b = (a, 0) := by simp [kindV, moreV]
    rw [e0]
    exact ⟨35, #[.pointer (some ⟨ba, 0, none⟩)], rfl, fun args W => MuLone.run_callFunc_enter Try.func35 (by kernel_rfl) rfl args W, same_i H ⟩
  · have e0 : kindV 21 nums a b = (a, 0) := by simp [kindV, moreV]
    rw [e0]
    exact ⟨35, #[.pointer (some ⟨ba, 0, none⟩)], rfl, fun args W => MuLone.run_callFunc_enter Try.func35 (by kernel_rfl) rfl args W, same_i H ⟩
  · have e0 : kindV 22 nums a b = (a, 0) := by simp [kindV, moreV]
    rw [e0]
    exact ⟨35, #[.pointer (some ⟨ba, 0, none⟩)], rfl, fun args W => MuLone.run_callFunc_enter Try.func35 (by kernel_rfl) rfl args W, same_i H ⟩
  · have e0 : kindV 23 nums a b = (a, 0) := by simp [kindV, moreV]
    rw [e0]
    exact ⟨35, #[.pointer (some ⟨ba, 0, none⟩)], rfl, fun args W => MuLone.run_callFunc_enter Try.func35 (by kernel_rfl) rfl args W, same_i H ⟩
  · have e0 : kindV 30 nums a b = tableV a b := by simp [kindV, moreV]
    rw [e0]
    exact ⟨42, #[.pointer (some ⟨ba, 0, none⟩), .pointer (some ⟨bb, 0, none⟩)], rfl, fun args W => MuLone.run_callFunc_enter Try.func42 (by kernel_rfl) rfl args W, matmul_i H ⟩
  · have e0 : kindV 40 nums a b = formV a nums := kind_form hn
    rw [e0]
    exact ⟨44, #[.pointer (some ⟨ba, 0, none⟩), .pointer (some ⟨bn, 0, none⟩)], rfl, fun args W => MuLone.run_callFunc_enter Try.func44 (by kernel_rfl) rfl args W, reshape_i H ⟩
  · have e0 : kindV 41 nums a b = (a.reverse, 0) := by simp [kindV, moreV]
    rw [e0]
    exact ⟨46, #[.pointer (some ⟨ba, 0, none⟩)], rfl, fun args W => MuLone.run_callFunc_enter Try.func46 (by kernel_rfl) rfl args W, turn_i H ⟩
  · have e0 : kindV 42 nums a b = cutV a (nums.getD 0 0) (nums.getD 1 0) (nums.getD 2 0) := kind_cut
    rw [e0]
    exact ⟨48, #[.pointer (some ⟨ba, 0, none⟩), .pointer (some ⟨bn, 0, none⟩)], rfl, fun args W => MuLone.run_callFunc_enter Try.func48 (by kernel_rfl) rfl args W, part_i H (by simpa [numsB] using hn)⟩
  · have e0 : kindV 43 nums a b = layV a b (nums.getD 0 0) := kind_lay
    rw [e0]
    exact ⟨50, #[.pointer (some ⟨ba, 0, none⟩), .pointer (some ⟨bb, 0, none⟩), .pointer (some ⟨bn, 0, none⟩)], rfl, fun args W => MuLone.run_callFunc_enter Try.func50 (by kernel_rfl) rfl args W, glue_i H (by simpa [numsB] using hn)⟩
  · have e0 : kindV 50 nums a b = lessV a (nums.getD 0 0) := kind_less (by omega)
    rw [e0]
    exact ⟨37, #[.pointer (some ⟨ba, 0, none⟩), .pointer (some ⟨bn, 0, none⟩)], rfl, fun args W => MuLone.run_callFunc_enter Try.func37 (by kernel_rfl) rfl args W, together_i H (by simpa [numsB] using hn)⟩
  · have e0 : kindV 51 nums a b = lessV a (nums.getD 0 0) := kind_less (by omega)
    rw [e0]
    exact ⟨37, #[.pointer (some ⟨ba, 0, none⟩), .pointer (some ⟨bn, 0, none⟩)], rfl, fun args W => MuLone.run_callFunc_enter Try.func37 (by kernel_rfl) rfl args W, together_i H (by simpa [numsB] using hn)⟩
  · have e0 : kindV 52 nums a b = lessV a (nums.getD 0 0) := kind_less (by omega)
    rw [e0]
    exact ⟨37, #[.pointer (some ⟨ba, 0, none⟩), .pointer (some ⟨bn, 0, none⟩)], rfl, fun args W => MuLone.run_callFunc_enter Try.func37 (by kernel_rfl) rfl args W, together_i H (by simpa [numsB] using hn)⟩
end Go.Proofs.Ytnkkkpanlnencaa.Iz
