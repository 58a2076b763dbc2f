/- The landed eval: which rule stands at an op, and what it answers. -/
import Derived.Test.YtdbncanedokinaaGreatEvZd
set_option maxRecDepth 100000
namespace Go.Proofs.YtdbncanedokinaaGreat.Ez
open Go.RowKit Go.Proofs.ShM Go.Proofs.GrM Go.Proofs.InM Go.Proofs.ImM Go.Proofs.FixM Go.Proofs.EvM Go.Proofs.YtdbncanedokinaaGreat.Gz
set_option linter.unusedVariables false
set_option linter.unusedSimpArgs false
set_option maxHeartbeats 2000000

theorem rule_e {W : World} {bj bn ba bb : Nat} {op : Int} {Q A1 A2 B1 B2 I1 I2 R S : Option Addr} {d a1 a2 b1 b2 i1 i2 rc sc : Nat} {nums : List Int} {a b inp : T} {ps : List T} {s : List Int}
    (H : Ej W bj bn ba bb op Q A1 A2 B1 B2 I1 I2 R S d a1 a2 b1 b2 i1 i2 rc sc nums a b inp ps s) (h0 : 0 ≤ arityV op) (hn : numsB (op, [], nums) = true) :
    ∃ f L, atM (ruE (.pointer (some ⟨bj, 0, none⟩)) (.pointer (some ⟨bn, 0, none⟩)) (.pointer (some ⟨ba, 0, none⟩)) (.pointer (some ⟨bb, 0, none⟩))) op = some (.func (.func f) #[] L) ∧ (∀ args W, (callFunc f args).run Tryz.prog W = .ok (.enter f args) W) ∧ Calls Tryz.prog f L W (RetTo (kindE op nums a b s inp ps) W) := by
  rcases Iz.op_cases h0 with rfl | rfl | rfl | rfl | rfl | rfl | rfl | rfl | rfl | rfl | rfl | rfl | rfl | rfl | rfl | rfl | rfl | rfl | rfl
  · have e0 : kindE 1 nums a b s inp ps = givenV inp s := by simp [kindE, moreE]
    rw [e0]
    exact ⟨39, #[.pointer (some ⟨bj, 0, none⟩)], rfl, fun args W => MuLone.run_callFunc_enter Tryz.func39 (by kernel_rfl) rfl args W, input_e H⟩
  · have e0 : kindE 2 nums a b s inp ps = givenV (parT ps (nums.getD 0 0)) s := by simp [kindE, moreE]
    have h1 : 1 ≤ nums.length := by
      obtain ⟨p, s, rfl, _⟩ := nums_2 hn
      simp
    have h2 : 0 ≤ nums.getD 0 0 := by
      obtain ⟨p, s, rfl, hp, _⟩ := nums_2 hn
      simpa using hp
    rw [e0]
    exact ⟨41, #[.pointer (some ⟨bj, 0, none⟩), .pointer (some ⟨bn, 0, none⟩)], rfl, fun args W => MuLone.run_callFunc_enter Tryz.func41 (by kernel_rfl) rfl args W, parm_e H h1 h2⟩
  · have e0 : kindE 3 nums a b s inp ps = tnE (fullV [] (nums.getD 0 0)) := by simp [kindE, moreE]
    rw [e0]
    exact ⟨43, #[.pointer (some ⟨bn, 0, none⟩)], rfl, fun args W => MuLone.run_callFunc_enter Tryz.func43 (by kernel_rfl) rfl args W, full_e H (by simpa [numsB] using hn)⟩
  · have e0 : kindE 10 nums a b s inp ps = tnE (twoV 10 a.1 a.2 b.1 b.2) := by simp [kindE, moreE]
    rw [e0]
    exact ⟨37, #[.pointer (some ⟨bj, 0, none⟩), .pointer (some ⟨ba, 0, none⟩), .pointer (some ⟨bb, 0, none⟩)], rfl, fun args W => MuLone.run_callFunc_enter Tryz.func37 (by kernel_rfl) rfl args W, two_e H⟩
  · have e0 : kindE 11 nums a b s inp ps = tnE (twoV 11 a.1 a.2 b.1 b.2) := by simp [kindE, moreE]
    rw [e0]
    exact ⟨37, #[.pointer (some ⟨bj, 0, none⟩), .pointer (some ⟨ba, 0, none⟩), .pointer (some ⟨bb, 0, none⟩)], rfl, fun args W => MuLone.run_callFunc_enter Tryz.func37 (by kernel_rfl) rfl args W, two_e H⟩
  · have e0 : kindE 12 nums a b s inp ps = tnE (twoV 12 a.1 a.2 b.1 b.2) := by simp [kindE, moreE]
    rw [e0]
    exact ⟨37, #[.pointer (some ⟨bj, 0, none⟩), .pointer (some ⟨ba, 0, none⟩), .pointer (some ⟨bb, 0, none⟩)], rfl, fun args W => MuLone.run_callFunc_enter Tryz.func37 (by kernel_rfl) rfl args W, two_e H⟩
  · have e0 : kindE 13 nums a b s inp ps = tnE (twoV 13 a.1 a.2 b.1 b.2) := by simp [kindE, moreE]
    rw [e0]
    exact ⟨37, #[.pointer (some ⟨bj, 0, none⟩), .pointer (some ⟨ba, 0, none⟩), .pointer (some ⟨bb, 0, none⟩)], rfl, fun args W => MuLone.run_callFunc_enter Tryz.func37 (by kernel_rfl) rfl args W, two_e H⟩
  · have e0 : kindE 20 nums a b s inp ps = tnE (oneV 20 a.1 a.2) := by simp [kindE, moreE]
    rw [e0]
    exact ⟨34, #[.pointer (some ⟨bj, 0, none⟩), .pointer (some ⟨ba, 0, none⟩)], rfl, fun args W => MuLone.run_callFunc_enter Tryz.func34 (by kernel_rfl) rfl args W, one_e H⟩
  · have e0 : kindE 21 nums a b s inp ps = tnE (oneV 21 a.1 a.2) := by simp [kindE, moreE]
    rw [e0]
    exact ⟨34, #[.pointer (some ⟨bj, 0, none⟩), .pointer (some ⟨ba, 0, none⟩)], rfl, fun args W => MuLone.run_callFunc_enter Tryz.func34 (by kernel_rfl) rfl args W, one_e H⟩
  · have e0 : kindE 22 nums a b s inp ps = tnE (oneV 22 a.1 a.2) := by simp [kindE, moreE]
    rw [e0]
    exact ⟨34, #[.pointer (some ⟨bj, 0, none⟩), .pointer (some ⟨ba, 0, none⟩)], rfl, fun args W => MuLone.run_callFunc_enter Tryz.func34 (by kernel_rfl) rfl args W, one_e H⟩
  · have e0 : kindE 23 nums a b s inp ps = tnE (oneV 23 a.1 a.2) := by simp [kindE, moreE]
    rw [e0]
    exact ⟨34, #[.pointer (some ⟨bj, 0, none⟩), .pointer (some ⟨ba, 0, none⟩)], rfl, fun args W => MuLone.run_callFunc_enter Tryz.func34 (by kernel_rfl) rfl args W, one_e H⟩
  · have e0 : kindE 30 nums a b s inp ps = tnE (matV a.1 a.2 b.1 b.2) := by simp [kindE, moreE]
    rw [e0]
    exact ⟨45, #[.pointer (some ⟨ba, 0, none⟩), .pointer (some ⟨bb, 0, none⟩)], rfl, fun args W => MuLone.run_callFunc_enter Tryz.func45 (by kernel_rfl) rfl args W, mat_e H⟩
  · have e0 : kindE 40 nums a b s inp ps = tnE (reshapeV a.1 a.2 nums) := by simp [kindE, moreE]
    rw [e0]
    exact ⟨47, #[.pointer (some ⟨ba, 0, none⟩), .pointer (some ⟨bn, 0, none⟩)], rfl, fun args W => MuLone.run_callFunc_enter Tryz.func47 (by kernel_rfl) rfl args W, form_e H⟩
  · have e0 : kindE 41 nums a b s inp ps = tnE (turnV a.1 a.2) := by simp [kindE, moreE]
    rw [e0]
    exact ⟨49, #[.pointer (some ⟨ba, 0, none⟩)], rfl, fun args W => MuLone.run_callFunc_enter Tryz.func49 (by kernel_rfl) rfl args W, turn_e H⟩
  · have e0 : kindE 42 nums a b s inp ps = tnE (sliceV a.1 a.2 (nums.getD 0 0) (nums.getD 1 0) (nums.getD 2 0)) := by simp [kindE, moreE]
    rw [e0]
    exact ⟨51, #[.pointer (some ⟨ba, 0, none⟩), .pointer (some ⟨bn, 0, none⟩)], rfl, fun args W => MuLone.run_callFunc_enter Tryz.func51 (by kernel_rfl) rfl args W, part_e H (by simpa [numsB] using hn)⟩
  · have e0 : kindE 43 nums a b s inp ps = tnE (glueV a.1 a.2 b.1 b.2 (nums.getD 0 0)) := by simp [kindE, moreE]
    rw [e0]
    exact ⟨53, #[.pointer (some ⟨ba, 0, none⟩), .pointer (some ⟨bb, 0, none⟩), .pointer (some ⟨bn, 0, none⟩)], rfl, fun args W => MuLone.run_callFunc_enter Tryz.func53 (by kernel_rfl) rfl args W, glue_e H (by simpa [numsB] using hn)⟩
  · have e0 : kindE 50 nums a b s inp ps = tnE (sumV a.1 a.2 (nums.getD 0 0)) := by simp [kindE, moreE]
    rw [e0]
    exact ⟨55, #[.pointer (some ⟨ba, 0, none⟩), .pointer (some ⟨bn, 0, none⟩)], rfl, fun args W => MuLone.run_callFunc_enter Tryz.func55 (by kernel_rfl) rfl args W, sum_e H (by simpa [numsB] using hn)⟩
  · have e0 : kindE 51 nums a b s inp ps = tnE (meanV a.1 a.2 (nums.getD 0 0)) := by simp [kindE, moreE]
    rw [e0]
    exact ⟨57, #[.pointer (some ⟨ba, 0, none⟩), .pointer (some ⟨bn, 0, none⟩)], rfl, fun args W => MuLone.run_callFunc_enter Tryz.func57 (by kernel_rfl) rfl args W, mean_e H (by simpa [numsB] using hn)⟩
  · have e0 : kindE 52 nums a b s inp ps = tnE (maxV a.1 a.2 (nums.getD 0 0)) := by simp [kindE, moreE]
    rw [e0]
    exact ⟨59, #[.pointer (some ⟨ba, 0, none⟩), .pointer (some ⟨bn, 0, none⟩)], rfl, fun args W => MuLone.run_callFunc_enter Tryz.func59 (by kernel_rfl) rfl args W, max_e H (by simpa [numsB] using hn)⟩
end Go.Proofs.YtdbncanedokinaaGreat.Ez
