/- The landed graph: Check. -/
import Derived.Test.YtnkkkpanlnencaaGrZd
import Derived.Deep.RegionHeld3
import Derived.Deep.RegionWith
import Derived.Deep.DeepCutAuto
namespace Go.Proofs.Ytnkkkpanlnencaa.Gz
open Go.RowKit Go.Proofs.ShM Go.Proofs.GrM
set_option linter.unusedVariables false
set_option linter.unusedSimpArgs false
set_option maxHeartbeats 16000000

theorem node_split {l : List Nd} {i : Nat} {t : Nd} : nodeB l i t = (decide (0 ≤ arityV t.1 ∧ (t.2.1.length : Int) = arityV t.1) && (argsB i t.2.1 && (numsB t && (l.take i).all (fun m => likeB m t)))) := by
  unfold nodeB
  cases decide (0 ≤ arityV t.1 ∧ (t.2.1.length : Int) = arityV t.1) <;> cases numsB t <;> cases argsB i t.2.1 <;> rfl
/-- The nodes ahead, as a slice. -/
theorem run_ahead (W : World) (A : Option Addr) (m c i : Nat) (hi : i ≤ c) (hc : c ≤ 9223372036854775807) (hmc : m ≤ c) : (Instr.sliceAt 22 (.slice A m c) none (some (.int .i64 (i : Int))) none).run Try.prog W = .ok (.slice A i c) W := by
  have hu : Try.prog.underlying 22 = some (.slice (Try.prog.elem 22)) := by kernel_rfl
  have hsz : ((sizeOf (Try.prog.elem 22)).run Try.prog W) = .ok 3 W := by
    obtain ⟨i, hi, _, h1, _⟩ := info_parts nd_info
    simp [sizeOf, typeInfo, show Try.prog.elem 22 = 25 by kernel_rfl, hi, h1]
  have := run_slice_h W 22 A m c hu .i64 (i : Int) (by omega) (by omega)
  have e0 : ∀ a : Addr, a.add 0 = a := fun a => by unfold Addr.add; simp
  rw [run_sliceAt_slice W _ _ _ _ _ hu, this, hsz]
  simp [Result.andThen, sliced, e0]
set_option maxRecDepth 100000 in
theorem check_z (A : Option Addr) (c m : Nat) (l : List Nd) (r : Bool) (w : World) (h : RdG w A l) (hc1 : l.length ≤ c) (hc2 : c ≤ 9223372036854775807) (hm : m = l.length) (hr : checkB l = r) :
    Calls Try.prog 17 #[.slice A m c] w fun e w' => e = .returned (.bool r) ∧ Kp w w' := by
  subst hm
  have hl := h.len
  have HRD := Lib.hid h
  have HAR := Lib.hid (arities_any w)
  have hr := hr.symm
  by_cases hb : 1 ≤ l.length ∧ l.length ≤ 24
  · have H0 : Hid (Ck r l 0) := by show Ck r l 0; rw [hr]; exact ck_start hb.1 hb.2
    obtain ⟨hb1, hb2⟩ := hb
    have i1 : ((l.length : Int) == 0) = false := by rw [beq_eq_false_iff_ne]; omega
    have i2 : ¬ (24 : Int) < (l.length : Int) := by omega
    clear hr h
    go_enter Try.func17, Try.ntmps17
    go_wp2_with fail
    refine HAR.out.mono ?_; rintro e w1 ⟨g, rfl, hm, hk⟩
    have HM := Lib.hid hm
    have K1 := Lib.hid hk
    clear hm hk
    go_wp2
    go_loopw [18] (fun i wx => ∃ k : Nat, i = .int .i64 (k : Int) ∧ Hid (k ≤ l.length) ∧ Hid (Ck r l k) ∧ Hid (Kp w1 wx)) (fun i _ => l.length - (intOf i).toNat)
    case atStart => exact ⟨0, rfl, Nat.zero_le _, H0.out, Kp.refl _⟩
    case round =>
      obtain ⟨i, rfl, hi, hT, hK⟩ := hrel
      have KO : Hid (Kp w wr) := K1.out.tr hK.out
      obtain ⟨wo, hwo⟩ : ∃ wo, wo = wr := ⟨_, rfl⟩
      subst hwo
      by_cases hj : i < l.length
      · have hj' : (i : Int) < (l.length : Int) := by omega
        obtain ⟨ad, t, P, e, Q, g2, rfl, hlt, ht, hc0, hc3, hc4, hN, _, hd⟩ := (HRD.out.kp KO.out).at_ hj
        have hlk := (HM.out.kp hK.out).get2 (P := Try.prog) Try.underlying54 Try.underlying3 (int_zero wo) t.1
        have HNS := Lib.hid (node_split (l := l) (i := i) (t := t))
        have HN := Lib.hid hN
        have HTT := Lib.hid ht
        have HD := Lib.hid hd
        have HAT := Lib.hid (ar_at t.1)
        have HPV : Hid (∀ u ∈ l.take i, numsB u = true) := fun u hu => by
          obtain ⟨j, hj⟩ := List.mem_iff_getElem?.1 hu
          rw [List.getElem?_take] at hj
          split at hj
          · rename_i hji
            exact (node_iff.1 (hT.out.1 j u hji hj)).2.2.1
          · cases hj
        obtain ⟨op, args, nums⟩ := t
        dsimp only at hc0 hc3 hc4 hlk HNS HN HTT HD HAT
        obtain ⟨v, hv⟩ : ∃ v, v = arityV op := ⟨_, rfl⟩
        rw [← hv] at HAT HNS
        obtain ⟨n0, hn0⟩ : ∃ n0, n0 = args.length := ⟨_, rfl⟩
        obtain ⟨k0, hk0⟩ : ∃ k0, k0 = nums.length := ⟨_, rfl⟩
        rw [← hn0] at hc3 HNS
        rw [← hk0] at hc4
        have HV := Lib.hid hv
        have HN0 := Lib.hid hn0
        have HK0 := Lib.hid hk0
        clear ht hN hd hv hn0 hk0
        have HCC : Hid (∀ V, Kp wo V → V.cell? (ad.add (i * 3)) = some (.int .i64 op) ∧ V.cell? ⟨(ad.add (i * 3)).block, (ad.add (i * 3)).off + 1, none⟩ = some (.slice P n0 e) ∧ V.cell? ⟨(ad.add (i * 3)).block, (ad.add (i * 3)).off + 2, none⟩ = some (.slice Q k0 g2)) := fun V kV =>
          ⟨(kV.cell (by rw [block_of_add]; exact hlt)).trans hc0, (kV.cell (by rw [block_of_add]; exact hlt)).trans hc3, (kV.cell (by rw [block_of_add]; exact hlt)).trans hc4⟩
        by_cases h1 : 0 ≤ v
        · have HA2 : Hid (atM arL op = some (.int .i64 v)) := by show _ = _; rw [HAT.out, if_pos h1]
          rw [HA2.out] at hlk
          simp only [Option.getD_some, Option.isSome_some] at hlk
          have HOP : Hid (0 ≤ arityV op) := by show _ ≤ _; rw [← HV.out]; exact h1
          by_cases h2 : (n0 : Int) = v
          · have e2 : ((n0 : Int) != v) = false := by simpa using h2
            obtain ⟨b, hb⟩ : ∃ b, b = (argsB i args && (numsB (op, args, nums) && (l.take i).all (fun m => likeB m (op, args, nums)))) := ⟨_, rfl⟩
            have HB : Hid (nodeB l i (op, args, nums) = b) := by
              show _ = _
              rw [HNS.out, hb, show decide (0 ≤ v ∧ (n0 : Int) = v) = true by rw [decide_eq_true_iff]; exact ⟨h1, h2⟩, Bool.true_and]
            have HMY : Hid (∀ W, Kp wo W → Calls Try.prog 31 #[.agg #[.int .i64 op, .slice P n0 e, .slice Q k0 g2], .slice (some ad) i c] W fun e w' => e = .returned (.bool b) ∧ Kp W w') := fun W kW =>
              may_any op args nums n0 k0 e g2 i c P Q (some ad) (l.take i) b W HN0.out HK0.out (by show i = _; rw [List.length_take]; omega) ((HN.out.ra.kp kW)) ((HN.out.rn.kp kW)) (by rw [HK0.out]; exact HD.out.1) HD.out.2 HOP.out ((HRD.out.kp (KO.out.tr kW)).take_ i) HPV.out hb
            have hcut : ∀ W, (Instr.sliceAt 22 (.slice (some ad) l.length c) none (some (.int .i64 (i : Int))) none).run Try.prog W = .ok (.slice (some ad) i c) W := fun W => run_ahead W (some ad) l.length c i (by omega) hc2 hc1
            clear h1 h2 hb
            have s0 := HCC.out _ (Kp.drewN_ wo 1)
            go_wp2_with fail
            refine wp_region_held_drew (S := fun V => V.cell? (ad.add (i * 3)) = some (.int .i64 op) ∧ V.cell? ⟨(ad.add (i * 3)).block, (ad.add (i * 3)).off + 1, none⟩ = some (.slice P n0 e) ∧ V.cell? ⟨(ad.add (i * 3)).block, (ad.add (i * 3)).off + 2, none⟩ = some (.slice Q k0 g2)) (by kernel_rfl) s0 (fun hHeld => ?_)
            refine wpAnyH_take (i := 0) (v := .bool true) rfl (by kernel_rfl) (by kernel_rfl) (by kernel_rfl) (fun _ _ _ h => h) (Or.inl ⟨by kernel_rfl, fun V hSV => ?_⟩) hHeld ?_
            · (try dsimp only at hSV); go_simp
            try simp only [Act.put, List.setIfInBounds_toArray, List.set_cons_zero, List.set_cons_succ]
            refine wpAnyH_take (i := 1) (v := .bool false) rfl (by kernel_rfl) (by kernel_rfl) (by kernel_rfl) (fun _ _ _ h => h) (Or.inl ⟨by kernel_rfl, fun V hSV => ?_⟩) hHeld ?_
            · (try dsimp only at hSV); go_simp
            try simp only [Act.put, List.setIfInBounds_toArray, List.set_cons_zero, List.set_cons_succ]
            refine wpAnyH_take (i := 2) (v := .bool false) rfl (by kernel_rfl) (by kernel_rfl) (by kernel_rfl) (fun _ _ _ h => h) (Or.inl ⟨by kernel_rfl, fun V hSV => ?_⟩) hHeld ?_
            · (try dsimp only at hSV); go_simp
            try simp only [Act.put, List.setIfInBounds_toArray, List.set_cons_zero, List.set_cons_succ]
            refine wpAnyH_take (i := 3) (v := .slice (some ad) l.length c) rfl (by kernel_rfl) (by kernel_rfl) (by kernel_rfl) (fun _ _ _ h => h) (Or.inl ⟨by kernel_rfl, fun V hSV => ?_⟩) hHeld ?_
            · (try dsimp only at hSV); go_simp
            try simp only [Act.put, List.setIfInBounds_toArray, List.set_cons_zero, List.set_cons_succ]
            refine wpAnyH_take (i := 4) (v := .int .i64 (i : Int)) rfl (by kernel_rfl) (by kernel_rfl) (by kernel_rfl) (fun _ _ _ h => h) (Or.inl ⟨by kernel_rfl, fun V hSV => ?_⟩) hHeld ?_
            · (try dsimp only at hSV); go_simp
            try simp only [Act.put, List.setIfInBounds_toArray, List.set_cons_zero, List.set_cons_succ]
            refine wpAnyH_take (i := 5) (v := .pointer (some (ad.add (i * 3)))) rfl (by kernel_rfl) (by kernel_rfl) (by kernel_rfl) (fun _ _ _ h => h) (Or.inl ⟨by kernel_rfl, fun V hSV => ?_⟩) hHeld ?_
            · (try dsimp only at hSV); go_simp
            try simp only [Act.put, List.setIfInBounds_toArray, List.set_cons_zero, List.set_cons_succ]
            refine wpAnyH_take (i := 6) (v := .pointer (some ⟨(ad.add (i * 3)).block, (ad.add (i * 3)).off + 1, none⟩)) rfl (by kernel_rfl) (by kernel_rfl) (by kernel_rfl) (fun _ _ _ h => h) (Or.inl ⟨by kernel_rfl, fun V hSV => ?_⟩) hHeld ?_
            · (try dsimp only at hSV); go_simp
            try simp only [Act.put, List.setIfInBounds_toArray, List.set_cons_zero, List.set_cons_succ]
            refine wpAnyH_take (i := 7) (v := .slice P n0 e) rfl (by kernel_rfl) (by kernel_rfl) (by kernel_rfl) (fun _ _ _ h => h) (Or.inl ⟨by kernel_rfl, fun V hSV => ?_⟩) hHeld ?_
            · (try dsimp only at hSV); go_simp
            try simp only [Act.put, List.setIfInBounds_toArray, List.set_cons_zero, List.set_cons_succ]
            refine wpAnyH_take (i := 8) (v := .int .i64 (n0 : Int)) rfl (by kernel_rfl) (by kernel_rfl) (by kernel_rfl) (fun _ _ _ h => h) (Or.inl ⟨by kernel_rfl, fun V hSV => ?_⟩) hHeld ?_
            · (try dsimp only at hSV); go_simp
            try simp only [Act.put, List.setIfInBounds_toArray, List.set_cons_zero, List.set_cons_succ]
            refine wpAnyH_take (i := 9) (v := .int .i64 v) rfl (by kernel_rfl) (by kernel_rfl) (by kernel_rfl) (fun _ _ _ h => h) (Or.inl ⟨by kernel_rfl, fun V hSV => ?_⟩) hHeld ?_
            · (try dsimp only at hSV); go_simp
            try simp only [Act.put, List.setIfInBounds_toArray, List.set_cons_zero, List.set_cons_succ]
            refine wpAnyH_take (i := 10) (v := .bool false) rfl (by kernel_rfl) (by kernel_rfl) (by kernel_rfl) (fun _ _ _ h => h) (Or.inl ⟨by kernel_rfl, fun V hSV => ?_⟩) hHeld ?_
            · (try dsimp only at hSV); go_simp
            try simp only [Act.put, List.setIfInBounds_toArray, List.set_cons_zero, List.set_cons_succ]
            refine wpAnyH_take (i := 11) (v := .bool false) rfl (by kernel_rfl) (by kernel_rfl) (by kernel_rfl) (fun _ _ _ h => h) (Or.inl ⟨by kernel_rfl, fun V hSV => ?_⟩) hHeld ?_
            · (try dsimp only at hSV); go_simp
            try simp only [Act.put, List.setIfInBounds_toArray, List.set_cons_zero, List.set_cons_succ]
            refine wpAnyH_take (i := 12) (v := .bool false) rfl (by kernel_rfl) (by kernel_rfl) (by kernel_rfl) (fun _ _ _ h => h) (Or.inl ⟨by kernel_rfl, fun V hSV => ?_⟩) hHeld ?_
            · (try dsimp only at hSV); go_simp
            try simp only [Act.put, List.setIfInBounds_toArray, List.set_cons_zero, List.set_cons_succ]
            refine wpAnyH_take (i := 13) (v := .slice (some ad) l.length c) rfl (by kernel_rfl) (by kernel_rfl) (by kernel_rfl) (fun _ _ _ h => h) (Or.inl ⟨by kernel_rfl, fun V hSV => ?_⟩) hHeld ?_
            · (try dsimp only at hSV); go_simp
            try simp only [Act.put, List.setIfInBounds_toArray, List.set_cons_zero, List.set_cons_succ]
            refine wpAnyH_take (i := 14) (v := .int .i64 (i : Int)) rfl (by kernel_rfl) (by kernel_rfl) (by kernel_rfl) (fun _ _ _ h => h) (Or.inl ⟨by kernel_rfl, fun V hSV => ?_⟩) hHeld ?_
            · (try dsimp only at hSV); go_simp
            try simp only [Act.put, List.setIfInBounds_toArray, List.set_cons_zero, List.set_cons_succ]
            refine wpAnyH_take (i := 15) (v := .pointer (some (ad.add (i * 3)))) rfl (by kernel_rfl) (by kernel_rfl) (by kernel_rfl) (fun _ _ _ h => h) (Or.inl ⟨by kernel_rfl, fun V hSV => ?_⟩) hHeld ?_
            · (try dsimp only at hSV); go_simp
            try simp only [Act.put, List.setIfInBounds_toArray, List.set_cons_zero, List.set_cons_succ]
            refine wpAnyH_take (i := 16) (v := .agg #[.int .i64 op, .slice P n0 e, .slice Q k0 g2]) rfl (by kernel_rfl) (by kernel_rfl) (by kernel_rfl) (fun _ _ _ h => h) (Or.inl ⟨by kernel_rfl, fun V hSV => ?_⟩) hHeld ?_
            · (try dsimp only at hSV); go_simp
            try simp only [Act.put, List.setIfInBounds_toArray, List.set_cons_zero, List.set_cons_succ]
            refine wpAnyH_take (i := 17) (v := .slice (some ad) l.length c) rfl (by kernel_rfl) (by kernel_rfl) (by kernel_rfl) (fun _ _ _ h => h) (Or.inl ⟨by kernel_rfl, fun V hSV => ?_⟩) hHeld ?_
            · (try dsimp only at hSV); go_simp
            try simp only [Act.put, List.setIfInBounds_toArray, List.set_cons_zero, List.set_cons_succ]
            refine wpAnyH_take (i := 18) (v := .int .i64 (i : Int)) rfl (by kernel_rfl) (by kernel_rfl) (by kernel_rfl) (fun _ _ _ h => h) (Or.inl ⟨by kernel_rfl, fun V hSV => ?_⟩) hHeld ?_
            · (try dsimp only at hSV); go_simp
            try simp only [Act.put, List.setIfInBounds_toArray, List.set_cons_zero, List.set_cons_succ]
            refine wpAnyH_take (i := 19) (v := .slice (some ad) i c) rfl (by kernel_rfl) (by kernel_rfl) (by kernel_rfl) (fun _ _ _ h => h) (Or.inl ⟨by kernel_rfl, fun V hSV => ?_⟩) hHeld ?_
            · (try dsimp only at hSV); go_simp
            try simp only [Act.put, List.setIfInBounds_toArray, List.set_cons_zero, List.set_cons_succ]
            refine wpAnyH_ready (rs := [20]) (by kernel_rfl) (by simp) ?_
            refine AllReadyH.cons rfl (fun K9_ hK => ?_) AllReadyH.nil
            go_simp
            refine (HMY.out _ (Kp.drewN_ wo 1)).mono ?_; rintro e0 w9 ⟨rfl, k9⟩
            dsimp only
            have K9 : Hid (Kp wo w9) := (Kp.drewN_ wo 1).tr k9
            have hq := HCC.out _ K9.out
            clear k9
            refine hK.out _ _ ?_ (fun hHeld => ?_)
            · exact hq
            clear hK
            try simp only [Act.put, List.setIfInBounds_toArray, List.set_cons_zero, List.set_cons_succ]
            refine wpAnyH_ready (rs := [21]) (by kernel_rfl) (by simp) ?_
            refine AllReadyH.cons rfl (fun K9_ hK => ?_) AllReadyH.nil
            go_simp
            refine hK.out _ _ ?_ (fun hHeld => ?_)
            · exact hq
            clear hK
            try simp only [Act.put, List.setIfInBounds_toArray, List.set_cons_zero, List.set_cons_succ]
            refine wpAnyH_ready (rs := [22]) (by kernel_rfl) (by simp) ?_
            refine AllReadyH.cons rfl (fun K9_ hK => ?_) AllReadyH.nil
            go_simp
            refine hK.out _ _ ?_ (fun hHeld => ?_)
            · exact hq
            clear hK
            try simp only [Act.put, List.setIfInBounds_toArray, List.set_cons_zero, List.set_cons_succ]
            refine wpAnyH_done (by kernel_rfl) ?_ _
            cases b with
            | false =>
              have HR2 := Lib.hid (ck_bad hT.out HTT.out HB.out)
              go_wp2
              go_ret
              exact ⟨by rw [HR2.out]; rfl, KO.out.tr K9.out⟩
            | true =>
              have HS := Lib.hid (ck_step hT.out HTT.out HB.out)
              go_wp2
              go_roundw
              case rel => exact ⟨i + 1, by go_num, (by show i + 1 ≤ l.length; omega), HS.out, hK.out.tr K9.out⟩
              case measure => simp [intOf]; omega
          · have e2 : ((n0 : Int) != v) = true := by simpa using h2
            have HR2 := Lib.hid (ck_bad hT.out HTT.out (by rw [HNS.out, show decide (0 ≤ v ∧ (n0 : Int) = v) = false by rw [decide_eq_false_iff_not]; exact fun g => h2 g.2]; rfl))
            clear h1 h2
            go_wp2_with fail
            go_quiet (fail)
            go_wp2
            go_ret
            exact ⟨by rw [HR2.out]; rfl, KO.out.tr (Kp.drewN_ _ _)⟩
        · have HA2 : Hid (atM arL op = none) := by show _ = _; rw [HAT.out, if_neg h1]
          rw [HA2.out] at hlk
          simp only [Option.getD_none, Option.isSome_none] at hlk
          have HR2 := Lib.hid (ck_bad hT.out HTT.out (by rw [HNS.out, show decide (0 ≤ v ∧ (n0 : Int) = v) = false by rw [decide_eq_false_iff_not]; exact fun g => h1 g.1]; rfl))
          clear h1
          go_wp2_with fail
          go_quiet (fail)
          go_wp2
          go_ret
          exact ⟨by rw [HR2.out]; rfl, KO.out.tr (Kp.drewN_ _ _)⟩
      · have hj' : ¬ (i : Int) < (l.length : Int) := by omega
        have HT2 := Lib.hid (ck_end hT.out (by omega))
        go_wp2
        go_ret
        exact ⟨by rw [HT2.out]; rfl, KO.out⟩
  · have hv : r = false := by
      rw [hr]
      cases e : checkB l with
      | false => rfl
      | true => exact absurd ⟨(check_iff.1 e).1, (check_iff.1 e).2.1⟩ hb
    subst hv
    clear hr
    by_cases h1 : (l.length : Int) = 0
    · have e1 : ((l.length : Int) == 0) = true := by rw [beq_iff_eq]; exact h1
      clear h1 hb
      go_enter Try.func17, Try.ntmps17
      go_wp2
      go_ret
      exact ⟨rfl, Kp.refl _⟩
    · have e1 : ((l.length : Int) == 0) = false := by rw [beq_eq_false_iff_ne]; exact h1
      have h2 : (24 : Int) < (l.length : Int) := by omega
      clear h1 hb
      go_enter Try.func17, Try.ntmps17
      go_wp2
      go_ret
      exact ⟨rfl, Kp.refl _⟩
end Go.Proofs.Ytnkkkpanlnencaa.Gz
