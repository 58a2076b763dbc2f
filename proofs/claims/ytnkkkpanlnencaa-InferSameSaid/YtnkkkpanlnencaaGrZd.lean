/- The landed graph: whether a node may stand behind others. -/
import Derived.Test.YtnkkkpanlnencaaGrZb
import Derived.Test.YtnkkkpanlnencaaGrZc
namespace Go.Proofs.Ytnkkkpanlnencaa.Gz
open Go.RowKit Go.Proofs.ShM Go.Proofs.GrM
set_option linter.unusedVariables false
set_option linter.unusedSimpArgs false
set_option maxHeartbeats 8000000

theorem ar_ge {op : Int} (h : 0 ≤ arityV op) : 1 ≤ op := by
  unfold arityV at h
  by_cases g : 1 ≤ op
  · exact g
  · exfalso
    rw [if_neg (by omega), if_neg (by omega), if_neg (by omega)] at h
    omega
set_option maxRecDepth 100000 in
theorem may_any (op : Int) (args nums : List Int) (n k c d m c2 : Nat) (P Q A : Option Addr) (l : List Nd) (r : Bool) (w : World) (hn : Hid (n = args.length)) (hk : Hid (k = nums.length)) (hm : Hid (m = l.length)) (hP : Rd w P args) (hQ : Rd w Q nums) (hd1 : k ≤ d) (hd2 : d ≤ 9223372036854775807)
    (hop : 0 ≤ arityV op) (hl : RdG w A l) (hok : ∀ t ∈ l, numsB t = true) (hr : r = (argsB m args && (numsB (op, args, nums) && l.all fun u => likeB u (op, args, nums)))) :
    Calls Try.prog 31 #[.agg #[.int .i64 op, .slice P n c, .slice Q k d], .slice A m c2] w fun e w' => e = .returned (.bool r) ∧ Kp w w' := by
  have F0 : Hid (Nb (w.alloc (.cells #[.int .i64 op, .slice P n c, .slice Q k d] 25)) w.heap.size op P n c Q k d) := Nb.new rfl
  have K0 : Hid (Kp w (w.alloc (.cells #[.int .i64 op, .slice P n c, .slice Q k d] 25))) := Kp.alloc_ _ _
  have hnl : n ≤ 9223372036854775807 := by rw [hn.out]; exact hP.len
  have hml : m ≤ 9223372036854775807 := by rw [hm.out]; exact hl.len
  obtain ⟨q, hq⟩ : ∃ q, q = numsB (op, args, nums) := ⟨_, rfl⟩
  have HNU : Hid (∀ W, Kp w W → Calls Try.prog 59 #[.agg #[.int .i64 op, .slice P n c, .slice Q k d]] W fun e w' => e = .returned (.bool q) ∧ Kp W w') := fun W kw => by
    rw [hq, hn.out, hk.out]
    exact num_any (op, args, nums) P Q c d W (hQ.kp kw) ⟨by rw [← hk.out]; exact hd1, hd2⟩ hop
  have HQT : Hid (q = true → op = 2 → nums ≠ []) := fun h1 h2 => par_ne (n := (op, args, nums)) (by rw [← hq]; exact h1) h2
  have HOK : Hid (∀ t ∈ l, t.1 = 2 → t.2.2 ≠ []) := fun t ht h2 => par_ne (hok t ht) h2
  have H1 := ar_ge hop
  have H0 : Hid (r = ((args.drop 0).all (fun a => decide (0 ≤ a ∧ a < (m : Int))) && (q && l.all fun u => likeB u (op, args, nums)))) := by show _ = _; rw [hr, hq]; rfl
  have HRD := Lib.hid hl
  have HRP := Lib.hid hP
  have HRQ := Lib.hid hQ
  have p0 := F0.out.c0
  have p1 := F0.out.c1
  have p2 := F0.out.c2
  clear hr hq hok hl hP hQ hop
  go_enter Try.func31, Try.ntmps31
  go_wp2
  go_loopw [12] (fun v wx => ∃ j : Nat, v = .int .i64 (j : Int) ∧ Hid (j ≤ n) ∧ Hid (r = ((args.drop j).all (fun a => decide (0 ≤ a ∧ a < (m : Int))) && (q && l.all fun u => likeB u (op, args, nums)))) ∧ wx = w.alloc (.cells #[.int .i64 op, .slice P n c, .slice Q k d] 25)) (fun v _ => n - (intOf v).toNat)
  case atStart => exact ⟨0, rfl, Nat.zero_le _, H0.out, rfl⟩
  case round =>
    obtain ⟨j, rfl, hj, hT, rfl⟩ := hrel
    by_cases hq : j < n
    · have hq' : (j : Int) < (n : Int) := by omega
      obtain ⟨ae, x, rfl, hlt3, hx, hc3⟩ := (HRP.out.kp K0.out).at_ (show j < args.length by rw [← hn.out]; exact hq)
      have hd := all_hd (p := fun a => decide (0 ≤ a ∧ a < (m : Int))) hx
      by_cases h1 : x < 0
      · have HR2 : Hid (r = false) := by show r = false; rw [hT.out, hd]; simp; omega
        clear hd hx
        go_wp2
        go_ret
        exact ⟨by rw [HR2.out]; rfl, K0.out⟩
      · by_cases h2 : (m : Int) ≤ x
        · have HR2 : Hid (r = false) := by show r = false; rw [hT.out, hd]; simp; omega
          clear hd hx
          go_wp2
          go_ret
          exact ⟨by rw [HR2.out]; rfl, K0.out⟩
        · have HT3 : Hid (r = ((args.drop (j + 1)).all (fun a => decide (0 ≤ a ∧ a < (m : Int))) && (q && l.all fun u => likeB u (op, args, nums)))) := by
            show _ = _
            rw [hT.out, hd, show decide (0 ≤ x ∧ x < (m : Int)) = true by rw [decide_eq_true_iff]; omega, Bool.true_and]
          clear hd hx
          go_wp2
          go_roundw
          case rel => exact ⟨j + 1, by go_num, (by show j + 1 ≤ n; omega), HT3.out, (by first | rfl | trivial)⟩
          case measure => simp [intOf]; omega
    · have hq' : ¬ (j : Int) < (n : Int) := by omega
      have HL0 : Hid (r = (q && (l.drop 0).all fun u => likeB u (op, args, nums))) := by
        show _ = _
        rw [hT.out, List.drop_eq_nil_of_le (by rw [← hn.out]; omega)]; rfl
      go_wp2_with fail
      refine (HNU.out _ K0.out).mono ?_; rintro e0 w1 ⟨rfl, k1⟩
      have K1 : Hid (Kp w w1) := K0.out.tr k1
      have F1 := Lib.hid (F0.out.kp k1)
      clear k1 p0 p1 p2
      cases q with
      | false =>
        have HR2 : Hid (r = false) := by show r = false; rw [HL0.out]; rfl
        go_wp2
        go_ret
        exact ⟨by rw [HR2.out]; rfl, K1.out⟩
      | true =>
        have HL1 : Hid (r = (l.drop 0).all fun u => likeB u (op, args, nums)) := by show _ = _; rw [HL0.out]; rfl
        go_wp2
        go_loopw [30] (fun v wx => ∃ j : Nat, v = .int .i64 (j : Int) ∧ Hid (j ≤ m) ∧ Hid (r = (l.drop j).all fun u => likeB u (op, args, nums)) ∧ Hid (Kp w1 wx)) (fun v _ => m - (intOf v).toNat)
        case atStart => exact ⟨0, rfl, Nat.zero_le _, HL1.out, Kp.refl _⟩
        case round =>
          obtain ⟨i, rfl, hi, hT3, hK5⟩ := hrel
          by_cases hq2 : i < m
          · have hq2' : (i : Int) < (m : Int) := by omega
            obtain ⟨ad2, u, P2, e2, Q2, g2, rfl, hlt4, hu, d0, d1, d2, hN2, _, _⟩ := (HRD.out.kp (K1.out.tr hK5.out)).at_ (show i < l.length by rw [← hm.out]; exact hq2)
            have KW := Lib.hid (K1.out.tr hK5.out)
            have hd := all_hdN (p := fun u => likeB u (op, args, nums)) hu
            have hne := HOK.out u (List.mem_of_getElem? hu)
            have F2 : Hid (Nb (wr.alloc (.cells #[.int .i64 u.1, .slice P2 u.2.1.length e2, .slice Q2 u.2.2.length g2] 25)) w.heap.size op P n c Q k d) := (F1.out.kp hK5.out).alloc_ _
            have G2 : Hid (Nb (wr.alloc (.cells #[.int .i64 u.1, .slice P2 u.2.1.length e2, .slice Q2 u.2.2.length g2] 25)) wr.heap.size u.1 P2 u.2.1.length e2 Q2 u.2.2.length g2) := Nb.new rfl
            have KA : Hid (Kp wr (wr.alloc (.cells #[.int .i64 u.1, .slice P2 u.2.1.length e2, .slice Q2 u.2.2.length g2] 25))) := Kp.alloc_ _ _
            have HA : Hid (Calls Try.prog 60 #[.agg #[.int .i64 op, .slice P n c, .slice Q k d], .agg #[.int .i64 u.1, .slice P2 u.2.1.length e2, .slice Q2 u.2.2.length g2]] (wr.alloc (.cells #[.int .i64 u.1, .slice P2 u.2.1.length e2, .slice Q2 u.2.2.length g2] 25)) fun e w' => e = .returned (.bool (likeB u (op, args, nums))) ∧ Kp (wr.alloc (.cells #[.int .i64 u.1, .slice P2 u.2.1.length e2, .slice Q2 u.2.2.length g2] 25)) w') := by
              show Calls _ _ _ _ _
              rw [like_comm, hn.out, hk.out]
              exact agree_any (op, args, nums) u P Q P2 Q2 c d e2 g2 _ (HRQ.out.kp (KW.out.tr KA.out)) (hN2.rn.kp KA.out) H1 (HQT.out (by simp)) hne
            obtain ⟨b, hb⟩ : ∃ b, b = likeB u (op, args, nums) := ⟨_, rfl⟩
            rw [← hb] at HA hd
            have HD := Lib.hid hd
            obtain ⟨uo, ua, un⟩ := u
            dsimp only at d0 d1 d2 F2 G2 KA HA
            obtain ⟨n1, hn1⟩ : ∃ n1, n1 = ua.length := ⟨_, rfl⟩
            obtain ⟨n2, hn2⟩ : ∃ n2, n2 = un.length := ⟨_, rfl⟩
            rw [← hn1] at d1 F2 G2 KA HA
            rw [← hn2] at d2 F2 G2 KA HA
            have f0 := F2.out.c0
            have f1 := F2.out.c1
            have f2 := F2.out.c2
            have g0 := G2.out.c0
            have g1 := G2.out.c1
            have g3 := G2.out.c2
            clear hd hb hu hN2 hne hn1 hn2
            go_wp2_with fail
            refine HA.out.mono ?_; rintro e0 w9 ⟨rfl, k9⟩
            have K9 : Hid (Kp w1 w9) := hK5.out.tr (KA.out.tr k9)
            clear k9 f0 f1 f2 g0 g1 g3
            cases b with
            | false =>
              have HR2 : Hid (r = false) := by show r = false; rw [hT3.out, HD.out]; rfl
              go_wp2
              go_ret
              exact ⟨by rw [HR2.out]; rfl, K1.out.tr K9.out⟩
            | true =>
              have HT4 : Hid (r = (l.drop (i + 1)).all fun u => likeB u (op, args, nums)) := by show _ = _; rw [hT3.out, HD.out, Bool.true_and]
              go_wp2
              go_roundw
              case rel => exact ⟨i + 1, by go_num, (by show i + 1 ≤ m; omega), HT4.out, K9.out⟩
              case measure => simp [intOf]; omega
          · have hq2' : ¬ (i : Int) < (m : Int) := by omega
            have HR2 : Hid (r = true) := by show r = true; rw [hT3.out, List.drop_eq_nil_of_le (by rw [← hm.out]; omega)]; rfl
            go_wp2
            go_ret
            exact ⟨by rw [HR2.out]; rfl, K1.out.tr hK5.out⟩
end Go.Proofs.Ytnkkkpanlnencaa.Gz
