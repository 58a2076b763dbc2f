/- ChainMany: the law's walk, over what the calls answer. -/
import Derived.Test.YtdcpekkkenckeaaChAw
import Derived.Deep.RegionHeld3
import Derived.Deep.CutRange
namespace Go.Proofs.Ytdcpekkkenckeaa
open Go.RowKit Go.Proofs.ShM Go.Proofs.GrM Go.Proofs.ImM Go.Proofs.ChM
set_option linter.unusedVariables false
set_option linter.unusedSimpArgs false
set_option maxRecDepth 100000
set_option maxHeartbeats 16000000

theorem cmany_far (C : ChC) (A B : Option Addr) (n c m d : Nat) (l g : List Int) (w : World) (hf : 30 < n ∨ (n ≤ 30 ∧ m < n) ∨ (n ≤ 30 ∧ n ≤ m ∧ 30 < m)) :
    Calls Try.prog 7 #[.slice A n c, .slice B m d] w fun e w' => e = .returned (.bool true) ∧ Kp w w' := by
  have HA := Lib.hid (chawake_any C w)
  clear C
  rcases hf with hf | hf | hf
  · have f1 : (30 : Int) < (n : Int) := by omega
    clear hf
    go_enter Try.func7, Try.ntmps7
    go_wp2_with fail
    refine HA.out.mono ?_; rintro e0 w1 ⟨rfl, k1⟩
    have K1 := Lib.hid k1
    clear k1
    go_wp2
    go_ret
    exact ⟨rfl, K1.out⟩
  · have f1 : ¬ (30 : Int) < (n : Int) := by omega
    have f2 : (m : Int) < (n : Int) := by omega
    clear hf
    go_enter Try.func7, Try.ntmps7
    go_wp2_with fail
    refine HA.out.mono ?_; rintro e0 w1 ⟨rfl, k1⟩
    have K1 := Lib.hid k1
    clear k1
    go_wp2
    go_ret
    exact ⟨rfl, K1.out⟩
  · have f1 : ¬ (30 : Int) < (n : Int) := by omega
    have f2 : ¬ (m : Int) < (n : Int) := by omega
    have f3 : (30 : Int) < (m : Int) := by omega
    clear hf
    go_enter Try.func7, Try.ntmps7
    go_wp2_with fail
    refine HA.out.mono ?_; rintro e0 w1 ⟨rfl, k1⟩
    have K1 := Lib.hid k1
    clear k1
    go_wp2
    go_ret
    exact ⟨rfl, K1.out⟩
theorem cmany_main (C : ChC) (A B : Option Addr) (n c m d : Nat) (l g : List Int) (w : World) (h : Rd w A l) (hb : B8.Rd w B g) (hn : n = l.length) (hm : m = g.length) (hg : ∀ x ∈ g, 0 ≤ x ∧ x ≤ 255) (hi : N64 l) (h30 : n ≤ 30) (hnm : n ≤ m) (hm30 : m ≤ 30) :
    Calls Try.prog 7 #[.slice A n c, .slice B m d] w fun e w' => e = .returned (.bool true) ∧ Kp w w' := by
  have HA := Lib.hid (chawake_any C w)
  have HC := Lib.hid C
  have f1 : ¬ (30 : Int) < (n : Int) := by omega
  have f2 : ¬ (m : Int) < (n : Int) := by omega
  have f3 : ¬ (30 : Int) < (m : Int) := by omega
  have d1 : decide ((30 : Int) < (n : Int)) = false := by simpa using f1
  have d2 : decide ((m : Int) < (n : Int)) = false := by simpa using f2
  have d3 : decide ((30 : Int) < (m : Int)) = false := by simpa using f3
  have d4 : decide (m < n) = false := by simp; omega
  have HL := Lib.hid (And.intro h hb)
  have HN := Lib.hid (And.intro hn hm)
  have HG := Lib.hid hg
  have HI := Lib.hid hi
  have HB : Hid (n ≤ 30 ∧ n ≤ m ∧ m ≤ 30) := ⟨h30, hnm, hm30⟩
  have HST : Hid (∀ k : Nat, k ≤ 31 → 0 ≤ stM g k ∧ stM g k ≤ 7936) := fun k hk => by
    have := st_bound hg k
    omega
  have HGK : Hid (∀ k : Nat, k < m → ∃ x, g[k]? = some x ∧ 0 ≤ x ∧ x ≤ 255 ∧ stM g (k + 1) = stM g k + 1 + x) := fun k hk => by
    have hk' : k < g.length := by omega
    refine ⟨g[k], List.getElem?_eq_getElem hk', (hg _ (List.getElem_mem hk')).1, (hg _ (List.getElem_mem hk')).2, ?_⟩
    show stM g k + 1 + g.getD k 0 = _
    rw [List.getD_eq_getElem?_getD, List.getElem?_eq_getElem hk']; rfl
  have SM : Hid (∀ q : Nat, q ≤ 16 → SmV (manyC l g q)) := fun q hq => by
    refine ⟨by rw [many_len]; omega, fun v hv => ?_⟩
    unfold manyC at hv
    obtain ⟨i, hi2, rfl⟩ := List.mem_map.1 hv
    have hq2 := List.mem_range.1 hi2
    have hs := st_bound hg (i + 1)
    refine ⟨⟨by show _ ≤ stM g (i + 1); omega, by show stM g (i + 1) ≤ _; omega⟩, by simp, by simp, (fun x hx => by cases hx), fun x hx => ?_⟩
    have hx : x = l.getD i 0 := by simpa using hx
    rw [hx, List.getD_eq_getElem?_getD]
    cases e : l[i]? with
    | none => exact ⟨by decide, by decide⟩
    | some z => exact hi z (List.mem_of_getElem? e)
  clear C h hb hn hm hg hi h30 hnm hm30
  go_enter Try.func7, Try.ntmps7
  go_wp2_with fail
  refine HA.out.mono ?_; rintro e0 w1 ⟨rfl, k1⟩
  have K1 := Lib.hid k1
  clear k1 HA
  go_wp2
  go_loopw [4, 6, 7, 8] (fun vb v at_ i wx => ∃ (k q : Nat) (D : Option Addr) (e : Nat), vb = .bool false ∧ v = .slice D q e ∧ at_ = .int .i64 (stM g k) ∧ i = .int .i64 (k : Int) ∧ Hid (k ≤ n) ∧ Hid (q = min k 16) ∧ Hid (RdG wx D (manyC l g q)) ∧ Hid (q ≤ e ∧ e ≤ 9223372036854775807) ∧ Hid (Kp w1 wx)) (fun _ _ _ i _ => n - (intOf i).toNat)
  case atStart => exact ⟨0, 0, none, 0, rfl, rfl, rfl, rfl, Nat.zero_le _, rfl, RdN.nil_ _ _ _, ⟨Nat.le_refl _, Nat.zero_le _⟩, Kp.refl _⟩
  case round =>
    obtain ⟨k, q, D, e, rfl, rfl, rfl, rfl, hk, hq, hV, hE, hK⟩ := hrel
    have KW := Lib.hid (K1.out.tr hK.out)
    by_cases hj : k < n
    · have hj' : (k : Int) < (n : Int) := by omega
      have hkm : k < m := by have := HB.out; omega
      have hkm' : (k : Int) < (m : Int) := by omega
      obtain ⟨bd, x, rfl, hb1, hx, hbc⟩ := (HL.out.2.kp KW.out).at_ (k := k) (by rw [← HN.out.2]; exact hkm)
      obtain ⟨ad, y, rfl, ha1, hy, hac⟩ := (HL.out.1.kp KW.out).at_ (k := k) (by rw [← HN.out.1]; exact hj)
      obtain ⟨x', hx', x0, x1, hst⟩ := HGK.out k hkm
      rw [hx] at hx'; injection hx' with hx'; subst hx'
      obtain ⟨s0, s1⟩ := HST.out k (by have := HB.out; omega)
      obtain ⟨s2, s3⟩ := HST.out (k + 1) (by have := HB.out; omega)
      obtain ⟨sk, hsk⟩ : ∃ s, s = stM g k := ⟨_, rfl⟩
      obtain ⟨sn, hsn⟩ : ∃ s, s = stM g (k + 1) := ⟨_, rfl⟩
      rw [← hsk] at hst s0 s1 ⊢
      rw [← hsn] at hst s2 s3
      obtain ⟨sm, hsm⟩ : ∃ s, s = sk + 1 := ⟨_, rfl⟩
      have e1 : IntKind.i64.wrap (sk + 1) = sm := by rw [IntWalk.i64_in _ (by omega)]; exact hsm.symm
      have e3 : IntKind.i64.wrap (sm + x) = sn := by rw [IntWalk.i64_in _ (by omega)]; omega
      have e5 : IntKind.i64.wrap x = x := IntWalk.i64_in _ (by omega)
      have hly : l.getD k 0 = y := by rw [List.getD_eq_getElem?_getD, hy]; rfl
      have HP := many_step l HG.out k
      rw [hly, ← hsn, ← hq.out] at HP
      obtain ⟨q2, hq2⟩ : ∃ q2, q2 = min (k + 1) 16 := ⟨_, rfl⟩
      rw [← hq2] at HP
      have HQ2 := Lib.hid hq2
      have HSN := Lib.hid hsn
      have HPP : Hid (∀ er, (if k < 16 then (0 : Int) else 171) = er → Calls Try.prog 13 #[.slice D q e, .int .i64 sn, .agg #[.slice none 0 0, .slice (some ⟨wr.heap.size, 0, none⟩) 1 1]] (wr.alloc (.cells #[.int .i64 y] 3)) (RetVe (manyC l g q2) er q2 (wr.alloc (.cells #[.int .i64 y] 3)))) := fun er her =>
        HC.out.put D none (some ⟨wr.heap.size, 0, none⟩) e q 0 0 1 1 (manyC l g q) (manyC l g q2) sn er ([], [y]) q2 _ (hV.out.kp (Kp.alloc_ _ _)) (by rw [many_len]; exact hE.out) (SM.out q (by have := hq.out; omega)) (by rw [many_len]) ⟨by omega, by omega⟩ ⟨⟨Rd.nil _ _, Rd.one _ _ _⟩, by simp, by simp⟩
          ⟨by simp, by simp, (fun x hx => by cases hx), (fun z hz => by
            have hz : z = y := by simpa using hz
            rw [hz]; exact HI.out y (List.mem_of_getElem? hy))⟩ rfl rfl (by rw [HP, her]) (many_len _ _ _)
      have hqn : Hid (q2 ≤ 16) := by show _ ≤ _; rw [hq2]; omega
      clear hst s0 s1 hsk hsm hx hy hly HP hq2 hsn
      by_cases h16 : k < 16
      · have h16' : (k : Int) < 16 := by omega
        have HPC := Lib.hid (HPP.out 0 (if_pos h16))
        clear HPP
        go_wp2_with fail
        refine HPC.out.mono ?_; rintro e0 w2 ⟨D2, c2, rfl, r2, l2, k2⟩
        have K2 := Lib.hid (hK.out.tr ((Kp.alloc_ wr _).tr k2))
        have L2 : Hid (q2 ≤ c2 ∧ c2 ≤ 9223372036854775807) := by have := l2.out; rw [many_len] at this; exact this
        clear k2 l2 e1 e3 e5
        go_wp2
        go_roundw
        case rel => exact ⟨k + 1, q2, D2, c2, rfl, rfl, by rw [HSN.out], by go_num, (by show k + 1 ≤ n; omega), HQ2.out, r2, L2.out, K2.out⟩
        case measure => simp [intOf]; omega
      · have h16' : ¬ (k : Int) < 16 := by omega
        have h16'' : (16 : Int) ≤ (k : Int) := by omega
        have HPC := Lib.hid (HPP.out 171 (if_neg h16))
        clear HPP
        go_wp2_with fail
        refine HPC.out.mono ?_; rintro e0 w2 ⟨D2, c2, rfl, r2, l2, k2⟩
        have K2 := Lib.hid (hK.out.tr ((Kp.alloc_ wr _).tr k2))
        have L2 : Hid (q2 ≤ c2 ∧ c2 ≤ 9223372036854775807) := by have := l2.out; rw [many_len] at this; exact this
        clear k2 l2 e1 e3 e5
        go_wp2
        go_roundw
        case rel => exact ⟨k + 1, q2, D2, c2, rfl, rfl, by rw [HSN.out], by go_num, (by show k + 1 ≤ n; omega), HQ2.out, r2, L2.out, K2.out⟩
        case measure => simp [intOf]; omega
    · have hj' : ¬ (k : Int) < (n : Int) := by omega
      obtain rfl : k = n := by have := hk.out; omega
      obtain ⟨w5, hw5⟩ : ∃ w5, w5 = wr := ⟨_, rfl⟩
      subst hw5
      go_wp2
      go_loopw [4, 7, 11] (fun vb at_ i wx => ∃ (j : Nat), vb = .bool false ∧ at_ = .int .i64 (stM g j) ∧ i = .int .i64 (j : Int) ∧ Hid (j ≤ k) ∧ Hid (j ≤ 16) ∧ Hid (Kp w5 wx)) (fun _ _ i _ => k - (intOf i).toNat)
      case atStart => exact ⟨0, rfl, rfl, rfl, Nat.zero_le _, Nat.zero_le _, Kp.refl _⟩
      case round =>
        obtain ⟨j, rfl, rfl, rfl, hj0, hj16, hK2⟩ := hrel
        have KR := Lib.hid (KW.out.tr hK2.out)
        by_cases hjk : j < k
        · have g1 : (j : Int) < (k : Int) := by omega
          by_cases h16 : j < 16
          · have g2 : (j : Int) < 16 := by omega
            have hjm : j < m := by have := HB.out; omega
            have g3 : (j : Int) < (m : Int) := by omega
            obtain ⟨bd, x, rfl, hb1, hx, hbc⟩ := (HL.out.2.kp KR.out).at_ (k := j) (by rw [← HN.out.2]; exact hjm)
            obtain ⟨ad, y, rfl, ha1, hy, hac⟩ := (HL.out.1.kp KW.out).at_ (k := j) (by rw [← HN.out.1]; exact hjk)
            have hac2 := (hK2.out.cell (p := ad.add j) (by rw [block_of_add]; exact ha1)).trans hac
            obtain ⟨x', hx', x0, x1, hst⟩ := HGK.out j hjm
            rw [hx] at hx'; injection hx' with hx'; subst hx'
            obtain ⟨s0, s1⟩ := HST.out j (by have := HB.out; omega)
            obtain ⟨s2, s3⟩ := HST.out (j + 1) (by have := HB.out; omega)
            have hq16 : q ≤ 16 := by have := hq.out; omega
            have hjq : j < q := by have := hq.out; omega
            obtain ⟨r1, r20, r21⟩ := many_read l HG.out hq16 hjq
            have hly : l.getD j 0 = y := by rw [List.getD_eq_getElem?_getD, hy]; rfl
            rw [hly] at r1
            obtain ⟨sk, hsk⟩ : ∃ s, s = stM g j := ⟨_, rfl⟩
            obtain ⟨sn, hsn⟩ : ∃ s, s = stM g (j + 1) := ⟨_, rfl⟩
            obtain ⟨sp, hsp⟩ : ∃ s, s = sn - 1 := ⟨_, rfl⟩
            rw [← hsk] at hst s0 s1 ⊢
            rw [← hsn] at hst s2 s3 r1 r20 r21
            rw [← hsp] at r20 r21
            have HSN := Lib.hid hsn
            obtain ⟨sm, hsm⟩ : ∃ s, s = sk + 1 := ⟨_, rfl⟩
            have e1 : IntKind.i64.wrap (sk + 1) = sm := by rw [IntWalk.i64_in _ (by omega)]; exact hsm.symm
            have e3 : IntKind.i64.wrap (sm + x) = sn := by rw [IntWalk.i64_in _ (by omega)]; omega
            have e5 : IntKind.i64.wrap x = x := IntWalk.i64_in _ (by omega)
            have e7 : IntKind.i64.wrap (sn - 1) = sp := by rw [IntWalk.i64_in _ (by omega)]; exact hsp.symm
            have hsp1 : sn - 1 = sp := hsp.symm
            have hspb : -1 ≤ sp ∧ sp ≤ 7936 := by omega
            obtain ⟨p0, p1⟩ := hspb
            clear hst s0 s1 hsk hsm hx hsn hly hsp hsp1
            by_cases hz0 : j = 0
            · have r2 := r20 hz0
              have HD0 : Hid (decide ((0 : Int) < (j : Int)) = false ∧ decide (0 < j) = false) := ⟨by simp [hz0], by simp [hz0]⟩
              have r2 : readC (manyC l g q) sp = (([], []), false) := r2
              clear r20 r21 hy hz0
              have HC1 : Hid (∀ W, Kp w5 W → Calls Try.prog 11 #[.slice D q e, .int .i64 sn] W (RetTB ([], [y]) true 0 1 W)) := fun W kW =>
                HC.out.read D e q (manyC l g q) sn ([], [y]) true 0 1 W (hV.out.kp kW) (by rw [many_len]; exact hE.out) (SM.out q hq16) (by rw [many_len]) ⟨by omega, by omega⟩ r1 rfl rfl
              have HC2 : Hid (∀ W, Kp w5 W → Calls Try.prog 11 #[.slice D q e, .int .i64 sp] W (RetTB ([], []) false 0 0 W)) := fun W kW =>
                HC.out.read D e q (manyC l g q) sp ([], []) false 0 0 W (hV.out.kp kW) (by rw [many_len]; exact hE.out) (SM.out q hq16) (by rw [many_len]) ⟨by omega, by omega⟩ r2 rfl rfl
              clear r1 r2
              go_wp2_with fail
              refine (HC1.out _ hK2.out).mono ?_; rintro e0 w6 ⟨P12, c12, Q12, d12, rfl, T12, k6⟩
              have K6 := Lib.hid (hK2.out.tr k6)
              obtain ⟨w7, hw7⟩ : ∃ w7, w7 = w6.alloc (.cells #[.slice P12 0 c12, .slice Q12 1 d12] 25) := ⟨_, rfl⟩
              have K7 : Hid (Kp w5 w7) := by show Kp _ _; rw [hw7]; exact K6.out.tr (Kp.alloc_ _ _)
              have B12 : Hid (Bk w7 w6.heap.size P12 0 c12 Q12 1 d12) := by show Bk _ _ _ _ _ _ _ _; rw [hw7]; exact Bk.new rfl
              have R12 : Hid (Rd w7 Q12 [y]) := by show Rd _ _ _; rw [hw7]; exact T12.out.r.d.kp (Kp.alloc_ _ _)
              have HW7 := Lib.hid hw7
              clear k6 hw7
              go_wp2_with fail
              rw [← HW7.out]
              refine (HC2.out _ K7.out).mono ?_; rintro e0 w8 ⟨P14, c14, Q14, d14, rfl, T14, k8⟩
              have K8 := Lib.hid (K7.out.tr k8)
              obtain ⟨w9, hw9⟩ : ∃ w9, w9 = w8.alloc (.cells #[.slice P14 0 c14, .slice Q14 0 d14] 25) := ⟨_, rfl⟩
              have k89 : Kp w8 w9 := by rw [hw9]; exact Kp.alloc_ _ _
              have K9 : Hid (Kp w5 w9) := K8.out.tr k89
              have B12 := Lib.hid (B12.out.kp (k8.tr k89))
              have R12 := Lib.hid (R12.out.kp (k8.tr k89))
              have B14 : Hid (Bk w9 w8.heap.size P14 0 c14 Q14 0 d14) := by show Bk _ _ _ _ _ _ _ _; rw [hw9]; exact Bk.new rfl
              have R14 : Hid (Rd w9 Q14 (([], []) : T).2) := by show Rd _ _ _; exact T14.out.r.d.kp k89
              have HW9 := Lib.hid hw9
              clear k8 k89 hw9
              dsimp only
              go_upto_region 21 with fail
              rw [← HW9.out]
              clear e7
              have HSS : Hid (∀ V, Kp w9 V → V.cell? ⟨w6.heap.size, 1, none⟩ = some (.slice Q12 1 d12) ∧ V.cell? (ad.add j) = some (.int .i64 y)) := fun V kV => ⟨(B12.out.kp kV).c1, ((K9.out.tr kV).cell (p := ad.add j) (by rw [block_of_add]; exact ha1)).trans hac⟩
              clear hac ha1
              go_cut [138] from 73 to 138 (fun v wx => v = .bool false ∧ Hid (Kp w9 wx))
              case first =>
                have d0 := HD0.out.1
                have d0n := HD0.out.2
                refine wp_region_held_drew (S := fun V => V.cell? ⟨w6.heap.size, 1, none⟩ = some (.slice Q12 1 d12) ∧ V.cell? (ad.add j) = some (.int .i64 y)) (by kernel_rfl) (HSS.out _ (Below.drew (Kp.refl _))) (fun hHeld => ?_)
                have X0 : Hid (Kp w9 w9.drew) := Below.drew (Kp.refl _)
                generalize w9.drew = V0 at X0 hHeld ⊢
                refine wpAnyH_take (i := 0) (v := .bool true) rfl (by kernel_rfl) (by kernel_rfl) (by kernel_rfl) (fun _ _ _ h => h) (Or.inl ⟨by kernel_rfl, fun V hSV => ?_⟩) hHeld ?_
                · (try dsimp only at hSV); go_simp
                try simp only [Act.put, List.setIfInBounds_toArray, List.set_cons_zero, List.set_cons_succ]
                refine wpAnyH_take (i := 1) (v := .bool false) rfl (by kernel_rfl) (by kernel_rfl) (by kernel_rfl) (fun _ _ _ h => h) (Or.inl ⟨by kernel_rfl, fun V hSV => ?_⟩) hHeld ?_
                · (try dsimp only at hSV); go_simp
                try simp only [Act.put, List.setIfInBounds_toArray, List.set_cons_zero, List.set_cons_succ]
                refine wpAnyH_take (i := 2) (v := .bool false) rfl (by kernel_rfl) (by kernel_rfl) (by kernel_rfl) (fun _ _ _ h => h) (Or.inl ⟨by kernel_rfl, fun V hSV => ?_⟩) hHeld ?_
                · (try dsimp only at hSV); go_simp
                try simp only [Act.put, List.setIfInBounds_toArray, List.set_cons_zero, List.set_cons_succ]
                refine wpAnyH_take (i := 3) (v := .pointer (some ⟨w6.heap.size, 1, none⟩)) rfl (by kernel_rfl) (by kernel_rfl) (by kernel_rfl) (fun _ _ _ h => h) (Or.inl ⟨by kernel_rfl, fun V hSV => ?_⟩) hHeld ?_
                · (try dsimp only at hSV); go_simp
                try simp only [Act.put, List.setIfInBounds_toArray, List.set_cons_zero, List.set_cons_succ]
                refine wpAnyH_take (i := 4) (v := .slice Q12 1 d12) rfl (by kernel_rfl) (by kernel_rfl) (by kernel_rfl) (fun _ _ _ h => h) (Or.inl ⟨by kernel_rfl, fun V hSV => ?_⟩) hHeld ?_
                · (try dsimp only at hSV); go_simp
                try simp only [Act.put, List.setIfInBounds_toArray, List.set_cons_zero, List.set_cons_succ]
                refine wpAnyH_take (i := 5) (v := .slice (some ad) k c) rfl (by kernel_rfl) (by kernel_rfl) (by kernel_rfl) (fun _ _ _ h => h) (Or.inl ⟨by kernel_rfl, fun V hSV => ?_⟩) hHeld ?_
                · (try dsimp only at hSV); go_simp
                try simp only [Act.put, List.setIfInBounds_toArray, List.set_cons_zero, List.set_cons_succ]
                refine wpAnyH_take (i := 6) (v := .int .i64 (j : Int)) rfl (by kernel_rfl) (by kernel_rfl) (by kernel_rfl) (fun _ _ _ h => h) (Or.inl ⟨by kernel_rfl, fun V hSV => ?_⟩) hHeld ?_
                · (try dsimp only at hSV); go_simp
                try simp only [Act.put, List.setIfInBounds_toArray, List.set_cons_zero, List.set_cons_succ]
                refine wpAnyH_take (i := 7) (v := .pointer (some (ad.add j))) rfl (by kernel_rfl) (by kernel_rfl) (by kernel_rfl) (fun _ _ _ h => h) (Or.inl ⟨by kernel_rfl, fun V hSV => ?_⟩) hHeld ?_
                · (try dsimp only at hSV); go_simp
                try simp only [Act.put, List.setIfInBounds_toArray, List.set_cons_zero, List.set_cons_succ]
                refine wpAnyH_take (i := 8) (v := .int .i64 y) rfl (by kernel_rfl) (by kernel_rfl) (by kernel_rfl) (fun _ _ _ h => h) (Or.inl ⟨by kernel_rfl, fun V hSV => ?_⟩) hHeld ?_
                · (try dsimp only at hSV); go_simp
                try simp only [Act.put, List.setIfInBounds_toArray, List.set_cons_zero, List.set_cons_succ]
                refine wpAnyH_ready (rs := [9]) (by kernel_rfl) (by simp) ?_
                refine AllReadyH.cons rfl (fun K9_ hK => ?_) AllReadyH.nil
                go_simp
                refine hK.out _ _ ?_ (fun hHeld => ?_)
                · exact HSS.out _ (X0.out.tr (Kp.alloc_ _ _))
                clear hK
                try simp only [Act.put, List.setIfInBounds_toArray, List.set_cons_zero, List.set_cons_succ]
                have X1 : Hid (Kp w9 (V0.alloc (.cells #[.int .i64 y] 3))) := X0.out.tr (Kp.alloc_ _ _)
                have N1 : Hid (Rd (V0.alloc (.cells #[.int .i64 y] 3)) (some ⟨V0.heap.size, 0, none⟩) [y]) := Rd.one _ _ _
                generalize V0.alloc (.cells #[.int .i64 y] 3) = V1 at X1 N1 hHeld ⊢
                generalize V0.heap.size = b1 at N1 ⊢
                refine wpAnyH_ready (rs := [10]) (by kernel_rfl) (by simp) ?_
                refine AllReadyH.cons rfl (fun K9_ hK => ?_) AllReadyH.nil
                go_simp
                refine (same_c [y] [y] (R12.out.kp X1.out) N1.out rfl rfl (r := true) (by simp)).mono ?_; rintro e0 V2 ⟨rfl, k2⟩
                dsimp only
                have X2 : Hid (Kp w9 V2) := X1.out.tr k2
                clear k2
                refine hK.out _ _ ?_ (fun hHeld => ?_)
                · exact HSS.out _ X2.out
                clear hK
                try simp only [Act.put, List.setIfInBounds_toArray, List.set_cons_zero, List.set_cons_succ]
                refine wpAnyH_take (i := 11) (v := .bool false) rfl (by kernel_rfl) (by kernel_rfl) (by kernel_rfl) (fun _ _ _ h => h) (Or.inl ⟨by kernel_rfl, fun V hSV => ?_⟩) hHeld ?_
                · (try dsimp only at hSV); go_simp
                try simp only [Act.put, List.setIfInBounds_toArray, List.set_cons_zero, List.set_cons_succ]
                refine wpAnyH_take (i := 12) (v := .bool false) rfl (by kernel_rfl) (by kernel_rfl) (by kernel_rfl) (fun _ _ _ h => h) (Or.inl ⟨by kernel_rfl, fun V hSV => ?_⟩) hHeld ?_
                · (try dsimp only at hSV); go_simp
                try simp only [Act.put, List.setIfInBounds_toArray, List.set_cons_zero, List.set_cons_succ]
                refine wpAnyH_take (i := 13) (v := .bool false) rfl (by kernel_rfl) (by kernel_rfl) (by kernel_rfl) (fun _ _ _ h => h) (Or.inl ⟨by kernel_rfl, fun V hSV => ?_⟩) hHeld ?_
                · (try dsimp only at hSV); go_simp
                try simp only [Act.put, List.setIfInBounds_toArray, List.set_cons_zero, List.set_cons_succ]
                refine wpAnyH_take (i := 14) (v := .bool false) rfl (by kernel_rfl) (by kernel_rfl) (by kernel_rfl) (fun _ _ _ h => h) (Or.inl ⟨by kernel_rfl, fun V hSV => ?_⟩) hHeld ?_
                · (try dsimp only at hSV); go_simp
                try simp only [Act.put, List.setIfInBounds_toArray, List.set_cons_zero, List.set_cons_succ]
                refine wpAnyH_take (i := 15) (v := .int .i64 (j : Int)) rfl (by kernel_rfl) (by kernel_rfl) (by kernel_rfl) (fun _ _ _ h => h) (Or.inl ⟨by kernel_rfl, fun V hSV => ?_⟩) hHeld ?_
                · (try dsimp only at hSV); go_simp
                try simp only [Act.put, List.setIfInBounds_toArray, List.set_cons_zero, List.set_cons_succ]
                refine wpAnyH_take (i := 16) (v := .bool false) rfl (by kernel_rfl) (by kernel_rfl) (by kernel_rfl) (fun _ _ _ h => h) (Or.inl ⟨by kernel_rfl, fun V hSV => ?_⟩) hHeld ?_
                · (try dsimp only at hSV); go_simp
                try simp only [Act.put, List.setIfInBounds_toArray, List.set_cons_zero, List.set_cons_succ]
                refine wpAnyH_take (i := 17) (v := .bool false) rfl (by kernel_rfl) (by kernel_rfl) (by kernel_rfl) (fun _ _ _ h => h) (Or.inl ⟨by kernel_rfl, fun V hSV => ?_⟩) hHeld ?_
                · (try dsimp only at hSV); go_simp
                try simp only [Act.put, List.setIfInBounds_toArray, List.set_cons_zero, List.set_cons_succ]
                refine wpAnyH_take (i := 18) (v := .bool false) rfl (by kernel_rfl) (by kernel_rfl) (by kernel_rfl) (fun _ _ _ h => h) (Or.inl ⟨by kernel_rfl, fun V hSV => ?_⟩) hHeld ?_
                · (try dsimp only at hSV); go_simp
                try simp only [Act.put, List.setIfInBounds_toArray, List.set_cons_zero, List.set_cons_succ]
                refine wpAnyH_take (i := 19) (v := .bool false) rfl (by kernel_rfl) (by kernel_rfl) (by kernel_rfl) (fun _ _ _ h => h) (Or.inl ⟨by kernel_rfl, fun V hSV => ?_⟩) hHeld ?_
                · (try dsimp only at hSV); go_simp
                try simp only [Act.put, List.setIfInBounds_toArray, List.set_cons_zero, List.set_cons_succ]
                refine wpAnyH_take (i := 20) (v := .int .i64 (j : Int)) rfl (by kernel_rfl) (by kernel_rfl) (by kernel_rfl) (fun _ _ _ h => h) (Or.inl ⟨by kernel_rfl, fun V hSV => ?_⟩) hHeld ?_
                · (try dsimp only at hSV); go_simp
                try simp only [Act.put, List.setIfInBounds_toArray, List.set_cons_zero, List.set_cons_succ]
                refine wpAnyH_take (i := 21) (v := .bool false) rfl (by kernel_rfl) (by kernel_rfl) (by kernel_rfl) (fun _ _ _ h => h) (Or.inl ⟨by kernel_rfl, fun V hSV => ?_⟩) hHeld ?_
                · (try dsimp only at hSV); go_simp
                try simp only [Act.put, List.setIfInBounds_toArray, List.set_cons_zero, List.set_cons_succ]
                refine wpAnyH_take (i := 22) (v := .bool false) rfl (by kernel_rfl) (by kernel_rfl) (by kernel_rfl) (fun _ _ _ h => h) (Or.inl ⟨by kernel_rfl, fun V hSV => ?_⟩) hHeld ?_
                · (try dsimp only at hSV); go_simp
                try simp only [Act.put, List.setIfInBounds_toArray, List.set_cons_zero, List.set_cons_succ]
                refine wpAnyH_take (i := 23) (v := undef) rfl (by kernel_rfl) (by kernel_rfl) (by kernel_rfl) (fun _ _ _ h => h) (Or.inr ⟨by kernel_rfl, rfl⟩) hHeld ?_
                try simp only [Act.put, List.setIfInBounds_toArray, List.set_cons_zero, List.set_cons_succ]
                refine wpAnyH_take (i := 24) (v := undef) rfl (by kernel_rfl) (by kernel_rfl) (by kernel_rfl) (fun _ _ _ h => h) (Or.inr ⟨by kernel_rfl, rfl⟩) hHeld ?_
                try simp only [Act.put, List.setIfInBounds_toArray, List.set_cons_zero, List.set_cons_succ]
                refine wpAnyH_take (i := 25) (v := undef) rfl (by kernel_rfl) (by kernel_rfl) (by kernel_rfl) (fun _ _ _ h => h) (Or.inr ⟨by kernel_rfl, rfl⟩) hHeld ?_
                try simp only [Act.put, List.setIfInBounds_toArray, List.set_cons_zero, List.set_cons_succ]
                refine wpAnyH_take (i := 26) (v := undef) rfl (by kernel_rfl) (by kernel_rfl) (by kernel_rfl) (fun _ _ _ h => h) (Or.inr ⟨by kernel_rfl, rfl⟩) hHeld ?_
                try simp only [Act.put, List.setIfInBounds_toArray, List.set_cons_zero, List.set_cons_succ]
                refine wpAnyH_take (i := 27) (v := undef) rfl (by kernel_rfl) (by kernel_rfl) (by kernel_rfl) (fun _ _ _ h => h) (Or.inr ⟨by kernel_rfl, rfl⟩) hHeld ?_
                try simp only [Act.put, List.setIfInBounds_toArray, List.set_cons_zero, List.set_cons_succ]
                refine wpAnyH_take (i := 28) (v := undef) rfl (by kernel_rfl) (by kernel_rfl) (by kernel_rfl) (fun _ _ _ h => h) (Or.inr ⟨by kernel_rfl, rfl⟩) hHeld ?_
                try simp only [Act.put, List.setIfInBounds_toArray, List.set_cons_zero, List.set_cons_succ]
                refine wpAnyH_take (i := 29) (v := undef) rfl (by kernel_rfl) (by kernel_rfl) (by kernel_rfl) (fun _ _ _ h => h) (Or.inr ⟨by kernel_rfl, rfl⟩) hHeld ?_
                try simp only [Act.put, List.setIfInBounds_toArray, List.set_cons_zero, List.set_cons_succ]
                refine wpAnyH_take (i := 30) (v := undef) rfl (by kernel_rfl) (by kernel_rfl) (by kernel_rfl) (fun _ _ _ h => h) (Or.inr ⟨by kernel_rfl, rfl⟩) hHeld ?_
                try simp only [Act.put, List.setIfInBounds_toArray, List.set_cons_zero, List.set_cons_succ]
                refine wpAnyH_take (i := 31) (v := undef) rfl (by kernel_rfl) (by kernel_rfl) (by kernel_rfl) (fun _ _ _ h => h) (Or.inr ⟨by kernel_rfl, rfl⟩) hHeld ?_
                try simp only [Act.put, List.setIfInBounds_toArray, List.set_cons_zero, List.set_cons_succ]
                refine wpAnyH_take (i := 32) (v := undef) rfl (by kernel_rfl) (by kernel_rfl) (by kernel_rfl) (fun _ _ _ h => h) (Or.inr ⟨by kernel_rfl, rfl⟩) hHeld ?_
                try simp only [Act.put, List.setIfInBounds_toArray, List.set_cons_zero, List.set_cons_succ]
                refine wpAnyH_take (i := 33) (v := .bool false) rfl (by kernel_rfl) (by kernel_rfl) (by kernel_rfl) (fun _ _ _ h => h) (Or.inl ⟨by kernel_rfl, fun V hSV => ?_⟩) hHeld ?_
                · (try dsimp only at hSV); go_simp
                try simp only [Act.put, List.setIfInBounds_toArray, List.set_cons_zero, List.set_cons_succ]
                refine wpAnyH_ready (rs := [34]) (by kernel_rfl) (by simp) ?_
                refine AllReadyH.cons rfl (fun K9_ hK => ?_) AllReadyH.nil
                go_simp
                refine hK.out _ _ ?_ (fun hHeld => ?_)
                · exact HSS.out _ X2.out
                clear hK
                try simp only [Act.put, List.setIfInBounds_toArray, List.set_cons_zero, List.set_cons_succ]
                refine wpAnyH_done (by kernel_rfl) ?_ _
                clear hHeld
                go_wp2
                go_meet
                exact ⟨rfl, X2.out⟩
              case rest =>
                obtain ⟨rfl, hKc⟩ := hcut
                have KC := Lib.hid (K9.out.tr hKc.out)
                clear hKc HSS
                go_wp2
                go_roundw
                case rel => exact ⟨j + 1, rfl, by rw [HSN.out], by go_num, (by show j + 1 ≤ k; omega), (by show j + 1 ≤ 16; omega), KC.out⟩
                case measure => simp [intOf]; omega
            · have g4 : (0 : Int) < (j : Int) := by omega
              have g4n : 0 < j := by omega
              have r2 := r21 (by omega)
              obtain ⟨ad', z, ea, _, hz, hzc⟩ := (HL.out.1.kp KW.out).at_ (k := j - 1) (by rw [← HN.out.1]; omega)
              injection ea with ea
              subst ea
              have hlz : l.getD (j - 1) 0 = z := by rw [List.getD_eq_getElem?_getD, hz]; rfl
              rw [hlz] at r2
              have g5 : IntKind.i64.wrap ((j : Int) - 1) = ((j - 1 : Nat) : Int) := by rw [IntWalk.i64_in _ (by omega)]; omega
              have g6 : ((j - 1 : Nat) : Int) < (k : Int) := by omega
              have g7 : (0 : Int) ≤ ((j - 1 : Nat) : Int) := by omega
              clear r20 r21 hy hz hlz
              have HC1 : Hid (∀ W, Kp w5 W → Calls Try.prog 11 #[.slice D q e, .int .i64 sn] W (RetTB ([], [y]) true 0 1 W)) := fun W kW =>
                HC.out.read D e q (manyC l g q) sn ([], [y]) true 0 1 W (hV.out.kp kW) (by rw [many_len]; exact hE.out) (SM.out q hq16) (by rw [many_len]) ⟨by omega, by omega⟩ r1 rfl rfl
              have HC2 : Hid (∀ W, Kp w5 W → Calls Try.prog 11 #[.slice D q e, .int .i64 sp] W (RetTB ([], [z]) true 0 1 W)) := fun W kW =>
                HC.out.read D e q (manyC l g q) sp ([], [z]) true 0 1 W (hV.out.kp kW) (by rw [many_len]; exact hE.out) (SM.out q hq16) (by rw [many_len]) ⟨by omega, by omega⟩ r2 rfl rfl
              clear r1 r2
              go_wp2_with fail
              refine (HC1.out _ hK2.out).mono ?_; rintro e0 w6 ⟨P12, c12, Q12, d12, rfl, T12, k6⟩
              have K6 := Lib.hid (hK2.out.tr k6)
              obtain ⟨w7, hw7⟩ : ∃ w7, w7 = w6.alloc (.cells #[.slice P12 0 c12, .slice Q12 1 d12] 25) := ⟨_, rfl⟩
              have K7 : Hid (Kp w5 w7) := by show Kp _ _; rw [hw7]; exact K6.out.tr (Kp.alloc_ _ _)
              have B12 : Hid (Bk w7 w6.heap.size P12 0 c12 Q12 1 d12) := by show Bk _ _ _ _ _ _ _ _; rw [hw7]; exact Bk.new rfl
              have R12 : Hid (Rd w7 Q12 [y]) := by show Rd _ _ _; rw [hw7]; exact T12.out.r.d.kp (Kp.alloc_ _ _)
              have HW7 := Lib.hid hw7
              clear k6 hw7
              go_wp2_with fail
              rw [← HW7.out]
              refine (HC2.out _ K7.out).mono ?_; rintro e0 w8 ⟨P14, c14, Q14, d14, rfl, T14, k8⟩
              have K8 := Lib.hid (K7.out.tr k8)
              obtain ⟨w9, hw9⟩ : ∃ w9, w9 = w8.alloc (.cells #[.slice P14 0 c14, .slice Q14 1 d14] 25) := ⟨_, rfl⟩
              have k89 : Kp w8 w9 := by rw [hw9]; exact Kp.alloc_ _ _
              have K9 : Hid (Kp w5 w9) := K8.out.tr k89
              have B12 := Lib.hid (B12.out.kp (k8.tr k89))
              have R12 := Lib.hid (R12.out.kp (k8.tr k89))
              have B14 : Hid (Bk w9 w8.heap.size P14 0 c14 Q14 1 d14) := by show Bk _ _ _ _ _ _ _ _; rw [hw9]; exact Bk.new rfl
              have R14 : Hid (Rd w9 Q14 (([], [z]) : T).2) := by show Rd _ _ _; exact T14.out.r.d.kp k89
              have HW9 := Lib.hid hw9
              clear k8 k89 hw9
              dsimp only
              go_upto_region 21 with fail
              rw [← HW9.out]
              clear e7
              have HSS : Hid (∀ V, Kp w9 V → V.cell? ⟨w6.heap.size, 1, none⟩ = some (.slice Q12 1 d12) ∧ V.cell? (ad.add j) = some (.int .i64 y) ∧ V.cell? ⟨w8.heap.size, 1, none⟩ = some (.slice Q14 1 d14) ∧ V.cell? (ad.add (j - 1)) = some (.int .i64 z)) := fun V kV => ⟨(B12.out.kp kV).c1, ((K9.out.tr kV).cell (p := ad.add j) (by rw [block_of_add]; exact ha1)).trans hac, (B14.out.kp kV).c1, ((K9.out.tr kV).cell (p := ad.add (j - 1)) (by rw [block_of_add]; exact ha1)).trans hzc⟩
              clear hac ha1 hzc
              go_cut [138] from 73 to 138 (fun v wx => v = .bool false ∧ Hid (Kp w9 wx))
              case first =>
                refine wp_region_held_drew (S := fun V => V.cell? ⟨w6.heap.size, 1, none⟩ = some (.slice Q12 1 d12) ∧ V.cell? (ad.add j) = some (.int .i64 y) ∧ V.cell? ⟨w8.heap.size, 1, none⟩ = some (.slice Q14 1 d14) ∧ V.cell? (ad.add (j - 1)) = some (.int .i64 z)) (by kernel_rfl) (HSS.out _ (Below.drew (Kp.refl _))) (fun hHeld => ?_)
                have X0 : Hid (Kp w9 w9.drew) := Below.drew (Kp.refl _)
                generalize w9.drew = V0 at X0 hHeld ⊢
                refine wpAnyH_take (i := 0) (v := .bool true) rfl (by kernel_rfl) (by kernel_rfl) (by kernel_rfl) (fun _ _ _ h => h) (Or.inl ⟨by kernel_rfl, fun V hSV => ?_⟩) hHeld ?_
                · (try dsimp only at hSV); go_simp
                try simp only [Act.put, List.setIfInBounds_toArray, List.set_cons_zero, List.set_cons_succ]
                refine wpAnyH_take (i := 1) (v := .bool false) rfl (by kernel_rfl) (by kernel_rfl) (by kernel_rfl) (fun _ _ _ h => h) (Or.inl ⟨by kernel_rfl, fun V hSV => ?_⟩) hHeld ?_
                · (try dsimp only at hSV); go_simp
                try simp only [Act.put, List.setIfInBounds_toArray, List.set_cons_zero, List.set_cons_succ]
                refine wpAnyH_take (i := 2) (v := .bool false) rfl (by kernel_rfl) (by kernel_rfl) (by kernel_rfl) (fun _ _ _ h => h) (Or.inl ⟨by kernel_rfl, fun V hSV => ?_⟩) hHeld ?_
                · (try dsimp only at hSV); go_simp
                try simp only [Act.put, List.setIfInBounds_toArray, List.set_cons_zero, List.set_cons_succ]
                refine wpAnyH_take (i := 3) (v := .pointer (some ⟨w6.heap.size, 1, none⟩)) rfl (by kernel_rfl) (by kernel_rfl) (by kernel_rfl) (fun _ _ _ h => h) (Or.inl ⟨by kernel_rfl, fun V hSV => ?_⟩) hHeld ?_
                · (try dsimp only at hSV); go_simp
                try simp only [Act.put, List.setIfInBounds_toArray, List.set_cons_zero, List.set_cons_succ]
                refine wpAnyH_take (i := 4) (v := .slice Q12 1 d12) rfl (by kernel_rfl) (by kernel_rfl) (by kernel_rfl) (fun _ _ _ h => h) (Or.inl ⟨by kernel_rfl, fun V hSV => ?_⟩) hHeld ?_
                · (try dsimp only at hSV); go_simp
                try simp only [Act.put, List.setIfInBounds_toArray, List.set_cons_zero, List.set_cons_succ]
                refine wpAnyH_take (i := 5) (v := .slice (some ad) k c) rfl (by kernel_rfl) (by kernel_rfl) (by kernel_rfl) (fun _ _ _ h => h) (Or.inl ⟨by kernel_rfl, fun V hSV => ?_⟩) hHeld ?_
                · (try dsimp only at hSV); go_simp
                try simp only [Act.put, List.setIfInBounds_toArray, List.set_cons_zero, List.set_cons_succ]
                refine wpAnyH_take (i := 6) (v := .int .i64 (j : Int)) rfl (by kernel_rfl) (by kernel_rfl) (by kernel_rfl) (fun _ _ _ h => h) (Or.inl ⟨by kernel_rfl, fun V hSV => ?_⟩) hHeld ?_
                · (try dsimp only at hSV); go_simp
                try simp only [Act.put, List.setIfInBounds_toArray, List.set_cons_zero, List.set_cons_succ]
                refine wpAnyH_take (i := 7) (v := .pointer (some (ad.add j))) rfl (by kernel_rfl) (by kernel_rfl) (by kernel_rfl) (fun _ _ _ h => h) (Or.inl ⟨by kernel_rfl, fun V hSV => ?_⟩) hHeld ?_
                · (try dsimp only at hSV); go_simp
                try simp only [Act.put, List.setIfInBounds_toArray, List.set_cons_zero, List.set_cons_succ]
                refine wpAnyH_take (i := 8) (v := .int .i64 y) rfl (by kernel_rfl) (by kernel_rfl) (by kernel_rfl) (fun _ _ _ h => h) (Or.inl ⟨by kernel_rfl, fun V hSV => ?_⟩) hHeld ?_
                · (try dsimp only at hSV); go_simp
                try simp only [Act.put, List.setIfInBounds_toArray, List.set_cons_zero, List.set_cons_succ]
                refine wpAnyH_ready (rs := [9]) (by kernel_rfl) (by simp) ?_
                refine AllReadyH.cons rfl (fun K9_ hK => ?_) AllReadyH.nil
                go_simp
                refine hK.out _ _ ?_ (fun hHeld => ?_)
                · exact HSS.out _ (X0.out.tr (Kp.alloc_ _ _))
                clear hK
                try simp only [Act.put, List.setIfInBounds_toArray, List.set_cons_zero, List.set_cons_succ]
                have X1 : Hid (Kp w9 (V0.alloc (.cells #[.int .i64 y] 3))) := X0.out.tr (Kp.alloc_ _ _)
                have N1 : Hid (Rd (V0.alloc (.cells #[.int .i64 y] 3)) (some ⟨V0.heap.size, 0, none⟩) [y]) := Rd.one _ _ _
                generalize V0.alloc (.cells #[.int .i64 y] 3) = V1 at X1 N1 hHeld ⊢
                generalize V0.heap.size = b1 at N1 ⊢
                refine wpAnyH_ready (rs := [10]) (by kernel_rfl) (by simp) ?_
                refine AllReadyH.cons rfl (fun K9_ hK => ?_) AllReadyH.nil
                go_simp
                refine (same_c [y] [y] (R12.out.kp X1.out) N1.out rfl rfl (r := true) (by simp)).mono ?_; rintro e0 V2 ⟨rfl, k2⟩
                dsimp only
                have X2 : Hid (Kp w9 V2) := X1.out.tr k2
                clear k2
                refine hK.out _ _ ?_ (fun hHeld => ?_)
                · exact HSS.out _ X2.out
                clear hK
                try simp only [Act.put, List.setIfInBounds_toArray, List.set_cons_zero, List.set_cons_succ]
                refine wpAnyH_take (i := 11) (v := .bool false) rfl (by kernel_rfl) (by kernel_rfl) (by kernel_rfl) (fun _ _ _ h => h) (Or.inl ⟨by kernel_rfl, fun V hSV => ?_⟩) hHeld ?_
                · (try dsimp only at hSV); go_simp
                try simp only [Act.put, List.setIfInBounds_toArray, List.set_cons_zero, List.set_cons_succ]
                refine wpAnyH_take (i := 12) (v := .bool false) rfl (by kernel_rfl) (by kernel_rfl) (by kernel_rfl) (fun _ _ _ h => h) (Or.inl ⟨by kernel_rfl, fun V hSV => ?_⟩) hHeld ?_
                · (try dsimp only at hSV); go_simp
                try simp only [Act.put, List.setIfInBounds_toArray, List.set_cons_zero, List.set_cons_succ]
                refine wpAnyH_take (i := 13) (v := .bool false) rfl (by kernel_rfl) (by kernel_rfl) (by kernel_rfl) (fun _ _ _ h => h) (Or.inl ⟨by kernel_rfl, fun V hSV => ?_⟩) hHeld ?_
                · (try dsimp only at hSV); go_simp
                try simp only [Act.put, List.setIfInBounds_toArray, List.set_cons_zero, List.set_cons_succ]
                refine wpAnyH_take (i := 14) (v := .bool true) rfl (by kernel_rfl) (by kernel_rfl) (by kernel_rfl) (fun _ _ _ h => h) (Or.inl ⟨by kernel_rfl, fun V hSV => ?_⟩) hHeld ?_
                · (try dsimp only at hSV); go_simp
                try simp only [Act.put, List.setIfInBounds_toArray, List.set_cons_zero, List.set_cons_succ]
                refine wpAnyH_take (i := 15) (v := .int .i64 (j : Int)) rfl (by kernel_rfl) (by kernel_rfl) (by kernel_rfl) (fun _ _ _ h => h) (Or.inl ⟨by kernel_rfl, fun V hSV => ?_⟩) hHeld ?_
                · (try dsimp only at hSV); go_simp
                try simp only [Act.put, List.setIfInBounds_toArray, List.set_cons_zero, List.set_cons_succ]
                refine wpAnyH_take (i := 16) (v := .bool true) rfl (by kernel_rfl) (by kernel_rfl) (by kernel_rfl) (fun _ _ _ h => h) (Or.inl ⟨by kernel_rfl, fun V hSV => ?_⟩) hHeld ?_
                · (try dsimp only at hSV); go_simp
                try simp only [Act.put, List.setIfInBounds_toArray, List.set_cons_zero, List.set_cons_succ]
                refine wpAnyH_take (i := 17) (v := .bool false) rfl (by kernel_rfl) (by kernel_rfl) (by kernel_rfl) (fun _ _ _ h => h) (Or.inl ⟨by kernel_rfl, fun V hSV => ?_⟩) hHeld ?_
                · (try dsimp only at hSV); go_simp
                try simp only [Act.put, List.setIfInBounds_toArray, List.set_cons_zero, List.set_cons_succ]
                refine wpAnyH_take (i := 18) (v := .bool false) rfl (by kernel_rfl) (by kernel_rfl) (by kernel_rfl) (fun _ _ _ h => h) (Or.inl ⟨by kernel_rfl, fun V hSV => ?_⟩) hHeld ?_
                · (try dsimp only at hSV); go_simp
                try simp only [Act.put, List.setIfInBounds_toArray, List.set_cons_zero, List.set_cons_succ]
                refine wpAnyH_take (i := 19) (v := .bool false) rfl (by kernel_rfl) (by kernel_rfl) (by kernel_rfl) (fun _ _ _ h => h) (Or.inl ⟨by kernel_rfl, fun V hSV => ?_⟩) hHeld ?_
                · (try dsimp only at hSV); go_simp
                try simp only [Act.put, List.setIfInBounds_toArray, List.set_cons_zero, List.set_cons_succ]
                refine wpAnyH_take (i := 20) (v := .int .i64 (j : Int)) rfl (by kernel_rfl) (by kernel_rfl) (by kernel_rfl) (fun _ _ _ h => h) (Or.inl ⟨by kernel_rfl, fun V hSV => ?_⟩) hHeld ?_
                · (try dsimp only at hSV); go_simp
                try simp only [Act.put, List.setIfInBounds_toArray, List.set_cons_zero, List.set_cons_succ]
                refine wpAnyH_take (i := 21) (v := .bool true) rfl (by kernel_rfl) (by kernel_rfl) (by kernel_rfl) (fun _ _ _ h => h) (Or.inl ⟨by kernel_rfl, fun V hSV => ?_⟩) hHeld ?_
                · (try dsimp only at hSV); go_simp
                try simp only [Act.put, List.setIfInBounds_toArray, List.set_cons_zero, List.set_cons_succ]
                refine wpAnyH_take (i := 22) (v := .bool true) rfl (by kernel_rfl) (by kernel_rfl) (by kernel_rfl) (fun _ _ _ h => h) (Or.inl ⟨by kernel_rfl, fun V hSV => ?_⟩) hHeld ?_
                · (try dsimp only at hSV); go_simp
                try simp only [Act.put, List.setIfInBounds_toArray, List.set_cons_zero, List.set_cons_succ]
                refine wpAnyH_take (i := 23) (v := .pointer (some ⟨w8.heap.size, 1, none⟩)) rfl (by kernel_rfl) (by kernel_rfl) (by kernel_rfl) (fun _ _ _ h => h) (Or.inl ⟨by kernel_rfl, fun V hSV => ?_⟩) hHeld ?_
                · (try dsimp only at hSV); go_simp
                try simp only [Act.put, List.setIfInBounds_toArray, List.set_cons_zero, List.set_cons_succ]
                refine wpAnyH_take (i := 24) (v := .slice Q14 1 d14) rfl (by kernel_rfl) (by kernel_rfl) (by kernel_rfl) (fun _ _ _ h => h) (Or.inl ⟨by kernel_rfl, fun V hSV => ?_⟩) hHeld ?_
                · (try dsimp only at hSV); go_simp
                try simp only [Act.put, List.setIfInBounds_toArray, List.set_cons_zero, List.set_cons_succ]
                refine wpAnyH_take (i := 25) (v := .slice (some ad) k c) rfl (by kernel_rfl) (by kernel_rfl) (by kernel_rfl) (fun _ _ _ h => h) (Or.inl ⟨by kernel_rfl, fun V hSV => ?_⟩) hHeld ?_
                · (try dsimp only at hSV); go_simp
                try simp only [Act.put, List.setIfInBounds_toArray, List.set_cons_zero, List.set_cons_succ]
                refine wpAnyH_take (i := 26) (v := .int .i64 (j : Int)) rfl (by kernel_rfl) (by kernel_rfl) (by kernel_rfl) (fun _ _ _ h => h) (Or.inl ⟨by kernel_rfl, fun V hSV => ?_⟩) hHeld ?_
                · (try dsimp only at hSV); go_simp
                try simp only [Act.put, List.setIfInBounds_toArray, List.set_cons_zero, List.set_cons_succ]
                refine wpAnyH_take (i := 27) (v := .int .i64 ((j - 1 : Nat) : Int)) rfl (by kernel_rfl) (by kernel_rfl) (by kernel_rfl) (fun _ _ _ h => h) (Or.inl ⟨by kernel_rfl, fun V hSV => ?_⟩) hHeld ?_
                · (try dsimp only at hSV); go_simp
                try simp only [Act.put, List.setIfInBounds_toArray, List.set_cons_zero, List.set_cons_succ]
                refine wpAnyH_take (i := 28) (v := .pointer (some (ad.add (j - 1)))) rfl (by kernel_rfl) (by kernel_rfl) (by kernel_rfl) (fun _ _ _ h => h) (Or.inl ⟨by kernel_rfl, fun V hSV => ?_⟩) hHeld ?_
                · (try dsimp only at hSV); go_simp
                try simp only [Act.put, List.setIfInBounds_toArray, List.set_cons_zero, List.set_cons_succ]
                refine wpAnyH_take (i := 29) (v := .int .i64 z) rfl (by kernel_rfl) (by kernel_rfl) (by kernel_rfl) (fun _ _ _ h => h) (Or.inl ⟨by kernel_rfl, fun V hSV => ?_⟩) hHeld ?_
                · (try dsimp only at hSV); go_simp
                try simp only [Act.put, List.setIfInBounds_toArray, List.set_cons_zero, List.set_cons_succ]
                refine wpAnyH_ready (rs := [30]) (by kernel_rfl) (by simp) ?_
                refine AllReadyH.cons rfl (fun K9_ hK => ?_) AllReadyH.nil
                go_simp
                refine hK.out _ _ ?_ (fun hHeld => ?_)
                · exact HSS.out _ (X2.out.tr (Kp.alloc_ _ _))
                clear hK
                try simp only [Act.put, List.setIfInBounds_toArray, List.set_cons_zero, List.set_cons_succ]
                have X3 : Hid (Kp w9 (V2.alloc (.cells #[.int .i64 z] 3))) := X2.out.tr (Kp.alloc_ _ _)
                have N3 : Hid (Rd (V2.alloc (.cells #[.int .i64 z] 3)) (some ⟨V2.heap.size, 0, none⟩) [z]) := Rd.one _ _ _
                generalize V2.alloc (.cells #[.int .i64 z] 3) = V3 at X3 N3 hHeld ⊢
                generalize V2.heap.size = b3 at N3 ⊢
                refine wpAnyH_ready (rs := [31]) (by kernel_rfl) (by simp) ?_
                refine AllReadyH.cons rfl (fun K9_ hK => ?_) AllReadyH.nil
                go_simp
                refine (same_c [z] [z] (R14.out.kp X3.out) N3.out rfl rfl (r := true) (by simp)).mono ?_; rintro e0 V4 ⟨rfl, k4⟩
                dsimp only
                have X4 : Hid (Kp w9 V4) := X3.out.tr k4
                clear k4
                refine hK.out _ _ ?_ (fun hHeld => ?_)
                · exact HSS.out _ X4.out
                clear hK
                try simp only [Act.put, List.setIfInBounds_toArray, List.set_cons_zero, List.set_cons_succ]
                refine wpAnyH_take (i := 32) (v := .bool false) rfl (by kernel_rfl) (by kernel_rfl) (by kernel_rfl) (fun _ _ _ h => h) (Or.inl ⟨by kernel_rfl, fun V hSV => ?_⟩) hHeld ?_
                · (try dsimp only at hSV); go_simp
                try simp only [Act.put, List.setIfInBounds_toArray, List.set_cons_zero, List.set_cons_succ]
                refine wpAnyH_take (i := 33) (v := .bool false) rfl (by kernel_rfl) (by kernel_rfl) (by kernel_rfl) (fun _ _ _ h => h) (Or.inl ⟨by kernel_rfl, fun V hSV => ?_⟩) hHeld ?_
                · (try dsimp only at hSV); go_simp
                try simp only [Act.put, List.setIfInBounds_toArray, List.set_cons_zero, List.set_cons_succ]
                refine wpAnyH_ready (rs := [34]) (by kernel_rfl) (by simp) ?_
                refine AllReadyH.cons rfl (fun K9_ hK => ?_) AllReadyH.nil
                go_simp
                refine hK.out _ _ ?_ (fun hHeld => ?_)
                · exact HSS.out _ X4.out
                clear hK
                try simp only [Act.put, List.setIfInBounds_toArray, List.set_cons_zero, List.set_cons_succ]
                refine wpAnyH_done (by kernel_rfl) ?_ _
                clear hHeld
                go_wp2
                go_meet
                exact ⟨rfl, X4.out⟩
              case rest =>
                obtain ⟨rfl, hKc⟩ := hcut
                have KC := Lib.hid (K9.out.tr hKc.out)
                clear hKc HSS
                go_wp2
                go_roundw
                case rel => exact ⟨j + 1, rfl, by rw [HSN.out], by go_num, (by show j + 1 ≤ k; omega), (by show j + 1 ≤ 16; omega), KC.out⟩
                case measure => simp [intOf]; omega
          · have g2 : ¬ (j : Int) < 16 := by omega
            have hn16 : 16 < k := by omega
            have g9 : ¬ (k : Int) ≤ 16 := by omega
            have g8 : ¬ (k : Int) < 16 := by omega
            have g10 : (16 : Int) ≤ (k : Int) := by omega
            obtain rfl : q = 16 := by have := hq.out; omega
            go_wp2
            go_ret
            exact ⟨rfl, KR.out⟩
        · have g1 : ¬ (j : Int) < (k : Int) := by omega
          rcases Nat.lt_trichotomy k 16 with hn16 | hn16 | hn16
          · have g9 : (k : Int) < 16 := by omega
            have g8 : (k : Int) ≤ 16 := by omega
            have g7 : ¬ (16 : Int) ≤ (k : Int) := by omega
            obtain rfl : q = k := by have := hq.out; omega
            go_wp2
            go_ret
            exact ⟨rfl, KR.out⟩
          · subst hn16
            obtain rfl : q = 16 := by have := hq.out; omega
            go_wp2
            go_ret
            exact ⟨rfl, KR.out⟩
          · have g9 : ¬ (k : Int) ≤ 16 := by omega
            have g8 : ¬ (k : Int) < 16 := by omega
            have g10 : (16 : Int) ≤ (k : Int) := by omega
            obtain rfl : q = 16 := by have := hq.out; omega
            go_wp2
            go_ret
            exact ⟨rfl, KR.out⟩
theorem cmany_walk (C : ChC) (A B : Option Addr) (c d : Nat) (l g : List Int) (w : World) (h : Rd w A l) (hb : B8.Rd w B g) (hg : ∀ x ∈ g, 0 ≤ x ∧ x ≤ 255) (hi : N64 l) :
    Calls Try.prog 7 #[.slice A l.length c, .slice B g.length d] w fun e w' => e = .returned (.bool true) ∧ Kp w w' := by
  by_cases h1 : l.length ≤ 30
  · by_cases h2 : l.length ≤ g.length
    · by_cases h3 : g.length ≤ 30
      · exact cmany_main C A B _ c _ d l g w h hb rfl rfl hg hi h1 h2 h3
      · exact cmany_far C A B _ c _ d l g w (.inr (.inr ⟨h1, h2, by omega⟩))
    · exact cmany_far C A B _ c _ d l g w (.inr (.inl ⟨h1, by omega⟩))
  · exact cmany_far C A B _ c _ d l g w (.inl (by omega))
end Go.Proofs.Ytdcpekkkenckeaa
