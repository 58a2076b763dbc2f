/- The document's Join of layer 5 (fullerref05): joined. -/
import Derived.Test.YtdjfjhanffliiaaMvI
import Derived.Deep.RegionLaw
import Derived.StillTailTactics
namespace Go.Proofs.Ytdjfjhanffliiaa
open Go.RowKit Go.Proofs.ShM
set_option linter.unusedVariables false
set_option linter.unusedSimpArgs false

set_option maxRecDepth 100000 in
set_option maxHeartbeats 8000000 in
theorem rj_yes (A B C D : Option Addr) (c d e f : Nat) (s xs t ys : List Int) (k : Nat) (x y : Int) (w : World) (hA : Rd w A s) (hB : Rd w B xs) (hC : Rd w C t) (hD : Rd w D ys) (ht : tokV s xs = true) (ht2 : tokV t ys = true) (hx : s[k]? = some x) (hy : t[k]? = some y) (hst : s.length = t.length) (hqq : s.set k 1 = t.set k 1) (hok : okS (s.set k (x + y)) = true) :
    Calls Try.prog 21 #[.agg #[.slice A s.length c, .slice B xs.length d], .agg #[.slice C t.length e, .slice D ys.length f], .int .i64 (k : Int)] w (RetT (glueV s xs t ys (k : Int)) w) := by
  have hlA := hA.len
  have hlB := hB.len
  have hlC := hC.len
  have hlD := hD.len
  have F0 := Lib.hid (Kf.mk_ w A s.length c B xs.length d C t.length e D ys.length f)
  have HT := Lib.hid (fun W (k : Kp w W) => rtcheck_any A B c d s xs W (hA.kp k) (hB.kp k))
  have HT2 := Lib.hid (fun W (k : Kp w W) => rtcheck_any C D e f t ys W (hC.kp k) (hD.kp k))
  have hk := (List.getElem?_eq_some_iff.1 hx).1
  have hk2 := (List.getElem?_eq_some_iff.1 hy).1
  have hs3 : s.length ≤ 3 := (ok_iff.1 (tok_len ht).1).1
  have hx16 := (side_of (ok_all (tok_len ht).1) hx)
  have hy16 := (side_of (ok_all (tok_len ht2).1) hy)
  have hgx : s.getD k 0 = x := by rw [List.getD, hx, Option.getD_some]
  have hgy : t.getD k 0 = y := by rw [List.getD, hy, Option.getD_some]
  obtain ⟨z, hz⟩ : ∃ z, x + y = z := ⟨_, rfl⟩
  have hwz : IntKind.i64.wrap (x + y) = z := by rw [IntWalk.i64_in _ (by omega)]; exact hz
  obtain ⟨v, hv⟩ : ∃ v, -x = v := ⟨_, rfl⟩
  have hneg : wrap64 (-x) = v := by rw [← hv]; unfold wrap64; omega
  have hneg2 : IntKind.i64.wrap (-x) = v := by rw [IntWalk.i64_in _ (by omega)]; exact hv
  have HP : Hid (glueV s xs t ys k = if s.set k 1 = t.set k 1 then (if okS (s.set k z) = true then (s.set k z, bothL s xs t ys (s.set k z) k, 0) else ([], [], 20)) else ([], [], 20)) := by
    show glueV s xs t ys k = _
    unfold glueV
    rw [if_neg (by simp [ht, ht2]), Int.toNat_natCast, hgx, hgy, hz]
    by_cases hq : s.set k 1 = t.set k 1
    · rw [if_pos hq]
      by_cases ho : okS (s.set k z) = true
      · rw [if_pos ho, if_neg (by rintro (h | h | h | h | h); (· omega); (· omega); (· exact h hst); (· exact h hq); rw [ho] at h; cases h)]
      · rw [if_neg ho, if_pos (by right; right; right; right; simpa using ho)]
    · rw [if_neg hq, if_pos (.inr (.inr (.inr (.inl hq))))]
  rw [HP.out]
  rw [hz] at hok
  rw [ht] at HT
  rw [ht2] at HT2
  have HWA := Lib.hid (fun W (kw : Kp w W) => rset_any A c s k 1 W (hA.kp kw) (by omega) hk)
  have HWC := Lib.hid (fun W (kw : Kp w W) => rset_any C e t k 1 W (hC.kp kw) (by omega) hk2)
  have HWZ := Lib.hid (fun W (kw : Kp w W) => rset_any A c s k z W (hA.kp kw) (by omega) hk)
  have HEQ : Hid (∀ W E q E2 q2, Rd W E (s.set k 1) → Rd W E2 (t.set k 1) → Calls Try.prog 24 #[.slice E (s.set k 1).length q, .slice E2 (t.set k 1).length q2] W fun e w' => e = .returned (.bool (decide (s.set k 1 = t.set k 1))) ∧ Kp W w') := fun W E q E2 q2 r r2 => (same_any E E2 q q2 (s.set k 1) (t.set k 1) W r r2).mono fun e w' h => ⟨by rw [h.1]; congr 2; rw [Bool.eq_iff_iff]; simp, by obtain ⟨_, n, h⟩ := h; rw [h]; exact Kp.drewN_ _ _⟩
  have HCK : Hid (∀ W E q, Rd W E (s.set k z) → Calls Try.prog 45 #[.slice E (s.set k z).length q] W fun e w' => e = .returned (.bool (okS (s.set k z))) ∧ W = w') := fun W E q r => rcheck_any E q (s.set k z) W r
  have HM1 : Hid (okS (s.set k z) = true → ∀ W E q, Kp w W → Rd W E (s.set k z) → Calls Try.prog 41 #[.agg #[.slice A s.length c, .slice B xs.length d], .slice E (s.set k z).length q, .int .i64 (k : Int), .int .i64 0] W (RetM (s.set k z) (movedL s xs (s.set k z) k 0) W)) :=
    fun hog W E q kw r => moved_any A B E c d q s xs (s.set k z) k 0 W (hA.kp kw) (hB.kp kw) r ht hog (by rw [List.length_set]; exact hk) (by omega) (by omega)
  have HM2 : Hid (okS (s.set k z) = true → ∀ W E q, Kp w W → Rd W E (s.set k z) → Calls Try.prog 41 #[.agg #[.slice C t.length e, .slice D ys.length f], .slice E (s.set k z).length q, .int .i64 (k : Int), .int .i64 v] W (RetM (s.set k z) (movedL t ys (s.set k z) k v) W)) :=
    fun hog W E q kw r => moved_any C D E e f q t ys (s.set k z) k v W (hC.kp kw) (hD.kp kw) r ht2 hog (by rw [List.length_set]; exact hk) (by omega) (by omega)
  have HX : Hid (okS (s.set k z) = true → ∀ (i : Nat) W E q, (i : Int) < sizeV (s.set k z) → Rd W E (s.set k z) → Calls Try.prog 36 #[.slice E (s.set k z).length q, .int .i64 (i : Int)] W (Ret (digs (s.set k z) i, 0) W)) := by
    intro hog i W E q hi r
    have hh := rindex_any E q (s.set k z) (i : Int) W r
    rw [index_yes (by omega) hi] at hh
    exact hh
  have HLG : Hid ((s.set k z).length = s.length) := by show List.length _ = _; rw [List.length_set]
  have HDG : Hid (okS (s.set k z) = true → ∀ i : Nat, (i : Int) < sizeV (s.set k z) → ∃ u, (digs (s.set k z) i)[k]? = some u) := fun ho i hi => by
    have hl : k < (digs (s.set k z) i).length := by rw [digs_len, List.length_set]; exact hk
    exact ⟨_, List.getElem?_eq_getElem hl⟩
  have HBO : Hid (bothL s xs t ys (s.set k z) k = (List.range (sizeV (s.set k z)).toNat).map fun i : Nat => if (digs (s.set k z) i).getD k 0 < x then (movedL s xs (s.set k z) k 0).getD i 0 else (movedL t ys (s.set k z) k v).getD i 0) := by
    show bothL _ _ _ _ _ _ = _
    unfold bothL
    rw [hgx, hv]
  have HML : Hid ((movedL s xs (s.set k z) k 0).length = (sizeV (s.set k z)).toNat ∧ (movedL t ys (s.set k z) k v).length = (sizeV (s.set k z)).toNat) := ⟨moved_len _ _ _ _ _, moved_len _ _ _ _ _⟩
  have HSL := Lib.hid (size_le (s.set k z))
  rw [HBO.out]
  obtain ⟨ad, x', rfl, hbx, hx', hc⟩ := hA.at_ hk
  obtain rfl : x = x' := by rw [hx] at hx'; exact Option.some.inj hx'
  obtain ⟨ae, y', rfl, hby, hy', hc'⟩ := hC.at_ hk2
  obtain rfl : y = y' := by rw [hy] at hy'; exact Option.some.inj hy'
  have HCA : Hid (∀ W, Kp w W → W.cell? (ad.add k) = some (.int .i64 x)) := fun W q => (q.cell (p := ad.add k) (by rw [block_of_add]; exact hbx)).trans hc
  have HCB : Hid (∀ W, Kp w W → W.cell? (ae.add k) = some (.int .i64 y)) := fun W q => (q.cell (p := ae.add k) (by rw [block_of_add]; exact hby)).trans hc'
  have j1 : (0 : Int) ≤ (k : Int) := by omega
  have j2 : (k : Int) < (s.length : Int) := by omega
  have j3 : (k : Int) < (t.length : Int) := by omega
  have d1 : decide ((k : Int) < 0) = false := by simp
  have d2 : decide ((s.length : Int) ≤ (k : Int)) = false := by simp; omega
  have d3 : ((s.length : Int) != (t.length : Int)) = false := by simp; omega
  have d2n : decide (s.length ≤ k) = false := by simp; omega
  have d3n : (s.length != t.length) = false := by simp; omega
  have HK3 : Hid (k < s.length) := hk
  have HS3 : Hid (s.length ≤ 3) := hs3
  clear HP HBO
  generalize hg : s.set k z = g at HM1 HM2 HWZ HCK HX HLG HDG HML HSL hok ⊢
  generalize hq : s.set k 1 = q1 at HEQ HWA hqq ⊢
  generalize hq2 : t.set k 1 = q2 at HEQ HWC hqq ⊢
  generalize movedL s xs g k 0 = ms at HM1 HML ⊢
  generalize movedL t ys g k v = ns at HM2 HML ⊢
  clear hA hB hC hD ht ht2 hx hx' hy hy' hgx hgy hg hq hq2 hc hc' hz hv hx16 hy16 hst hk hk2 hs3
  rw [if_pos hqq]
  rw [decide_eq_true hqq] at HEQ
  clear hqq
  rw [hok] at HCK
  rw [if_pos hok]
  have HM1 := Lib.hid (HM1.out hok)
  have HM2 := Lib.hid (HM2.out hok)
  have HX := Lib.hid (HX.out hok)
  have HDG := Lib.hid (HDG.out hok)
  have HSM : Hid (sizeV g = (ms.length : Int)) := by show _ = _; rw [HML.out.1, Int.toNat_of_nonneg HSL.out.1]
  have HNM : Hid (ns.length = ms.length) := HML.out.2.trans HML.out.1.symm
  have hm64 : ms.length ≤ 64 := by have := HSM.out; have := HSL.out.2; omega
  have HX := Lib.hid (fun (i : Nat) W E q (hi : i < ms.length) (r : Rd W E g) => HX.out i W E q (by rw [HSM.out]; omega) r)
  have HDG := Lib.hid (fun (i : Nat) (hi : i < ms.length) => HDG.out i (by rw [HSM.out]; omega))
  rw [← HML.out.1]
  obtain ⟨Fn, HFn⟩ : ∃ Fn : Nat → Int, Hid (Fn = fun i : Nat => if (digs g i).getD k 0 < x then ms.getD i 0 else ns.getD i 0) := ⟨_, rfl⟩
  rw [← HFn.out]
  generalize hfl : (List.range ms.length).map Fn = fl
  have HFL := Lib.hid hfl
  clear hok hfl
  go_enter Try.func21, Try.ntmps21
  go_wp2_with fail
  refine (HT.out _ F0.out.kp).mono ?_; rintro e0 w1 ⟨rfl, k1⟩
  have F1 := Lib.hid (F0.out.tr k1)
  clear k1
  have t0 := F1.out.t.c0
  have t1 := F1.out.t.c1
  have t2 := F1.out.t2.c0
  have t3 := F1.out.t2.c1
  have r0 := F1.out.r.c0
  have r1 := F1.out.r.c1
  have u0 := F1.out.r.f0 0
  have u1 := F1.out.r.f0 1
  go_wp2_with fail
  refine (HT2.out _ F1.out.kp).mono ?_; rintro e0 w2 ⟨rfl, k2⟩
  have F1 := Lib.hid (F1.out.tr k2)
  clear k2 t0 t1 t2 t3 r0 r1 u0 u1
  have t0 := F1.out.t.c0
  have t1 := F1.out.t.c1
  have t2 := F1.out.t2.c0
  have t3 := F1.out.t2.c1
  have r0 := F1.out.r.c0
  have r1 := F1.out.r.c1
  have u0 := F1.out.r.f0 0
  have u1 := F1.out.r.f0 1
  have HKV : Hid (∀ V, Kp w2 V → Hid (Kp w2 V) ∧ Hid (Kf w (some ad) s.length c B xs.length d (some ae) t.length e D ys.length f V) ∧ V.cell? ⟨w.heap.size, 0, none⟩ = some (.slice (some ad) s.length c) ∧ V.cell? ⟨w.heap.size + 1, 0, none⟩ = some (.slice (some ae) t.length e)) := fun V kV => ⟨kV, F1.out.tr kV, (F1.out.tr kV).t.c0, (F1.out.tr kV).t2.c0⟩
  clear t1 t3 r0 r1 u0 u1
  have hdr : Hid (Kp w2 w2.drew) := Below.drew (Kp.refl _)
  go_wp2
  go_cut [58] (fun v58 wx => v58 = .bool false ∧ Hid (Kp w2 wx))
  case first =>
    go_region_held3 (fun V => V.cell? ⟨w.heap.size, 0, none⟩ = some (.slice (some ad) s.length c) ∧ V.cell? ⟨w.heap.size + 1, 0, none⟩ = some (.slice (some ae) t.length e)) (first | exact ⟨z0, z1⟩ | exact ⟨y0, y1⟩ | exact ⟨v0, v1⟩ | exact ⟨t0, t2⟩)
      (first
      | (go_at_call_of 42 ad; refine (HWA.out _ (F1.out.kp.tr hdr.out)).mono ?_; rintro e0 w3 ⟨A3, c3, rfl, o3, k3⟩; obtain ⟨K3, F3, v0, v1⟩ := HKV.out _ (undrawn k3); have R3 : Hid (Rd w3 A3 q1) := o3.sl.rd; clear o3 k3)
      | (go_at_call_of 42 ae; refine (HWC.out _ F3.out.kp).mono ?_; rintro e0 w4 ⟨A4, c4, rfl, o4, k4⟩; obtain ⟨K4, F4, y0, y1⟩ := HKV.out _ (K3.out.tr k4); have R4 : Hid (Rd w4 A4 q2) := o4.sl.rd; have R34 := Lib.hid (R3.out.kp k4); clear o4 k4)
      | (go_at_call 24; refine (HEQ.out _ _ _ _ _ R34.out R4.out).mono ?_; rintro e0 w5 ⟨rfl, k5⟩; obtain ⟨K5, F5, z0, z1⟩ := HKV.out _ (K4.out.tr k5); clear k5))
    all_goals go_wp2
    all_goals go_meet
    all_goals exact ⟨rfl, K5⟩
  case rest =>
    obtain ⟨rfl, K5⟩ := hcut
    obtain ⟨_, F5, z0, z1⟩ := HKV.out _ K5.out
    clear t0 t2 HKV hdr F1
    obtain ⟨w5, hw5⟩ : ∃ w5, w5 = wc := ⟨_, rfl⟩
    subst hw5
    have ca := HCA.out _ F5.out.kp
    have cb := HCB.out _ F5.out.kp
    have hdr5 : Hid (Kp w5 w5.drew) := Below.drew (Kp.refl _)
    have HKW : Hid (∀ V, Kp w5 V → Hid (Kp w5 V) ∧ Hid (Kf w (some ad) s.length c B xs.length d (some ae) t.length e D ys.length f V) ∧ V.cell? ⟨w.heap.size, 0, none⟩ = some (.slice (some ad) s.length c) ∧ V.cell? ⟨w.heap.size + 1, 0, none⟩ = some (.slice (some ae) t.length e) ∧ V.cell? (ad.add k) = some (.int .i64 x) ∧ V.cell? (ae.add k) = some (.int .i64 y)) := fun V kV => ⟨kV, F5.out.tr kV, (F5.out.tr kV).t.c0, (F5.out.tr kV).t2.c0, HCA.out _ (F5.out.tr kV).kp, HCB.out _ (F5.out.tr kV).kp⟩
    go_wp2
    go_cut [10] (fun v10 wx => ∃ A6 c6, v10 = .slice A6 g.length c6 ∧ Hid (Rd wx A6 g) ∧ Hid (Kp w5 wx))
    case first =>
      go_region_held3 (fun V => V.cell? ⟨w.heap.size, 0, none⟩ = some (.slice (some ad) s.length c) ∧ V.cell? ⟨w.heap.size + 1, 0, none⟩ = some (.slice (some ae) t.length e) ∧ V.cell? (ad.add k) = some (.int .i64 x) ∧ V.cell? (ae.add k) = some (.int .i64 y)) (first | exact ⟨v0, v1, v2, v3⟩ | exact ⟨z0, z1, ca, cb⟩)
        ((go_at_call 42; refine (HWZ.out _ (F5.out.kp.tr hdr5.out)).mono ?_; rintro e0 w6 ⟨A6, c6, rfl, o6, k6⟩; obtain ⟨K6, F6, v0, v1, v2, v3⟩ := HKW.out _ (undrawn k6); have R6 : Hid (Rd w6 A6 g) := o6.sl.rd; clear o6 k6))
      all_goals go_wp2
      all_goals go_meet
      all_goals exact ⟨A6, c6, rfl, R6, K6⟩
    case rest =>
      obtain ⟨A6, c6, rfl, R6, K6⟩ := hcut
      obtain ⟨_, F6, v0, v1, v2, v3⟩ := HKW.out _ K6.out
      clear z0 z1 ca cb HKW hdr5 F5 K5 K6
      go_wp2_with fail
      refine (HCK.out _ _ _ R6.out).mono ?_; rintro e0 w7 ⟨rfl, rfl⟩
      have t1 := F6.out.t.c1
      go_wp2_with fail
      refine (HM1.out _ _ _ F6.out.kp R6.out).mono ?_; rintro e0 w7 ⟨A7, c7, B7, d7, rfl, r7, p7, k7⟩
      have R7 := Lib.hid (And.intro r7 p7)
      have F7 := Lib.hid (F6.out.tr k7)
      have R6 := Lib.hid (R6.out.kp k7)
      clear r7 p7 k7 v0 v1 v2 v3 t1
      go_upto_region 12 with fail
      obtain ⟨W8, HW8⟩ : ∃ W8, Hid (W8 = w7.alloc (.cells #[.slice A7 g.length c7, .slice B7 ms.length d7] 24)) := ⟨_, rfl⟩
      obtain ⟨b12, hb12⟩ : ∃ b12, b12 = w7.heap.size := ⟨_, rfl⟩
      have k8 : Kp w7 W8 := by rw [HW8.out]; exact Kp.alloc_ _ _
      have T8 : Hid (Bk W8 b12 A7 g.length c7 B7 ms.length d7) := by show Bk _ _ _ _ _ _ _ _; rw [HW8.out]; exact Bk.new hb12
      rw [← HW8.out, ← hb12]
      have F8 := Lib.hid (F7.out.tr k8)
      have R6 := Lib.hid (R6.out.kp k8)
      have R7 := Lib.hid (And.intro (R7.out.1.kp k8) (R7.out.2.kp k8))
      clear k8 HW8 hb12 F7
      go_cut [13] (fun v13 wx => ∃ b13 A9 c9 B9 d9, v13 = .pointer (some ⟨b13, 0, none⟩) ∧ Hid (Bk wx b13 A9 g.length c9 B9 ns.length d9) ∧ Hid (Rd wx A9 g) ∧ Hid (Rd wx B9 ns) ∧ Hid (Kp W8 wx))
      case first =>
        have s0 : W8.drew.cell? ⟨w.heap.size, 0, none⟩ = some (.slice (some ad) s.length c) := F8.out.t.c0
        have s2 : W8.drew.cell? ⟨w.heap.size + 1, 0, none⟩ = some (.slice (some ae) t.length e) := F8.out.t2.c0
        have s3 : W8.drew.cell? ⟨w.heap.size + 1, 1, none⟩ = some (.slice D ys.length f) := F8.out.t2.c1
        have hdr8 : Hid (Kp W8 W8.drew) := Below.drew (Kp.refl _)
        have s4 : W8.drew.cell? (ad.add k) = some (.int .i64 x) := HCA.out _ (F8.out.kp.tr hdr8.out)
        have hnz : w.heap.size ≠ W8.heap.size ∧ w.heap.size + 1 ≠ W8.heap.size := by have := F8.out.r.lt; omega
        have HLT : Hid (w.heap.size + 1 + 1 < W8.heap.size) := F8.out.r.lt
        have HBX : Hid (ad.block < W8.heap.size) := Nat.lt_of_lt_of_le hbx F8.out.kp.size
        have HKX : Hid (∀ V, Kp W8 V → V.cell? ⟨w.heap.size, 0, none⟩ = some (.slice (some ad) s.length c) ∧ V.cell? ⟨w.heap.size + 1, 0, none⟩ = some (.slice (some ae) t.length e) ∧ V.cell? ⟨w.heap.size + 1, 1, none⟩ = some (.slice D ys.length f) ∧ V.cell? (ad.add k) = some (.int .i64 x)) := fun V kV => ⟨(F8.out.tr kV).t.c0, (F8.out.tr kV).t2.c0, (F8.out.tr kV).t2.c1, HCA.out _ (F8.out.tr kV).kp⟩
        have HKS : Hid (∀ V b p q, W8.heap.size ≤ b → Kp W8 V → ((V.setCell ⟨b, 0, none⟩ p).setCell ⟨b, 1, none⟩ q).cell? ⟨w.heap.size, 0, none⟩ = some (.slice (some ad) s.length c) ∧ ((V.setCell ⟨b, 0, none⟩ p).setCell ⟨b, 1, none⟩ q).cell? ⟨w.heap.size + 1, 0, none⟩ = some (.slice (some ae) t.length e) ∧ ((V.setCell ⟨b, 0, none⟩ p).setCell ⟨b, 1, none⟩ q).cell? ⟨w.heap.size + 1, 1, none⟩ = some (.slice D ys.length f) ∧ ((V.setCell ⟨b, 0, none⟩ p).setCell ⟨b, 1, none⟩ q).cell? (ad.add k) = some (.int .i64 x)) := fun V b p q hb kV =>
          HKX.out _ ((kV.setCell (p := ⟨b, 0, none⟩) hb p).setCell (p := ⟨b, 1, none⟩) hb q)
        refine wp_region_held_drew (S := fun V => V.cell? ⟨w.heap.size, 0, none⟩ = some (.slice (some ad) s.length c) ∧ V.cell? ⟨w.heap.size + 1, 0, none⟩ = some (.slice (some ae) t.length e) ∧ V.cell? ⟨w.heap.size + 1, 1, none⟩ = some (.slice D ys.length f) ∧ V.cell? (ad.add k) = some (.int .i64 x)) (by kernel_rfl) ⟨s0, s2, s3, s4⟩ (fun hHeld => ?_)
        refine wpAnyH_take (i := 0) (v := .agg #[.slice (some ae) t.length e, .slice D ys.length f]) rfl (by kernel_rfl) (by kernel_rfl) (by kernel_rfl) (fun _ _ _ h => h) (Or.inl ⟨by rfl, fun V hSV => ?_⟩) hHeld ?_
        · dsimp only at hSV; go_simp
        try simp only [Act.put, List.setIfInBounds_toArray, List.set_cons_zero, List.set_cons_succ]
        refine wpAnyH_take (i := 1) (v := .slice A6 g.length c6) rfl (by kernel_rfl) (by kernel_rfl) (by kernel_rfl) (fun _ _ _ h => h) (Or.inl ⟨by rfl, fun V hSV => ?_⟩) hHeld ?_
        · dsimp only at hSV; go_simp
        try simp only [Act.put, List.setIfInBounds_toArray, List.set_cons_zero, List.set_cons_succ]
        refine wpAnyH_take (i := 2) (v := .int .i64 (k : Int)) rfl (by kernel_rfl) (by kernel_rfl) (by kernel_rfl) (fun _ _ _ h => h) (Or.inl ⟨by rfl, fun V hSV => ?_⟩) hHeld ?_
        · dsimp only at hSV; go_simp
        try simp only [Act.put, List.setIfInBounds_toArray, List.set_cons_zero, List.set_cons_succ]
        refine wpAnyH_take (i := 3) (v := .pointer (some ⟨w.heap.size, 0, none⟩)) rfl (by kernel_rfl) (by kernel_rfl) (by kernel_rfl) (fun _ _ _ h => h) (Or.inl ⟨by rfl, fun V hSV => ?_⟩) hHeld ?_
        · dsimp only at hSV; go_simp
        try simp only [Act.put, List.setIfInBounds_toArray, List.set_cons_zero, List.set_cons_succ]
        refine wpAnyH_take (i := 4) (v := .slice (some ad) s.length c) rfl (by kernel_rfl) (by kernel_rfl) (by kernel_rfl) (fun _ _ _ h => h) (Or.inl ⟨by rfl, fun V hSV => ?_⟩) hHeld ?_
        · dsimp only at hSV; go_simp
        try simp only [Act.put, List.setIfInBounds_toArray, List.set_cons_zero, List.set_cons_succ]
        refine wpAnyH_take (i := 5) (v := .int .i64 (k : Int)) rfl (by kernel_rfl) (by kernel_rfl) (by kernel_rfl) (fun _ _ _ h => h) (Or.inl ⟨by rfl, fun V hSV => ?_⟩) hHeld ?_
        · dsimp only at hSV; go_simp
        try simp only [Act.put, List.setIfInBounds_toArray, List.set_cons_zero, List.set_cons_succ]
        refine wpAnyH_take (i := 6) (v := .pointer (some (ad.add k))) rfl (by kernel_rfl) (by kernel_rfl) (by kernel_rfl) (fun _ _ _ h => h) (Or.inl ⟨by rfl, fun V hSV => ?_⟩) hHeld ?_
        · dsimp only at hSV; go_simp
        try simp only [Act.put, List.setIfInBounds_toArray, List.set_cons_zero, List.set_cons_succ]
        refine wpAnyH_take (i := 7) (v := .int .i64 x) rfl (by kernel_rfl) (by kernel_rfl) (by kernel_rfl) (fun _ _ _ h => h) (Or.inl ⟨by rfl, fun V hSV => ?_⟩) hHeld ?_
        · dsimp only at hSV; go_simp
        try simp only [Act.put, List.setIfInBounds_toArray, List.set_cons_zero, List.set_cons_succ]
        refine wpAnyH_take (i := 8) (v := .int .i64 v) rfl (by kernel_rfl) (by kernel_rfl) (by kernel_rfl) (fun _ _ _ h => h) (Or.inl ⟨by rfl, fun V hSV => ?_⟩) hHeld ?_
        · dsimp only at hSV; go_simp
        try simp only [Act.put, List.setIfInBounds_toArray, List.set_cons_zero, List.set_cons_succ]
        refine wpAnyH_ready (rs := [9, 10]) (by kernel_rfl) (by simp) ?_
        refine AllReadyH.cons rfl (fun K hK => ?_) ?_
        · go_simp
          refine (HM2.out _ _ _ (F8.out.kp.tr hdr8.out) (R6.out.kp hdr8.out)).mono ?_; rintro e0 w9 ⟨A9, c9, B9, d9, rfl, r9, p9, k9⟩
          dsimp only
          have K9 : Hid (Kp W8 w9) := undrawn k9
          have hq := HKX.out _ K9.out
          have R9 := Lib.hid (And.intro r9 p9)
          clear r9 p9 k9
          refine hK.out _ _ ?_ (fun hHeld => ?_)
          · exact hq
          clear hK K
          try simp only [Act.put, List.setIfInBounds_toArray, List.set_cons_zero, List.set_cons_succ]
          refine wpAnyH_ready (rs := [10]) (by kernel_rfl) (by simp) ?_
          refine AllReadyH.cons rfl (fun K hK => ?_) AllReadyH.nil
          go_simp
          refine hK.out _ _ ?_ (fun hHeld => ?_)
          · exact HKX.out _ (K9.out.al _)
          clear hK K
          try simp only [Act.put, List.setIfInBounds_toArray, List.set_cons_zero, List.set_cons_succ]
          refine wpAnyH_ready (rs := [11]) (by kernel_rfl) (by simp) ?_
          refine AllReadyH.cons rfl (fun K hK => ?_) AllReadyH.nil
          go_simp
          refine hK.out _ _ ?_ (fun hHeld => ?_)
          · exact HKX.out _ (K9.out.al _)
          clear hK K
          try simp only [Act.put, List.setIfInBounds_toArray, List.set_cons_zero, List.set_cons_succ]
          refine wpAnyH_done (by kernel_rfl) ?_ _
          go_wp2
          go_meet
          exact ⟨w9.heap.size, A9, c9, B9, d9, rfl, Bk.new rfl, R9.out.1.kp (Kp.alloc_ _ _), R9.out.2.kp (Kp.alloc_ _ _), K9.out.al _⟩
        refine AllReadyH.cons rfl (fun K hK => ?_) AllReadyH.nil
        go_simp
        refine hK.out _ _ ?_ (fun hHeld => ?_)
        · exact HKX.out _ (hdr8.out.al _)
        clear hK K
        try simp only [Act.put, List.setIfInBounds_toArray, List.set_cons_zero, List.set_cons_succ]
        refine wpAnyH_ready (rs := [9]) (by kernel_rfl) (by simp) ?_
        refine AllReadyH.cons rfl (fun K hK => ?_) AllReadyH.nil
        go_simp
        refine (HM2.out _ _ _ (F8.out.kp.tr (hdr8.out.al _)) (R6.out.kp (hdr8.out.al _))).mono ?_; rintro e0 w9 ⟨A9, c9, B9, d9, rfl, r9, p9, k9⟩
        dsimp only
        have K9 : Hid (Kp W8 w9) := (hdr8.out.al _).tr k9
        have hq := HKX.out _ K9.out
        have R9 := Lib.hid (And.intro r9 p9)
        have TZ : Hid (Bk w9 W8.heap.size none 0 0 none 0 0) := Bk.kp (Bk.new (W := W8.drew) rfl) k9
        have z0 := TZ.out.c0
        have z1 := TZ.out.c1
        have z2 := TZ.out.f0 0
        have z3 := TZ.out.f0 1
        clear r9 p9 k9
        refine hK.out _ _ ?_ (fun hHeld => ?_)
        · exact hq
        clear hK K
        try simp only [Act.put, List.setIfInBounds_toArray, List.set_cons_zero, List.set_cons_succ]
        refine wpAnyH_ready (rs := [11]) (by kernel_rfl) (by simp) ?_
        refine AllReadyH.cons rfl (fun K hK => ?_) AllReadyH.nil
        go_simp
        refine hK.out _ _ ?_ (fun hHeld => ?_)
        · exact HKS.out _ _ _ _ (Nat.le_refl _) K9.out
        clear hK K
        try simp only [Act.put, List.setIfInBounds_toArray, List.set_cons_zero, List.set_cons_succ]
        refine wpAnyH_done (by kernel_rfl) ?_ _
        go_wp2
        go_meet
        exact ⟨W8.heap.size, A9, c9, B9, d9, rfl, TZ.out.put, R9.out.1.past TZ.out _ _, R9.out.2.past TZ.out _ _, (K9.out.setCell (p := ⟨W8.heap.size, 0, none⟩) (Nat.le_refl _) _).setCell (p := ⟨W8.heap.size, 1, none⟩) (Nat.le_refl _) _⟩
      case rest =>
        obtain ⟨b13, A9, c9, B9, d9, rfl, T13, RA, RB, K9⟩ := hcut
        obtain ⟨w10, hw10⟩ : ∃ w10, w10 = wc := ⟨_, rfl⟩
        subst hw10
        have F10 := Lib.hid (F8.out.tr K9.out)
        have T12 := Lib.hid (T8.out.kp K9.out)
        have R6 := Lib.hid (R6.out.kp K9.out)
        have R7 := Lib.hid (R7.out.2.kp K9.out)
        have HCA := Lib.hid (HCA.out _ F10.out.kp)
        have HB12 : Hid (b12 < w10.heap.size) := T12.out.lt
        have HB13 : Hid (b13 < w10.heap.size) := T13.out.lt
        have HBA : Hid (ad.block < w10.heap.size) := Nat.lt_of_lt_of_le hbx F10.out.kp.size
        clear F8 T8 K9 RA HCB
        have HG := Lib.hid (Gw.start w10 A6 g.length c6)
        go_wp2
        obtain ⟨W0, HW0⟩ : ∃ W0, Hid (W0 = w10.alloc (.cells #[.slice A6 g.length c6, .slice none 0 0] 24)) := ⟨_, rfl⟩
        rw [← HW0.out] at HG ⊢
        go_loopw [15] (fun i wr => ∃ (i' : Nat) (zs : List Int) (Az : Option Addr) (cz : Nat), i = .int .i64 i' ∧ Hid (Ta Fn ms.length i' zs) ∧ Hid (Gw w10 A6 g.length c6 zs Az cz wr)) (fun i _ => ms.length - (intOf i).toNat)
        case atStart => exact ⟨0, [], none, 0, rfl, ta_start _ _, HG.out⟩
        case round =>
          obtain ⟨i, zs, Az, cz, rfl, hr, hg⟩ := hrel
          have HZL := Lib.hid (ta_len hr.out)
          have hiN := hr.out.1
          have F10 := Lib.hid (F10.out.tr hg.out.k)
          have T12 := Lib.hid (T12.out.kp hg.out.k)
          have T13 := Lib.hid (T13.out.kp hg.out.k)
          have t12 := T12.out.c1
          by_cases hlt : i < ms.length
          · have HIX := Lib.hid (fun W E q => HX.out i W E q hlt)
            go_wp2_with fail
            refine (HIX.out _ _ _ (R6.out.kp hg.out.k)).mono ?_; rintro e0 w11 ⟨A11, c11, rfl, o11, k11⟩
            dsimp only
            have HG := Lib.hid (hg.out.tr k11)
            have F10 := Lib.hid (F10.out.tr k11)
            have T12 := Lib.hid (T12.out.kp k11)
            have T13 := Lib.hid (T13.out.kp k11)
            obtain ⟨u, hu⟩ := HDG.out i hlt
            have HU : Hid ((digs g i).getD k 0 = u) := by show List.getD _ _ _ = _; rw [List.getD, hu, Option.getD_some]
            have hr11 : Rd w11 A11 (digs g i) := o11.rd
            have hkl := (List.getElem?_eq_some_iff.1 hu).1
            have hl3 : (digs g i).length ≤ 3 := by rw [digs_len, HLG.out]; exact HS3.out
            obtain ⟨au, u', rfl, hbu, hu', hcu⟩ := hr11.at_ hkl
            obtain rfl : u = u' := by rw [hu] at hu'; exact Option.some.inj hu'
            obtain ⟨ap, p, rfl, hbp0, hp, hcp0⟩ := R7.out.at_ hlt
            have HAap : Hid (ap.block < w10.heap.size) := hbp0
            have hbp : ap.block < w11.heap.size := Nat.lt_of_lt_of_le hbp0 HG.out.k.size
            have hcp : w11.cell? (ap.add i) = some (.int .i64 p) := (HG.out.k.cell (p := ap.add i) (by rw [block_of_add]; exact hbp0)).trans hcp0
            obtain ⟨aq, q, rfl, hbq0, hqq', hcq0⟩ := RB.out.at_ (k := i) (by rw [HNM.out]; exact hlt)
            have HAaq : Hid (aq.block < w10.heap.size) := hbq0
            have hbq : aq.block < w11.heap.size := Nat.lt_of_lt_of_le hbq0 HG.out.k.size
            have hcq : w11.cell? (aq.add i) = some (.int .i64 q) := (HG.out.k.cell (p := aq.add i) (by rw [block_of_add]; exact hbq0)).trans hcq0
            clear hbp0 hcp0 hbq0 hcq0
            have HPQ := Lib.hid (And.intro hp hqq')
            have s0 := F10.out.t.c0
            have s1 : w11.cell? (ad.add k) = some (.int .i64 x) := (HG.out.k.cell (p := ad.add k) (by rw [block_of_add]; exact HBA.out)).trans HCA.out
            have i3 : (k : Int) < ((digs g i).length : Int) := by omega
            clear t12 hp hqq' hu hu' hr11 o11 k11
            have t12 := T12.out.c1
            generalize (digs g i).length = dl at i3 hl3 hkl
            by_cases hux : u < x
            · have hd : decide (u < x) = true := by simpa using hux
              have HFY : Hid (Fn i = p) := by
                show Fn i = _
                rw [HFn.out]
                dsimp only
                rw [HU.out, if_pos hux, List.getD, HPQ.out.1, Option.getD_some]
              clear hux
              go_wp2
              go_quiet (fail)
              obtain ⟨w12, hw12⟩ : ∃ w12, w12 = w11.drewN nq := ⟨_, rfl⟩
              have k12 : Kp w11 w12 := by rw [hw12]; exact Kp.drewN_ _ _
              rw [← hw12]
              have HG := Lib.hid (HG.out.tr k12)
              have T12 := Lib.hid (T12.out.kp k12)
              have T13 := Lib.hid (T13.out.kp k12)
              have p1 : w12.cell? (ap.add i) = some (.int .i64 p) := (k12.cell (p := ap.add i) (by rw [block_of_add]; exact hbp)).trans hcp
              have p2 : w12.cell? (aq.add i) = some (.int .i64 q) := (k12.cell (p := aq.add i) (by rw [block_of_add]; exact hbq)).trans hcq
              clear k12 hw12 t12 s0 s1 hcu
              have g1 := HG.out.b.c1
              have g2 := HG.out.b.f0 1
              have HSZ := Lib.hid HG.out.sz
              have hszv : w10.heap.size < w12.heap.size := HG.out.sz
              have z1 := T12.out.c1
              have z2 := T13.out.c1
              have i0 : (0 : Int) ≤ (i : Int) := by omega
              have i1 : (i : Int) < (ms.length : Int) := by omega
              have i2 : (i : Int) < (ns.length : Int) := by rw [HNM.out]; omega
              go_wp2
              have HSS : Hid (∀ V, Below (w10.heap.size + 1) w12 V → V.cell? ⟨b12, 1, none⟩ = some (.slice (some ap) ms.length d7) ∧ V.cell? (ap.add i) = some (.int .i64 p)) := fun V kV => ⟨(kV.cell (p := ⟨b12, 1, none⟩) (Nat.lt_of_lt_of_le HB12.out (Nat.le_succ _))).trans T12.out.c1, (kV.cell (p := ap.add i) (by rw [block_of_add]; exact Nat.lt_of_lt_of_le HAap.out (Nat.le_succ _))).trans p1⟩
              have hdr12 : Below (w10.heap.size + 1) w12 w12.drew := Below.drew (Below.refl _ _)
              have hnb : w10.heap.size ≠ b12 := by have := HB12.out; omega
              have hna : w10.heap.size ≠ (ap.add i).block := by rw [block_of_add]; have := HAap.out; omega
              refine wp_region_held_drew (S := fun V => V.cell? ⟨b12, 1, none⟩ = some (.slice (some ap) ms.length d7) ∧ V.cell? (ap.add i) = some (.int .i64 p)) (by kernel_rfl) (HSS.out _ hdr12) (fun hHeld => ?_)
              refine wpAnyH_take (i := 0) (v := .pointer (some ⟨w10.heap.size, 1, none⟩)) rfl (by kernel_rfl) (by kernel_rfl) (by kernel_rfl) (fun _ _ _ h => h) (Or.inl ⟨by rfl, fun V hSV => ?_⟩) hHeld ?_
              · (try dsimp only at hSV); go_simp
              try simp only [Act.put, List.setIfInBounds_toArray, List.set_cons_zero, List.set_cons_succ]
              refine wpAnyH_take (i := 2) (v := .pointer (some ⟨b12, 1, none⟩)) rfl (by kernel_rfl) (by kernel_rfl) (by kernel_rfl) (fun _ _ _ h => h) (Or.inl ⟨by rfl, fun V hSV => ?_⟩) hHeld ?_
              · (try dsimp only at hSV); go_simp
              try simp only [Act.put, List.setIfInBounds_toArray, List.set_cons_zero, List.set_cons_succ]
              refine wpAnyH_take (i := 3) (v := .slice (some ap) ms.length d7) rfl (by kernel_rfl) (by kernel_rfl) (by kernel_rfl) (fun _ _ _ h => h) (Or.inl ⟨by rfl, fun V hSV => ?_⟩) hHeld ?_
              · (try dsimp only at hSV); go_simp
              try simp only [Act.put, List.setIfInBounds_toArray, List.set_cons_zero, List.set_cons_succ]
              refine wpAnyH_take (i := 4) (v := .int .i64 (i : Int)) rfl (by kernel_rfl) (by kernel_rfl) (by kernel_rfl) (fun _ _ _ h => h) (Or.inl ⟨by rfl, fun V hSV => ?_⟩) hHeld ?_
              · (try dsimp only at hSV); go_simp
              try simp only [Act.put, List.setIfInBounds_toArray, List.set_cons_zero, List.set_cons_succ]
              refine wpAnyH_take (i := 5) (v := .pointer (some (ap.add i))) rfl (by kernel_rfl) (by kernel_rfl) (by kernel_rfl) (fun _ _ _ h => h) (Or.inl ⟨by rfl, fun V hSV => ?_⟩) hHeld ?_
              · (try dsimp only at hSV); go_simp
              try simp only [Act.put, List.setIfInBounds_toArray, List.set_cons_zero, List.set_cons_succ]
              refine wpAnyH_take (i := 6) (v := .int .i64 p) rfl (by kernel_rfl) (by kernel_rfl) (by kernel_rfl) (fun _ _ _ h => h) (Or.inl ⟨by rfl, fun V hSV => ?_⟩) hHeld ?_
              · (try dsimp only at hSV); go_simp
              try simp only [Act.put, List.setIfInBounds_toArray, List.set_cons_zero, List.set_cons_succ]
              refine wpAnyH_ready (rs := [1, 7]) (by kernel_rfl) (by simp) ?_
              refine AllReadyH.cons rfl (fun K9_ hK => ?_) ?_
              · skip
                go_simp
                refine hK.out _ _ ?_ (fun hHeld => ?_)
                · exact HSS.out _ hdr12
                clear hK
                try simp only [Act.put, List.setIfInBounds_toArray, List.set_cons_zero, List.set_cons_succ]
                refine wpAnyH_ready (rs := [7]) (by kernel_rfl) (by simp) ?_
                refine AllReadyH.cons rfl (fun K9_ hK => ?_) AllReadyH.nil
                go_simp
                refine hK.out _ _ ?_ (fun hHeld => ?_)
                · exact HSS.out _ (hdr12.alloc HSZ.out _)
                clear hK
                try simp only [Act.put, List.setIfInBounds_toArray, List.set_cons_zero, List.set_cons_succ]
                refine wpAnyH_ready (rs := [8]) (by kernel_rfl) (by simp) ?_
                refine AllReadyH.cons rfl (fun K9_ hK => ?_) AllReadyH.nil
                refine step_app rfl (.tmp 120) (.tmp 126) rfl _ zs rfl (HG.out.o.drew.kp (Kp.alloc_ _ _)) _ _ [p] _ rfl rfl (Rd.one _ _ _) (by have := HZL.out; simp; omega) (by have := HSZ.out; simp; omega) ?_
                intro ys A2 c2 w13 HZ o2 b2
                have HO := Lib.hid o2
                have HB : Hid (Below (w10.heap.size + 1) w12 w13) := ((Below.drew (Below.refl _ w12)).alloc HSZ.out _).trans b2
                have g3 := (HB.out.cell (p := ⟨w10.heap.size, 1, none⟩) (Nat.lt_succ_self _)).trans g1
                have g4 := (HB.out.frozen (p := ⟨w10.heap.size, 1, none⟩) (Nat.lt_succ_self _)).trans g2
                clear o2 b2
                refine hK.out _ _ ?_ (fun hHeld => ?_)
                · exact HSS.out _ HB.out
                clear hK
                try simp only [Act.put, List.setIfInBounds_toArray, List.set_cons_zero, List.set_cons_succ]
                refine wpAnyH_take (i := 9) (v := .pointer (some ⟨w10.heap.size, 1, none⟩)) rfl (by kernel_rfl) (by kernel_rfl) (by kernel_rfl) (fun _ _ _ h => h) (Or.inl ⟨by rfl, fun V hSV => ?_⟩) hHeld ?_
                · (try dsimp only at hSV); go_simp
                try simp only [Act.put, List.setIfInBounds_toArray, List.set_cons_zero, List.set_cons_succ]
                refine wpAnyH_ready (rs := [10]) (by kernel_rfl) (by simp) ?_
                refine AllReadyH.cons rfl (fun K9_ hK => ?_) AllReadyH.nil
                go_simp
                refine hK.out _ _ ?_ (fun hHeld => ?_)
                · exact ⟨cell_ne (fun e => hnb (congrArg Addr.block e)) (HSS.out _ HB.out).1, cell_ne (fun e => hna (congrArg Addr.block e)) (HSS.out _ HB.out).2⟩
                clear hK
                try simp only [Act.put, List.setIfInBounds_toArray, List.set_cons_zero, List.set_cons_succ]
                refine wpAnyH_done (by kernel_rfl) ?_ _
                go_wp2
                go_roundw
                case rel => exact ⟨i + 1, ys, A2, c2, by go_num, ta_step hr.out hlt HFY.out HZ.out, HG.out.put HO.out HB.out⟩
                case measure => simp [intOf]; omega
              refine AllReadyH.cons rfl (fun K9_ hK => ?_) AllReadyH.nil
              go_simp
              refine hK.out _ _ ?_ (fun hHeld => ?_)
              · exact HSS.out _ (hdr12.alloc HSZ.out _)
              clear hK
              try simp only [Act.put, List.setIfInBounds_toArray, List.set_cons_zero, List.set_cons_succ]
              refine wpAnyH_ready (rs := [1]) (by kernel_rfl) (by simp) ?_
              refine AllReadyH.cons rfl (fun K9_ hK => ?_) AllReadyH.nil
              go_simp
              refine hK.out _ _ ?_ (fun hHeld => ?_)
              · exact HSS.out _ (hdr12.alloc HSZ.out _)
              clear hK
              try simp only [Act.put, List.setIfInBounds_toArray, List.set_cons_zero, List.set_cons_succ]
              refine wpAnyH_ready (rs := [8]) (by kernel_rfl) (by simp) ?_
              refine AllReadyH.cons rfl (fun K9_ hK => ?_) AllReadyH.nil
              refine step_app rfl (.tmp 120) (.tmp 126) rfl _ zs rfl (HG.out.o.drew.kp (Kp.alloc_ _ _)) _ _ [p] _ rfl rfl (Rd.one _ _ _) (by have := HZL.out; simp; omega) (by have := HSZ.out; simp; omega) ?_
              intro ys A2 c2 w13 HZ o2 b2
              have HO := Lib.hid o2
              have HB : Hid (Below (w10.heap.size + 1) w12 w13) := ((Below.drew (Below.refl _ w12)).alloc HSZ.out _).trans b2
              have g3 := (HB.out.cell (p := ⟨w10.heap.size, 1, none⟩) (Nat.lt_succ_self _)).trans g1
              have g4 := (HB.out.frozen (p := ⟨w10.heap.size, 1, none⟩) (Nat.lt_succ_self _)).trans g2
              clear o2 b2
              refine hK.out _ _ ?_ (fun hHeld => ?_)
              · exact HSS.out _ HB.out
              clear hK
              try simp only [Act.put, List.setIfInBounds_toArray, List.set_cons_zero, List.set_cons_succ]
              refine wpAnyH_take (i := 9) (v := .pointer (some ⟨w10.heap.size, 1, none⟩)) rfl (by kernel_rfl) (by kernel_rfl) (by kernel_rfl) (fun _ _ _ h => h) (Or.inl ⟨by rfl, fun V hSV => ?_⟩) hHeld ?_
              · (try dsimp only at hSV); go_simp
              try simp only [Act.put, List.setIfInBounds_toArray, List.set_cons_zero, List.set_cons_succ]
              refine wpAnyH_ready (rs := [10]) (by kernel_rfl) (by simp) ?_
              refine AllReadyH.cons rfl (fun K9_ hK => ?_) AllReadyH.nil
              go_simp
              refine hK.out _ _ ?_ (fun hHeld => ?_)
              · exact ⟨cell_ne (fun e => hnb (congrArg Addr.block e)) (HSS.out _ HB.out).1, cell_ne (fun e => hna (congrArg Addr.block e)) (HSS.out _ HB.out).2⟩
              clear hK
              try simp only [Act.put, List.setIfInBounds_toArray, List.set_cons_zero, List.set_cons_succ]
              refine wpAnyH_done (by kernel_rfl) ?_ _
              go_wp2
              go_roundw
              case rel => exact ⟨i + 1, ys, A2, c2, by go_num, ta_step hr.out hlt HFY.out HZ.out, HG.out.put HO.out HB.out⟩
              case measure => simp [intOf]; omega
            · have hd : decide (u < x) = false := by simpa using hux
              have HFY : Hid (Fn i = q) := by
                show Fn i = _
                rw [HFn.out]
                dsimp only
                rw [HU.out, if_neg hux, List.getD, HPQ.out.2, Option.getD_some]
              clear hux
              go_wp2
              go_quiet (fail)
              obtain ⟨w12, hw12⟩ : ∃ w12, w12 = w11.drewN nq := ⟨_, rfl⟩
              have k12 : Kp w11 w12 := by rw [hw12]; exact Kp.drewN_ _ _
              rw [← hw12]
              have HG := Lib.hid (HG.out.tr k12)
              have T12 := Lib.hid (T12.out.kp k12)
              have T13 := Lib.hid (T13.out.kp k12)
              have p1 : w12.cell? (ap.add i) = some (.int .i64 p) := (k12.cell (p := ap.add i) (by rw [block_of_add]; exact hbp)).trans hcp
              have p2 : w12.cell? (aq.add i) = some (.int .i64 q) := (k12.cell (p := aq.add i) (by rw [block_of_add]; exact hbq)).trans hcq
              clear k12 hw12 t12 s0 s1 hcu
              have g1 := HG.out.b.c1
              have g2 := HG.out.b.f0 1
              have HSZ := Lib.hid HG.out.sz
              have hszv : w10.heap.size < w12.heap.size := HG.out.sz
              have z1 := T12.out.c1
              have z2 := T13.out.c1
              have i0 : (0 : Int) ≤ (i : Int) := by omega
              have i1 : (i : Int) < (ms.length : Int) := by omega
              have i2 : (i : Int) < (ns.length : Int) := by rw [HNM.out]; omega
              go_wp2
              have HSS : Hid (∀ V, Below (w10.heap.size + 1) w12 V → V.cell? ⟨b13, 1, none⟩ = some (.slice (some aq) ns.length d9) ∧ V.cell? (aq.add i) = some (.int .i64 q)) := fun V kV => ⟨(kV.cell (p := ⟨b13, 1, none⟩) (Nat.lt_of_lt_of_le HB13.out (Nat.le_succ _))).trans T13.out.c1, (kV.cell (p := aq.add i) (by rw [block_of_add]; exact Nat.lt_of_lt_of_le HAaq.out (Nat.le_succ _))).trans p2⟩
              have hdr12 : Below (w10.heap.size + 1) w12 w12.drew := Below.drew (Below.refl _ _)
              have hnb : w10.heap.size ≠ b13 := by have := HB13.out; omega
              have hna : w10.heap.size ≠ (aq.add i).block := by rw [block_of_add]; have := HAaq.out; omega
              refine wp_region_held_drew (S := fun V => V.cell? ⟨b13, 1, none⟩ = some (.slice (some aq) ns.length d9) ∧ V.cell? (aq.add i) = some (.int .i64 q)) (by kernel_rfl) (HSS.out _ hdr12) (fun hHeld => ?_)
              refine wpAnyH_take (i := 0) (v := .pointer (some ⟨w10.heap.size, 1, none⟩)) rfl (by kernel_rfl) (by kernel_rfl) (by kernel_rfl) (fun _ _ _ h => h) (Or.inl ⟨by rfl, fun V hSV => ?_⟩) hHeld ?_
              · (try dsimp only at hSV); go_simp
              try simp only [Act.put, List.setIfInBounds_toArray, List.set_cons_zero, List.set_cons_succ]
              refine wpAnyH_take (i := 2) (v := .pointer (some ⟨b13, 1, none⟩)) rfl (by kernel_rfl) (by kernel_rfl) (by kernel_rfl) (fun _ _ _ h => h) (Or.inl ⟨by rfl, fun V hSV => ?_⟩) hHeld ?_
              · (try dsimp only at hSV); go_simp
              try simp only [Act.put, List.setIfInBounds_toArray, List.set_cons_zero, List.set_cons_succ]
              refine wpAnyH_take (i := 3) (v := .slice (some aq) ns.length d9) rfl (by kernel_rfl) (by kernel_rfl) (by kernel_rfl) (fun _ _ _ h => h) (Or.inl ⟨by rfl, fun V hSV => ?_⟩) hHeld ?_
              · (try dsimp only at hSV); go_simp
              try simp only [Act.put, List.setIfInBounds_toArray, List.set_cons_zero, List.set_cons_succ]
              refine wpAnyH_take (i := 4) (v := .int .i64 (i : Int)) rfl (by kernel_rfl) (by kernel_rfl) (by kernel_rfl) (fun _ _ _ h => h) (Or.inl ⟨by rfl, fun V hSV => ?_⟩) hHeld ?_
              · (try dsimp only at hSV); go_simp
              try simp only [Act.put, List.setIfInBounds_toArray, List.set_cons_zero, List.set_cons_succ]
              refine wpAnyH_take (i := 5) (v := .pointer (some (aq.add i))) rfl (by kernel_rfl) (by kernel_rfl) (by kernel_rfl) (fun _ _ _ h => h) (Or.inl ⟨by rfl, fun V hSV => ?_⟩) hHeld ?_
              · (try dsimp only at hSV); go_simp
              try simp only [Act.put, List.setIfInBounds_toArray, List.set_cons_zero, List.set_cons_succ]
              refine wpAnyH_take (i := 6) (v := .int .i64 q) rfl (by kernel_rfl) (by kernel_rfl) (by kernel_rfl) (fun _ _ _ h => h) (Or.inl ⟨by rfl, fun V hSV => ?_⟩) hHeld ?_
              · (try dsimp only at hSV); go_simp
              try simp only [Act.put, List.setIfInBounds_toArray, List.set_cons_zero, List.set_cons_succ]
              refine wpAnyH_ready (rs := [1, 7]) (by kernel_rfl) (by simp) ?_
              refine AllReadyH.cons rfl (fun K9_ hK => ?_) ?_
              · skip
                go_simp
                refine hK.out _ _ ?_ (fun hHeld => ?_)
                · exact HSS.out _ hdr12
                clear hK
                try simp only [Act.put, List.setIfInBounds_toArray, List.set_cons_zero, List.set_cons_succ]
                refine wpAnyH_ready (rs := [7]) (by kernel_rfl) (by simp) ?_
                refine AllReadyH.cons rfl (fun K9_ hK => ?_) AllReadyH.nil
                go_simp
                refine hK.out _ _ ?_ (fun hHeld => ?_)
                · exact HSS.out _ (hdr12.alloc HSZ.out _)
                clear hK
                try simp only [Act.put, List.setIfInBounds_toArray, List.set_cons_zero, List.set_cons_succ]
                refine wpAnyH_ready (rs := [8]) (by kernel_rfl) (by simp) ?_
                refine AllReadyH.cons rfl (fun K9_ hK => ?_) AllReadyH.nil
                refine step_app rfl (.tmp 130) (.tmp 136) rfl _ zs rfl (HG.out.o.drew.kp (Kp.alloc_ _ _)) _ _ [q] _ rfl rfl (Rd.one _ _ _) (by have := HZL.out; simp; omega) (by have := HSZ.out; simp; omega) ?_
                intro ys A2 c2 w13 HZ o2 b2
                have HO := Lib.hid o2
                have HB : Hid (Below (w10.heap.size + 1) w12 w13) := ((Below.drew (Below.refl _ w12)).alloc HSZ.out _).trans b2
                have g3 := (HB.out.cell (p := ⟨w10.heap.size, 1, none⟩) (Nat.lt_succ_self _)).trans g1
                have g4 := (HB.out.frozen (p := ⟨w10.heap.size, 1, none⟩) (Nat.lt_succ_self _)).trans g2
                clear o2 b2
                refine hK.out _ _ ?_ (fun hHeld => ?_)
                · exact HSS.out _ HB.out
                clear hK
                try simp only [Act.put, List.setIfInBounds_toArray, List.set_cons_zero, List.set_cons_succ]
                refine wpAnyH_take (i := 9) (v := .pointer (some ⟨w10.heap.size, 1, none⟩)) rfl (by kernel_rfl) (by kernel_rfl) (by kernel_rfl) (fun _ _ _ h => h) (Or.inl ⟨by rfl, fun V hSV => ?_⟩) hHeld ?_
                · (try dsimp only at hSV); go_simp
                try simp only [Act.put, List.setIfInBounds_toArray, List.set_cons_zero, List.set_cons_succ]
                refine wpAnyH_ready (rs := [10]) (by kernel_rfl) (by simp) ?_
                refine AllReadyH.cons rfl (fun K9_ hK => ?_) AllReadyH.nil
                go_simp
                refine hK.out _ _ ?_ (fun hHeld => ?_)
                · exact ⟨cell_ne (fun e => hnb (congrArg Addr.block e)) (HSS.out _ HB.out).1, cell_ne (fun e => hna (congrArg Addr.block e)) (HSS.out _ HB.out).2⟩
                clear hK
                try simp only [Act.put, List.setIfInBounds_toArray, List.set_cons_zero, List.set_cons_succ]
                refine wpAnyH_done (by kernel_rfl) ?_ _
                go_wp2
                go_roundw
                case rel => exact ⟨i + 1, ys, A2, c2, by go_num, ta_step hr.out hlt HFY.out HZ.out, HG.out.put HO.out HB.out⟩
                case measure => simp [intOf]; omega
              refine AllReadyH.cons rfl (fun K9_ hK => ?_) AllReadyH.nil
              go_simp
              refine hK.out _ _ ?_ (fun hHeld => ?_)
              · exact HSS.out _ (hdr12.alloc HSZ.out _)
              clear hK
              try simp only [Act.put, List.setIfInBounds_toArray, List.set_cons_zero, List.set_cons_succ]
              refine wpAnyH_ready (rs := [1]) (by kernel_rfl) (by simp) ?_
              refine AllReadyH.cons rfl (fun K9_ hK => ?_) AllReadyH.nil
              go_simp
              refine hK.out _ _ ?_ (fun hHeld => ?_)
              · exact HSS.out _ (hdr12.alloc HSZ.out _)
              clear hK
              try simp only [Act.put, List.setIfInBounds_toArray, List.set_cons_zero, List.set_cons_succ]
              refine wpAnyH_ready (rs := [8]) (by kernel_rfl) (by simp) ?_
              refine AllReadyH.cons rfl (fun K9_ hK => ?_) AllReadyH.nil
              refine step_app rfl (.tmp 130) (.tmp 136) rfl _ zs rfl (HG.out.o.drew.kp (Kp.alloc_ _ _)) _ _ [q] _ rfl rfl (Rd.one _ _ _) (by have := HZL.out; simp; omega) (by have := HSZ.out; simp; omega) ?_
              intro ys A2 c2 w13 HZ o2 b2
              have HO := Lib.hid o2
              have HB : Hid (Below (w10.heap.size + 1) w12 w13) := ((Below.drew (Below.refl _ w12)).alloc HSZ.out _).trans b2
              have g3 := (HB.out.cell (p := ⟨w10.heap.size, 1, none⟩) (Nat.lt_succ_self _)).trans g1
              have g4 := (HB.out.frozen (p := ⟨w10.heap.size, 1, none⟩) (Nat.lt_succ_self _)).trans g2
              clear o2 b2
              refine hK.out _ _ ?_ (fun hHeld => ?_)
              · exact HSS.out _ HB.out
              clear hK
              try simp only [Act.put, List.setIfInBounds_toArray, List.set_cons_zero, List.set_cons_succ]
              refine wpAnyH_take (i := 9) (v := .pointer (some ⟨w10.heap.size, 1, none⟩)) rfl (by kernel_rfl) (by kernel_rfl) (by kernel_rfl) (fun _ _ _ h => h) (Or.inl ⟨by rfl, fun V hSV => ?_⟩) hHeld ?_
              · (try dsimp only at hSV); go_simp
              try simp only [Act.put, List.setIfInBounds_toArray, List.set_cons_zero, List.set_cons_succ]
              refine wpAnyH_ready (rs := [10]) (by kernel_rfl) (by simp) ?_
              refine AllReadyH.cons rfl (fun K9_ hK => ?_) AllReadyH.nil
              go_simp
              refine hK.out _ _ ?_ (fun hHeld => ?_)
              · exact ⟨cell_ne (fun e => hnb (congrArg Addr.block e)) (HSS.out _ HB.out).1, cell_ne (fun e => hna (congrArg Addr.block e)) (HSS.out _ HB.out).2⟩
              clear hK
              try simp only [Act.put, List.setIfInBounds_toArray, List.set_cons_zero, List.set_cons_succ]
              refine wpAnyH_done (by kernel_rfl) ?_ _
              go_wp2
              go_roundw
              case rel => exact ⟨i + 1, ys, A2, c2, by go_num, ta_step hr.out hlt HFY.out HZ.out, HG.out.put HO.out HB.out⟩
              case measure => simp [intOf]; omega
          · have HE := Lib.hid (ta_end hr.out hlt)
            have g0 := hg.out.b.c0
            have g1 := hg.out.b.c1
            have o0 := F10.out.r.c0
            have o1 := F10.out.r.c1
            have u0 := F10.out.r.f0 0
            have u1 := F10.out.r.f0 1
            have R6 := Lib.hid (R6.out.kp hg.out.k)
            go_wp2
            refine bodyPost_ret (v := .tuple #[.agg #[.slice A6 g.length c6, .slice Az zs.length cz], .int .i64 0]) (by simp [results, Try.results21, go_sem, o0, o1]; try rfl) rfl ?_
            rw [← HFL.out, ← HE.out]
            exact RetT.of rfl (R6.out.past F10.out.r _ _) (hg.out.o.sl.rd.past F10.out.r _ _) (F10.out.end_ _ _)
end Go.Proofs.Ytdjfjhanffliiaa
