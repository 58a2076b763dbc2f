/- The document's Join of layer 5 (fullerref05): other shapes. -/
import Derived.Test.YtdjfjhanffliiaaMvI
import Derived.Deep.RegionLaw
namespace Go.Proofs.Ytdjfjhanffliiaa
open Go.RowKit Go.Proofs.ShM
set_option linter.unusedVariables false
set_option linter.unusedSimpArgs false

set_option maxRecDepth 100000 in
set_option maxHeartbeats 8000000 in
theorem rj_neq (A B C D : Option Addr) (c d e f : Nat) (s xs t ys : List Int) (k : Nat) (x y : Int) (w : World) (hA : Rd w A s) (hB : Rd w B xs) (hC : Rd w C t) (hD : Rd w D ys) (ht : tokV s xs = true) (ht2 : tokV t ys = true) (hx : s[k]? = some x) (hy : t[k]? = some y) (hst : s.length = t.length) (hqq : ¬ s.set k 1 = t.set k 1) :
    Calls Try.prog 21 #[.agg #[.slice A s.length c, .slice B xs.length d], .agg #[.slice C t.length e, .slice D ys.length f], .int .i64 (k : Int)] w (RetT (glueV s xs t ys (k : Int)) w) := by
  have hlA := hA.len
  have hlB := hB.len
  have hlC := hC.len
  have hlD := hD.len
  have F0 := Lib.hid (Kf.mk_ w A s.length c B xs.length d C t.length e D ys.length f)
  have HT := Lib.hid (fun W (k : Kp w W) => rtcheck_any A B c d s xs W (hA.kp k) (hB.kp k))
  have HT2 := Lib.hid (fun W (k : Kp w W) => rtcheck_any C D e f t ys W (hC.kp k) (hD.kp k))
  have hk := (List.getElem?_eq_some_iff.1 hx).1
  have hk2 := (List.getElem?_eq_some_iff.1 hy).1
  have hs3 : s.length ≤ 3 := (ok_iff.1 (tok_len ht).1).1
  have hx16 := (side_of (ok_all (tok_len ht).1) hx)
  have hy16 := (side_of (ok_all (tok_len ht2).1) hy)
  have hgx : s.getD k 0 = x := by rw [List.getD, hx, Option.getD_some]
  have hgy : t.getD k 0 = y := by rw [List.getD, hy, Option.getD_some]
  obtain ⟨z, hz⟩ : ∃ z, x + y = z := ⟨_, rfl⟩
  have hwz : IntKind.i64.wrap (x + y) = z := by rw [IntWalk.i64_in _ (by omega)]; exact hz
  obtain ⟨v, hv⟩ : ∃ v, -x = v := ⟨_, rfl⟩
  have hneg : wrap64 (-x) = v := by rw [← hv]; unfold wrap64; omega
  have hneg2 : IntKind.i64.wrap (-x) = v := by rw [IntWalk.i64_in _ (by omega)]; exact hv
  have HP : Hid (glueV s xs t ys k = if s.set k 1 = t.set k 1 then (if okS (s.set k z) = true then (s.set k z, bothL s xs t ys (s.set k z) k, 0) else ([], [], 20)) else ([], [], 20)) := by
    show glueV s xs t ys k = _
    unfold glueV
    rw [if_neg (by simp [ht, ht2]), Int.toNat_natCast, hgx, hgy, hz]
    by_cases hq : s.set k 1 = t.set k 1
    · rw [if_pos hq]
      by_cases ho : okS (s.set k z) = true
      · rw [if_pos ho, if_neg (by rintro (h | h | h | h | h); (· omega); (· omega); (· exact h hst); (· exact h hq); rw [ho] at h; cases h)]
      · rw [if_neg ho, if_pos (by right; right; right; right; simpa using ho)]
    · rw [if_neg hq, if_pos (.inr (.inr (.inr (.inl hq))))]
  rw [HP.out]
  rw [ht] at HT
  rw [ht2] at HT2
  have HWA := Lib.hid (fun W (kw : Kp w W) => rset_any A c s k 1 W (hA.kp kw) (by omega) hk)
  have HWC := Lib.hid (fun W (kw : Kp w W) => rset_any C e t k 1 W (hC.kp kw) (by omega) hk2)
  have HWZ := Lib.hid (fun W (kw : Kp w W) => rset_any A c s k z W (hA.kp kw) (by omega) hk)
  have HEQ : Hid (∀ W E q E2 q2, Rd W E (s.set k 1) → Rd W E2 (t.set k 1) → Calls Try.prog 24 #[.slice E (s.set k 1).length q, .slice E2 (t.set k 1).length q2] W fun e w' => e = .returned (.bool (decide (s.set k 1 = t.set k 1))) ∧ Kp W w') := fun W E q E2 q2 r r2 => (same_any E E2 q q2 (s.set k 1) (t.set k 1) W r r2).mono fun e w' h => ⟨by rw [h.1]; congr 2; rw [Bool.eq_iff_iff]; simp, by obtain ⟨_, n, h⟩ := h; rw [h]; exact Kp.drewN_ _ _⟩
  have HCK : Hid (∀ W E q, Rd W E (s.set k z) → Calls Try.prog 45 #[.slice E (s.set k z).length q] W fun e w' => e = .returned (.bool (okS (s.set k z))) ∧ W = w') := fun W E q r => rcheck_any E q (s.set k z) W r
  have HM1 : Hid (okS (s.set k z) = true → ∀ W E q, Kp w W → Rd W E (s.set k z) → Calls Try.prog 41 #[.agg #[.slice A s.length c, .slice B xs.length d], .slice E (s.set k z).length q, .int .i64 (k : Int), .int .i64 0] W (RetM (s.set k z) (movedL s xs (s.set k z) k 0) W)) :=
    fun hog W E q kw r => moved_any A B E c d q s xs (s.set k z) k 0 W (hA.kp kw) (hB.kp kw) r ht hog (by rw [List.length_set]; exact hk) (by omega) (by omega)
  have HM2 : Hid (okS (s.set k z) = true → ∀ W E q, Kp w W → Rd W E (s.set k z) → Calls Try.prog 41 #[.agg #[.slice C t.length e, .slice D ys.length f], .slice E (s.set k z).length q, .int .i64 (k : Int), .int .i64 v] W (RetM (s.set k z) (movedL t ys (s.set k z) k v) W)) :=
    fun hog W E q kw r => moved_any C D E e f q t ys (s.set k z) k v W (hC.kp kw) (hD.kp kw) r ht2 hog (by rw [List.length_set]; exact hk) (by omega) (by omega)
  have HX : Hid (okS (s.set k z) = true → ∀ (i : Nat) W E q, (i : Int) < sizeV (s.set k z) → Rd W E (s.set k z) → Calls Try.prog 36 #[.slice E (s.set k z).length q, .int .i64 (i : Int)] W (Ret (digs (s.set k z) i, 0) W)) := by
    intro hog i W E q hi r
    have hh := rindex_any E q (s.set k z) (i : Int) W r
    rw [index_yes (by omega) hi] at hh
    exact hh
  have HLG : Hid ((s.set k z).length = s.length) := by show List.length _ = _; rw [List.length_set]
  have HDG : Hid (okS (s.set k z) = true → ∀ i : Nat, (i : Int) < sizeV (s.set k z) → ∃ u, (digs (s.set k z) i)[k]? = some u) := fun ho i hi => by
    have hl : k < (digs (s.set k z) i).length := by rw [digs_len, List.length_set]; exact hk
    exact ⟨_, List.getElem?_eq_getElem hl⟩
  have HBO : Hid (bothL s xs t ys (s.set k z) k = (List.range (sizeV (s.set k z)).toNat).map fun i : Nat => if (digs (s.set k z) i).getD k 0 < x then (movedL s xs (s.set k z) k 0).getD i 0 else (movedL t ys (s.set k z) k v).getD i 0) := by
    show bothL _ _ _ _ _ _ = _
    unfold bothL
    rw [hgx, hv]
  have HML : Hid ((movedL s xs (s.set k z) k 0).length = (sizeV (s.set k z)).toNat ∧ (movedL t ys (s.set k z) k v).length = (sizeV (s.set k z)).toNat) := ⟨moved_len _ _ _ _ _, moved_len _ _ _ _ _⟩
  have HSL := Lib.hid (size_le (s.set k z))
  rw [HBO.out]
  obtain ⟨ad, x', rfl, hbx, hx', hc⟩ := hA.at_ hk
  obtain rfl : x = x' := by rw [hx] at hx'; exact Option.some.inj hx'
  obtain ⟨ae, y', rfl, hby, hy', hc'⟩ := hC.at_ hk2
  obtain rfl : y = y' := by rw [hy] at hy'; exact Option.some.inj hy'
  have HCA : Hid (∀ W, Kp w W → W.cell? (ad.add k) = some (.int .i64 x)) := fun W q => (q.cell (p := ad.add k) (by rw [block_of_add]; exact hbx)).trans hc
  have HCB : Hid (∀ W, Kp w W → W.cell? (ae.add k) = some (.int .i64 y)) := fun W q => (q.cell (p := ae.add k) (by rw [block_of_add]; exact hby)).trans hc'
  have j1 : (0 : Int) ≤ (k : Int) := by omega
  have j2 : (k : Int) < (s.length : Int) := by omega
  have j3 : (k : Int) < (t.length : Int) := by omega
  have d1 : decide ((k : Int) < 0) = false := by simp
  have d2 : decide ((s.length : Int) ≤ (k : Int)) = false := by simp; omega
  have d3 : ((s.length : Int) != (t.length : Int)) = false := by simp; omega
  have d2n : decide (s.length ≤ k) = false := by simp; omega
  have d3n : (s.length != t.length) = false := by simp; omega
  have HK3 : Hid (k < s.length) := hk
  have HS3 : Hid (s.length ≤ 3) := hs3
  clear HP HBO
  generalize hg : s.set k z = g at HM1 HM2 HWZ HCK HX HLG HDG HML HSL ⊢
  generalize hq : s.set k 1 = q1 at HEQ HWA hqq ⊢
  generalize hq2 : t.set k 1 = q2 at HEQ HWC hqq ⊢
  generalize movedL s xs g k 0 = ms at HM1 HML ⊢
  generalize movedL t ys g k v = ns at HM2 HML ⊢
  clear hA hB hC hD ht ht2 hx hx' hy hy' hgx hgy hg hq hq2 hc hc' hz hv hx16 hy16 hst hk hk2 hs3
  rw [if_neg hqq]
  rw [decide_eq_false hqq] at HEQ
  clear HM1 HM2 HX HDG HCK hqq
  go_enter Try.func21, Try.ntmps21
  go_wp2_with fail
  refine (HT.out _ F0.out.kp).mono ?_; rintro e0 w1 ⟨rfl, k1⟩
  have F1 := Lib.hid (F0.out.tr k1)
  clear k1
  have t0 := F1.out.t.c0
  have t1 := F1.out.t.c1
  have t2 := F1.out.t2.c0
  have t3 := F1.out.t2.c1
  have r0 := F1.out.r.c0
  have r1 := F1.out.r.c1
  have u0 := F1.out.r.f0 0
  have u1 := F1.out.r.f0 1
  go_wp2_with fail
  refine (HT2.out _ F1.out.kp).mono ?_; rintro e0 w2 ⟨rfl, k2⟩
  have F1 := Lib.hid (F1.out.tr k2)
  clear k2 t0 t1 t2 t3 r0 r1 u0 u1
  have t0 := F1.out.t.c0
  have t1 := F1.out.t.c1
  have t2 := F1.out.t2.c0
  have t3 := F1.out.t2.c1
  have r0 := F1.out.r.c0
  have r1 := F1.out.r.c1
  have u0 := F1.out.r.f0 0
  have u1 := F1.out.r.f0 1
  have HKV : Hid (∀ V, Kp w2 V → Hid (Kp w2 V) ∧ Hid (Kf w (some ad) s.length c B xs.length d (some ae) t.length e D ys.length f V) ∧ V.cell? ⟨w.heap.size, 0, none⟩ = some (.slice (some ad) s.length c) ∧ V.cell? ⟨w.heap.size + 1, 0, none⟩ = some (.slice (some ae) t.length e)) := fun V kV => ⟨kV, F1.out.tr kV, (F1.out.tr kV).t.c0, (F1.out.tr kV).t2.c0⟩
  clear t1 t3 r0 r1 u0 u1
  have hdr : Hid (Kp w2 w2.drew) := Below.drew (Kp.refl _)
  go_wp2
  go_cut [58] (fun v58 wx => v58 = .bool true ∧ Hid (Kp w2 wx))
  case first =>
    go_region_held3 (fun V => V.cell? ⟨w.heap.size, 0, none⟩ = some (.slice (some ad) s.length c) ∧ V.cell? ⟨w.heap.size + 1, 0, none⟩ = some (.slice (some ae) t.length e)) (first | exact ⟨z0, z1⟩ | exact ⟨y0, y1⟩ | exact ⟨v0, v1⟩ | exact ⟨t0, t2⟩)
      (first
      | (go_at_call_of 42 ad; refine (HWA.out _ (F1.out.kp.tr hdr.out)).mono ?_; rintro e0 w3 ⟨A3, c3, rfl, o3, k3⟩; obtain ⟨K3, F3, v0, v1⟩ := HKV.out _ (undrawn k3); have R3 : Hid (Rd w3 A3 q1) := o3.sl.rd; clear o3 k3)
      | (go_at_call_of 42 ae; refine (HWC.out _ F3.out.kp).mono ?_; rintro e0 w4 ⟨A4, c4, rfl, o4, k4⟩; obtain ⟨K4, F4, y0, y1⟩ := HKV.out _ (K3.out.tr k4); have R4 : Hid (Rd w4 A4 q2) := o4.sl.rd; have R34 := Lib.hid (R3.out.kp k4); clear o4 k4)
      | (go_at_call 24; refine (HEQ.out _ _ _ _ _ R34.out R4.out).mono ?_; rintro e0 w5 ⟨rfl, k5⟩; obtain ⟨K5, F5, z0, z1⟩ := HKV.out _ (K4.out.tr k5); clear k5))
    all_goals go_wp2
    all_goals go_meet
    all_goals exact ⟨rfl, K5⟩
  case rest =>
    obtain ⟨rfl, K5⟩ := hcut
    obtain ⟨_, F5, z0, z1⟩ := HKV.out _ K5.out
    clear t0 t2 HKV hdr F1
    have F1 := F5
    have r0 := F1.out.r.c0
    have r1 := F1.out.r.c1
    have u0 := F1.out.r.f0 0
    have u1 := F1.out.r.f0 1
    go_wp2
    refine bodyPost_ret (v := .tuple #[.agg #[.slice none 0 0, .slice none 0 0], .int .i64 20]) (by simp [results, Try.results21, go_sem, r0, r1]; try rfl) rfl ?_
    exact RetT.err rfl (F1.out.end_ _ _)
end Go.Proofs.Ytdjfjhanffliiaa
