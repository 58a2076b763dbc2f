/- The document's Max and Mean of layer 6 (fullerref06). -/
import Derived.Test.YtpglchimghnpeaaRdD
namespace Go.Proofs.Ytpglchimghnpeaa
open Go.RowKit Go.Proofs.ShM Go.Proofs.FixM
set_option linter.unusedVariables false

set_option maxHeartbeats 8000000 in
theorem rmax_ok (A B : Option Addr) (c d : Nat) (s xs : List Int) (a : Nat) (w : World) (hA : Sl w A c s) (hB : Rd w B xs) (hi : I64s xs) (ht : tokV s xs = true) (ha : a < s.length) :
    Calls Try.prog 14 #[.agg #[.slice A s.length c, .slice B xs.length d], .int .i64 (a : Int)] w (RetT (maxV s xs a) w) := by
  obtain ⟨ho, hxl⟩ := tok_iff.1 ht
  have hs3 := (ok_iff.1 ho).1
  have hsd := side_pos (ok_all ho) ha
  have hoe := ok_erase ho ha
  have hpe := ok_prod hoe
  have hsz := size_ok hoe
  have hel := List.length_eraseIdx_of_lt ha
  have F0 := Lib.hid (Rg.mk_ w A s.length c B xs.length d)
  have HS : Hid (∀ W, Kp w W → Calls Try.prog 25 #[.agg #[.slice A s.length c, .slice B xs.length d], .int .i64 (a : Int)] W fun e w' => e = .returned (.int .i64 0) ∧ Kp W w') := fun W k => by
    have hh := rside_any A B c d s xs a W (hA.rd.kp k) (hB.kp k)
    rw [show sideV s xs a = 0 by unfold sideV; rw [if_neg (by simp [ht]), if_neg (by omega)]] at hh
    exact hh
  have HW : Hid (∀ W, Kp w W → Calls Try.prog 26 #[.slice A s.length c, .int .i64 (a : Int)] W (RetO (s.eraseIdx a) W)) := fun W k => rwithout_any A c a s W (hA.kp k) (by omega) ha
  obtain ⟨N, hNN⟩ : ∃ N : Nat, sizeV (s.eraseIdx a) = (N : Int) := ⟨(sizeV (s.eraseIdx a)).toNat, by omega⟩
  have HSZ : Hid (∀ W A1 c1, Rd W A1 (s.eraseIdx a) → Calls Try.prog 27 #[.slice A1 (s.eraseIdx a).length c1] W fun e w' => e = .returned (.int .i64 (N : Int)) ∧ W = w') := fun W A1 c1 r => by
    have hh := rsize_any A1 c1 (s.eraseIdx a) W r
    rw [hNN] at hh
    exact hh
  have HNU : Hid (∀ (q : Nat) W, q < N → Kp w W → Calls Try.prog 28 #[.agg #[.slice A s.length c, .slice B xs.length d], .int .i64 (a : Int), .int .i64 (q : Int)] W (RetO (lineL s xs a q) W)) := fun q W hq k => rnumbers_any A B c d a q s xs W (hA.kp k) (hB.kp k) ht ha (by omega)
  have hne : ∀ q, lineL s xs a q ≠ [] := fun q e => by
    have := line_len s xs a q
    rw [e, List.length_nil] at this
    omega
  have HI : ∀ q y, y ∈ lineL s xs a q → -9223372036854775808 ≤ y := fun q y hy => by
    unfold lineL at hy
    obtain ⟨i, _, rfl⟩ := List.mem_map.1 hy
    exact (getD_i64 hi _).1
  have HMO : Hid (∀ q W A1 c1, Rd W A1 (lineL s xs a q) → Calls Try.prog 33 #[.slice A1 (lineL s xs a q).length c1] W fun e w' => e = .returned (.int .i64 (fmI (lineL s xs a q) : Int)) ∧ Kp W w') := fun q W A1 c1 r =>
    (rmost_any A1 c1 _ W r (hne q) (by rw [line_len]; omega)).mono fun _ _ ⟨h1, n, h2⟩ => ⟨h1, by rw [h2]; exact Kp.drewN_ _ _⟩
  have HFM : Hid (∀ q, fmI (lineL s xs a q) < (lineL s xs a q).length) := fun q => fm_lt (hne q)
  have HTK : Hid (∀ q, tkL greatV (-9223372036854775808) (lineL s xs a q) = ((lineL s xs a q).getD (fmI (lineL s xs a q)) 0, 0)) := fun q => tk_max (hne q) (HI q)
  have HRES : Hid (maxV s xs a = if (mapE (fun q : Nat => tkL greatV (-9223372036854775808) (lineL s xs a q)) (List.range N)).2 = 0 then (s.eraseIdx a, (mapE (fun q : Nat => tkL greatV (-9223372036854775808) (lineL s xs a q)) (List.range N)).1, 0) else ([], [], (mapE (fun q : Nat => tkL greatV (-9223372036854775808) (lineL s xs a q)) (List.range N)).2)) := by
    show maxV s xs a = _
    unfold maxV togV togL
    rw [if_neg (by simp [ht]), if_neg (by omega), Int.toNat_natCast, hNN, Int.toNat_natCast]
  have HLL : Hid (∀ q, (lineL s xs a q).length ≤ 16) := fun q => by rw [line_len]; omega
  have HN64 : Hid (N ≤ 64) := by show N ≤ 64; omega
  obtain ⟨S, hS⟩ : ∃ S, S = s.eraseIdx a := ⟨_, rfl⟩
  rw [← hS] at HW HSZ HRES
  generalize maxV s xs a = R at HRES ⊢
  clear hA hB ht ho hsd hi hxl hoe hpe hsz hNN hS hel hne HI
  go_enter Try.func14, Try.ntmps14
  go_wp2_with fail
  refine (HS.out _ F0.out.kp).mono ?_; rintro e0 w1 ⟨rfl, k1⟩
  have F1 := Lib.hid (F0.out.tr k1)
  clear k1
  have t0 := F1.out.t.c0
  have t1 := F1.out.t.c1
  go_wp2_with fail
  refine (HW.out _ F1.out.kp).mono ?_; rintro e0 w2 ⟨A2, c2, rfl, o2, k2⟩
  have F2 := Lib.hid (F1.out.tr k2)
  have R2 := Lib.hid o2.sl.rd
  have HG := Lib.hid (Gw.start w2 A2 S.length c2)
  clear k2 o2 t0 t1
  go_wp2
  go_loopw [8] (fun i wr => ∃ (k : Nat) (zs : List Int) (Az : Option Addr) (cz : Nat), i = .int .i64 k ∧ Hid (Ea (fun q : Nat => tkL greatV (-9223372036854775808) (lineL s xs a q)) (List.range N) k zs) ∧ Hid (Gw w2 A2 S.length c2 zs Az cz wr)) (fun i _ => N - (intOf i).toNat)
  case atStart => exact ⟨0, [], none, 0, rfl, ea_start, HG.out⟩
  case round =>
    obtain ⟨k, zs, Az, cz, rfl, hr, hg⟩ := hrel
    have HZL := Lib.hid (ea_len hr.out)
    have hN64 : N ≤ 64 := HN64.out
    have hkN : k ≤ N := by have := hr.out.1; rwa [List.length_range] at this
    have F3 := Lib.hid (F2.out.tr hg.out.k)
    have R3 := Lib.hid (R2.out.kp hg.out.k)
    have g0 := hg.out.b.c0
    have g1 := hg.out.b.c1
    go_wp2_with fail
    refine (HSZ.out _ _ _ R3.out).mono ?_; rintro e0 w3 ⟨rfl, rfl⟩
    by_cases hlt : k < N
    · have hlt' : (k : Int) < (N : Int) := by omega
      have t0 := F3.out.t.c0
      have t1 := F3.out.t.c1
      clear g0 g1
      go_wp2_with fail
      refine (HNU.out k _ hlt F3.out.kp).mono ?_; rintro e0 w4 ⟨A4, c4, rfl, o4, k4⟩
      have G4 := Lib.hid (hg.out.tr k4)
      have F4 := Lib.hid (F3.out.tr k4)
      have R4 := Lib.hid o4.sl.rd
      have hL16 := HLL.out k
      have hfm := HFM.out k
      obtain ⟨ad, v, hAe, hbv, hv, hcv⟩ := o4.sl.rd.at_ hfm
      have HOKS : Hid (∀ ys, ys = zs ++ [v] → Ea (fun q : Nat => tkL greatV (-9223372036854775808) (lineL s xs a q)) (List.range N) (k + 1) ys) := fun ys e2 => ea_grow hr.out hlt (by show tkL greatV _ (lineL s xs a k) = _; rw [HTK.out k, List.getD, hv]; rfl) e2
      have HM4 := Lib.hid (fun W A1 c1 r => HMO.out k W A1 c1 r)
      generalize fmI (lineL s xs a k) = f at HM4 hfm hcv
      obtain ⟨L, hL⟩ : ∃ L, L = lineL s xs a k := ⟨_, rfl⟩
      rw [← hL] at R4 hL16 hfm HM4 ⊢
      subst hAe
      have hbv' : (ad.add f).block < w4.heap.size := by rw [block_of_add]; exact hbv
      have i1 : (0 : Int) ≤ (f : Int) := by omega
      have i2 : (f : Int) < (L.length : Int) := by omega
      clear hL hv k4 o4 t0 t1 hbv
      have q1 := G4.out.b.c1
      have q2 := G4.out.b.f0 1
      have ql := G4.out.sz
      have ql' : w2.heap.size < w4.heap.size := by omega
      have HSZ2 := Lib.hid G4.out.sz
      have HKX : Hid (∀ V, Kp w4.drew V → Hid (Kp w4 V) ∧ V.cell? ⟨w2.heap.size, 1, none⟩ = some (.slice Az zs.length cz) ∧ V.frozen? ⟨w2.heap.size, 1, none⟩ = false ∧ V.cell? (ad.add f) = some (.int .i64 v)) := fun V kV =>
        ⟨undrawn kV, (G4.out.b.kp (undrawn kV)).c1, (G4.out.b.kp (undrawn kV)).f0 1, ((undrawn kV).cell hbv').trans hcv⟩
      go_wp2
      have hdr : Hid (Kp w4 w4.drew) := Below.drew (Kp.refl w4)
      go_region_law (first
        | (refine step_app (B := w2.heap.size + 1) rfl (.tmp 34) (.tmp 40) rfl _ zs rfl (G5.out.o.kp (Kp.alloc_ _ _)) _ _ [v] _ rfl rfl (Rd.one _ _ _) (by have := HZL.out; simp; omega) (by have := G5.out.sz; simp; omega) ?_; intro zs2 A5 c5 w8 HZ o8 b8; have HB : Hid (Below (w2.heap.size + 1) w9 w8) := (((Below.refl _ _).alloc G5.out.sz _).trans b8); have O8 := Lib.hid o8; have q7 := (HB.out.cell (p := ⟨w2.heap.size, 1, none⟩) (Nat.lt_succ_self _)).trans q3; have q8 := (HB.out.frozen (p := ⟨w2.heap.size, 1, none⟩) (Nat.lt_succ_self _)).trans q4; clear o8 b8)
        | (go_simp; go_at_call 33; refine (HM4.out _ _ _ (R4.out.kp hdr.out)).mono ?_; rintro e0 w9 ⟨rfl, k9⟩; obtain ⟨K9, q3, q4, q5⟩ := HKX.out _ k9; have G5 := Lib.hid (G4.out.tr K9.out); have q6 := K9.out.size; have q9 : w2.heap.size < w9.heap.size := Nat.lt_of_lt_of_le ql' q6; clear k9))
      all_goals
        go_wp2
        go_roundw
        case rel => exact ⟨k + 1, zs2, A5, c5, by go_num, HOKS.out zs2 HZ.out, G5.out.put O8.out HB.out⟩
        case measure => simp [intOf]; omega
    · have hlt' : ¬ (k : Int) < (N : Int) := by omega
      have HE := Lib.hid (ea_end hr.out (by rw [List.length_range]; exact hlt))
      have HFR : Hid (R = (S, zs, 0)) := by show R = _; rw [HRES.out, HE.out, if_pos rfl]
      have r0 := F3.out.o.c0
      have r1 := F3.out.o.c1
      have u0 := F3.out.o.f0 0
      have u1 := F3.out.o.f0 1
      go_wp2
      refine bodyPost_ret (v := .tuple #[.agg #[.slice A2 S.length c2, .slice Az zs.length cz], .int .i64 0]) (by simp [results, Try.results14, go_sem, r0, r1]; try rfl) rfl ?_
      exact RetT.of HFR.out (R3.out.past F3.out.o _ _) (hg.out.o.sl.rd.past F3.out.o _ _) (F3.out.end_ _ _)

theorem rmax_any (A B : Option Addr) (c d : Nat) (s xs : List Int) (axis : Int) (w : World) (hA : Sl w A c s) (hB : Rd w B xs) (hi : I64s xs) :
    Calls Try.prog 14 #[.agg #[.slice A s.length c, .slice B xs.length d], .int .i64 axis] w (RetT (maxV s xs axis) w) := by
  by_cases h : sideV s xs axis = 0
  · obtain ⟨ht, a, rfl, ha⟩ := side_ok h
    exact rmax_ok A B c d s xs a w hA hB hi ht ha
  · exact rmax_side A B c d s xs axis w hA hB h
end Go.Proofs.Ytpglchimghnpeaa
