/- The document's First and Grow of layer 6 (fullerref06). -/
import Derived.Test.YtpglchimghnpeaaRdD
namespace Go.Proofs.Ytpglchimghnpeaa
open Go.RowKit Go.Proofs.ShM Go.Proofs.FixM
set_option linter.unusedVariables false

theorem first_yes {s xs : List Int} {a : Nat} (ht : tokV s xs = true) (ha : a < s.length) : firstV s xs a = (s, firstD s xs a, 0) := by
  unfold firstV
  rw [if_neg (by simp [ht]), if_neg (by omega), Int.toNat_natCast]
theorem first_no {s xs : List Int} {axis : Int} (h : sideV s xs axis ≠ 0) : firstV s xs axis = ([], [], sideV s xs axis) := by
  unfold sideV firstV at *
  by_cases h1 : tokV s xs = false
  · rw [if_pos h1, if_pos h1]
  · rw [if_neg h1] at h ⊢
    rw [if_neg h1]
    by_cases h2 : axis < 0 ∨ (s.length : Int) ≤ axis
    · rw [if_pos h2, if_pos h2]
    · rw [if_neg h2] at h; exact absurd rfl h

set_option maxHeartbeats 4000000 in
theorem rfirst_err (A B : Option Addr) (c d : Nat) (s xs : List Int) (axis : Int) (w : World) (hA : Sl w A c s) (hB : Rd w B xs) (h : sideV s xs axis ≠ 0) :
    Calls Try.prog 16 #[.agg #[.slice A s.length c, .slice B xs.length d], .int .i64 axis] w (RetT (firstV s xs axis) w) := by
  have F0 := Lib.hid (Rg.mk_ w A s.length c B xs.length d)
  have HS := Lib.hid (fun W (k : Kp w W) => rside_any A B c d s xs axis W (hA.rd.kp k) (hB.kp k))
  have HF : Hid (firstV s xs axis = ([], [], sideV s xs axis)) := first_no h
  generalize sideV s xs axis = er at HS HF h
  have he : (er != 0) = true := by simpa using h
  clear hA hB h
  go_enter Try.func16, Try.ntmps16
  go_wp2_with fail
  refine (HS.out _ F0.out.kp).mono ?_; rintro e0 w1 ⟨rfl, k1⟩
  have F1 := Lib.hid (F0.out.tr k1)
  clear k1
  have r0 := F1.out.o.c0
  have r1 := F1.out.o.c1
  have u0 := F1.out.o.f0 0
  have u1 := F1.out.o.f0 1
  go_wp2
  refine bodyPost_ret (v := .tuple #[.agg #[.slice none 0 0, .slice none 0 0], .int .i64 er]) (by simp [results, Try.results16, go_sem, r0, r1]; try rfl) rfl ?_
  exact RetT.err HF.out (F1.out.end_ _ _)

set_option maxHeartbeats 8000000 in
theorem rfirst_ok (A B : Option Addr) (c d : Nat) (s xs : List Int) (a : Nat) (w : World) (hA : Sl w A c s) (hB : Rd w B xs) (ht : tokV s xs = true) (ha : a < s.length) :
    Calls Try.prog 16 #[.agg #[.slice A s.length c, .slice B xs.length d], .int .i64 (a : Int)] w (RetT (firstV s xs a) w) := by
  obtain ⟨ho, hxl⟩ := tok_iff.1 ht
  have hlA := hA.rd.len
  have hs3 := (ok_iff.1 ho).1
  have hsd := side_pos (ok_all ho) ha
  have hoe := ok_erase ho ha
  have hpo := ok_prod ho
  have hsz := size_ok ho
  have hel := List.length_eraseIdx_of_lt ha
  have F0 := Lib.hid (Rg.mk_ w A s.length c B xs.length d)
  have HS : Hid (∀ W, Kp w W → Calls Try.prog 25 #[.agg #[.slice A s.length c, .slice B xs.length d], .int .i64 (a : Int)] W fun e w' => e = .returned (.int .i64 0) ∧ Kp W w') := fun W k => by
    have hh := rside_any A B c d s xs a W (hA.rd.kp k) (hB.kp k)
    rw [show sideV s xs a = 0 by unfold sideV; rw [if_neg (by simp [ht]), if_neg (by omega)]] at hh
    exact hh
  have HIX : Hid (∀ (p : Nat) W, p < xs.length → Kp w W → Calls Try.prog 36 #[.slice A s.length c, .int .i64 (p : Int)] W (RetL (digs s p) 0 W)) := fun p W hp k => by
    have hh := rindex_any A c s (p : Int) W (hA.rd.kp k)
    rw [index_yes (by omega) (by omega)] at hh
    exact hh
  have HW : Hid (∀ W, Kp w W → Calls Try.prog 26 #[.slice A s.length c, .int .i64 (a : Int)] W (RetO (s.eraseIdx a) W)) := fun W k => rwithout_any A c a s W (hA.kp k) (by omega) ha
  have HW2 : Hid (∀ X W A1 c1, X.length = s.length → Sl W A1 c1 X → Calls Try.prog 26 #[.slice A1 X.length c1, .int .i64 (a : Int)] W (RetO (X.eraseIdx a) W)) := fun X W A1 c1 hX r => rwithout_any A1 c1 a X W r (by omega) (by omega)
  have HPL : Hid (∀ (p : Nat) W A1 c1 A2 c2, p < xs.length → Rd W A1 (s.eraseIdx a) → Rd W A2 ((digs s p).eraseIdx a) → Calls Try.prog 37 #[.slice A1 (s.eraseIdx a).length c1, .slice A2 ((digs s p).eraseIdx a).length c2] W (RetK (qOf s a p) 0 W)) := fun p W A1 c1 A2 c2 hp r1 r2 => by
    have hh := rplace_any A1 A2 c1 c2 (s.eraseIdx a) ((digs s p).eraseIdx a) W r1 r2
    obtain ⟨q1, q2, _⟩ := q_range (ok_all ho) ha (p := (p : Int)) (by omega) (by omega)
    obtain ⟨e1, _⟩ := digs_q (ok_all ho) ha (p := (p : Int)) (by omega) (by omega)
    have e2 : placeV (s.eraseIdx a) ((digs s p).eraseIdx a) = (qOf s a p, 0) := by
      rw [e1]
      exact place_found q1 (by rw [size_ok hoe]; exact q2) rfl
    rw [e2] at hh
    exact hh
  have HQ : Hid (∀ p : Nat, p < xs.length → ∃ q : Nat, qOf s a p = (q : Int) ∧ (q : Int) < sizeV (s.eraseIdx a) ∧ (digs s p)[a]? = some (iOf s a p)) := fun p hp => by
    obtain ⟨q1, q2, _⟩ := q_range (ok_all ho) ha (p := (p : Int)) (by omega) (by omega)
    obtain ⟨_, e2⟩ := digs_q (ok_all ho) ha (p := (p : Int)) (by omega) (by omega)
    exact ⟨(qOf s a p).toNat, by omega, by rw [size_ok hoe]; omega, e2⟩
  have HNU : Hid (∀ (q : Nat) W, (q : Int) < sizeV (s.eraseIdx a) → Kp w W → Calls Try.prog 28 #[.agg #[.slice A s.length c, .slice B xs.length d], .int .i64 (a : Int), .int .i64 (q : Int)] W (RetO (lineL s xs a q) W)) := fun q W hq k => rnumbers_any A B c d a q s xs W (hA.kp k) (hB.kp k) ht ha hq
  have hne : ∀ q, lineL s xs a q ≠ [] := fun q e => by
    have := line_len s xs a q
    rw [e, List.length_nil] at this
    omega
  have HMO : Hid (∀ q W A1 c1, Rd W A1 (lineL s xs a q) → Calls Try.prog 33 #[.slice A1 (lineL s xs a q).length c1] W fun e w' => e = .returned (.int .i64 (fmI (lineL s xs a q) : Int)) ∧ Kp W w') := fun q W A1 c1 r =>
    (rmost_any A1 c1 _ W r (hne q) (by rw [line_len]; omega)).mono fun _ _ ⟨h1, n, h2⟩ => ⟨h1, by rw [h2]; exact Kp.drewN_ _ _⟩
  have HDL : Hid (∀ p : Nat, (digs s p).length = s.length) := fun p => digs_len _ _
  have HRES : Hid (firstV s xs a = (s, (List.range xs.length).map fun p : Nat => if (fmI (lineL s xs a (qOf s a p).toNat) : Int) = iOf s a p then 4294967296 else 0, 0)) := first_yes ht ha
  have HXL : Hid (xs.length ≤ 64) := by show xs.length ≤ 64; omega
  have HSA := Lib.hid hA.rd
  have HS3 : Hid (s.length ≤ 3 ∧ a < s.length) := ⟨hs3, ha⟩
  have j1 : (0 : Int) ≤ (a : Int) := by omega
  have j2 : (a : Int) < (s.length : Int) := by omega
  have hxl63 : (xs.length : Int) ≤ 64 := by omega
  obtain ⟨S, hS⟩ : ∃ S, S = s.eraseIdx a := ⟨_, rfl⟩
  rw [← hS] at HW HPL HQ HNU
  generalize firstV s xs a = R at HRES ⊢
  clear hA hB ht ho hsd hoe hpo hsz hel hne hxl hS hxl63
  go_enter Try.func16, Try.ntmps16
  go_wp2_with fail
  refine (HS.out _ F0.out.kp).mono ?_; rintro e0 w1 ⟨rfl, k1⟩
  have F1 := Lib.hid (F0.out.tr k1)
  clear k1
  have t0 := F1.out.t.c0
  have t1 := F1.out.t.c1
  have HG := Lib.hid (Gw.start w1 A s.length c)
  go_wp2
  go_loopw [8] (fun i wr => ∃ (k : Nat) (zs : List Int) (Az : Option Addr) (cz : Nat), i = .int .i64 k ∧ Hid (Ta (fun p : Nat => if (fmI (lineL s xs a (qOf s a p).toNat) : Int) = iOf s a p then 4294967296 else 0) xs.length k zs) ∧ Hid (Gw w1 A s.length c zs Az cz wr)) (fun i _ => xs.length - (intOf i).toNat)
  case atStart => exact ⟨0, [], none, 0, rfl, ta_start _ _, HG.out⟩
  case round =>
    obtain ⟨k, zs, Az, cz, rfl, hr, hg⟩ := hrel
    clear t0 t1
    have HZL := Lib.hid (ta_len hr.out)
    have hx64 : xs.length ≤ 64 := HXL.out
    have hkN : k ≤ xs.length := hr.out.1
    have F3 := Lib.hid (F1.out.tr hg.out.k)
    have t0 := F3.out.t.c0
    have t1 := F3.out.t.c1
    by_cases hlt : k < xs.length
    · have hlt' : (k : Int) < (xs.length : Int) := by omega
      obtain ⟨q, hq1, hq2, hq3⟩ := HQ.out k hlt
      have HPK := Lib.hid (fun W A1 c1 A2 c2 r1 r2 => HPL.out k W A1 c1 A2 c2 hlt r1 r2)
      rw [hq1] at HPK
      have HNQ := Lib.hid (fun W kw => HNU.out q W hq2 kw)
      have HMQ := Lib.hid (fun W A1 c1 r => HMO.out q W A1 c1 r)
      have HTA : Hid (∀ ys, ys = zs ++ [if (fmI (lineL s xs a q) : Int) = iOf s a k then 4294967296 else 0] → Ta (fun p : Nat => if (fmI (lineL s xs a (qOf s a p).toNat) : Int) = iOf s a p then 4294967296 else 0) xs.length (k + 1) ys) := fun ys e => ta_step hr.out hlt (by show (if (fmI (lineL s xs a (qOf s a k).toNat) : Int) = iOf s a k then (4294967296 : Int) else 0) = _; rw [hq1, Int.toNat_natCast]) e
      go_wp2_with fail
      refine (HIX.out k _ hlt F3.out.kp).mono ?_; rintro e0 w3 ⟨A3, c3, rfl, s3, k3⟩
      have hd3 := HDL.out k
      have HW3 := Lib.hid (fun W A1 c1 r => HW2.out (digs s k) W A1 c1 hd3 r)
      obtain ⟨X, hX⟩ : ∃ X, X = digs s k := ⟨_, rfl⟩
      rw [← hX] at s3 hd3 HW3 hq3 HPK ⊢
      have SX := Lib.hid s3
      have G3 := Lib.hid (hg.out.tr k3)
      have F4 := Lib.hid (F3.out.tr k3)
      obtain ⟨ad, ix, rfl, hbx, hix, hcx⟩ := s3.rd.at_ (k := a) (by rw [hd3]; exact HS3.out.2)
      obtain rfl : ix = iOf s a k := by rw [hq3] at hix; exact (Option.some.inj hix).symm
      have a2 : (a : Int) < (X.length : Int) := by rw [hd3]; exact j2
      clear k3 s3 t0 t1 hX hd3
      have t0 := F4.out.t.c0
      have t1 := F4.out.t.c1
      dsimp only
      go_wp2_with fail
      refine (HW.out _ F4.out.kp).mono ?_; rintro e0 w4 ⟨A4, c4, rfl, o4, k4⟩
      have R4 := Lib.hid o4.sl.rd
      have K4 := Lib.hid k4
      clear k4 o4 t0 t1
      go_wp2_with fail
      refine (HW3.out _ _ _ (SX.out.kp K4.out)).mono ?_; rintro e0 w5 ⟨A5, c5, rfl, o5, k5⟩
      have R5 := Lib.hid o5.sl.rd
      have K5 := Lib.hid (K4.out.tr k5)
      have R45 := Lib.hid (R4.out.kp k5)
      clear k5 o5
      go_wp2_with fail
      refine (HPK.out _ _ _ _ _ R45.out R5.out).mono ?_; rintro e0 w6 ⟨rfl, k6⟩
      have K6 := Lib.hid (K5.out.tr k6)
      have F6 := Lib.hid (F4.out.tr K6.out)
      have G6 := Lib.hid (G3.out.tr K6.out)
      have hcx6 : w6.cell? (ad.add a) = some (.int .i64 (iOf s a k)) := (K6.out.cell (p := ad.add a) (by rw [block_of_add]; exact hbx)).trans hcx
      have hbx6 : (ad.add a).block < w6.heap.size := by rw [block_of_add]; exact Nat.lt_of_lt_of_le hbx K6.out.size
      have t0 := F6.out.t.c0
      have t1 := F6.out.t.c1
      generalize iOf s a k = ix at HTA hcx6
      generalize fmI (lineL s xs a q) = f at HMQ HTA
      obtain ⟨L, hL⟩ : ∃ L, L = lineL s xs a q := ⟨_, rfl⟩
      rw [← hL] at HNQ HMQ
      clear k6 hq1 hq2 hq3 hix hcx hbx hL
      have dS : Hid (∀ V, Kp w6 V → V.cell? ⟨w.heap.size, 0, none⟩ = some (.slice A s.length c) ∧ V.cell? ⟨w.heap.size, 1, none⟩ = some (.slice B xs.length d) ∧ V.cell? (ad.add a) = some (.int .i64 ix)) := fun V kV => ⟨(F6.out.t.kp kV).c0, (F6.out.t.kp kV).c1, (kV.cell hbx6).trans hcx6⟩
      have hdr : Hid (Kp w6 w6.drew) := Below.drew (Kp.refl w6)
      go_wp2
      go_cut [57] from 23 to 67 (fun bv wx => bv = .bool ((f : Int) == ix) ∧ Hid (Kp w6 wx))
      case first =>
        go_region_held3 (fun V => V.cell? ⟨w.heap.size, 0, none⟩ = some (.slice A s.length c) ∧ V.cell? ⟨w.heap.size, 1, none⟩ = some (.slice B xs.length d) ∧ V.cell? (ad.add a) = some (.int .i64 ix)) (first | exact ⟨t0, t1, hcx6⟩ | exact q7 | exact q8)
          (first
          | (go_at_call 28; refine (HNQ.out _ (F6.out.kp.tr hdr.out)).mono ?_; rintro e0 w7 ⟨A7, c7, rfl, o7, k7⟩; have K7 : Hid (Kp w6 w7) := hdr.out.tr k7; have R7 := Lib.hid o7.sl.rd; have q7 := dS.out _ K7.out; clear k7 o7)
          | (go_at_call 33; refine (HMQ.out _ _ _ R7.out).mono ?_; rintro e0 w8 ⟨rfl, k8⟩; have K8 : Hid (Kp w6 w8) := K7.out.tr k8; have q8 := dS.out _ K8.out; clear k8))
        all_goals go_wp2
        all_goals go_meet
        all_goals exact ⟨rfl, K8⟩
      case rest =>
        obtain ⟨rfl, K8⟩ := hcut
        have G8 := Lib.hid (G6.out.tr K8.out)
        have q1 := G8.out.b.c1
        have q2 := G8.out.b.f0 1
        have HSZ := Lib.hid G8.out.sz
        clear t0 t1 hcx6 hbx6
        by_cases hf : (f : Int) = ix
        · have hf' : ((f : Int) == ix) = true := by simpa using hf
          have HTB : Hid (∀ ys, ys = zs ++ [4294967296] → Ta (fun p : Nat => if (fmI (lineL s xs a (qOf s a p).toNat) : Int) = iOf s a p then 4294967296 else 0) xs.length (k + 1) ys) := fun ys e => HTA.out ys (by rw [if_pos hf]; exact e)
          clear hf
          go_wp2_with (at_builtin; refine wpList_app (B := w1.heap.size + 1) rfl (.tmp 59) (.tmp 60) rfl _ zs rfl (G8.out.o.kp (Kp.alloc_ _ _)) _ _ [4294967296] _ rfl rfl (Rd.one _ _ _) (by have := HZL.out; simp; omega) (by have := HSZ.out; simp; omega) ?_; intro zs2 A9 c9 w9 HZ hown2 hb2; have HB : Hid (Below (w1.heap.size + 1) wc w9) := (((Below.refl _ _).alloc HSZ.out _).trans hb2); have HO2 := Lib.hid hown2; have g3 := (HB.out.cell (p := ⟨w1.heap.size, 1, none⟩) (Nat.lt_succ_self _)).trans q1; have g4 := (HB.out.frozen (p := ⟨w1.heap.size, 1, none⟩) (Nat.lt_succ_self _)).trans q2; clear hown2 hb2)
          go_roundw
          case rel => exact ⟨k + 1, zs2, A9, c9, by go_num, HTB.out zs2 HZ.out, G8.out.put HO2.out HB.out⟩
          case measure => simp [intOf]; omega
        · have hf' : ((f : Int) == ix) = false := by simpa using hf
          have HTB : Hid (∀ ys, ys = zs ++ [0] → Ta (fun p : Nat => if (fmI (lineL s xs a (qOf s a p).toNat) : Int) = iOf s a p then 4294967296 else 0) xs.length (k + 1) ys) := fun ys e => HTA.out ys (by rw [if_neg hf]; exact e)
          clear hf
          go_wp2_with (at_builtin; refine wpList_app (B := w1.heap.size + 1) rfl (.tmp 64) (.tmp 65) rfl _ zs rfl (G8.out.o.kp (Kp.alloc_ _ _)) _ _ [0] _ rfl rfl (Rd.one _ _ _) (by have := HZL.out; simp; omega) (by have := HSZ.out; simp; omega) ?_; intro zs2 A9 c9 w9 HZ hown2 hb2; have HB : Hid (Below (w1.heap.size + 1) wc w9) := (((Below.refl _ _).alloc HSZ.out _).trans hb2); have HO2 := Lib.hid hown2; have g3 := (HB.out.cell (p := ⟨w1.heap.size, 1, none⟩) (Nat.lt_succ_self _)).trans q1; have g4 := (HB.out.frozen (p := ⟨w1.heap.size, 1, none⟩) (Nat.lt_succ_self _)).trans q2; clear hown2 hb2)
          go_roundw
          case rel => exact ⟨k + 1, zs2, A9, c9, by go_num, HTB.out zs2 HZ.out, G8.out.put HO2.out HB.out⟩
          case measure => simp [intOf]; omega
    · have hlt' : ¬ (k : Int) < (xs.length : Int) := by omega
      have HE := Lib.hid (ta_end hr.out hlt)
      have HFR : Hid (R = (s, zs, 0)) := by show R = _; rw [HRES.out, HE.out]
      have g0 := hg.out.b.c0
      have g1 := hg.out.b.c1
      have r0 := F3.out.o.c0
      have r1 := F3.out.o.c1
      have u0 := F3.out.o.f0 0
      have u1 := F3.out.o.f0 1
      go_wp2
      refine bodyPost_ret (v := .tuple #[.agg #[.slice A s.length c, .slice Az zs.length cz], .int .i64 0]) (by simp [results, Try.results16, go_sem, r0, r1]; try rfl) rfl ?_
      exact RetT.of HFR.out ((HSA.out.kp F3.out.kp).past F3.out.o _ _) (hg.out.o.sl.rd.past F3.out.o _ _) (F3.out.end_ _ _)

theorem rfirst_any (A B : Option Addr) (c d : Nat) (s xs : List Int) (axis : Int) (w : World) (hA : Sl w A c s) (hB : Rd w B xs) :
    Calls Try.prog 16 #[.agg #[.slice A s.length c, .slice B xs.length d], .int .i64 axis] w (RetT (firstV s xs axis) w) := by
  by_cases h : sideV s xs axis = 0
  · obtain ⟨ht, a, rfl, ha⟩ := side_ok h
    exact rfirst_ok A B c d s xs a w hA hB ht ha
  · exact rfirst_err A B c d s xs axis w hA hB h
end Go.Proofs.Ytpglchimghnpeaa
