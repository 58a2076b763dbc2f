/- The program's First and Grow of layer 6 (reduce). -/
import Derived.Test.YtpglchimghnpeaaRdE
namespace Go.Proofs.Ytpglchimghnpeaa
open Go.RowKit Go.Proofs.ShM Go.Proofs.FixM
set_option linter.unusedVariables false

theorem side_max {s xs : List Int} {axis : Int} (h : (maxV s xs axis).2.2 = 0) : tokV s xs = true ∧ ∃ a : Nat, axis = (a : Int) ∧ a < s.length := by
  by_cases g : sideV s xs axis = 0
  · exact side_ok g
  · have e := side_err g greatV (-9223372036854775808)
    unfold maxV at h
    rw [e] at h
    exact absurd h g
/-- Max tells no error but that of the side. -/
theorem max_form {s xs : List Int} {a : Nat} (hi : I64s xs) (ht : tokV s xs = true) (ha : a < s.length) :
    maxV s xs a = (s.eraseIdx a, (List.range (sizeV (s.eraseIdx a)).toNat).map fun q : Nat => (lineL s xs a q).getD (fmI (lineL s xs a q)) 0, 0) := by
  have hsd := side_pos (ok_all (tok_iff.1 ht).1) ha
  have hk : ∀ q ∈ List.range (sizeV (s.eraseIdx a)).toNat, (fun q : Nat => tkL greatV (-9223372036854775808) (lineL s xs a q)) q = ((fun q : Nat => (lineL s xs a q).getD (fmI (lineL s xs a q)) 0) q, 0) := fun q _ => by
    refine tk_max (fun e => ?_) fun y hy => ?_
    · have := line_len s xs a q
      rw [e, List.length_nil] at this
      omega
    · unfold lineL at hy
      obtain ⟨i, _, rfl⟩ := List.mem_map.1 hy
      exact (getD_i64 hi _).1
  unfold maxV
  rw [tog_form ht ha]
  unfold togL
  rw [mapE_of hk, if_pos rfl]
theorem first_form {s xs : List Int} {a : Nat} (ht : tokV s xs = true) (ha : a < s.length) : firstV s xs a = (s, firstD s xs a, 0) := by
  unfold firstV
  rw [if_neg (by simp [ht]), if_neg (by omega), Int.toNat_natCast]
theorem first_err {s xs : List Int} {axis : Int} (h : sideV s xs axis ≠ 0) : firstV s xs axis = ([], [], sideV s xs axis) := by
  unfold sideV firstV at *
  by_cases h1 : tokV s xs = false
  · rw [if_pos h1, if_pos h1]
  · rw [if_neg h1] at h ⊢
    rw [if_neg h1]
    by_cases h2 : axis < 0 ∨ (s.length : Int) ≤ axis
    · rw [if_pos h2, if_pos h2]
    · rw [if_neg h2] at h; exact absurd rfl h

/-- What stands at First's loops: the tensor's box, the answer's, the box of the greatest ones. -/
structure Rf (w : World) (A : Option Addr) (n c : Nat) (B : Option Addr) (m d : Nat) (g : Nat) (C : Option Addr) (o e : Nat) (D : Option Addr) (p f : Nat) (W : World) : Prop where
  r : Rg w A n c B m d W
  x : Bk W g C o e D p f
theorem Rf.tr {w W W' : World} {A B C D : Option Addr} {n c m d g o e p f : Nat} (h : Rf w A n c B m d g C o e D p f W) (k : Kp W W') : Rf w A n c B m d g C o e D p f W' := ⟨h.r.tr k, h.x.kp k⟩

set_option maxHeartbeats 8000000 in
theorem pfirst_ok (A B : Option Addr) (c d : Nat) (s xs : List Int) (a : Nat) (w : World) (hA : Sl w A c s) (hB : Rd w B xs) (hi : I64s xs) (ht : tokV s xs = true) (ha : a < s.length) :
    Calls Try.prog 15 #[.agg #[.slice A s.length c, .slice B xs.length d], .int .i64 (a : Int)] w (RetT (firstV s xs a) w) := by
  have hlA := hA.rd.len
  obtain ⟨ho, hxl⟩ := tok_iff.1 ht
  have hs3 := (ok_iff.1 ho).1
  have hpo := ok_prod ho
  have hsd := side_pos (ok_all ho) ha
  have hoe := ok_erase ho ha
  have hpe := ok_prod hoe
  have hsz := size_ok hoe
  have F0 := Lib.hid (Rg.mk_ w A s.length c B xs.length d)
  have HT := Lib.hid (fun W (k : Kp w W) => pmax_any A B c d s xs a W (hA.kp k) (hB.kp k) hi)
  obtain ⟨N, hNN⟩ : ∃ N : Nat, sizeV (s.eraseIdx a) = (N : Int) := ⟨(sizeV (s.eraseIdx a)).toNat, by omega⟩
  have hmx := max_form hi ht ha
  rw [hNN, Int.toNat_natCast] at hmx
  obtain ⟨M, hM⟩ : ∃ M, M = (List.range N).map fun q : Nat => (lineL s xs a q).getD (fmI (lineL s xs a q)) 0 := ⟨_, rfl⟩
  rw [← hM] at hmx
  rw [hmx] at HT
  have HML : Hid (M.length = N) := by show _ = N; rw [hM]; simp
  have HMG : Hid (∀ q, q < N → M[q]? = some ((lineL s xs a q).getD (fmI (lineL s xs a q)) 0)) := fun q hq => by rw [hM, List.getElem?_map, List.getElem?_range hq]; rfl
  have HCL : Hid (∀ W, Kp w W → Calls Try.prog 35 #[.slice A s.length c] W (RetO s W)) := fun W k => clone_any A c s W (hA.rd.kp k) (by omega)
  have HPL : Hid (∀ W, Kp w W → Calls Try.prog 34 #[.slice A s.length c, .int .i64 (a : Int)] W fun e w' => ∃ b1 b2, e = .returned (.func (.func 63) #[] #[.pointer (some ⟨b1, 0, none⟩), .pointer (some ⟨b2, 0, none⟩)]) ∧ Plc s a b1 b2 w' ∧ Kp W w') := fun W k => placer_any A c s a W (hA.rd.kp k) hA.le ho ha
  have HP1 : Hid (∀ (q i : Nat) W b1 b2, q < N → (i : Int) < s.getD a 0 → Plc s a b1 b2 W → Calls Try.prog 63 #[.int .i64 (q : Int), .int .i64 (i : Int), .pointer (some ⟨b1, 0, none⟩), .pointer (some ⟨b2, 0, none⟩)] W fun e W' => e = .returned (.int .i64 (putP s a q i)) ∧ ∃ n, W' = W.drewN n) :=
    fun q i W b1 b2 hq hi h => placer1_any s a b1 b2 q i W ho ha (by omega) hi h
  have HPN : Hid (∀ (q i : Nat), q < N → (i : Int) < s.getD a 0 → ∃ m : Nat, putP s a q i = (m : Int) ∧ m < xs.length ∧ (lineL s xs a q)[i]? = some (xs.getD m 0) ∧ xs[m]? = some (xs.getD m 0)) := fun q i hq hi => put_nat ht ha (by omega) hi
  have HLL : Hid (∀ q, (lineL s xs a q).length = (s.getD a 0).toNat) := fun q => line_len s xs a q
  obtain ⟨D, hD⟩ : ∃ D : Nat, s.getD a 0 = (D : Int) := ⟨(s.getD a 0).toNat, by omega⟩
  rw [hD] at HP1 HPN HLL
  have HFM : Hid (∀ q, IsFm (lineL s xs a q) (fmI (lineL s xs a q)) ∧ fmI (lineL s xs a q) < D) := fun q => by
    have hne : lineL s xs a q ≠ [] := fun e => by
      have := HLL.out q
      rw [e, List.length_nil] at this
      omega
    have := fm_lt hne
    rw [HLL.out q] at this
    exact ⟨fm_is hne, by simpa using this⟩
  have HSTP : Hid (∀ k zs m, ShM.Fs s xs a k zs → k < N → putP s a k (fmI (lineL s xs a k)) = ((m : Nat) : Int) → ShM.Fs s xs a (k + 1) (zs.set m 4294967296)) := fun k zs m h hk hm => fs_step ht ha h (by omega) hm
  have HEND : Hid (∀ k zs, ShM.Fs s xs a k zs → ¬ k < N → firstV s xs a = (s, zs, 0)) := fun k zs h hk => by
    rw [first_form ht ha, fs_end ht ha h (by omega)]
  have HFS0 := Lib.hid (fs_start ht ha)
  have hx64 : xs.length ≤ 64 := by omega
  obtain ⟨cs, hmk, hown⟩ := mk_ xs.length (by omega)
  have HO := Lib.hid hown
  have HRB : Hid (Rd w B xs) := hB
  have HD16 : Hid (D ≤ 16 ∧ 0 < N ∧ N ≤ 64) := by show _ ∧ _; omega
  have HXL : Hid (xs.length ≤ 64 ∧ ∀ k zs, ShM.Fs s xs a k zs → k ≤ N ∧ zs.length = xs.length) := ⟨hx64, fun k zs h => ⟨by have := h.1; rw [hNN] at this; exact this, h.2.1⟩⟩
  have j1 : (0 : Int) ≤ (a : Int) := by omega
  have j2 : (a : Int) < (s.length : Int) := by omega
  obtain ⟨S, hS⟩ : ∃ S, S = s.eraseIdx a := ⟨_, rfl⟩
  rw [← hS] at HT
  generalize firstV s xs a = R at HEND ⊢
  clear hA hB ht ho hsd hi hxl hoe hpe hsz hNN hD hown hS hM hmx hpo
  go_enter Try.func15, Try.ntmps15
  go_wp2_with fail
  refine (HT.out _ F0.out.kp).mono ?_; rintro e0 w1 ⟨A2, c2, B2, d2, b, rfl, s2, hb, o2, ha2, k1⟩
  have F1 := Lib.hid (F0.out.tr k1)
  have X1 : Hid (Rf w A s.length c B xs.length d w1.heap.size A2 S.length c2 B2 M.length d2 (w1.alloc (.cells #[.slice A2 S.length c2, .slice B2 M.length d2] 24))) := ⟨F1.out.tr (Kp.alloc_ _ _), Bk.new rfl⟩
  have RM : Hid (Rd (w1.alloc (.cells #[.slice A2 S.length c2, .slice B2 M.length d2] 24)) B2 M) := o2.sl.rd.kp (Kp.alloc_ _ _)
  have t0 := F1.out.t.c0
  have t1 := F1.out.t.c1
  have tl : w.heap.size < w1.heap.size := F1.out.t.lt
  clear k1 s2 hb o2 ha2
  dsimp only
  go_wp2_with fail
  refine (HPL.out _ X1.out.r.kp).mono ?_; rintro e0 w4 ⟨b1, b2, rfl, p4, k4⟩
  have F4 := Lib.hid (X1.out.tr k4)
  have P4 := Lib.hid p4
  have RM4 := Lib.hid (RM.out.kp k4)
  clear k4 p4 t0 t1 tl F1 X1 RM
  have t0 := F4.out.r.t.c0
  have t1 := F4.out.r.t.c1
  have x1 := F4.out.x.c1
  have tl : w.heap.size < w4.heap.size := F4.out.r.t.lt
  have xl : w1.heap.size < w4.heap.size := F4.out.x.lt
  go_wp2
  go_loopw [34] (fun i wr => ∃ (k : Nat) (zs : List Int), i = .int .i64 k ∧ Hid (ShM.Fs s xs a k zs) ∧ Hid (Own w4.heap.size wr (.slice (some ⟨w4.heap.size, 0, none⟩) xs.length xs.length) zs) ∧ Hid (Kp w4 wr)) (fun i _ => N - (intOf i).toNat)
  case atStart => exact ⟨0, _, rfl, HFS0.out, HO.out w4 w4.heap.size (Nat.le_refl _), Kp.alloc_ _ _⟩
  case round =>
    obtain ⟨k, zs, rfl, hr, hown, hk⟩ := hrel
    obtain ⟨wo, hwo⟩ : ∃ wo : World, wo = wr := ⟨_, rfl⟩
    subst hwo
    have F5 := Lib.hid (F4.out.tr hk.out)
    have P5 := Lib.hid (P4.out.kp hk.out)
    obtain ⟨hkl, hzl⟩ := HXL.out.2 k zs hr.out
    have hx64 := HXL.out.1
    have hD16 := HD16.out
    clear t0 t1 x1 tl xl
    by_cases hlt : k < N
    · have hlt' : (k : Int) < (M.length : Int) := by rw [HML.out]; omega
      obtain ⟨v, hv⟩ : ∃ v, v = (lineL s xs a k).getD (fmI (lineL s xs a k)) 0 := ⟨_, rfl⟩
      have hMk := HMG.out k hlt
      rw [← hv] at hMk
      obtain ⟨md, v', rfl, hbm, hmv, hmc⟩ := RM4.out.at_ (k := k) (by rw [HML.out]; exact hlt)
      obtain rfl : v = v' := by rw [hMk] at hmv; exact Option.some.inj hmv
      have hmc' : wo.cell? (md.add k) = some (.int .i64 v) := (hk.out.cell (p := md.add k) (by rw [block_of_add]; exact hbm)).trans hmc
      obtain ⟨⟨y, hy1, _, hy3⟩, hfD⟩ := HFM.out k
      have hyv : y = v := by rw [hv, List.getD, hy1]; rfl
      subst hyv
      have HPK : Hid (∀ (i : Nat), i < D → ∃ m : Nat, putP s a k i = (m : Int) ∧ m < xs.length ∧ (lineL s xs a k)[i]? = some (xs.getD m 0) ∧ xs[m]? = some (xs.getD m 0)) := fun i hi => HPN.out k i hlt (by omega)
      have HP2 : Hid (∀ (i : Nat) W, i < D → Kp wo W → Calls Try.prog 63 #[.int .i64 (k : Int), .int .i64 (i : Int), .pointer (some ⟨b1, 0, none⟩), .pointer (some ⟨b2, 0, none⟩)] W fun e W' => e = .returned (.int .i64 (putP s a k i)) ∧ ∃ n, W' = W.drewN n) :=
        fun i W hi kw => HP1.out k i W b1 b2 hlt (by omega) (P5.out.kp kw)
      have HST := Lib.hid (fun m hm => HSTP.out k zs m hr.out hlt hm)
      have HL3 : Hid (∀ (j : Nat) (u : Int), j < fmI (lineL s xs a k) → (lineL s xs a k)[j]? = some u → u < y) := fun j u h1 h2 => hy3 j u h1 h2
      have HL1 : Hid ((lineL s xs a k)[fmI (lineL s xs a k)]? = some y) := hy1
      generalize fmI (lineL s xs a k) = f at hfD HST HL3 HL1
      have t0 := F5.out.r.t.c0
      have t1 := F5.out.r.t.c1
      clear hv hMk hmv hmc hbm hy1 hy3
      go_wp2
      go_loopw [12] (fun i wx => ∃ (j : Nat), i = .int .i64 j ∧ Hid (j ≤ f) ∧ Hid (∃ n, wx = wo.drewN n)) (fun i _ => f - (intOf i).toNat)
      case atStart => exact ⟨0, rfl, Nat.zero_le _, ⟨0, rfl⟩⟩
      case round =>
        obtain ⟨j, rfl, hj, hn⟩ := hrel
        have KX : Hid (Kp wo wr) := by obtain ⟨n, e⟩ := hn.out; show Kp wo wr; rw [e]; exact Kp.drewN_ _ _
        have F6 := Lib.hid (F5.out.tr KX.out)
        have hjf : j ≤ f := hj.out
        clear t0 t1
        have t0 := F6.out.r.t.c0
        have t1 := F6.out.r.t.c1
        obtain ⟨m, hm1, hm2, hm3, hm4⟩ := HPK.out j (by omega)
        obtain ⟨bd, u, hBe, hbv, hu, hcv⟩ := HRB.out.at_ hm2
        have huu : xs.getD m 0 = u := by rw [hu] at hm4; injection hm4 with e; exact e.symm
        rw [huu] at hm3 hm4
        have hcv' : wr.cell? (bd.add m) = some (.int .i64 u) := (F6.out.r.kp.cell (p := bd.add m) (by rw [block_of_add]; exact hbv)).trans hcv
        have HQ2 : Hid (∀ m', Calls Try.prog 63 #[.int .i64 (k : Int), .int .i64 (j : Int), .pointer (some ⟨b1, 0, none⟩), .pointer (some ⟨b2, 0, none⟩)] (wr.drewN m') fun e W' => e = .returned (.int .i64 (m : Int)) ∧ ∃ n', W' = (wr.drewN m').drewN n') := fun m' => by
          have hh := HP2.out j (wr.drewN m') (by omega) (KX.out.tr (Kp.drewN_ _ _))
          rw [hm1] at hh
          exact hh
        have i1 : (0 : Int) ≤ (m : Int) := by omega
        have i2 : (m : Int) < (xs.length : Int) := by omega
        subst hBe
        by_cases hjf2 : j = f
        · subst hjf2
          obtain rfl : u = y := by have := HL1.out; rw [hm3] at this; exact Option.some.inj this
          have hne : (u != u) = false := by simp
          have HS2 := Lib.hid (HST.out m hm1)
          have HW := Lib.hid (hown.out.kp KX.out)
          have hzm : m < zs.length := by omega
          have HK5 := Lib.hid (hk.out.tr KX.out)
          clear hm1 hm3 hm4 hu hcv huu
          go_wp2
          go_quiet (first | (go_at_call 63; exact quiet_of (HQ2.out _)))
          go_wp2_with fail
          refine (HQ2.out _).mono ?_; rintro e0 w9 ⟨rfl, n9, hw9⟩
          have KW9 : Hid (Kp wr w9) := by show Kp wr w9; rw [hw9]; exact (Kp.drewN_ _ _).tr (Kp.drewN_ _ _)
          clear hw9
          have HW := Lib.hid (HW.out.kp KW9.out)
          have hcz := HW.out.cell_ (j := m) (List.getElem?_eq_getElem hzm)
          have hfz := HW.out.froz_ m
          have HK5 := Lib.hid (HK5.out.tr KW9.out)
          go_wp2
          go_roundw
          case rel => exact ⟨k + 1, _, by go_num, HS2.out, HW.out.set_ _ _, HK5.out.setCell (p := ⟨w4.heap.size, m, none⟩) (Nat.le_refl _) _⟩
          case measure => simp [intOf]; omega
        · have hlt2 := HL3.out j u (by omega) hm3
          have hne : (u != y) = true := by rw [bne_iff_ne]; omega
          clear hm1 hm3 hm4 hu hcv huu
          go_wp2
          go_quiet (first | (go_at_call 63; exact quiet_of (HQ2.out _)))
          go_wp2
          go_roundw
          case rel => exact ⟨j + 1, by go_num, Lib.hid (by omega), by obtain ⟨n, e⟩ := hn.out; exact ⟨_, by rw [e]; exact World.drewN_drewN _ _ _⟩⟩
          case measure => simp [intOf]; omega
    · have hlt' : ¬ (k : Int) < (M.length : Int) := by rw [HML.out]; omega
      have HE := Lib.hid (HEND.out k zs hr.out hlt)
      have HZL := Lib.hid hzl
      have t0 := F5.out.r.t.c0
      have t1 := F5.out.r.t.c1
      clear hzl
      go_wp2_with fail
      refine (HCL.out _ F5.out.r.kp).mono ?_; rintro e0 w6 ⟨A6, c6, rfl, o6, k6⟩
      have F7 := Lib.hid (F5.out.tr k6)
      have R6 := Lib.hid o6.sl.rd
      have W6 := Lib.hid (hown.out.kp k6).sl.rd
      clear k6 o6 t0 t1
      have r0 := F7.out.r.o.c0
      have r1 := F7.out.r.o.c1
      have u0 := F7.out.r.o.f0 0
      have u1 := F7.out.r.o.f0 1
      go_wp2
      refine bodyPost_ret (v := .tuple #[.agg #[.slice A6 s.length c6, .slice (some ⟨w4.heap.size, 0, none⟩) xs.length xs.length], .int .i64 0]) (by simp [results, Try.results15, go_sem, r0, r1]; try rfl) rfl ?_
      exact RetT.on HE.out rfl HZL.out.symm (R6.out.past F7.out.r.o _ _) (W6.out.past F7.out.r.o _ _) (F7.out.r.end_ _ _)

set_option maxHeartbeats 2000000 in
theorem pfirst_err (A B : Option Addr) (c d : Nat) (s xs : List Int) (axis : Int) (w : World) (hA : Sl w A c s) (hB : Rd w B xs) (hi : I64s xs) (h : sideV s xs axis ≠ 0) :
    Calls Try.prog 15 #[.agg #[.slice A s.length c, .slice B xs.length d], .int .i64 axis] w (RetT (firstV s xs axis) w) := by
  have F0 := Lib.hid (Rg.mk_ w A s.length c B xs.length d)
  have HT := Lib.hid (fun W (k : Kp w W) => pmax_any A B c d s xs axis W (hA.kp k) (hB.kp k) hi)
  have HF : Hid (firstV s xs axis = ([], [], sideV s xs axis)) := first_err h
  have hm : maxV s xs axis = ([], [], sideV s xs axis) := side_err h greatV _
  rw [hm] at HT
  generalize sideV s xs axis = er at HT HF h
  have he : (er != 0) = true := by simpa using h
  clear hA hB hi hm h
  go_enter Try.func15, Try.ntmps15
  go_wp2_with fail
  refine (HT.out _ F0.out.kp).mono ?_; rintro e0 w1 ⟨A2, c2, B2, d2, b, rfl, s2, hb, o2, ha2, k1⟩
  have F1 := Lib.hid (F0.out.tr k1)
  clear k1 s2 hb o2 ha2
  have rl := F1.out.o.lt
  have v0 := F1.out.o.c0
  have v1 := F1.out.o.c1
  have v2 := F1.out.o.f0 0
  have v3 := F1.out.o.f0 1
  have rne : ¬ w.heap.size + 1 = w1.heap.size := by omega
  dsimp only
  go_wp2
  refine bodyPost_ret (v := .tuple #[.agg #[.slice none 0 0, .slice none 0 0], .int .i64 er]) (by simp [results, Try.results15, go_sem, v0, v1, rl]; try rfl) rfl ?_
  exact RetT.err HF.out ((F1.out.end_ _ _).al _)

theorem pfirst_any (A B : Option Addr) (c d : Nat) (s xs : List Int) (axis : Int) (w : World) (hA : Sl w A c s) (hB : Rd w B xs) (hi : I64s xs) :
    Calls Try.prog 15 #[.agg #[.slice A s.length c, .slice B xs.length d], .int .i64 axis] w (RetT (firstV s xs axis) w) := by
  by_cases h : sideV s xs axis = 0
  · obtain ⟨ht, a, rfl, ha⟩ := side_ok h
    exact pfirst_ok A B c d s xs a w hA hB hi ht ha
  · exact pfirst_err A B c d s xs axis w hA hB hi h
end Go.Proofs.Ytpglchimghnpeaa
