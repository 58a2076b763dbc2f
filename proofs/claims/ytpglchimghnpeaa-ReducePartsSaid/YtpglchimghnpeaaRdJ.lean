/- The program's Grow of layer 6 (reduce). -/
import Derived.Test.YtpglchimghnpeaaRdE
namespace Go.Proofs.Ytpglchimghnpeaa
open Go.RowKit Go.Proofs.ShM Go.Proofs.FixM
set_option linter.unusedVariables false

set_option maxHeartbeats 4000000 in
theorem pgrow_tok (A B : Option Addr) (c d : Nat) (s xs : List Int) (axis n : Int) (w : World) (hA : Rd w A s) (hB : Rd w B xs) (ht : tokV s xs = false) :
    Calls Try.prog 17 #[.agg #[.slice A s.length c, .slice B xs.length d], .int .i64 axis, .int .i64 n] w (RetT (growV s xs axis n) w) := by
  have hlA := hA.len
  have hlB := hB.len
  have F0 := Lib.hid (Rg.mk_ w A s.length c B xs.length d)
  have HT := Lib.hid (tcheck_any A B c d s xs _ (hA.kp F0.out.kp) (hB.kp F0.out.kp))
  rw [ht] at HT
  have HF : Hid (growV s xs axis n = ([], [], 30)) := by show growV s xs axis n = _; unfold growV; rw [if_pos ht]
  clear hA hB ht
  go_enter Try.func17, Try.ntmps17
  go_wp2_with fail
  refine (Calls.mono (Hid.out HT)) ?_; rintro e0 w1 ⟨rfl, k1⟩
  have F1 := Lib.hid (F0.out.tr k1)
  clear k1
  have r0 := F1.out.o.c0
  have r1 := F1.out.o.c1
  have u0 := F1.out.o.f0 0
  have u1 := F1.out.o.f0 1
  go_wp2
  refine bodyPost_ret (v := .tuple #[.agg #[.slice none 0 0, .slice none 0 0], .int .i64 30]) (by simp [results, Try.results17, go_sem, r0, r1]; try rfl) rfl ?_
  exact RetT.err HF.out (F1.out.end_ _ _)

set_option maxHeartbeats 4000000 in
theorem pgrow_side (A B : Option Addr) (c d : Nat) (s xs : List Int) (axis n : Int) (w : World) (hA : Rd w A s) (hB : Rd w B xs) (ht : tokV s xs = true) (hx : axis < 0 ∨ (s.length : Int) < axis) :
    Calls Try.prog 17 #[.agg #[.slice A s.length c, .slice B xs.length d], .int .i64 axis, .int .i64 n] w (RetT (growV s xs axis n) w) := by
  have hlA := hA.len
  have hlB := hB.len
  have F0 := Lib.hid (Rg.mk_ w A s.length c B xs.length d)
  have HT := Lib.hid (tcheck_any A B c d s xs _ (hA.kp F0.out.kp) (hB.kp F0.out.kp))
  rw [ht] at HT
  have HF : Hid (growV s xs axis n = ([], [], 20)) := by show growV s xs axis n = _; unfold growV; rw [if_neg (by simp [ht]), if_pos (by omega)]
  clear hA hB ht
  by_cases h0 : axis < 0
  · clear hx
    go_enter Try.func17, Try.ntmps17
    go_wp2_with fail
    refine (Calls.mono (Hid.out HT)) ?_; rintro e0 w1 ⟨rfl, k1⟩
    have F1 := Lib.hid (F0.out.tr k1)
    clear k1
    have t0 := F1.out.t.c0
    have t1 := F1.out.t.c1
    have r0 := F1.out.o.c0
    have r1 := F1.out.o.c1
    have u0 := F1.out.o.f0 0
    have u1 := F1.out.o.f0 1
    go_wp2
    refine bodyPost_ret (v := .tuple #[.agg #[.slice none 0 0, .slice none 0 0], .int .i64 20]) (by simp [results, Try.results17, go_sem, r0, r1]; try rfl) rfl ?_
    exact RetT.err HF.out (F1.out.end_ _ _)
  · have h1 : (s.length : Int) < axis := by omega
    clear hx
    go_enter Try.func17, Try.ntmps17
    go_wp2_with fail
    refine (Calls.mono (Hid.out HT)) ?_; rintro e0 w1 ⟨rfl, k1⟩
    have F1 := Lib.hid (F0.out.tr k1)
    clear k1
    have t0 := F1.out.t.c0
    have t1 := F1.out.t.c1
    have r0 := F1.out.o.c0
    have r1 := F1.out.o.c1
    have u0 := F1.out.o.f0 0
    have u1 := F1.out.o.f0 1
    go_wp2
    refine bodyPost_ret (v := .tuple #[.agg #[.slice none 0 0, .slice none 0 0], .int .i64 20]) (by simp [results, Try.results17, go_sem, r0, r1]; try rfl) rfl ?_
    exact RetT.err HF.out (F1.out.end_ _ _)

set_option maxHeartbeats 8000000 in
theorem pgrow_ok (A B : Option Addr) (c d : Nat) (s xs : List Int) (a : Nat) (n : Int) (w : World) (hA : Rd w A s) (hB : Rd w B xs) (ht : tokV s xs = true) (ha : a ≤ s.length) :
    Calls Try.prog 17 #[.agg #[.slice A s.length c, .slice B xs.length d], .int .i64 (a : Int), .int .i64 n] w (RetT (growV s xs a n) w) := by
  have hlA := hA.len
  have hlB := hB.len
  obtain ⟨hos, hxl⟩ := tok_iff.1 ht
  have hs3 := (ok_iff.1 hos).1
  have F0 := Lib.hid (Rg.mk_ w A s.length c B xs.length d)
  have HT := Lib.hid (tcheck_any A B c d s xs _ (hA.kp F0.out.kp) (hB.kp F0.out.kp))
  rw [ht] at HT
  have HCL : Hid (∀ W, Kp w W → Calls Try.prog 35 #[.slice A s.length c] W (RetO s W)) := fun W k => clone_any A c s W (hA.kp k) (by omega)
  have HIN : Hid (∀ W A1 c1 b vb, Own b W (.slice A1 s.length c1) s → b ≤ W.heap.size → W.heap[vb]? = some (.cells #[.int .i64 n] 3 (0, 0)) → (∀ g, A1 = some ⟨g, 0, none⟩ → vb ≠ g) → Calls Try.prog 38 #[.slice A1 s.length c1, .int .i64 (a : Int), .slice (some ⟨vb, 0, none⟩) 1 1] W (RetI b (inL s a n) W)) :=
    fun W A1 c1 b vb h hb hv hne => pinsert_any A1 c1 b vb a s n W h (by omega) ha hb hv hne
  have HCK : Hid (∀ W A1 c1, Rd W A1 (inL s a n) → Calls Try.prog 39 #[.slice A1 (inL s a n).length c1] W fun e w' => e = .returned (.bool (okS (inL s a n))) ∧ W = w') := fun W A1 c1 r => check_any A1 c1 _ W r
  have j0 : ¬ (a : Int) < 0 := by omega
  have j1 : (0 : Int) ≤ (a : Int) := by omega
  have j3 : ¬ (s.length : Int) < (a : Int) := by omega
  cases hog : okS (inL s a n) with
  | false =>
    rw [hog] at HCK
    have HF : Hid (growV s xs a n = ([], [], 20)) := by show growV s xs a n = _; unfold growV; rw [if_neg (by simp [ht]), if_pos (by rw [Int.toNat_natCast]; exact .inr (.inr hog))]
    generalize inL s a n = G at HIN HCK
    clear hA hB ht hos hxl hog
    go_enter Try.func17, Try.ntmps17
    go_wp2_with fail
    refine (Calls.mono (Hid.out HT)) ?_; rintro e0 w1 ⟨rfl, k1⟩
    have F1 := Lib.hid (F0.out.tr k1)
    clear k1
    have t0 := F1.out.t.c0
    have t1 := F1.out.t.c1
    go_wp2_with fail
    refine (HCL.out _ F1.out.kp).mono ?_; rintro e0 w2 ⟨A2, c2, rfl, o2, k2⟩
    have K2 := Lib.hid k2
    have O2 := Lib.hid o2
    clear k2 o2 t0 t1
    go_wp2_with fail
    refine (HIN.out _ A2 c2 w1.heap.size w2.heap.size (O2.out.kp (Kp.alloc_ _ _)) (K2.out.al _).size (World.alloc_heap_new w2 _) (fun g e => by have := (O2.out.ad e).2; have h2 : g < w2.heap.size := this; omega)).mono ?_
    rintro e0 w3 ⟨A3, c3, rfl, s3, k3⟩
    have F3 := Lib.hid (F1.out.tr ((K2.out.al _).trans k3))
    have S3 := Lib.hid s3
    clear k3 s3
    go_wp2_with fail
    refine (HCK.out _ _ _ S3.out.rd).mono ?_; rintro e0 w4 ⟨rfl, rfl⟩
    have r0 := F3.out.o.c0
    have r1 := F3.out.o.c1
    have u0 := F3.out.o.f0 0
    have u1 := F3.out.o.f0 1
    go_wp2
    refine bodyPost_ret (v := .tuple #[.agg #[.slice none 0 0, .slice none 0 0], .int .i64 20]) (by simp [results, Try.results17, go_sem, r0, r1]; try rfl) rfl ?_
    exact RetT.err HF.out (F3.out.end_ _ _)
  | true =>
    rw [hog] at HCK
    have hal : a < (inL s a n).length := by rw [inL_len ha]; omega
    have hsd := side_pos (ok_all hog) hal
    rw [inL_getD ha] at hsd
    have hpg := ok_prod hog
    have hsg := size_ok hog
    obtain ⟨D, rfl⟩ : ∃ D : Nat, n = (D : Int) := ⟨n.toNat, by omega⟩
    have HF : Hid (growV s xs a D = (inL s a D, growD s xs a D, 0)) := by show growV s xs a D = _; unfold growV; rw [if_neg (by simp [ht]), Int.toNat_natCast, if_neg (fun h => by rcases h with h | h | h <;> first | omega | (rw [hog] at h; cases h))]
    obtain ⟨N, hNN⟩ : ∃ N : Nat, sizeV (inL s a D) = (N : Int) := ⟨(sizeV (inL s a D)).toNat, by omega⟩
    have HPL : Hid (∀ W A1 c1, Sl W A1 c1 (inL s a D) → Calls Try.prog 34 #[.slice A1 (inL s a D).length c1, .int .i64 (a : Int)] W fun e w' => ∃ b1 b2, e = .returned (.func (.func 63) #[] #[.pointer (some ⟨b1, 0, none⟩), .pointer (some ⟨b2, 0, none⟩)]) ∧ Plc (inL s a D) a b1 b2 w' ∧ Kp W w') := fun W A1 c1 h => placer_any A1 c1 _ a W h.rd h.le hog hal
    have HSZ : Hid (∀ W A1 c1, Rd W A1 (inL s a D) → Calls Try.prog 40 #[.slice A1 (inL s a D).length c1] W fun e w' => e = .returned (.int .i64 (N : Int)) ∧ W = w') := fun W A1 c1 r => by
      have hh := size_any A1 c1 (inL s a D) W r
      rw [hNN] at hh
      exact hh
    have heq : sizeV ((inL s a D).eraseIdx a) = (xs.length : Int) := by rw [erase_inL ha, size_ok hos]; exact hxl.symm
    have HP1 : Hid (∀ (q i : Nat) W b1 b2, q < xs.length → i < D → Plc (inL s a D) a b1 b2 W → Calls Try.prog 63 #[.int .i64 (q : Int), .int .i64 (i : Int), .pointer (some ⟨b1, 0, none⟩), .pointer (some ⟨b2, 0, none⟩)] W fun e W' => e = .returned (.int .i64 (putP (inL s a D) a q i)) ∧ ∃ n, W' = W.drewN n) :=
      fun q i W b1 b2 hq hi h => placer1_any (inL s a D) a b1 b2 q i W hog hal (by omega) (by rw [inL_getD ha]; omega) h
    have HPUT : Hid (∀ (k i : Nat) zs x, Gs (inL s a D) xs a k i zs → xs[k]? = some x → i < D → ∃ m : Nat, putP (inL s a D) a k i = (m : Int) ∧ m < zs.length ∧ Gs (inL s a D) xs a k (i + 1) (zs.set m x)) := fun k i zs x h hx hi => by
      have hk := (List.getElem?_eq_some_iff.1 hx).1
      have hk2 : (k : Int) < prodS ((inL s a D).eraseIdx a) := by rw [erase_inL ha]; omega
      have hi2 : (i : Int) < (inL s a D).getD a 0 := by rw [inL_getD ha]; omega
      obtain ⟨r1, r2, _, _⟩ := put_range (ok_all hog) hal (q := k) (i := i) (by omega) hk2 (by omega) hi2
      have hm : putP (inL s a D) a k i = ((putP (inL s a D) a k i).toNat : Int) := by omega
      obtain ⟨h1, h2⟩ := gs_put hog hal h hx hk2 hi2 hm
      exact ⟨_, hm, h1, h2⟩
    have HNX : Hid (∀ (k i : Nat) zs, Gs (inL s a D) xs a k i zs → k < xs.length → ¬ i < D → Gs (inL s a D) xs a (k + 1) 0 zs) := fun k i zs h hk hi => gs_next hog hal h hk (by rw [inL_getD ha]; omega)
    have HEND : Hid (∀ (k i : Nat) zs, Gs (inL s a D) xs a k i zs → ¬ k < xs.length → growV s xs a D = (inL s a D, zs, 0)) := fun k i zs h hk => by rw [HF.out, gs_end ht ha hog h hk]
    have HG0 : Hid (Gs (inL s a D) xs a 0 0 (List.replicate N 0)) := by
      have := gs_start xs hog hal
      rw [hNN, Int.toNat_natCast] at this
      exact this
    have HGL : Hid (∀ (k i : Nat) zs, Gs (inL s a D) xs a k i zs → k ≤ xs.length ∧ zs.length = N) := fun k i zs h => ⟨h.1, by have := h.2.1; rw [hNN] at this; exact this⟩
    obtain ⟨cs, hmk, hown⟩ := mk_ N (by omega)
    have HO := Lib.hid hown
    have HRB : Hid (Rd w B xs) := hB
    have HD16 : Hid (D ≤ 16 ∧ N ≤ 64 ∧ xs.length ≤ 64) := by
      have := ok_prod hos
      show _ ∧ _ ∧ _
      omega
    obtain ⟨G, hG⟩ : ∃ G, G = inL s a D := ⟨_, rfl⟩
    rw [← hG] at HIN HCK HPL HSZ HP1 HPUT HNX HEND HG0 HGL
    generalize growV s xs a D = R at HEND ⊢
    clear hA hB ht hos hxl hog hal hsd hpg hsg HF hNN heq hG hown
    go_enter Try.func17, Try.ntmps17
    go_wp2_with fail
    refine (Calls.mono (Hid.out HT)) ?_; rintro e0 w1 ⟨rfl, k1⟩
    have F1 := Lib.hid (F0.out.tr k1)
    clear k1
    have t0 := F1.out.t.c0
    have t1 := F1.out.t.c1
    go_wp2_with fail
    refine (HCL.out _ F1.out.kp).mono ?_; rintro e0 w2 ⟨A2, c2, rfl, o2, k2⟩
    have K2 := Lib.hid k2
    have O2 := Lib.hid o2
    clear k2 o2 t0 t1
    go_wp2_with fail
    refine (HIN.out _ A2 c2 w1.heap.size w2.heap.size (O2.out.kp (Kp.alloc_ _ _)) (K2.out.al _).size (World.alloc_heap_new w2 _) (fun g e => by have := (O2.out.ad e).2; have h2 : g < w2.heap.size := this; omega)).mono ?_
    rintro e0 w3 ⟨A3, c3, rfl, s3, k3⟩
    have F3 := Lib.hid (F1.out.tr ((K2.out.al _).trans k3))
    have S3 := Lib.hid s3
    clear k3 s3
    go_wp2_with fail
    refine (HCK.out _ _ _ S3.out.rd).mono ?_; rintro e0 w4 ⟨rfl, rfl⟩
    go_wp2_with fail
    refine (HPL.out _ _ _ S3.out).mono ?_; rintro e0 w4 ⟨b1, b2, rfl, p4, k4⟩
    have F4 := Lib.hid (F3.out.tr k4)
    have S4 := Lib.hid (S3.out.kp k4)
    have P4 := Lib.hid p4
    clear k4 p4
    go_wp2_with fail
    refine (HSZ.out _ _ _ S4.out.rd).mono ?_; rintro e0 w5 ⟨rfl, rfl⟩
    have t0 := F4.out.t.c0
    have t1 := F4.out.t.c1
    have tl : w.heap.size < w4.heap.size := F4.out.t.lt
    go_wp2
    go_loopw [48] (fun i wr => ∃ (k : Nat) (zs : List Int), i = .int .i64 k ∧ Hid (Gs G xs a k 0 zs) ∧ Hid (Own w4.heap.size wr (.slice (some ⟨w4.heap.size, 0, none⟩) N N) zs) ∧ Hid (Kp w4 wr)) (fun i _ => xs.length - (intOf i).toNat)
    case atStart => exact ⟨0, _, rfl, HG0.out, HO.out w4 w4.heap.size (Nat.le_refl _), Kp.alloc_ _ _⟩
    case round =>
      obtain ⟨k, zs, rfl, hr, hown, hk⟩ := hrel
      clear t0 t1 tl
      have F5 := Lib.hid (F4.out.tr hk.out)
      obtain ⟨hkl, hzl⟩ := HGL.out k 0 zs hr.out
      have hD16 := HD16.out
      by_cases hlt : k < xs.length
      · have hlt' : (k : Int) < (xs.length : Int) := by omega
        obtain ⟨bd, x, hBe, hbv, hx, hcv⟩ := HRB.out.at_ hlt
        have hcv' : wr.cell? (bd.add k) = some (.int .i64 x) := (F5.out.kp.cell (p := bd.add k) (by rw [block_of_add]; exact hbv)).trans hcv
        have HX := Lib.hid hx
        subst hBe
        clear hcv hbv hx
        go_wp2
        go_loopw [54] (fun i wx => ∃ (j : Nat) (ys : List Int), i = .int .i64 j ∧ Hid (Gs G xs a k j ys) ∧ Hid (j ≤ D) ∧ Hid (Own w4.heap.size wx (.slice (some ⟨w4.heap.size, 0, none⟩) N N) ys) ∧ Hid (Kp w4 wx)) (fun i _ => D - (intOf i).toNat)
        case atStart => exact ⟨0, zs, rfl, hr.out, Nat.zero_le _, hown.out, hk.out⟩
        case round =>
          obtain ⟨j, ys, rfl, hg, hjD, ho, hk2⟩ := hrel
          have hjl : j ≤ D := hjD.out
          have P6 := Lib.hid (P4.out.kp hk2.out)
          by_cases hj : j < D
          · have hj' : (j : Int) < (D : Int) := by omega
            obtain ⟨m, hm1, hm2, hm3⟩ := HPUT.out k j ys x hg.out HX.out hj
            have HG3 := Lib.hid hm3
            have hyl := (HGL.out k j ys hg.out).2
            have HQ := Lib.hid (HP1.out k j wr b1 b2 hlt hj P6.out)
            rw [hm1] at HQ
            have i1 : (0 : Int) ≤ (m : Int) := by omega
            have i2 : (m : Int) < (N : Int) := by omega
            clear hm1 hm3
            go_wp2_with fail
            refine HQ.out.mono ?_; rintro e0 w9 ⟨rfl, n9, rfl⟩
            have HW := Lib.hid (ho.out.drewN n9)
            have hcz := HW.out.cell_ (j := m) (List.getElem?_eq_getElem hm2)
            have hfz := HW.out.froz_ m
            have HK5 := Lib.hid (hk2.out.tr (Kp.drewN_ _ n9))
            clear hyl
            go_wp2
            go_roundw
            case rel => exact ⟨j + 1, _, by go_num, HG3.out, Lib.hid (by omega), HW.out.set_ _ _, HK5.out.setCell (p := ⟨w4.heap.size, m, none⟩) (Nat.le_refl _) _⟩
            case measure => simp [intOf]; omega
          · have hj' : ¬ (j : Int) < (D : Int) := by omega
            have HG3 := Lib.hid (HNX.out k j ys hg.out hlt hj)
            go_wp2
            go_roundw
            case rel => exact ⟨k + 1, ys, by go_num, HG3.out, ho.out, hk2.out⟩
            case measure => simp [intOf]; omega
      · have hlt' : ¬ (k : Int) < (xs.length : Int) := by omega
        have HE := Lib.hid (HEND.out k 0 zs hr.out hlt)
        have HZL := Lib.hid hzl
        have r0 := F5.out.o.c0
        have r1 := F5.out.o.c1
        have u0 := F5.out.o.f0 0
        have u1 := F5.out.o.f0 1
        clear hzl
        go_wp2
        refine bodyPost_ret (v := .tuple #[.agg #[.slice A3 G.length c3, .slice (some ⟨w4.heap.size, 0, none⟩) N N], .int .i64 0]) (by simp [results, Try.results17, go_sem, r0, r1]; try rfl) rfl ?_
        exact RetT.on HE.out rfl HZL.out.symm ((S4.out.kp hk.out).rd.past F5.out.o _ _) (hown.out.sl.rd.past F5.out.o _ _) (F5.out.end_ _ _)

theorem pgrow_any (A B : Option Addr) (c d : Nat) (s xs : List Int) (axis n : Int) (w : World) (hA : Rd w A s) (hB : Rd w B xs) :
    Calls Try.prog 17 #[.agg #[.slice A s.length c, .slice B xs.length d], .int .i64 axis, .int .i64 n] w (RetT (growV s xs axis n) w) := by
  cases ht : tokV s xs with
  | false => exact pgrow_tok A B c d s xs axis n w hA hB ht
  | true =>
    by_cases hx : axis < 0 ∨ (s.length : Int) < axis
    · exact pgrow_side A B c d s xs axis n w hA hB ht hx
    · obtain ⟨a, rfl⟩ : ∃ a : Nat, axis = (a : Int) := ⟨axis.toNat, by omega⟩
      exact pgrow_ok A B c d s xs a n w hA hB ht (by omega)
end Go.Proofs.Ytpglchimghnpeaa
