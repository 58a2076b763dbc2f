/- The document's Grow of layer 6 (fullerref06). -/
import Derived.Test.YtpglchimghnpeaaRdD
namespace Go.Proofs.Ytpglchimghnpeaa
open Go.RowKit Go.Proofs.ShM Go.Proofs.FixM
set_option linter.unusedVariables false

set_option maxHeartbeats 4000000 in
theorem rgrow_tok (A B : Option Addr) (c d : Nat) (s xs : List Int) (axis n : Int) (w : World) (hA : Sl w A c s) (hB : Rd w B xs) (ht : tokV s xs = false) :
    Calls Try.prog 18 #[.agg #[.slice A s.length c, .slice B xs.length d], .int .i64 axis, .int .i64 n] w (RetT (growV s xs axis n) w) := by
  have hlA := hA.rd.len
  have hlB := hB.len
  have F0 := Lib.hid (Rg.mk_ w A s.length c B xs.length d)
  have HT := Lib.hid (rtcheck_any A B c d s xs _ (hA.rd.kp F0.out.kp) (hB.kp F0.out.kp))
  rw [ht] at HT
  have HF : Hid (growV s xs axis n = ([], [], 30)) := by show growV s xs axis n = _; unfold growV; rw [if_pos ht]
  clear hA hB ht
  go_enter Try.func18, Try.ntmps18
  go_wp2_with fail
  refine (Calls.mono (Hid.out HT)) ?_; rintro e0 w1 ⟨rfl, k1⟩
  have F1 := Lib.hid (F0.out.tr k1)
  clear k1
  have r0 := F1.out.o.c0
  have r1 := F1.out.o.c1
  have u0 := F1.out.o.f0 0
  have u1 := F1.out.o.f0 1
  go_wp2
  refine bodyPost_ret (v := .tuple #[.agg #[.slice none 0 0, .slice none 0 0], .int .i64 30]) (by simp [results, Try.results18, go_sem, r0, r1]; try rfl) rfl ?_
  exact RetT.err HF.out (F1.out.end_ _ _)

set_option maxHeartbeats 4000000 in
theorem rgrow_side (A B : Option Addr) (c d : Nat) (s xs : List Int) (axis n : Int) (w : World) (hA : Sl w A c s) (hB : Rd w B xs) (ht : tokV s xs = true) (hx : axis < 0 ∨ (s.length : Int) < axis) :
    Calls Try.prog 18 #[.agg #[.slice A s.length c, .slice B xs.length d], .int .i64 axis, .int .i64 n] w (RetT (growV s xs axis n) w) := by
  have hlA := hA.rd.len
  have hlB := hB.len
  have F0 := Lib.hid (Rg.mk_ w A s.length c B xs.length d)
  have HT := Lib.hid (rtcheck_any A B c d s xs _ (hA.rd.kp F0.out.kp) (hB.kp F0.out.kp))
  rw [ht] at HT
  have HF : Hid (growV s xs axis n = ([], [], 20)) := by show growV s xs axis n = _; unfold growV; rw [if_neg (by simp [ht]), if_pos (by omega)]
  clear hA hB ht
  by_cases h0 : axis < 0
  · clear hx
    go_enter Try.func18, Try.ntmps18
    go_wp2_with fail
    refine (Calls.mono (Hid.out HT)) ?_; rintro e0 w1 ⟨rfl, k1⟩
    have F1 := Lib.hid (F0.out.tr k1)
    clear k1
    have t0 := F1.out.t.c0
    have t1 := F1.out.t.c1
    have r0 := F1.out.o.c0
    have r1 := F1.out.o.c1
    have u0 := F1.out.o.f0 0
    have u1 := F1.out.o.f0 1
    go_wp2
    refine bodyPost_ret (v := .tuple #[.agg #[.slice none 0 0, .slice none 0 0], .int .i64 20]) (by simp [results, Try.results18, go_sem, r0, r1]; try rfl) rfl ?_
    exact RetT.err HF.out (F1.out.end_ _ _)
  · have h1 : (s.length : Int) < axis := by omega
    clear hx
    go_enter Try.func18, Try.ntmps18
    go_wp2_with fail
    refine (Calls.mono (Hid.out HT)) ?_; rintro e0 w1 ⟨rfl, k1⟩
    have F1 := Lib.hid (F0.out.tr k1)
    clear k1
    have t0 := F1.out.t.c0
    have t1 := F1.out.t.c1
    have r0 := F1.out.o.c0
    have r1 := F1.out.o.c1
    have u0 := F1.out.o.f0 0
    have u1 := F1.out.o.f0 1
    go_wp2
    refine bodyPost_ret (v := .tuple #[.agg #[.slice none 0 0, .slice none 0 0], .int .i64 20]) (by simp [results, Try.results18, go_sem, r0, r1]; try rfl) rfl ?_
    exact RetT.err HF.out (F1.out.end_ _ _)

set_option maxHeartbeats 8000000 in
theorem rgrow_ok (A B : Option Addr) (c d : Nat) (s xs : List Int) (a : Nat) (n : Int) (w : World) (hA : Sl w A c s) (hB : Rd w B xs) (ht : tokV s xs = true) (ha : a ≤ s.length) :
    Calls Try.prog 18 #[.agg #[.slice A s.length c, .slice B xs.length d], .int .i64 (a : Int), .int .i64 n] w (RetT (growV s xs a n) w) := by
  have hlA := hA.rd.len
  have hlB := hB.len
  obtain ⟨hos, hxl⟩ := tok_iff.1 ht
  have hs3 := (ok_iff.1 hos).1
  have F0 := Lib.hid (Rg.mk_ w A s.length c B xs.length d)
  have HT := Lib.hid (rtcheck_any A B c d s xs _ (hA.rd.kp F0.out.kp) (hB.kp F0.out.kp))
  rw [ht] at HT
  have HIN : Hid (∀ W, Kp w W → Calls Try.prog 42 #[.slice A s.length c, .int .i64 (a : Int), .int .i64 n] W (RetO (inL s a n) W)) := fun W k => rin_any A c a s n W (hA.kp k) (by omega) ha
  have HCK : Hid (∀ W A1 c1, Rd W A1 (inL s a n) → Calls Try.prog 43 #[.slice A1 (inL s a n).length c1] W fun e w' => e = .returned (.bool (okS (inL s a n))) ∧ W = w') := fun W A1 c1 r => rcheck_any A1 c1 _ W r
  have j0 : ¬ (a : Int) < 0 := by omega
  have j1 : (0 : Int) ≤ (a : Int) := by omega
  have j3 : ¬ (s.length : Int) < (a : Int) := by omega
  cases hog : okS (inL s a n) with
  | false =>
    rw [hog] at HCK
    have HF : Hid (growV s xs a n = ([], [], 20)) := by show growV s xs a n = _; unfold growV; rw [if_neg (by simp [ht]), if_pos (by rw [Int.toNat_natCast]; exact .inr (.inr hog))]
    generalize inL s a n = G at HIN HCK
    clear hA hB ht hos hxl hog
    go_enter Try.func18, Try.ntmps18
    go_wp2_with fail
    refine (Calls.mono (Hid.out HT)) ?_; rintro e0 w1 ⟨rfl, k1⟩
    have F1 := Lib.hid (F0.out.tr k1)
    clear k1
    have t0 := F1.out.t.c0
    have t1 := F1.out.t.c1
    go_wp2_with fail
    refine (HIN.out _ F1.out.kp).mono ?_; rintro e0 w2 ⟨A2, c2, rfl, o2, k2⟩
    have F3 := Lib.hid (F1.out.tr k2)
    have R3 := Lib.hid o2.sl.rd
    clear k2 o2 t0 t1
    go_wp2_with fail
    refine (HCK.out _ _ _ R3.out).mono ?_; rintro e0 w4 ⟨rfl, rfl⟩
    have r0 := F3.out.o.c0
    have r1 := F3.out.o.c1
    have u0 := F3.out.o.f0 0
    have u1 := F3.out.o.f0 1
    go_wp2
    refine bodyPost_ret (v := .tuple #[.agg #[.slice none 0 0, .slice none 0 0], .int .i64 20]) (by simp [results, Try.results18, go_sem, r0, r1]; try rfl) rfl ?_
    exact RetT.err HF.out (F3.out.end_ _ _)
  | true =>
    rw [hog] at HCK
    have hal : a < (inL s a n).length := by rw [inL_len ha]; omega
    have hpg := ok_prod hog
    have hsg := size_ok hog
    have HF : Hid (growV s xs a n = (inL s a n, (List.range (sizeV (inL s a n)).toNat).map fun p : Nat => xs.getD (qOf (inL s a n) a p).toNat 0, 0)) := by show growV s xs a n = _; unfold growV growD; rw [if_neg (by simp [ht]), Int.toNat_natCast, if_neg (fun h => by rcases h with h | h | h <;> first | omega | (rw [hog] at h; cases h))]
    obtain ⟨N, hNN⟩ : ∃ N : Nat, sizeV (inL s a n) = (N : Int) := ⟨(sizeV (inL s a n)).toNat, by omega⟩
    rw [hNN, Int.toNat_natCast] at HF
    have HSZ : Hid (∀ W A1 c1, Rd W A1 (inL s a n) → Calls Try.prog 27 #[.slice A1 (inL s a n).length c1] W fun e w' => e = .returned (.int .i64 (N : Int)) ∧ W = w') := fun W A1 c1 r => by
      have hh := rsize_any A1 c1 (inL s a n) W r
      rw [hNN] at hh
      exact hh
    have HIX : Hid (∀ (p : Nat) W A1 c1, p < N → Rd W A1 (inL s a n) → Calls Try.prog 36 #[.slice A1 (inL s a n).length c1, .int .i64 (p : Int)] W (RetL (digs (inL s a n) p) 0 W)) := fun p W A1 c1 hp r => by
      have hh := rindex_any A1 c1 (inL s a n) (p : Int) W r
      rw [index_yes (by omega) (by omega)] at hh
      exact hh
    have HW : Hid (∀ (p : Nat) W A1 c1, Sl W A1 c1 (digs (inL s a n) p) → Calls Try.prog 26 #[.slice A1 (digs (inL s a n) p).length c1, .int .i64 (a : Int)] W (RetO ((digs (inL s a n) p).eraseIdx a) W)) := fun p W A1 c1 r =>
      rwithout_any A1 c1 a _ W r (by rw [digs_len, inL_len ha]; omega) (by rw [digs_len]; exact hal)
    have HAT : Hid (∀ (p : Nat) W A1 c1, p < N → Kp w W → Rd W A1 ((digs (inL s a n) p).eraseIdx a) → Calls Try.prog 44 #[.agg #[.slice A s.length c, .slice B xs.length d], .slice A1 ((digs (inL s a n) p).eraseIdx a).length c1] W (RetK (xs.getD (qOf (inL s a n) a p).toNat 0) 0 W)) := fun p W A1 c1 hp k r => by
      have hh := rat_any A B A1 c d c1 s xs _ W (hA.rd.kp k) (hB.kp k) r
      rw [at_q ht ha hog (by omega)] at hh
      exact hh
    have HN64 : Hid (N ≤ 64) := by show N ≤ 64; omega
    obtain ⟨G, hG⟩ : ∃ G, G = inL s a n := ⟨_, rfl⟩
    rw [← hG] at HIN HCK HSZ HIX HW HAT HF
    generalize growV s xs a n = R at HF ⊢
    clear hA hB ht hos hxl hog hal hpg hsg hNN hG
    go_enter Try.func18, Try.ntmps18
    go_wp2_with fail
    refine (Calls.mono (Hid.out HT)) ?_; rintro e0 w1 ⟨rfl, k1⟩
    have F1 := Lib.hid (F0.out.tr k1)
    clear k1
    have t0 := F1.out.t.c0
    have t1 := F1.out.t.c1
    go_wp2_with fail
    refine (HIN.out _ F1.out.kp).mono ?_; rintro e0 w2 ⟨A2, c2, rfl, o2, k2⟩
    have F2 := Lib.hid (F1.out.tr k2)
    have R2 := Lib.hid o2.sl.rd
    clear k2 o2 t0 t1
    go_wp2_with fail
    refine (HCK.out _ _ _ R2.out).mono ?_; rintro e0 w4 ⟨rfl, rfl⟩
    have HG := Lib.hid (Gw.start w2 A2 G.length c2)
    go_wp2
    go_loopw [12] (fun i wr => ∃ (k : Nat) (zs : List Int) (Az : Option Addr) (cz : Nat), i = .int .i64 k ∧ Hid (Ta (fun p : Nat => xs.getD (qOf G a p).toNat 0) N k zs) ∧ Hid (Gw w2 A2 G.length c2 zs Az cz wr)) (fun i _ => N - (intOf i).toNat)
    case atStart => exact ⟨0, [], none, 0, rfl, ta_start _ _, HG.out⟩
    case round =>
      obtain ⟨k, zs, Az, cz, rfl, hr, hg⟩ := hrel
      have HZL := Lib.hid (ta_len hr.out)
      have hN64 : N ≤ 64 := HN64.out
      have hkN : k ≤ N := hr.out.1
      have F3 := Lib.hid (F2.out.tr hg.out.k)
      have R3 := Lib.hid (R2.out.kp hg.out.k)
      go_wp2_with fail
      refine (HSZ.out _ _ _ R3.out).mono ?_; rintro e0 w3 ⟨rfl, rfl⟩
      by_cases hlt : k < N
      · have hlt' : (k : Int) < (N : Int) := by omega
        have HATK := Lib.hid (fun W A1 c1 kw r => HAT.out k W A1 c1 hlt kw r)
        have HWK := Lib.hid (fun W A1 c1 r => HW.out k W A1 c1 r)
        have HTA : Hid (∀ ys, ys = zs ++ [xs.getD (qOf G a k).toNat 0] → Ta (fun p : Nat => xs.getD (qOf G a p).toNat 0) N (k + 1) ys) := fun ys e => ta_step hr.out hlt rfl e
        go_wp2_with fail
        refine (HIX.out k _ _ _ hlt R3.out).mono ?_; rintro e0 w4 ⟨A4, c4, rfl, s4, k4⟩
        have SX := Lib.hid s4
        have G4 := Lib.hid (hg.out.tr k4)
        have F4 := Lib.hid (F3.out.tr k4)
        obtain ⟨X, hX⟩ : ∃ X, X = digs G (k : Int) := ⟨_, rfl⟩
        rw [← hX] at SX HWK HATK ⊢
        obtain ⟨Y, hY⟩ : ∃ Y, Y = X.eraseIdx a := ⟨_, rfl⟩
        rw [← hY] at HWK HATK
        generalize xs.getD (qOf G a k).toNat 0 = y at HATK HTA
        clear s4 k4 hX hY
        have t0 := F4.out.t.c0
        have t1 := F4.out.t.c1
        have dS : Hid (∀ V, Kp w4 V → V.cell? ⟨w.heap.size, 0, none⟩ = some (.slice A s.length c) ∧ V.cell? ⟨w.heap.size, 1, none⟩ = some (.slice B xs.length d)) := fun V kV => ⟨(F4.out.t.kp kV).c0, (F4.out.t.kp kV).c1⟩
        have hdr : Hid (Kp w4 w4.drew) := Below.drew (Kp.refl w4)
        dsimp only
        go_wp2
        go_cut [15, 16] from 44 to 69 (fun p q wx => p = .int .i64 y ∧ q = .int .i64 0 ∧ Hid (Kp w4 wx))
        case first =>
          go_region_held3 (fun V => V.cell? ⟨w.heap.size, 0, none⟩ = some (.slice A s.length c) ∧ V.cell? ⟨w.heap.size, 1, none⟩ = some (.slice B xs.length d)) (first | exact ⟨t0, t1⟩ | exact q7 | exact q8)
            (first
            | (go_at_call 26; refine (HWK.out _ _ _ (SX.out.kp hdr.out)).mono ?_; rintro e0 w7 ⟨A7, c7, rfl, o7, k7⟩; have K7 : Hid (Kp w4 w7) := hdr.out.tr k7; have R7 := Lib.hid o7.sl.rd; have q7 := dS.out _ K7.out; clear k7 o7)
            | (go_at_call 44; refine (HATK.out _ _ _ (F4.out.kp.tr K7.out) R7.out).mono ?_; rintro e0 w8 ⟨rfl, k8⟩; have K8 : Hid (Kp w4 w8) := K7.out.tr k8; have q8 := dS.out _ K8.out; clear k8))
          all_goals go_wp2
          all_goals go_meet
          all_goals exact ⟨rfl, rfl, K8⟩
        case rest =>
          obtain ⟨rfl, rfl, K8⟩ := hcut
          have G8 := Lib.hid (G4.out.tr K8.out)
          have q1 := G8.out.b.c1
          have q2 := G8.out.b.f0 1
          have HS2 := Lib.hid G8.out.sz
          clear t0 t1
          go_wp2_with (at_builtin; refine wpList_app (B := w2.heap.size + 1) rfl (.tmp 65) (.tmp 67) rfl _ zs rfl (G8.out.o.kp (Kp.alloc_ _ _)) _ _ [y] _ rfl rfl (Rd.one _ _ _) (by have := HZL.out; simp; omega) (by have := HS2.out; simp; omega) ?_; intro zs2 A9 c9 w9 HZ hown2 hb2; have HB : Hid (Below (w2.heap.size + 1) wc w9) := (((Below.refl _ _).alloc HS2.out _).trans hb2); have HO2 := Lib.hid hown2; have g3 := (HB.out.cell (p := ⟨w2.heap.size, 1, none⟩) (Nat.lt_succ_self _)).trans q1; have g4 := (HB.out.frozen (p := ⟨w2.heap.size, 1, none⟩) (Nat.lt_succ_self _)).trans q2; clear hown2 hb2)
          go_roundw
          case rel => exact ⟨k + 1, zs2, A9, c9, by go_num, HTA.out zs2 HZ.out, G8.out.put HO2.out HB.out⟩
          case measure => simp [intOf]; omega
      · have hlt' : ¬ (k : Int) < (N : Int) := by omega
        have HE := Lib.hid (ta_end hr.out hlt)
        have HFR : Hid (R = (G, zs, 0)) := by show R = _; rw [HF.out, HE.out]
        have g0 := hg.out.b.c0
        have g1 := hg.out.b.c1
        have r0 := F3.out.o.c0
        have r1 := F3.out.o.c1
        have u0 := F3.out.o.f0 0
        have u1 := F3.out.o.f0 1
        go_wp2
        refine bodyPost_ret (v := .tuple #[.agg #[.slice A2 G.length c2, .slice Az zs.length cz], .int .i64 0]) (by simp [results, Try.results18, go_sem, r0, r1]; try rfl) rfl ?_
        exact RetT.of HFR.out (R3.out.past F3.out.o _ _) (hg.out.o.sl.rd.past F3.out.o _ _) (F3.out.end_ _ _)

theorem rgrow_any (A B : Option Addr) (c d : Nat) (s xs : List Int) (axis n : Int) (w : World) (hA : Sl w A c s) (hB : Rd w B xs) :
    Calls Try.prog 18 #[.agg #[.slice A s.length c, .slice B xs.length d], .int .i64 axis, .int .i64 n] w (RetT (growV s xs axis n) w) := by
  cases ht : tokV s xs with
  | false => exact rgrow_tok A B c d s xs axis n w hA hB ht
  | true =>
    by_cases hx : axis < 0 ∨ (s.length : Int) < axis
    · exact rgrow_side A B c d s xs axis n w hA hB ht hx
    · obtain ⟨a, rfl⟩ : ∃ a : Nat, axis = (a : Int) := ⟨axis.toNat, by omega⟩
      exact rgrow_ok A B c d s xs a n w hA hB ht (by omega)
end Go.Proofs.Ytpglchimghnpeaa
