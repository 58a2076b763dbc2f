/- The document's stretching and folding: what each answers. -/
import Derived.Test.YtdekchfapblgeaaTnAdd
namespace Go.Proofs.Ytdekchfapblgeaa
open Go.RowKit Go.Proofs.ShM Go.Proofs.FixM

theorem Fr.tb {w : World} {A : Option Addr} {n c : Nat} {B : Option Addr} {m d : Nat} {a b : World} (h : Fr w A n c B m d a) (k : Below (w.heap.size + 2) a b) : Fr w A n c B m d b where
  kp := h.kp.trans (k.mono (by omega))
  b0 := (k.cell (p := ⟨w.heap.size, 0, none⟩) (by show w.heap.size < _; omega)).trans h.b0
  b1 := (k.cell (p := ⟨w.heap.size, 1, none⟩) (by show w.heap.size < _; omega)).trans h.b1
  r0 := (k.cell (p := ⟨w.heap.size + 1, 0, none⟩) (by show w.heap.size + 1 < _; omega)).trans h.r0
  r1 := (k.cell (p := ⟨w.heap.size + 1, 1, none⟩) (by show w.heap.size + 1 < _; omega)).trans h.r1
  f0 := (k.frozen (p := ⟨w.heap.size + 1, 0, none⟩) (by show w.heap.size + 1 < _; omega)).trans h.f0
  f1 := (k.frozen (p := ⟨w.heap.size + 1, 1, none⟩) (by show w.heap.size + 1 < _; omega)).trans h.f1
  sz := Nat.le_trans h.sz k.size

set_option maxHeartbeats 4000000 in
theorem rspread_any (A B C : Option Addr) (c d e : Nat) (s xs g : List Int) (w : World) (hA : Rd w A s) (hB : Rd w B xs) (hC : Rd w C g) :
    Calls Try.prog 17 #[.agg #[.slice A s.length c, .slice B xs.length d], .slice C g.length e] w (RetT (spreadV s xs g) w) := by
  have hl := hA.len
  have gl := hB.len
  have kl := hC.len
  have F0 := Lib.hid (Fr.mk_ w A s.length c B xs.length d 24)
  have HT := Lib.hid (rtcheck_any A B c d s xs _ (hA.kp F0.out.kp) (hB.kp F0.out.kp))
  cases ht : tokV s xs with
  | false =>
    rw [ht] at HT
    have HF := Lib.hid (TnG.spread_no g ht)
    clear ht
    go_enter Try.func17, Try.ntmps17
    go_wp2_with fail
    refine (Calls.mono (Hid.out HT)) ?_; rintro e w1 ⟨rfl, k1⟩
    have F1 := Lib.hid (F0.out.tr k1)
    obtain ⟨_, b0, b1, r0, r1, f0, f1, _⟩ := F1.out
    clear k1
    go_wp2
    refine bodyPost_ret (by simp [results, Try.results17, go_sem, r0, r1]; try rfl) rfl ?_
    exact RetT.err HF.out (F1.out.end_ _ _)
  | true =>
    rw [ht] at HT
    have HG : Hid (∀ W, Kp w W → Calls Try.prog 36 #[.slice A s.length c, .slice C g.length e] W fun e w' => e = .returned (.bool (fitsV s g)) ∧ Kp W w') := fun W k => rfits_any A C c e s g W (hA.kp k) (hC.kp k)
    cases hf : fitsV s g with
    | false =>
      rw [hf] at HG
      have HF := Lib.hid (TnG.spread_misfit ht hf)
      clear ht hf
      go_enter Try.func17, Try.ntmps17
      go_wp2_with fail
      refine (Calls.mono (Hid.out HT)) ?_; rintro e w1 ⟨rfl, k1⟩
      have F1 := Lib.hid (F0.out.tr k1)
      obtain ⟨_, b0, b1, _, _, _, _, _⟩ := F1.out
      clear k1
      go_wp2_with fail
      refine (Calls.mono (HG.out _ F1.out.kp)) ?_; rintro e w2 ⟨rfl, k2⟩
      have F2 := Lib.hid (F1.out.tr k2)
      clear b0 b1 k2
      obtain ⟨_, b0, b1, r0, r1, f0, f1, _⟩ := F2.out
      go_wp2
      refine bodyPost_ret (by simp [results, Try.results17, go_sem, r0, r1]; try rfl) rfl ?_
      exact RetT.err HF.out (F2.out.end_ _ _)
    | true =>
      rw [hf] at HG
      have hg := (fits_al hf).2.1
      have hp := ok_prod hg
      have hz := size_ok hg
      obtain ⟨N, hN⟩ : ∃ N : Nat, sizeV g = N := ⟨(sizeV g).toNat, by omega⟩
      have HF := Lib.hid (TnG.spread_yes ht hf)
      rw [hN, Int.toNat_natCast] at HF
      have HS : Hid (∀ W, Kp w W → Calls Try.prog 32 #[.slice C g.length e] W fun e w' => e = .returned (.int .i64 (N : Int)) ∧ W = w') := fun W kk => by
        have hh := rsize_any C e g W (hC.kp kk)
        rw [hN] at hh
        exact hh
      have HM : Hid (∀ k : Nat, k < N → ∃ m : Nat, srcI s g k = (m : Int) ∧ m < xs.length) := fun k hk => TnG.src_nat ht hf hN hk
      have HQ : Hid (∀ W (k : Nat), Kp w W → k < N → Calls Try.prog 37 #[.slice A s.length c, .slice C g.length e, .int .i64 (k : Int)] W fun e w' => e = .returned (.int .i64 (srcI s g k)) ∧ Kp W w') := fun W k kk hk => from_any A C c e s g k W (hA.kp kk) (hC.kp kk) hf (by omega) (by omega)
      have n2 : N ≤ 64 := by omega
      have hx64 : xs.length ≤ 64 := (tok_len ht).2.2.2
      have HBX := Lib.hid hB
      clear ht hf hg hp hz hN
      go_enter Try.func17, Try.ntmps17
      go_wp2_with fail
      refine (Calls.mono (Hid.out HT)) ?_; rintro e w1 ⟨rfl, k1⟩
      have F1 := Lib.hid (F0.out.tr k1)
      obtain ⟨_, b0, b1, _, _, _, _, _⟩ := F1.out
      clear k1
      go_wp2_with fail
      refine (Calls.mono (HG.out _ F1.out.kp)) ?_; rintro e w2 ⟨rfl, k2⟩
      have F2 := Lib.hid (F1.out.tr k2)
      clear b0 b1 k2
      go_wp2
      go_loopw [8, 9] (fun v i wr => ∃ (k : Nat) (zs : List Int) (Az : Option Addr) (cz : Nat), i = .int .i64 k ∧ v = .slice Az zs.length cz ∧ Hid (TnG.Sp s xs g N k zs) ∧ Hid (Own (w.heap.size + 2) wr (.slice Az zs.length cz) zs) ∧ Hid (Fr w A s.length c B xs.length d wr)) (fun _ i _ => N - (intOf i).toNat)
      case atStart => exact ⟨0, [], none, 0, rfl, rfl, ⟨Nat.zero_le _, rfl⟩, Own.nil_ _ _, F2.out⟩
      case round =>
        obtain ⟨k, zs, Az, cz, rfl, rfl, hr, hown, hfr⟩ := hrel
        have HZL := Lib.hid (TnG.sp_len hr.out)
        have hkN := hr.out.1
        go_wp2_with fail
        refine (Calls.mono (HS.out _ hfr.out.kp)) ?_; rintro e w3 ⟨rfl, rfl⟩
        by_cases hlt : k < N
        · obtain ⟨m, hm, hmx⟩ := HM.out k hlt
          have HQ1 : Hid (∀ W, Kp w W → Calls Try.prog 37 #[.slice A s.length c, .slice C g.length e, .int .i64 (k : Int)] W fun e w' => e = .returned (.int .i64 (m : Int)) ∧ Kp W w') := fun W kk => by rw [← hm]; exact HQ.out W k kk hlt
          obtain ⟨bd, x, rfl, hbl, hx, hc⟩ := HBX.out.at_ hmx
          have c1 : wr.cell? (bd.add m) = some (.int .i64 x) := (hfr.out.kp.cell (by rw [block_of_add]; exact hbl)).trans hc
          have c2 : (bd.add m).block < wr.heap.size := by rw [block_of_add]; have := hfr.out.kp.size; omega
          have HX := Lib.hid (And.intro hm hx)
          obtain ⟨_, b0, b1, _, _, _, _, _⟩ := hfr.out
          have z1 : w.heap.size < wr.heap.size := by have := hfr.out.sz; omega
          have i1 : (0 : Int) ≤ (m : Int) := by omega
          have i2 : (m : Int) < (xs.length : Int) := by omega
          have HD : Hid (Kp w wr.drew) := hfr.out.kp.drew
          clear hm hx hc hbl
          go_wp2
          go_region_law (first
            | (refine step_app rfl (.tmp 28) (.tmp 38) rfl _ zs rfl (HOW.out.kp (Kp.alloc_ _ _)) (some ⟨w4.heap.size, 0, none⟩) 1 [x] _ rfl rfl (Rd.one_ rfl) (by have := HZL.out; simp; omega) (by have := HSZ.out; simp; omega) ?_; intro ys A2 c2' w5 HZ o2 b2; have HO := Lib.hid o2; have HB := Lib.hid b2; clear o2 b2)
            | (go_simp; go_at_call 37; refine (HQ1.out _ HD.out).mono ?_; rintro e w4 ⟨rfl, k4⟩; have cellF : ∀ p : Addr, p.block < wr.heap.size → w4.cell? p = wr.cell? p := fun p hp => k4.cell hp; have HOW : Hid (Own (w.heap.size + 2) w4 (.slice Az zs.length cz) zs) := hown.out.drew.kp k4; have HSZ : Hid (w.heap.size + 2 ≤ w4.heap.size) := Nat.le_trans hfr.out.sz k4.size; have HF4 : Hid (Fr w A s.length c (some bd) xs.length d w4) := hfr.out.tr (show Kp wr w4 from ⟨k4.os, k4.tape, k4.output, k4.size, k4.block⟩); clear k4))
          all_goals
            go_wp2
            go_roundw
            case rel => exact ⟨k + 1, ys, A2, c2', by go_num, rfl, TnG.sp_step hr.out hlt HX.out.1 HX.out.2 HZ.out, HO.out, (HF4.out.tr (Kp.alloc_ _ _)).tb HB.out⟩
            case measure => simp [intOf]; omega
        · have HE := Lib.hid (TnG.sp_end hr.out hlt)
          obtain ⟨_, b0, b1, r0, r1, f0, f1, _⟩ := hfr.out
          go_wp2
          refine bodyPost_ret (by simp [results, Try.results17, go_sem, r0, r1]; try rfl) rfl ?_
          exact RetT.on HF.out rfl (by rw [HE.out]) (hC.kp (hfr.out.end_ _ _)) (by rw [← HE.out]; exact ((hown.out.put_ (p := ⟨w.heap.size + 1, 0, none⟩) (Nat.lt_succ_self _) _).put_ (p := ⟨w.heap.size + 1, 1, none⟩) (Nat.lt_succ_self _) _).sl.rd) (hfr.out.end_ _ _)

set_option maxHeartbeats 4000000 in
theorem rfold_any (A B C : Option Addr) (c d e : Nat) (g xs s : List Int) (w : World) (hA : Rd w A g) (hB : Rd w B xs) (hC : Rd w C s) (hi : I64s xs) :
    Calls Try.prog 19 #[.agg #[.slice A g.length c, .slice B xs.length d], .slice C s.length e] w (RetT (foldV g xs s) w) := by
  have hl := hA.len
  have gl := hB.len
  have kl := hC.len
  have F0 := Lib.hid (Fr.mk_ w A g.length c B xs.length d 24)
  have HT := Lib.hid (rtcheck_any A B c d g xs _ (hA.kp F0.out.kp) (hB.kp F0.out.kp))
  cases ht : tokV g xs with
  | false =>
    rw [ht] at HT
    have HF := Lib.hid (TnG.fold_no s ht)
    clear ht
    go_enter Try.func19, Try.ntmps19
    go_wp2_with fail
    refine (Calls.mono (Hid.out HT)) ?_; rintro e w1 ⟨rfl, k1⟩
    have F1 := Lib.hid (F0.out.tr k1)
    obtain ⟨_, b0, b1, r0, r1, f0, f1, _⟩ := F1.out
    clear k1
    go_wp2
    refine bodyPost_ret (by simp [results, Try.results19, go_sem, r0, r1]; try rfl) rfl ?_
    exact RetT.err HF.out (F1.out.end_ _ _)
  | true =>
    rw [ht] at HT
    have HG : Hid (∀ W, Kp w W → Calls Try.prog 36 #[.slice C s.length e, .slice A g.length c] W fun e w' => e = .returned (.bool (fitsV s g)) ∧ Kp W w') := fun W k => rfits_any C A e c s g W (hC.kp k) (hA.kp k)
    cases hf : fitsV s g with
    | false =>
      rw [hf] at HG
      have HF := Lib.hid (TnG.fold_misfit ht hf)
      clear ht hf
      go_enter Try.func19, Try.ntmps19
      go_wp2_with fail
      refine (Calls.mono (Hid.out HT)) ?_; rintro e w1 ⟨rfl, k1⟩
      have F1 := Lib.hid (F0.out.tr k1)
      obtain ⟨_, b0, b1, _, _, _, _, _⟩ := F1.out
      clear k1
      go_wp2_with fail
      refine (Calls.mono (HG.out _ F1.out.kp)) ?_; rintro e w2 ⟨rfl, k2⟩
      have F2 := Lib.hid (F1.out.tr k2)
      clear b0 b1 k2
      obtain ⟨_, b0, b1, r0, r1, f0, f1, _⟩ := F2.out
      go_wp2
      refine bodyPost_ret (by simp [results, Try.results19, go_sem, r0, r1]; try rfl) rfl ?_
      exact RetT.err HF.out (F2.out.end_ _ _)
    | true =>
      rw [hf] at HG
      have hg := (fits_al hf).1
      have hp := ok_prod hg
      have hz := size_ok hg
      obtain ⟨M, hM⟩ : ∃ M : Nat, sizeV s = M := ⟨(sizeV s).toNat, by omega⟩
      have HY : Hid (∀ zs, foldL s g xs = (zs, 0) → foldV g xs s = (s, zs, 0)) := fun zs r => TnG.fold_yes ht hf r
      have HN : Hid (foldL s g xs = ([], 10) → foldV g xs s = ([], [], 10)) := fun r => TnG.fold_err ht hf r
      have HFd := Lib.hid (TnG.fd_start (fun i => (srcI s g i).toNat) xs M)
      have hfl : foldL s g xs = foldG (fun i => (srcI s g i).toNat) (List.replicate M 0) 0 xs := by unfold foldL; rw [hM, Int.toNat_natCast]
      rw [← hfl] at HFd
      have HS : Hid (∀ W, Kp w W → Calls Try.prog 32 #[.slice C s.length e] W fun e w' => e = .returned (.int .i64 (M : Int)) ∧ W = w') := fun W kk => by
        have hh := rsize_any C e s W (hC.kp kk)
        rw [hM] at hh
        exact hh
      have hxl : (xs.length : Int) = sizeV g := by have := (tok_iff.1 ht); rw [size_ok this.1]; exact this.2
      have HM : Hid (∀ k : Nat, k < xs.length → ∃ m : Nat, srcI s g k = (m : Int) ∧ m < M) := fun k hk => TnG.dst_nat ht hf hM hk
      have HQ : Hid (∀ W (k : Nat), Kp w W → k < xs.length → Calls Try.prog 37 #[.slice C s.length e, .slice A g.length c, .int .i64 (k : Int)] W fun e w' => e = .returned (.int .i64 (srcI s g k)) ∧ Kp W w') := fun W k kk hk => from_any C A e c s g k W (hC.kp kk) (hA.kp kk) hf (by omega) (by omega)
      have n1 : 0 < M := by omega
      have n2 : M ≤ 64 := by omega
      have hx64 : xs.length ≤ 64 := (tok_len ht).2.2.2
      have HBX := Lib.hid hB
      obtain ⟨cs, hmk, hown0⟩ := mk_ M (by omega)
      have HOW := Lib.hid hown0
      clear ht hf hg hp hz hM hxl hfl hown0
      go_enter Try.func19, Try.ntmps19
      go_wp2_with fail
      refine (Calls.mono (Hid.out HT)) ?_; rintro e w1 ⟨rfl, k1⟩
      have F1 := Lib.hid (F0.out.tr k1)
      obtain ⟨_, b0, b1, _, _, _, _, _⟩ := F1.out
      clear k1
      go_wp2_with fail
      refine (Calls.mono (HG.out _ F1.out.kp)) ?_; rintro e w2 ⟨rfl, k2⟩
      have F2 := Lib.hid (F1.out.tr k2)
      clear b0 b1 k2
      go_wp2_with fail
      refine (Calls.mono (HS.out _ F2.out.kp)) ?_; rintro e w3 ⟨rfl, rfl⟩
      have O2 := Lib.hid (HOW.out w2 (w.heap.size + 2) F2.out.sz)
      obtain ⟨gd, hgd⟩ : ∃ gd, gd = w2.heap.size := ⟨_, rfl⟩
      have HGD : Hid (w.heap.size + 2 ≤ gd) := by show _ ≤ gd; rw [hgd]; exact F2.out.sz
      rw [← hgd] at O2
      have hmk2 : (Instr.makeSlice 22 (.int .i64 (M : Int)) (.int .i64 (M : Int))).run Try.prog w2 = .ok (.slice (some ⟨gd, 0, none⟩) M M) (w2.alloc (.cells cs 3)) := by rw [hgd]; exact hmk w2
      clear hmk hgd
      go_wp2
      go_loopw [9, 10, 11, 12] (fun i _ _ _ wr => ∃ (k : Nat) (zs : List Int), i = .int .i64 k ∧ Hid (TnG.Fd (fun i => (srcI s g i).toNat) xs M k zs (foldL s g xs)) ∧ Hid (Own (w.heap.size + 2) wr (.slice (some ⟨gd, 0, none⟩) M M) zs) ∧ Hid (Fr w A g.length c B xs.length d wr)) (fun i _ _ _ _ => xs.length - (intOf i).toNat)
      case atStart => exact ⟨0, _, rfl, HFd.out, O2.out, F2.out.tr (Kp.alloc_ _ _)⟩
      case round =>
        obtain ⟨k, zs, rfl, hr, hown, hfr⟩ := hrel
        obtain ⟨_, b0, b1, r0, r1, f0, f1, _⟩ := hfr.out
        by_cases hlt : k < xs.length
        · obtain ⟨m, hm, hmx⟩ := HM.out k hlt
          have HQ1 : Hid (∀ W, Kp w W → Calls Try.prog 37 #[.slice C s.length e, .slice A g.length c, .int .i64 (k : Int)] W fun e w' => e = .returned (.int .i64 (m : Int)) ∧ Kp W w') := fun W kk => by rw [← hm]; exact HQ.out W k kk hlt
          obtain ⟨bd, x, rfl, hbl, hx, hc⟩ := HBX.out.at_ hlt
          obtain ⟨y, hy⟩ : ∃ y, zs[m]? = some y := ⟨zs[m]'(by rw [hr.out.2.1]; exact hmx), List.getElem?_eq_getElem _⟩
          have hi1 : I64 x := hi.get hx
          have hi2 : I64 y := hr.out.2.2.1.get hy
          have HAD : Hid (∀ W, Calls Try.prog 39 #[.int .i64 y, .int .i64 x] W fun e w' => e = .returned (.tuple #[.int .i64 (addV y x).1, .int .i64 (addV y x).2]) ∧ W = w') := fun W => radd_any y x hi2 hi1 W
          have hmm : (fun i : Nat => (srcI s g i).toNat) k = m := by show (srcI s g k).toNat = m; omega
          have HX := Lib.hid (And.intro hx hy)
          have i1 : (0 : Int) ≤ (m : Int) := by omega
          have i2 : (m : Int) < (M : Int) := by omega
          have i3 : (k : Int) < (xs.length : Int) := by omega
          have HC := Lib.hid hc
          clear hi1 hi2 hc hx hy
          go_wp2_with fail
          refine (Calls.mono (HQ1.out _ hfr.out.kp)) ?_; rintro e w4 ⟨rfl, k4⟩
          have F4 := Lib.hid (hfr.out.tr k4)
          have O4 := Lib.hid (hown.out.kp k4)
          have c1 : w4.cell? (bd.add k) = some (.int .i64 x) := (F4.out.kp.cell (by rw [block_of_add]; exact hbl)).trans HC.out
          have c2 := O4.out.cell_ HX.out.2
          have c3 := O4.out.froz_ m
          clear b0 b1 r0 r1 f0 f1 k4
          obtain ⟨_, b0, b1, r0, r1, f0, f1, _⟩ := F4.out
          rcases TnG.add_two y x with ⟨v, hv⟩ | hv
          · rw [hv] at HAD
            have HST : Hid (TnG.Fd (fun i => (srcI s g i).toNat) xs M (k + 1) (zs.set m v) (foldL s g xs)) := by
              have := TnG.fd_step hr.out HX.out.1 (by rw [hmm]; exact HX.out.2) hv
              rw [hmm] at this
              exact this
            clear hv hmm hm
            go_wp2
            go_quiet ((go_at_call 39; exact quiet_same (HAD.out _)))
            go_wp2
            go_roundw
            case rel => exact ⟨k + 1, zs.set m v, by go_num, HST.out, (O4.out.drewN _).set_ _ _, (F4.out.tr (Kp.drewN_ _ _)).tb ((Below.refl _ _).setCell (p := ⟨gd, m, none⟩) HGD.out _)⟩
            case measure => simp [intOf]; omega
          · rw [hv] at HAD
            have HST := Lib.hid (HN.out (TnG.fd_err hr.out HX.out.1 (by rw [hmm]; exact HX.out.2) hv))
            clear hv hmm hm
            go_wp2
            go_quiet ((go_at_call 39; exact quiet_same (HAD.out _)))
            go_wp2
            refine bodyPost_ret (by simp [results, Try.results19, go_sem, r0, r1]; try rfl) rfl ?_
            exact RetT.err HST.out ((F4.out.tr (Kp.drewN_ _ _)).end_ _ _)
        · have HE := Lib.hid (HY.out _ (TnG.fd_end hr.out hlt))
          go_wp2
          refine bodyPost_ret (by simp [results, Try.results19, go_sem, r0, r1]; try rfl) rfl ?_
          exact RetT.on HE.out rfl hr.out.2.1.symm (hC.kp (hfr.out.end_ _ _)) ((hown.out.put_ (p := ⟨w.heap.size + 1, 0, none⟩) (Nat.lt_succ_self _) _).put_ (p := ⟨w.heap.size + 1, 1, none⟩) (Nat.lt_succ_self _) _).sl.rd (hfr.out.end_ _ _)
end Go.Proofs.Ytdekchfapblgeaa
