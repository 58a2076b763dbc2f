/- The document's Mean of layer 6 (fullerref06). -/
import Derived.Test.YtpglchimghnpeaaRdE
namespace Go.Proofs.Ytpglchimghnpeaa
open Go.RowKit Go.Proofs.ShM Go.Proofs.FixM
set_option linter.unusedVariables false

theorem ta_map {f : Int → Int} {l zs ys : List Int} {k : Nat} {x y : Int} (h : zs = (l.take k).map f) (hx : l[k]? = some x) (hy : f x = y) (e : ys = zs ++ [y]) : ys = (l.take (k + 1)).map f := by
  rw [e, h, take_of hx, List.map_append, ← hy]; rfl

set_option maxHeartbeats 4000000 in
theorem rmean_any (A B : Option Addr) (c d : Nat) (s xs : List Int) (axis : Int) (w : World) (hA : Sl w A c s) (hB : Rd w B xs) (hi : I64s xs) :
    Calls Try.prog 12 #[.agg #[.slice A s.length c, .slice B xs.length d], .int .i64 axis] w (RetT (meanV s xs axis) w) := by
  have F0 := Lib.hid (Rg.mk_ w A s.length c B xs.length d)
  have HT := Lib.hid (fun W (k : Kp w W) => rsum_any A B c d s xs axis W (hA.kp k) (hB.kp k) hi)
  by_cases hz : (sumV s xs axis).2.2 = 0
  · obtain ⟨ht, a, rfl, ha⟩ := sum_ok hz
    obtain ⟨k, hr, hkl, hk0⟩ := tog_zero (f := addV) (x0 := 0) ht ha hz
    have hk64 : I64s k := by
      have := sum_i64 (axis := (a : Int)) (s := s) hi
      unfold sumV at this
      rw [hr] at this; exact this
    have ho := (tok_iff.1 ht).1
    have hsd := side_pos (ok_all ho) ha
    obtain ⟨ad, x, hAe, hbx, hx, hc⟩ := hA.rd.at_ ha
    have hxD : s.getD a 0 = x := by rw [List.getD, hx]; rfl
    rw [hxD] at hsd
    have HF : Hid (meanV s xs a = (s.eraseIdx a, k.map fun y => (divV y (x * 4294967296)).1, 0)) := by
      show meanV s xs a = _
      unfold meanV
      rw [if_pos hz]
      unfold sumV
      rw [hr, Int.toNat_natCast, hxD]
    have hr' : sumV s xs a = (s.eraseIdx a, k, 0) := hr
    rw [hr'] at HT
    have HX : Hid (∀ W, Kp w W → W.cell? (ad.add a) = some (.int .i64 x)) := fun W k => (k.cell (p := ad.add a) (by rw [block_of_add]; exact hbx)).trans hc
    have hby : I64 (x * 4294967296) := by unfold I64; omega
    have HDV : Hid (∀ y W, I64 y → Calls Try.prog 31 #[.int .i64 y, .int .i64 (x * 4294967296)] W fun e W' => e = .returned (.tuple #[.int .i64 (divV y (x * 4294967296)).1, .int .i64 (divV y (x * 4294967296)).2]) ∧ Kp W W') := fun y W hy => (Fx.rdiv_any y (x * 4294967296) hy hby W).mono fun e w' ⟨h1, h2⟩ => ⟨h1, h2.below⟩
    obtain ⟨by_, hbyE⟩ : ∃ z, z = x * 4294967296 := ⟨_, rfl⟩
    rw [← hbyE] at HF HDV
    have w1a : IntKind.i64.wrap (4294967296 * x) = by_ := by rw [hbyE, Int.mul_comm]; exact IntWalk.i64_in _ (by omega)
    have hk64n : k.length ≤ 64 := by have := size_le (s.eraseIdx a); omega
    have HK := Lib.hid (And.intro hk64 hk0)
    obtain ⟨S, hS⟩ : ∃ S, S = s.eraseIdx a := ⟨_, rfl⟩
    rw [← hS] at HT HF
    generalize meanV s xs a = R at HF ⊢
    have j1 : (0 : Int) ≤ (a : Int) := by omega
    have j2 : (a : Int) < (s.length : Int) := by omega
    subst hAe
    clear hA hB hi hz ht hr hr' hkl hk0 hk64 ho hsd hx hc hxD hbyE hby hS hbx
    go_enter Try.func12, Try.ntmps12
    go_wp2_with fail
    refine (HT.out _ F0.out.kp).mono ?_; rintro e0 w1 ⟨A2, c2, B2, d2, rfl, ra, rb, k1⟩
    have F1 := Lib.hid (F0.out.tr k1)
    obtain ⟨w2, hw2⟩ : ∃ w2, Hid (w2 = w1.alloc (.cells #[.slice A2 S.length c2, .slice B2 k.length d2] 24)) := ⟨_, rfl⟩
    have K12 : Hid (Kp w1 w2) := by show Kp w1 w2; rw [hw2.out]; exact Kp.alloc_ _ _
    have F2 := Lib.hid (F1.out.tr K12.out)
    have M2 : Hid (Bk w2 w1.heap.size A2 S.length c2 B2 k.length d2) := by show Bk _ _ _ _ _ _ _ _; rw [hw2.out]; exact Bk.new rfl
    have RA := Lib.hid (ra.kp K12.out)
    have RB := Lib.hid (rb.kp K12.out)
    have HG := Lib.hid (Gw.start w2 A2 S.length c2)
    have HZ2 : Hid (w2.heap.size = w1.heap.size + 1) := by show _ = _; rw [hw2.out]; simp
    have HWE : Hid (w1.heap.size + 1 = w2.heap.size) := HZ2.out.symm
    clear k1 ra rb
    dsimp only
    go_wp2
    rw [← hw2.out]
    have hlen : Hid (∀ o : Obj, ((w1.alloc (.cells #[.slice A2 S.length c2, .slice B2 k.length d2] 24)).alloc o) = w2.alloc o) := fun o => by rw [hw2.out]
    simp only [HWE.out]
    go_loopw [9] (fun i wr => ∃ (j : Nat) (zs : List Int) (Az : Option Addr) (cz : Nat), i = .int .i64 j ∧ Hid (j ≤ k.length) ∧ Hid (zs = (k.take j).map fun y => (divV y by_).1) ∧ Hid (Gw w2 A2 S.length c2 zs Az cz wr)) (fun i _ => k.length - (intOf i).toNat)
    case atStart => exact ⟨0, [], none, 0, rfl, Nat.zero_le _, by show _ = _; simp, HG.out⟩
    case round =>
      obtain ⟨j, zs, Az, cz, rfl, hjl0, hz, hg⟩ := hrel
      have hjl : j ≤ k.length := hjl0.out
      have HZL : Hid (zs.length = j) := by show zs.length = j; rw [hz.out]; simp; omega
      have F3 := Lib.hid (F2.out.tr hg.out.k)
      have M3 := Lib.hid (M2.out.kp hg.out.k)
      have m1 := M3.out.c1
      have g0 := hg.out.b.c0
      have g1 := hg.out.b.c1
      by_cases hj : j < k.length
      · have hj' : (j : Int) < (k.length : Int) := by omega
        have i1 : (0 : Int) ≤ (j : Int) := by omega
        obtain ⟨bd, y, rfl, hby, hy, hyc⟩ := RB.out.at_ hj
        have hyc' : wr.cell? (bd.add j) = some (.int .i64 y) := (hg.out.k.cell (p := bd.add j) (by rw [block_of_add]; exact hby)).trans hyc
        have hx' := HX.out _ F3.out.kp
        have t0 := F3.out.t.c0
        have t1 := F3.out.t.c1
        have HDY := Lib.hid (fun W => HDV.out y W (HK.out.1.get hy))
        have HSP : Hid (∀ ys, ys = zs ++ [(divV y by_).1] → ys = (k.take (j + 1)).map fun y => (divV y by_).1) := fun ys e => ta_map hz.out hy rfl e
        generalize (divV y by_).2 = e2 at HDY
        generalize (divV y by_).1 = z at HDY HSP
        have dS : Hid (∀ V, Kp wr V → V.cell? ⟨w1.heap.size, 1, none⟩ = some (.slice (some bd) k.length d2) ∧ V.cell? (bd.add j) = some (.int .i64 y) ∧ V.cell? ⟨w.heap.size, 0, none⟩ = some (.slice (some ad) s.length c) ∧ V.cell? (ad.add a) = some (.int .i64 x)) := fun V kV =>
          ⟨(M3.out.kp kV).c1, (kV.cell (p := bd.add j) (by rw [block_of_add]; exact Nat.lt_of_lt_of_le hby hg.out.k.size)).trans hyc', (F3.out.t.kp kV).c0, HX.out _ (F3.out.kp.tr kV)⟩
        clear hy hyc hby
        go_wp2
        go_cut [10, 11] from 25 to 52 (fun p q wx => p = .int .i64 z ∧ q = .int .i64 e2 ∧ Hid (Kp wr wx))
        case first =>
          go_region_held3 (fun V => V.cell? ⟨w1.heap.size, 1, none⟩ = some (.slice (some bd) k.length d2) ∧ V.cell? (bd.add j) = some (.int .i64 y) ∧ V.cell? ⟨w.heap.size, 0, none⟩ = some (.slice (some ad) s.length c) ∧ V.cell? (ad.add a) = some (.int .i64 x)) (first | exact ⟨m1, hyc', t0, hx'⟩ | exact q5)
            (first | (go_at_call 31; refine (HDY.out _).mono ?_; rintro e0 w9 ⟨rfl, k9⟩; have K9 : Hid (Kp wr w9) := undrawn k9; have q5 := dS.out _ K9.out; clear k9))
          all_goals go_wp2
          all_goals go_meet
          all_goals exact ⟨rfl, rfl, K9⟩
        case rest =>
          obtain ⟨rfl, rfl, K9⟩ := hcut
          have HG9 := Lib.hid (hg.out.tr K9.out)
          have q1 := HG9.out.b.c1
          have q2 := HG9.out.b.f0 1
          have HSZ := Lib.hid HG9.out.sz
          clear m1 g0 g1 hyc' hx' t0 t1
          go_wp2_with (at_builtin; refine wpList_app (B := w2.heap.size + 1) rfl (.tmp 48) (.tmp 50) rfl _ zs rfl (HG9.out.o.kp (Kp.alloc_ _ _)) _ _ [z] _ rfl rfl (Rd.one _ _ _) (by have := HZL.out; simp; omega) (by have := HSZ.out; simp; omega) ?_; intro zs2 A5 c5 w8 HZ hown2 hb2; have HB : Hid (Below (w2.heap.size + 1) wc w8) := (((Below.refl _ _).alloc HSZ.out _).trans hb2); have HO2 := Lib.hid hown2; have g3 := (HB.out.cell (p := ⟨w2.heap.size, 1, none⟩) (Nat.lt_succ_self _)).trans q1; have g4 := (HB.out.frozen (p := ⟨w2.heap.size, 1, none⟩) (Nat.lt_succ_self _)).trans q2; clear hown2 hb2)
          go_roundw
          case rel => exact ⟨j + 1, zs2, A5, c5, by go_num, Lib.hid (by omega), HSP.out zs2 HZ.out, HG9.out.put HO2.out HB.out⟩
          case measure => simp [intOf]; omega
      · have hj' : ¬ (j : Int) < (k.length : Int) := by omega
        have HE : Hid (R = (S, zs, 0)) := by show R = _; rw [HF.out, hz.out, List.take_of_length_le (by omega)]
        have r0 := F3.out.o.c0
        have r1 := F3.out.o.c1
        have u0 := F3.out.o.f0 0
        have u1 := F3.out.o.f0 1
        go_wp2
        refine bodyPost_ret (v := .tuple #[.agg #[.slice A2 S.length c2, .slice Az zs.length cz], .int .i64 0]) (by simp [results, Try.results12, go_sem, r0, r1]; try rfl) rfl ?_
        exact RetT.of HE.out ((RA.out.kp hg.out.k).past F3.out.o _ _) (hg.out.o.sl.rd.past F3.out.o _ _) (F3.out.end_ _ _)
  · have HF : Hid (meanV s xs axis = ([], [], (sumV s xs axis).2.2)) := by show meanV s xs axis = _; unfold meanV; rw [if_neg hz]
    obtain ⟨l, k, er, hr⟩ : ∃ l k er, sumV s xs axis = (l, k, er) := ⟨_, _, _, rfl⟩
    rw [hr] at HT HF hz
    have he : (er != 0) = true := by simpa using hz
    clear hA hB hi hr hz
    go_enter Try.func12, Try.ntmps12
    go_wp2_with fail
    refine (HT.out _ F0.out.kp).mono ?_; rintro e0 w1 ⟨A2, c2, B2, d2, rfl, ra, rb, k1⟩
    have F1 := Lib.hid (F0.out.tr k1)
    clear k1 ra rb
    have rl := F1.out.o.lt
    have v0 := F1.out.o.c0
    have v1 := F1.out.o.c1
    have v2 := F1.out.o.f0 0
    have v3 := F1.out.o.f0 1
    have rne : ¬ w.heap.size + 1 = w1.heap.size := by omega
    dsimp only
    go_wp2
    refine bodyPost_ret (v := .tuple #[.agg #[.slice none 0 0, .slice none 0 0], .int .i64 er]) (by simp [results, Try.results12, go_sem, v0, v1, rl]; try rfl) rfl ?_
    exact RetT.err HF.out ((F1.out.end_ _ _).al _)
end Go.Proofs.Ytpglchimghnpeaa
