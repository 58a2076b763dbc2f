/- InferSizes, over the contracts of the calls. -/
import Derived.Test.YtnkkkpanlnencaaInTurns
import Derived.Deep.DeepCutAuto
import Derived.Deep.RegionWith
namespace Go.Proofs.Ytnkkkpanlnencaa
open Go.RowKit Go.Proofs.ShM Go.Proofs.GrM Go.Proofs.InM
set_option linter.unusedVariables false
set_option maxHeartbeats 16000000

theorem w64_two {x y : Int} (h : -9223372036854775808 ≤ x ∧ x ≤ 9223372036854775807) (g : -9223372036854775808 ≤ y ∧ y ≤ 9223372036854775807) : W64 [x, 0, y] := fun z hz => by
  have : z = x ∨ z = 0 ∨ z = y := by simpa using hz
  rcases this with rfl | rfl | rfl
  · exact h
  · omega
  · exact g
theorem Rd.three_ {w : World} {x y z : Int} {t : TypeId} {g : Nat} (hg : g = w.heap.size) : Rd (w.alloc (.cells #[.int .i64 x, .int .i64 y, .int .i64 z] t)) (some ⟨g, 0, none⟩) [x, y, z] := hg ▸ Rd.lit w [x, y, z] (by simp) t
theorem rdl_lit2g {w : World} {P Q : Option Addr} {a b : List Int} {c d g0 : Nat} (hg0 : g0 = w.heap.size) (h : Rd w P a) (h1 : a.length ≤ c ∧ c ≤ 9223372036854775807) (g : Rd w Q b) (g1 : b.length ≤ d ∧ d ≤ 9223372036854775807) (ty : TypeId) :
    RdL (w.alloc (.cells #[.slice P a.length c, .slice Q b.length d] ty)) (some ⟨g0, 0, none⟩) [a, b] := hg0 ▸ rdl_lit2 h h1 g g1 ty
theorem rdl_lit1g {w : World} {P : Option Addr} {a : List Int} {c g0 : Nat} (hg0 : g0 = w.heap.size) (h : Rd w P a) (h1 : a.length ≤ c ∧ c ≤ 9223372036854775807) (ty : TypeId) :
    RdL (w.alloc (.cells #[.slice P a.length c] ty)) (some ⟨g0, 0, none⟩) [a] := hg0 ▸ rdl_lit1 h h1 ty
set_option maxRecDepth 100000 in
theorem isizes_main (C : InC) (A B : Option Addr) (c d : Nat) (a b : List Int) (x y : Int) (W : World) (R : Rd W A a) (S : Rd W B b) (h100 : a.length ≤ 100) (g100 : b.length ≤ 100) (hc : a.length ≤ c ∧ c ≤ 9223372036854775807) (hd : b.length ≤ d ∧ d ≤ 9223372036854775807) (NA : W64 a) (NB : W64 b) (X64 : I64 x) (Y64 : I64 y) :
    Calls Try.prog 6 #[.slice A a.length c, .slice B b.length d, .int .i64 x, .int .i64 y] W fun e w' => e = .returned (.bool true) ∧ Below W.heap.size W w' := by
  have HC := Lib.hid C
  have HAW : Hid (∀ V, Calls Try.prog 8 #[] V fun e w' => e = .returned (.bool true) ∧ Kp V w') := fun V => inawake_any C V
  have i1 : ¬ (100 : Int) < (a.length : Int) := by omega
  have i2 : ¬ (100 : Int) < (b.length : Int) := by omega
  obtain ⟨t, e, hte⟩ : ∃ t e, nodeV 41 [] [a] = (t, e) := ⟨_, _, rfl⟩
  obtain ⟨r, f, hrf⟩ : ∃ r f, nodeV 40 b [a] = (r, f) := ⟨_, _, rfl⟩
  obtain ⟨j, g, hjg⟩ : ∃ j g, nodeV 43 [x] [a, b] = (j, g) := ⟨_, _, rfl⟩
  obtain ⟨s, h, hsh⟩ : ∃ s h, nodeV 50 [x] [a] = (s, h) := ⟨_, _, rfl⟩
  obtain ⟨p, i, hpi⟩ : ∃ p i, nodeV 42 [x, 0, y] [a] = (p, i) := ⟨_, _, rfl⟩
  have VT := Lib.hid hte
  have VR := Lib.hid hrf
  have VJ := Lib.hid hjg
  have VS := Lib.hid hsh
  have VP := Lib.hid hpi
  have FT : Hid (e = 0 → sizeV t = sizeV a) := sizes_turn hte
  have FR : Hid (f = 0 → sizeV r = sizeV a ∧ r = b) := sizes_shape hrf
  have FJ : Hid (g = 0 → sizeV j = sizeV a + sizeV b) := sizes_glue hjg
  have FS : Hid ((h = 0 ↔ okS a = true ∧ 0 ≤ x ∧ x < (a.length : Int)) ∧ (h = 0 → s.length + 1 = a.length)) := sizes_sum hsh
  have FP : Hid (i = 0 → sizeV p ≤ sizeV a ∧ p.length = a.length) := sizes_part hpi
  have HSA : Hid (SmallL [a] ∧ SmallL [a, b]) := ⟨sl_one h100 NA, sl_two h100 NA g100 NB⟩
  have HSN : Hid (SmallN (41, [], []) ∧ SmallN (40, [], b) ∧ SmallN (43, [], [x]) ∧ SmallN (50, [], [x]) ∧ SmallN (42, [], [x, 0, y])) := ⟨sn_mk (by omega) (by decide) w64_nil, sn_mk (by omega) g100 NB, sn_mk (by omega) (by show 1 ≤ 100; decide) (w64_one X64), sn_mk (by omega) (by show 1 ≤ 100; decide) (w64_one X64), sn_mk (by omega) (by show 3 ≤ 100; decide) (w64_two X64 Y64)⟩
  have HCC : Hid ((a.length ≤ c ∧ c ≤ 9223372036854775807) ∧ b.length ≤ d ∧ d ≤ 9223372036854775807) := ⟨hc, hd⟩
  have HRA := Lib.hid R
  have HRB := Lib.hid S
  obtain ⟨za, hza⟩ : ∃ za, za = sizeV a := ⟨_, rfl⟩
  obtain ⟨zb, hzb⟩ : ∃ zb, zb = sizeV b := ⟨_, rfl⟩
  have HZA : Hid (za = sizeV a ∧ 0 ≤ za ∧ za ≤ 64) := ⟨hza, by rw [hza]; exact size_le a⟩
  have HZB : Hid (zb = sizeV b ∧ 0 ≤ zb ∧ zb ≤ 64) := ⟨hzb, by rw [hzb]; exact size_le b⟩
  have HSZA : Hid (∀ V, Kp W V → Calls Try.prog 19 #[.slice A a.length c] V fun e w' => e = .returned (.int .i64 za) ∧ V = w') := fun V k => size_n a (R.kp k) rfl hza.symm
  have HSZB : Hid (∀ V, Kp W V → Calls Try.prog 19 #[.slice B b.length d] V fun e w' => e = .returned (.int .i64 zb) ∧ V = w') := fun V k => size_n b (S.kp k) rfl hzb.symm
  obtain ⟨ok, hok⟩ : ∃ ok, okS a = ok := ⟨_, rfl⟩
  have HOK := Lib.hid hok
  have HCK : Hid (∀ V, Kp W V → Calls Try.prog 18 #[.slice A a.length c] V fun e w' => e = .returned (.bool ok) ∧ V = w') := fun V k => check_n a (R.kp k) rfl hok
  clear C R S hc hd NA NB X64 Y64 hte hrf hjg hsh hpi hza hzb hok h100 g100
  go_enter Try.func6, Try.ntmps6
  go_wp2_with fail
  refine (HAW.out _).mono ?_; rintro e0 w2 ⟨rfl, k2⟩
  have K2 := Lib.hid k2
  have RA := Lib.hid (HRA.out.kp K2.out)
  have RB := Lib.hid (HRB.out.kp K2.out)
  clear k2 HRA HRB
  go_wp2_with fail
  refine (HC.out.node0 41 [] none _ 0 0 1 1 t.length [a] (t, e) _ (Rd.nil _ _) (by decide) HSN.out.1 (rdl_lit1 RA.out HCC.out.1 _) (by show 1 ≤ 1 ∧ _; omega) HSA.out.1 rfl rfl VT.out rfl).mono ?_; rintro e0 w3 ⟨A3, c3, rfl, r3, l3, k3⟩
  have M3 : Hid (Kp w2 w3) := Kp.tr (Kp.alloc_ _ _) k3
  have K3 := Lib.hid (K2.out.tr M3.out)
  have RA := Lib.hid (RA.out.kp M3.out)
  have RB := Lib.hid (RB.out.kp M3.out)
  clear k3 l3
  go_wp2_with fail
  refine (HC.out.node0 40 b B _ b.length d 1 1 r.length [a] (r, f) _ (RB.out.alloc_ _) HCC.out.2 HSN.out.2.1 (rdl_lit1 RA.out HCC.out.1 _) (by show 1 ≤ 1 ∧ _; omega) HSA.out.1 rfl rfl VR.out rfl).mono ?_; rintro e0 w4 ⟨A4, c4, rfl, r4, l4, k4⟩
  have M4 : Hid (Kp w3 w4) := Kp.tr (Kp.alloc_ _ _) k4
  have K4 := Lib.hid (K3.out.tr M4.out)
  have RA := Lib.hid (RA.out.kp M4.out)
  have RB := Lib.hid (RB.out.kp M4.out)
  have r3 := Lib.hid (r3.out.kp M4.out)
  clear k4 l4
  go_wp2_with fail
  refine (HC.out.node0 43 [x] _ _ 1 1 2 2 j.length [a, b] (j, g) _ ((Rd.one w4 x _).alloc_ _) (by show 1 ≤ 1 ∧ _; omega) HSN.out.2.2.1 (rdl_lit2g (by simp) (RA.out.alloc_ _) HCC.out.1 (RB.out.alloc_ _) HCC.out.2 _) (by show 2 ≤ 2 ∧ _; omega) HSA.out.2 rfl rfl VJ.out rfl).mono ?_; rintro e0 w5 ⟨A5, c5, rfl, r5, l5, k5⟩
  have M5 : Hid (Kp w4 w5) := Kp.tr (gal (Kp.alloc_ _ _) _) k5
  have K5 := Lib.hid (K4.out.tr M5.out)
  have RA := Lib.hid (RA.out.kp M5.out)
  have RB := Lib.hid (RB.out.kp M5.out)
  have r3 := Lib.hid (r3.out.kp M5.out)
  have r4 := Lib.hid (r4.out.kp M5.out)
  clear k5 l5
  go_wp2_with fail
  refine (HC.out.node0 50 [x] _ _ 1 1 1 1 s.length [a] (s, h) _ ((Rd.one w5 x _).alloc_ _) (by show 1 ≤ 1 ∧ _; omega) HSN.out.2.2.2.1 (rdl_lit1g (by simp) (RA.out.alloc_ _) HCC.out.1 _) (by show 1 ≤ 1 ∧ _; omega) HSA.out.1 rfl rfl VS.out rfl).mono ?_; rintro e0 w6 ⟨A6, c6, rfl, r6, l6, k6⟩
  have M6 : Hid (Kp w5 w6) := Kp.tr (gal (Kp.alloc_ _ _) _) k6
  have K6 := Lib.hid (K5.out.tr M6.out)
  have RA := Lib.hid (RA.out.kp M6.out)
  have RB := Lib.hid (RB.out.kp M6.out)
  have r3 := Lib.hid (r3.out.kp M6.out)
  have r4 := Lib.hid (r4.out.kp M6.out)
  have r5 := Lib.hid (r5.out.kp M6.out)
  clear k6 l6
  go_wp2_with fail
  refine (HC.out.node0 42 [x, 0, y] _ _ 3 3 1 1 p.length [a] (p, i) _ ((Rd.three_ (w := w6) rfl).alloc_ _) (by show 3 ≤ 3 ∧ _; omega) HSN.out.2.2.2.2 (rdl_lit1g (by simp) (RA.out.alloc_ _) HCC.out.1 _) (by show 1 ≤ 1 ∧ _; omega) HSA.out.1 rfl rfl VP.out rfl).mono ?_; rintro e0 w7 ⟨A7, c7, rfl, r7, l7, k7⟩
  have M7 : Hid (Kp w6 w7) := Kp.tr (gal (Kp.alloc_ _ _) _) k7
  have K7 := Lib.hid (K6.out.tr M7.out)
  have RA := Lib.hid (RA.out.kp M7.out)
  have RB := Lib.hid (RB.out.kp M7.out)
  have r3 := Lib.hid (r3.out.kp M7.out)
  have r4 := Lib.hid (r4.out.kp M7.out)
  have r5 := Lib.hid (r5.out.kp M7.out)
  have r6 := Lib.hid (r6.out.kp M7.out)
  clear k7 l7
  have HZT : Hid (∀ V, Kp w7 V → Calls Try.prog 19 #[.slice A3 t.length c3] V fun e w' => e = .returned (.int .i64 (sizeV t)) ∧ V = w') := fun V k => size_n t (r3.out.kp k) rfl rfl
  have HZR : Hid (∀ V, Kp w7 V → Calls Try.prog 19 #[.slice A4 r.length c4] V fun e w' => e = .returned (.int .i64 (sizeV r)) ∧ V = w') := fun V k => size_n r (r4.out.kp k) rfl rfl
  have HZJ : Hid (∀ V, Kp w7 V → Calls Try.prog 19 #[.slice A5 j.length c5] V fun e w' => e = .returned (.int .i64 (sizeV j)) ∧ V = w') := fun V k => size_n j (r5.out.kp k) rfl rfl
  have HZP : Hid (∀ V, Kp w7 V → Calls Try.prog 19 #[.slice A7 p.length c7] V fun e w' => e = .returned (.int .i64 (sizeV p)) ∧ V = w') := fun V k => size_n p (r7.out.kp k) rfl rfl
  have hsl := r6.out.len
  have hpl := r7.out.len
  have hjl := r5.out.len
  have htl := r3.out.len
  have hrl := r4.out.len
  clear M3 M4 M5 M6 M7 K2 K3 K4 K5 K6 VT VR VJ VS VP HSA HSN HAW HC
  go_upto_region 9 with fail
  go_cut [20] (fun v wx => v = .bool true ∧ Hid (Kp w7 wx))
  case first =>
    by_cases he : e = 0
    · subst he
      have hz : sizeV t = za := by rw [FT.out rfl, HZA.out.1]
      rw [hz] at HZT
      clear hz
      go_wp2_with fail
      refine (HZT.out _ (Kp.refl _)).mono ?_; rintro e0 w8 ⟨rfl, rfl⟩
      go_wp2_with fail
      refine (HSZA.out _ K7.out).mono ?_; rintro e0 w8 ⟨rfl, rfl⟩
      go_wp2
      go_meet
      exact ⟨by first | rfl | (simp; done) | (simp; omega), Kp.refl _⟩
    · have e1 : (e != 0) = true := by simpa using he
      clear he
      go_wp2
      go_meet
      exact ⟨by first | rfl | (simp; done) | (simp; omega), Kp.refl _⟩
  case rest =>
    obtain ⟨rfl, hK9⟩ := hcut
    obtain ⟨w9, hw9⟩ : ∃ w9, w9 = wc := ⟨_, rfl⟩
    subst hw9
    clear FT HZT
    go_upto_region 10 with fail
    go_cut [21] (fun v wx => v = .bool true ∧ Hid (Kp w7 wx))
    case first =>
      by_cases hf : f = 0
      · subst hf
        obtain ⟨h1, h2⟩ := FR.out rfl
        have hz : sizeV r = za := by rw [h1, HZA.out.1]
        rw [hz] at HZR
        have HRB2 := Lib.hid h2
        clear hz h1 h2
        go_wp2_with fail
        refine (HZR.out _ hK9.out).mono ?_; rintro e0 w8 ⟨rfl, rfl⟩
        go_wp2_with fail
        refine (HSZA.out _ (K7.out.tr hK9.out)).mono ?_; rintro e0 w8 ⟨rfl, rfl⟩
        go_wp2_with fail
        refine (same_g r b (r4.out.kp hK9.out) (RB.out.kp hK9.out) rfl rfl (r := true) (by rw [HRB2.out]; simp)).mono ?_; rintro e0 w8 ⟨rfl, k8⟩
        have K8 := Lib.hid (hK9.out.tr k8)
        clear k8
        go_wp2
        go_meet
        exact ⟨by first | rfl | (simp; done) | (simp; omega), K8.out⟩
      · have e1 : (f != 0) = true := by simpa using hf
        clear hf
        go_wp2
        go_meet
        exact ⟨by first | rfl | (simp; done) | (simp; omega), hK9.out⟩
    case rest =>
      obtain ⟨rfl, hK10⟩ := hcut
      obtain ⟨w10, hw10⟩ : ∃ w10, w10 = wc := ⟨_, rfl⟩
      subst hw10
      clear FR HZR hK9
      go_upto_region 11 with fail
      go_cut [22] (fun v wx => v = .bool true ∧ Hid (Kp w7 wx))
      case first =>
        by_cases hg : g = 0
        · subst hg
          have hz : sizeV j = za + zb := by rw [FJ.out rfl, HZA.out.1, HZB.out.1]
          obtain ⟨zj, hzj⟩ : ∃ zj, zj = za + zb := ⟨_, rfl⟩
          rw [← hzj] at hz
          rw [hz] at HZJ
          have hw : IntKind.i64.wrap (za + zb) = zj := by have := HZA.out; have := HZB.out; rw [IntKind.wrap_i64]; omega
          clear hz hzj
          go_wp2_with fail
          refine (HZJ.out _ hK10.out).mono ?_; rintro e0 w8 ⟨rfl, rfl⟩
          go_wp2_with fail
          refine (HSZA.out _ (K7.out.tr hK10.out)).mono ?_; rintro e0 w8 ⟨rfl, rfl⟩
          go_wp2_with fail
          refine (HSZB.out _ (K7.out.tr hK10.out)).mono ?_; rintro e0 w8 ⟨rfl, rfl⟩
          go_wp2
          go_meet
          exact ⟨by first | rfl | (simp; done) | (simp; omega), hK10.out⟩
        · have e1 : (g != 0) = true := by simpa using hg
          clear hg
          go_wp2
          go_meet
          exact ⟨by first | rfl | (simp; done) | (simp; omega), hK10.out⟩
      case rest =>
        obtain ⟨rfl, hK11⟩ := hcut
        obtain ⟨w11, hw11⟩ : ∃ w11, w11 = wc := ⟨_, rfl⟩
        subst hw11
        clear FJ HZJ hK10
        go_upto_region 12 with fail
        go_cut [23] (fun v wx => v = .bool true ∧ Hid (Kp w7 wx))
        case first =>
          by_cases hh : h = 0
          · subst hh
            obtain ⟨g1, g2, g3⟩ := FS.out.1.1 rfl
            have g4 := FS.out.2 rfl
            have hok1 : ok = true := by rw [← HOK.out]; exact g1
            subst hok1
            obtain ⟨n, hn⟩ : ∃ n, n = a.length := ⟨_, rfl⟩
            obtain ⟨m, hm⟩ : ∃ m, m = s.length := ⟨_, rfl⟩
            have HN : Hid (n = a.length) := hn
            have HM : Hid (m = s.length) := hm
            have hw : IntKind.i64.wrap ((a.length : Int) - 1) = (s.length : Int) := by rw [IntKind.wrap_i64]; omega
            clear g1 g4 hn hm
            go_wp2_with fail
            refine (HCK.out _ (K7.out.tr hK11.out)).mono ?_; rintro e0 w8 ⟨rfl, rfl⟩
            go_wp2
            go_meet
            exact ⟨by first | rfl | (simp; done) | (simp; omega), hK11.out⟩
          · have e1 : (h != 0) = true := by simpa using hh
            have e2 : (h == 0) = false := by simpa using hh
            have hno : ¬ (okS a = true ∧ 0 ≤ x ∧ x < (a.length : Int)) := fun q => hh (FS.out.1.2 q)
            cases ok with
            | false =>
              clear hh hno
              go_wp2_with fail
              refine (HCK.out _ (K7.out.tr hK11.out)).mono ?_; rintro e0 w8 ⟨rfl, rfl⟩
              go_wp2
              go_meet
              exact ⟨by first | rfl | (simp; done) | (simp; omega), hK11.out⟩
            | true =>
              by_cases h2 : 0 ≤ x
              · have h3 : ¬ x < (a.length : Int) := fun q => hno ⟨HOK.out, h2, q⟩
                clear hh hno
                go_wp2_with fail
                refine (HCK.out _ (K7.out.tr hK11.out)).mono ?_; rintro e0 w8 ⟨rfl, rfl⟩
                go_wp2
                go_meet
                exact ⟨by first | rfl | (simp; done) | (simp; omega), hK11.out⟩
              · clear hh hno
                go_wp2_with fail
                refine (HCK.out _ (K7.out.tr hK11.out)).mono ?_; rintro e0 w8 ⟨rfl, rfl⟩
                go_wp2
                go_meet
                exact ⟨by first | rfl | (simp; done) | (simp; omega), hK11.out⟩
        case rest =>
          obtain ⟨rfl, hK12⟩ := hcut
          obtain ⟨w12, hw12⟩ : ∃ w12, w12 = wc := ⟨_, rfl⟩
          subst hw12
          clear FS HCK hK11
          by_cases hi : i = 0
          · subst hi
            obtain ⟨g1, g2⟩ := FP.out rfl
            obtain ⟨zp, hzp⟩ : ∃ zp, zp = sizeV p := ⟨_, rfl⟩
            rw [← hzp] at HZP
            have hle : zp ≤ za := by rw [hzp, HZA.out.1]; exact g1
            have hll : ((p.length : Int) == (a.length : Int)) = true := by simp; omega
            clear g1 g2 hzp
            go_wp2_with fail
            refine (HZP.out _ hK12.out).mono ?_; rintro e0 w8 ⟨rfl, rfl⟩
            go_wp2_with fail
            refine (HSZA.out _ (K7.out.tr hK12.out)).mono ?_; rintro e0 w8 ⟨rfl, rfl⟩
            go_wp2
            go_ret
            exact ⟨by first | rfl | (simp; done) | (simp; omega), K7.out.tr hK12.out⟩
          · have e1 : (i != 0) = true := by simpa using hi
            clear hi
            go_wp2
            go_ret
            exact ⟨by first | rfl | (simp; done) | (simp; omega), K7.out.tr hK12.out⟩
set_option maxRecDepth 100000 in
theorem isizes_walk (C : InC) (A B : Option Addr) (c d : Nat) (a b : List Int) (x y : Int) (W : World) (R : Rd W A a) (S : Rd W B b) (hc : a.length ≤ c ∧ c ≤ 9223372036854775807) (hd : b.length ≤ d ∧ d ≤ 9223372036854775807) (NA : W64 a) (NB : W64 b) (X64 : I64 x) (Y64 : I64 y) :
    Calls Try.prog 6 #[.slice A a.length c, .slice B b.length d, .int .i64 x, .int .i64 y] W fun e w' => e = .returned (.bool true) ∧ Below W.heap.size W w' := by
  have HAW : Hid (∀ V, Calls Try.prog 8 #[] V fun e w' => e = .returned (.bool true) ∧ Kp V w') := fun V => inawake_any C V
  by_cases h1 : 100 < a.length
  · obtain ⟨n, hn⟩ : ∃ n, n = a.length := ⟨_, rfl⟩
    rw [← hn] at h1 hc ⊢
    have i1 : (100 : Int) < (n : Int) := by omega
    have hnn : n ≤ 9223372036854775807 := by omega
    clear hn h1 R S NA NB C
    go_enter Try.func6, Try.ntmps6
    go_wp2_with fail
    refine (HAW.out _).mono ?_; rintro e0 w1 ⟨rfl, k1⟩
    have K1 := Lib.hid k1
    clear k1
    go_wp2
    go_ret
    exact ⟨rfl, K1.out⟩
  · by_cases h2 : 100 < b.length
    · obtain ⟨n, hn⟩ : ∃ n, n = b.length := ⟨_, rfl⟩
      rw [← hn] at h2 hd ⊢
      have i1 : ¬ (100 : Int) < (a.length : Int) := by omega
      have i2 : (100 : Int) < (n : Int) := by omega
      have hnn : n ≤ 9223372036854775807 := by omega
      clear hn h1 h2 R S NA NB C
      go_enter Try.func6, Try.ntmps6
      go_wp2_with fail
      refine (HAW.out _).mono ?_; rintro e0 w1 ⟨rfl, k1⟩
      have K1 := Lib.hid k1
      clear k1
      go_wp2
      go_ret
      exact ⟨rfl, K1.out⟩
    · exact isizes_main C A B c d a b x y W R S (by omega) (by omega) hc hd NA NB X64 Y64
end Go.Proofs.Ytnkkkpanlnencaa
