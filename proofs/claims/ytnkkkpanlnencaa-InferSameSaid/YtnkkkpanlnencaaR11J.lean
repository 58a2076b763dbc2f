/- The document's Join once more: what it answers is the call's own. -/
import Derived.Test.YtnkkkpanlnencaaR11A
import Derived.Deep.RegionHeld3
namespace Go.Proofs.Ytnkkkpanlnencaa
open Go.RowKit Go.Proofs.ShM
set_option linter.unusedVariables false
set_option linter.unusedSimpArgs false

/-- A list of the call's own, and an error. -/
def RetJ (r : List Int × Int) (w : World) (e : Ending) (w' : World) : Prop := ∃ A c B, e = .returned (.tuple #[.slice A r.1.length c, .int .i64 r.2]) ∧ Own B w' (.slice A r.1.length c) r.1 ∧ w.heap.size ≤ B ∧ Kp w w'
theorem RetJ.mk_ {r : List Int × Int} {zs : List Int} {err : Int} {w w' : World} {A : Option Addr} {n c B : Nat} (hr : r = (zs, err)) (hn : n = zs.length) (hs : Own B w' (.slice A n c) zs) (hB : w.heap.size ≤ B) (hk : Kp w w') :
    RetJ r w (.returned (.tuple #[.slice A n c, .int .i64 err])) w' := by
  subst hr hn
  exact ⟨A, c, B, rfl, hs, hB, hk⟩
theorem RetJ.err_ {r : List Int × Int} {err : Int} {w w' : World} (hr : r = ([], err)) (hk : Kp w w') : RetJ r w (.returned (.tuple #[.slice none 0 0, .int .i64 err])) w' :=
  RetJ.mk_ hr rfl (Own.nil_ _ _) (Nat.le_refl _) hk

set_option maxHeartbeats 2000000 in
theorem rjoin_own (A B : Option Addr) (c d : Nat) (a b : List Int) (w : World) (h : Rd w A a) (g : Rd w B b) :
    Calls Try.prog 25 #[.slice A a.length c, .slice B b.length d] w (RetJ (joinV a b) w) := by
  have HA := Lib.hid (rcheck_any A c a w h)
  have HB := Lib.hid (rcheck_any B d b w g)
  have H := Lib.hid h
  have G := Lib.hid g
  clear h g
  cases ha : okS a with
  | false =>
    rw [ha] at HA
    have HF := Lib.hid (join_no (b := b) (.inl ha))
    clear ha
    cases hb : okS b
    all_goals
      rw [hb] at HB
      clear hb
      go_enter Try.func25, Try.ntmps25
      go_wp2_with fail
      refine (Calls.mono (Hid.out HA)) ?_; rintro e w' ⟨rfl, rfl⟩
      go_wp2_with fail
      refine (Calls.mono (Hid.out HB)) ?_; rintro e w' ⟨rfl, rfl⟩
      go_wp2
      go_ret2
      exact RetJ.err_ HF.out (Kp.refl _)
  | true =>
    rw [ha] at HA
    cases hb : okS b with
    | false =>
      rw [hb] at HB
      have HF := Lib.hid (join_no (a := a) (.inr hb))
      clear ha hb
      go_enter Try.func25, Try.ntmps25
      go_wp2_with fail
      refine (Calls.mono (Hid.out HA)) ?_; rintro e w' ⟨rfl, rfl⟩
      go_wp2_with fail
      refine (Calls.mono (Hid.out HB)) ?_; rintro e w' ⟨rfl, rfl⟩
      go_wp2
      go_ret2
      exact RetJ.err_ HF.out (Kp.refl _)
    | true =>
      rw [hb] at HB
      have la := (ok_iff.1 ha).1
      have lb := (ok_iff.1 hb).1
      have HO := Lib.hid (And.intro ha hb)
      clear ha hb
      obtain ⟨P, hP⟩ : ∃ P, P = pad b.length a := ⟨_, rfl⟩
      obtain ⟨Q, hQ⟩ : ∃ Q, Q = pad a.length b := ⟨_, rfl⟩
      have lP : P.length = max a.length b.length := by rw [hP, ← ShH.pad_max]; exact padl (by omega)
      have lQ : Q.length = max a.length b.length := by rw [hQ, ← ShH.pad_max']; exact padl (by omega)
      have HE := Lib.hid (show joinO a b = joinL P Q by unfold joinO; rw [ShH.pad_max, ShH.pad_max', ← hP, ← hQ])
      have SP := Lib.hid (show P.all sideB = true by rw [hP]; exact pad_side (ok_iff.1 HO.out.1).2.1)
      have SQ := Lib.hid (show Q.all sideB = true by rw [hQ]; exact pad_side (ok_iff.1 HO.out.2).2.1)
      have HS := Lib.hid (j_start (P := P) (Q := Q) (by omega))
      have n1 : P.length ≤ 3 := by omega
      have n2 : Q.length ≤ 3 := by omega
      have HPQ := Lib.hid (show P.length = Q.length by omega)
      have HWP : Hid (∀ W, Rd W A a → Calls Try.prog 53 #[.slice A a.length c, .int .i64 (b.length : Int)] W fun e w' => ∃ A' c', e = .returned (.slice A' P.length c') ∧ Sl w' A' c' P ∧ Kp W w') := fun W hW => by
        rw [hP]; exact wide_any A c a b.length W hW (by omega) (by omega)
      have HWQ : Hid (∀ W, Rd W B b → Calls Try.prog 53 #[.slice B b.length d, .int .i64 (a.length : Int)] W fun e w' => ∃ A' c', e = .returned (.slice A' Q.length c') ∧ Sl w' A' c' Q ∧ Kp W w') := fun W hW => by
        rw [hQ]; exact wide_any B d b a.length W hW (by omega) (by omega)
      clear hP hQ lP lQ
      go_enter Try.func25, Try.ntmps25
      go_wp2_with fail
      refine (Calls.mono (Hid.out HA)) ?_; rintro e w' ⟨rfl, rfl⟩
      go_wp2_with fail
      refine (Calls.mono (Hid.out HB)) ?_; rintro e w' ⟨rfl, rfl⟩
      clear HA HB
      go_wp2_with fail
      refine (Calls.mono (HWP.out _ H.out)) ?_; rintro e w1 ⟨A1, c1, rfl, h1, k1⟩
      have H1 := Lib.hid h1; have K1 := Lib.hid k1; clear h1 k1
      go_wp2_with fail
      refine (Calls.mono (HWQ.out _ (G.out.kp K1.out))) ?_; rintro e w2 ⟨A2, c2, rfl, h2, k2⟩
      have R1 := Lib.hid (H1.out.rd.kp k2)
      have R2 := Lib.hid h2.rd
      have K2 := Lib.hid (K1.out.tr k2)
      clear h2 k2 H1 K1 HWP HWQ
      go_wp2
      go_loopw [10, 11] (fun v i wr => ∃ (k : Nat) (zs : List Int) (Az : Option Addr) (cz : Nat), i = .int .i64 k ∧ v = .slice Az zs.length cz ∧ Hid (JRel P Q k zs) ∧
        Hid (Own w2.heap.size wr (.slice Az zs.length cz) zs) ∧ Hid (Below w2.heap.size w2 wr)) (fun _ i _ => P.length - (intOf i).toNat)
      case atStart => exact ⟨0, [], none, 0, rfl, rfl, HS.out, Own.nil_ _ _, Below.refl _ _⟩
      case round =>
        obtain ⟨k, zs, Az, cz, rfl, rfl, hr, hown, hb⟩ := hrel
        have hzl : zs.length = k := hr.out.2.2.1
        by_cases hk : k < P.length
        · have hkq : k < Q.length := by have := HPQ.out; omega
          obtain ⟨ad, x, hA, hlx, hx, hc⟩ := (R1.out.kp hb.out).at_ hk
          obtain ⟨bd, y, hB, hly, hy, hcy⟩ := (R2.out.kp hb.out).at_ hkq
          subst hA hB
          have hz3 : zs.length ≤ 3 := by omega
          obtain ⟨x1, x2⟩ := side_of SP.out hx
          obtain ⟨y1, y2⟩ := side_of SQ.out hy
          have HX := Lib.hid hx
          have HY := Lib.hid hy
          have i1 : (0 : Int) ≤ (k : Int) := by omega
          have i2 : (k : Int) < (P.length : Int) := by omega
          have i3 : (k : Int) < (Q.length : Int) := by omega
          have HBs := Lib.hid hb.out.size
          have hws := ShH.ways x1 y1
          have hmx := ShH.mx x y
          clear hx hy hzl
          rcases hws with ⟨e1, e2, hj⟩ | ⟨e1, e2, hj⟩ | ⟨e1, e2, hj⟩ | ⟨e1, e2, hj⟩ | ⟨e1, e2, hj, hm, e3⟩ | ⟨e1, e2, hj, hm, e3⟩
          · have hm := hmx 1 (by omega)
            have HJ := Lib.hid hj
            clear hj hmx
            subst e1 e2
            go_wp2
            go_region
            go_wp2_with (at_builtin; refine wpList_app rfl (.tmp 75) (.tmp 77) rfl _ zs rfl (by exact hown.out.kp (by first | exact Kp.alloc_ _ _ | exact (Kp.alloc_ _ _).drew)) _ _ [1] _ rfl rfl (by first | exact Rd.one _ _ _ | exact (Rd.one _ _ _).drew) (by simp; omega) (by have := HBs.out; simp; omega) ?_; intro zs2 A2 c2 w3 HZ hown2 hb2; have HB := Lib.hid (((hb.out.alloc HBs.out _).drew).trans hb2); have HW := Lib.hid hown2; clear hown2 hb2)
            go_roundw
            case rel => exact ⟨k + 1, zs2, A2, c2, by go_num, rfl, j_step hr.out HX.out HY.out HJ.out HZ.out, HW.out, HB.out⟩
            case measure => simp [intOf]; omega
          · have hm := hmx y (by omega)
            have HJ := Lib.hid hj
            clear hj hmx
            subst e1
            go_wp2
            go_region
            go_wp2_with (at_builtin; refine wpList_app rfl (.tmp 75) (.tmp 77) rfl _ zs rfl (by exact hown.out.kp (by first | exact Kp.alloc_ _ _ | exact (Kp.alloc_ _ _).drew)) _ _ [y] _ rfl rfl (by first | exact Rd.one _ _ _ | exact (Rd.one _ _ _).drew) (by simp; omega) (by have := HBs.out; simp; omega) ?_; intro zs2 A2 c2 w3 HZ hown2 hb2; have HB := Lib.hid (((hb.out.alloc HBs.out _).drew).trans hb2); have HW := Lib.hid hown2; clear hown2 hb2)
            go_roundw
            case rel => exact ⟨k + 1, zs2, A2, c2, by go_num, rfl, j_step hr.out HX.out HY.out HJ.out HZ.out, HW.out, HB.out⟩
            case measure => simp [intOf]; omega
          · have hm := hmx x (by omega)
            have HJ := Lib.hid hj
            clear hj hmx
            subst e1
            go_wp2
            go_region
            go_wp2_with (at_builtin; refine wpList_app rfl (.tmp 75) (.tmp 77) rfl _ zs rfl (by exact hown.out.kp (by first | exact Kp.alloc_ _ _ | exact (Kp.alloc_ _ _).drew)) _ _ [x] _ rfl rfl (by first | exact Rd.one _ _ _ | exact (Rd.one _ _ _).drew) (by simp; omega) (by have := HBs.out; simp; omega) ?_; intro zs2 A2 c2 w3 HZ hown2 hb2; have HB := Lib.hid (((hb.out.alloc HBs.out _).drew).trans hb2); have HW := Lib.hid hown2; clear hown2 hb2)
            go_roundw
            case rel => exact ⟨k + 1, zs2, A2, c2, by go_num, rfl, j_step hr.out HX.out HY.out HJ.out HZ.out, HW.out, HB.out⟩
            case measure => simp [intOf]; omega
          · have hm := hmx x (by omega)
            have HJ := Lib.hid hj
            clear hj hmx
            subst e1
            go_wp2
            go_region
            go_wp2_with (at_builtin; refine wpList_app rfl (.tmp 75) (.tmp 77) rfl _ zs rfl (by exact hown.out.kp (by first | exact Kp.alloc_ _ _ | exact (Kp.alloc_ _ _).drew)) _ _ [x] _ rfl rfl (by first | exact Rd.one _ _ _ | exact (Rd.one _ _ _).drew) (by simp; omega) (by have := HBs.out; simp; omega) ?_; intro zs2 A2 c2 w3 HZ hown2 hb2; have HB := Lib.hid (((hb.out.alloc HBs.out _).drew).trans hb2); have HW := Lib.hid hown2; clear hown2 hb2)
            go_roundw
            case rel => exact ⟨k + 1, zs2, A2, c2, by go_num, rfl, j_step hr.out HX.out HY.out HJ.out HZ.out, HW.out, HB.out⟩
            case measure => simp [intOf]; omega
          · have hm' := hmx y hm.symm
            have HF := Lib.hid (join_none HO.out.1 HO.out.2 (by rw [HE.out]; exact j_stop hr.out HX.out HY.out hj))
            clear hj hmx hm
            go_wp2
            go_region
            go_wp2
            go_ret2
            exact RetJ.err_ HF.out (K2.out.tr (by first | exact hb.out | exact hb.out.drew))
          · have hm' := hmx x hm.symm
            have HF := Lib.hid (join_none HO.out.1 HO.out.2 (by rw [HE.out]; exact j_stop hr.out HX.out HY.out hj))
            clear hj hmx hm
            go_wp2
            go_region
            go_wp2
            go_ret2
            exact RetJ.err_ HF.out (K2.out.tr (by first | exact hb.out | exact hb.out.drew))
        · have hk2 : k = P.length := by have := hr.out.1; omega
          have HJ := Lib.hid (show joinO a b = some zs by rw [HE.out]; exact j_end hr.out hk2)
          clear hzl hk2
          cases hz : okS zs with
          | true =>
            have HC : Hid (Calls Try.prog 24 #[.slice Az zs.length cz] wr fun e w' => e = .returned (.bool true) ∧ wr = w') := by
              have hh := rcheck_any Az cz zs wr hown.out.sl.rd
              rw [hz] at hh
              exact hh
            have HF := Lib.hid (join_yes HO.out.1 HO.out.2 HJ.out hz)
            clear hz
            go_wp2_with fail
            refine (Calls.mono (Hid.out HC)) ?_; rintro e w' ⟨rfl, rfl⟩
            go_wp2
            go_ret2
            exact RetJ.mk_ HF.out rfl hown.out K2.out.size (K2.out.tr hb.out)
          | false =>
            have HC : Hid (Calls Try.prog 24 #[.slice Az zs.length cz] wr fun e w' => e = .returned (.bool false) ∧ wr = w') := by
              have hh := rcheck_any Az cz zs wr hown.out.sl.rd
              rw [hz] at hh
              exact hh
            have HF := Lib.hid (join_big HO.out.1 HO.out.2 HJ.out hz)
            clear hz
            go_wp2_with fail
            refine (Calls.mono (Hid.out HC)) ?_; rintro e w' ⟨rfl, rfl⟩
            go_wp2
            go_ret2
            exact RetJ.err_ HF.out (K2.out.tr hb.out)
end Go.Proofs.Ytnkkkpanlnencaa
