/- At each index of what was stretched stands the number that it comes from: the law's call returns true. -/
import Derived.Test.YtdekchfapblgeaaTnBk
namespace Go.Proofs.Ytdekchfapblgeaa
open Go.RowKit Go.Proofs.ShM

set_option maxHeartbeats 4000000 in
set_option maxRecDepth 100000 in
/-- Beyond a hundred, or of what may be no tensor, nothing is asked. -/
theorem tindex_far (A B C D : Option Addr) (c d e h n m o p : Nat) (w : World) (zn : n ≤ 9223372036854775807) (zm : m ≤ 9223372036854775807) (zo : o ≤ 9223372036854775807) (zp : p ≤ 9223372036854775807) (hf : 100 < n ∨ 100 < m ∨ 100 < o ∨ 100 < p) :
    Calls Try.prog 8 #[.agg #[.slice A n c, .slice B m d], .slice C o e, .slice D p h] w fun e w' => e = .returned (.bool true) ∧ Kp w w' := by
  by_cases h1 : 100 < n ∨ 100 < m
  · have HN : Hid (∀ W, Calls Try.prog 10 #[.agg #[.slice A n c, .slice B m d]] W fun e w' => e = .returned (.bool false) ∧ Kp W w') := fun W => few_no zn zm h1
    clear hf h1
    go_enter Try.func8, Try.ntmps8
    go_wp2_with fail
    refine (tnawake_any _).mono ?_; rintro e0 w0 ⟨rfl, k0⟩
    have TB : Hid (Bk w0 w.heap.size A n c B m d) := (Bk.new rfl).kp k0
    have t0 := TB.out.c0
    have t1 := TB.out.c1
    have K := Lib.hid ((Kp.alloc_ _ _).tr k0)
    clear k0
    go_wp2_with fail
    refine (HN.out _).mono ?_; rintro e0 w1 ⟨rfl, k1⟩
    go_wp2
    go_ret
    exact ⟨rfl, K.out.tr k1⟩
  · have hn : n ≤ 100 := by omega
    have hm : m ≤ 100 := by omega
    by_cases hq : 100 < o ∨ 100 < p
    · clear hf h1
      by_cases h2 : 100 < o
      all_goals by_cases h3 : 100 < p
      all_goals
        first
        | exact absurd hq (by omega)
        | (clear hq
           go_enter Try.func8, Try.ntmps8
           go_wp2_with fail
           refine (tnawake_any _).mono ?_; rintro e0 w0 ⟨rfl, k0⟩
           have TB : Hid (Bk w0 w.heap.size A n c B m d) := (Bk.new rfl).kp k0
           have t0 := TB.out.c0
           have t1 := TB.out.c1
           have K := Lib.hid ((Kp.alloc_ _ _).tr k0)
           clear k0
           go_wp2_with fail
           refine (few_yes hn hm).mono ?_; rintro e0 w1 ⟨rfl, k1⟩
           go_wp2
           go_ret
           exact ⟨rfl, K.out.tr k1⟩)
    · omega

set_option maxHeartbeats 8000000 in
set_option maxRecDepth 100000 in
/-- It can't be stretched, or the index is none. -/
theorem tindex_none (A B C D : Option Addr) (c d e h n m o p : Nat) (w : World) (hn : n ≤ 100) (hm : m ≤ 100) (ho : o ≤ 100) (hp : p ≤ 100) (l3 k3 : List Int) (a3 b3 : Nat) (e3 v3 f3 : Int) (HE : Hid (e3 = 0 → f3 = 20))
    (C1 : Hid (∀ W, Kp w W → Calls Try.prog 16 #[.agg #[.slice A n c, .slice B m d], .slice C o e] W (RetU l3 k3 a3 b3 e3 W)))
    (C2 : Hid (∀ W A0 B0 c0 d0, Kp w W → TR W A0 l3 B0 k3 → Calls Try.prog 20 #[.agg #[.slice A0 a3 c0, .slice B0 b3 d0], .slice D p h] W (RetK v3 f3 W))) :
    Calls Try.prog 8 #[.agg #[.slice A n c, .slice B m d], .slice C o e, .slice D p h] w fun e w' => e = .returned (.bool true) ∧ Kp w w' := by
  go_enter Try.func8, Try.ntmps8
  go_wp2_with fail
  refine (tnawake_any _).mono ?_; rintro e0 w0 ⟨rfl, k0⟩
  have K := Lib.hid ((Kp.alloc_ _ _).tr k0)
  have TB : Hid (Bk w0 w.heap.size A n c B m d) := (Bk.new rfl).kp k0
  clear k0
  have tb0 := TB.out.c0
  have tb1 := TB.out.c1
  have tb2 := TB.out.lt
  go_wp2_with fail
  refine (few_yes hn hm).mono ?_; rintro e0 w1 ⟨rfl, k1⟩
  have K := Lib.hid (K.out.tr k1)
  have TB := Lib.hid (TB.out.kp k1)
  clear k1 tb0 tb1 tb2
  have tb0 := TB.out.c0
  have tb1 := TB.out.c1
  have tb2 := TB.out.lt
  go_wp2_with fail
  refine (C1.out _ K.out).mono ?_; rintro e0 w2 ⟨A2, c2, B2, d2, rfl, r2, k2⟩
  have K := Lib.hid (K.out.tr k2)
  have TB := Lib.hid (TB.out.kp k2)
  have AR := Lib.hid r2
  clear k2 r2 tb0 tb1 tb2
  have tb0 := TB.out.c0
  have tb1 := TB.out.c1
  have tb2 := TB.out.lt
  go_wp2_with fail
  refine (C2.out _ _ _ _ _ (K.out.al _) (AR.out.alloc_ _)).mono ?_; rintro e0 w3 ⟨rfl, k3⟩
  have K := Lib.hid ((K.out.al _).tr k3)
  have TB := Lib.hid ((TB.out.alloc_ _).kp k3)
  have AR := Lib.hid ((AR.out.alloc_ _).kp k3)
  have AB : Hid (Bk w3 w2.heap.size A2 a3 c2 B2 b3 d2) := (Bk.new rfl).kp k3
  clear k3 tb0 tb1 tb2
  have tb0 := TB.out.c0
  have tb1 := TB.out.c1
  have tb2 := TB.out.lt
  have ab0 := AB.out.c0
  have ab1 := AB.out.c1
  have ab2 := AB.out.lt
  by_cases h3 : e3 = 0
  · have q0 := HE.out h3
    subst h3 q0
    go_wp2
    go_ret
    exact ⟨rfl, K.out⟩
  · go_wp2
    go_ret
    exact ⟨rfl, K.out⟩

set_option maxHeartbeats 8000000 in
set_option maxRecDepth 100000 in
/-- The index is one. -/
theorem tindex_some (A B C D : Option Addr) (c d e h n m o p : Nat) (w : World) (hn : n ≤ 100) (hm : m ≤ 100) (ho : o ≤ 100) (hp : p ≤ 100) (l3 k3 : List Int) (a3 b3 : Nat) (v3 : Int) (s y : List Int) (j : Nat)
    (L0 : Hid (s.length = n)) (LY : Hid (y.length = n)) (HJ : Hid (p = n + j)) (HA : Hid (Rd w A s)) (HD : Hid (Rd w (cutA D h j) y))
    (C1 : Hid (∀ W, Kp w W → Calls Try.prog 16 #[.agg #[.slice A n c, .slice B m d], .slice C o e] W (RetU l3 k3 a3 b3 0 W)))
    (C2 : Hid (∀ W A0 B0 c0 d0, Kp w W → TR W A0 l3 B0 k3 → Calls Try.prog 20 #[.agg #[.slice A0 a3 c0, .slice B0 b3 d0], .slice D p h] W (RetK v3 0 W)))
    (C3 : Hid (∀ W A1 c1, Kp w W → Rd W A1 (maskL s y) → Calls Try.prog 20 #[.agg #[.slice A n c, .slice B m d], .slice A1 n c1] W (RetK v3 0 W))) :
    Calls Try.prog 8 #[.agg #[.slice A n c, .slice B m d], .slice C o e, .slice D p h] w fun e w' => e = .returned (.bool true) ∧ Kp w w' := by
  obtain ⟨D3, hD3⟩ : ∃ D3, D3 = cutA D h j := ⟨_, rfl⟩
  obtain ⟨h3, hh3⟩ : ∃ h3, h3 = h - j := ⟨_, rfl⟩
  have hcut : ∀ W, (Instr.sliceAt 22 (.slice D p h) (some (.int .i64 (j : Int))) none none).run Try.prog W = .ok (.slice D3 n h3) W := fun W => by
    rw [hD3, hh3, run_cut W D p h j (by have := HJ.out; omega), show p - j = n by have := HJ.out; omega]
  rw [← hD3] at HD
  have e1 : IntKind.i64.wrap ((p : Int) - (n : Int)) = (j : Int) := by rw [IntWalk.i64_in _ (by omega)]; have := HJ.out; omega
  have hnp : n ≤ p := by have := HJ.out; omega
  clear hD3 hh3
  have HCUT := Lib.hid (And.intro hcut e1)
  clear hcut e1
  have HR0 := Lib.hid (TnF.pstart (s := s) (x := y) (j := 0) (by have := L0.out; have := LY.out; omega))
  go_enter Try.func8, Try.ntmps8
  go_wp2_with fail
  refine (tnawake_any _).mono ?_; rintro e0 w0 ⟨rfl, k0⟩
  have K := Lib.hid ((Kp.alloc_ _ _).tr k0)
  have TB : Hid (Bk w0 w.heap.size A n c B m d) := (Bk.new rfl).kp k0
  clear k0
  have tb0 := TB.out.c0
  have tb1 := TB.out.c1
  have tb2 := TB.out.lt
  go_wp2_with fail
  refine (few_yes hn hm).mono ?_; rintro e0 w1 ⟨rfl, k1⟩
  have K := Lib.hid (K.out.tr k1)
  have TB := Lib.hid (TB.out.kp k1)
  clear k1 tb0 tb1 tb2
  have tb0 := TB.out.c0
  have tb1 := TB.out.c1
  have tb2 := TB.out.lt
  go_wp2_with fail
  refine (C1.out _ K.out).mono ?_; rintro e0 w2 ⟨A2, c2, B2, d2, rfl, r2, k2⟩
  have K := Lib.hid (K.out.tr k2)
  have TB := Lib.hid (TB.out.kp k2)
  have AR := Lib.hid r2
  clear k2 r2 tb0 tb1 tb2
  have tb0 := TB.out.c0
  have tb1 := TB.out.c1
  have tb2 := TB.out.lt
  go_wp2_with fail
  refine (C2.out _ _ _ _ _ (K.out.al _) (AR.out.alloc_ _)).mono ?_; rintro e0 w3 ⟨rfl, k3⟩
  have K := Lib.hid ((K.out.al _).tr k3)
  have TB := Lib.hid ((TB.out.alloc_ _).kp k3)
  have AR := Lib.hid ((AR.out.alloc_ _).kp k3)
  have AB : Hid (Bk w3 w2.heap.size A2 a3 c2 B2 b3 d2) := (Bk.new rfl).kp k3
  clear k3 tb0 tb1 tb2
  have tb0 := TB.out.c0
  have tb1 := TB.out.c1
  have tb2 := TB.out.lt
  obtain ⟨hcut, e1⟩ := HCUT.out
  have K3 := K
  have TB3 := TB
  go_wp2_with (at_builtin; refine wpList_app rfl (.tmp 64) (.tmp 72) rfl _ [] rfl (Own.zero w3 (Nat.le_refl _)) _ h3 y _ rfl LY.out.symm ((HD.out.kp K.out).alloc_ _) (by have := LY.out; simp; omega) (by simp) ?_; intro z4 A4 c4 w4 HZ4 o4 b4; have K34 := Lib.hid (((Below.refl _ _).alloc (Nat.le_refl _) _).trans b4); have O4 := Lib.hid o4; clear o4 b4 tb0 tb1 tb2 hcut e1)
  obtain rfl : y = z4 := by simpa using HZ4.out.symm
  have O5 := O4.out
  rw [LY.out] at O5 ⊢
  have O4 := Lib.hid O5
  clear O5 HZ4
  go_loopw [13] (fun i wr => ∃ (k : Nat) (zs : List Int), i = .int .i64 k ∧ Hid (TnF.Pl s y 0 k zs) ∧ Hid (Own w3.heap.size wr (.slice A4 n c4) zs) ∧ Hid (Kp w3 wr)) (fun i _ => n - (intOf i).toNat)
  case atStart => exact ⟨0, y, rfl, HR0.out, O4.out, K34.out⟩
  case round =>
    obtain ⟨k, zs, rfl, hr, hown, hk⟩ := hrel
    have TBr := Lib.hid (TB3.out.kp hk.out)
    have tb0 := TBr.out.c0
    have tb1 := TBr.out.c1
    have HSL := L0.out
    by_cases hlt : k < n
    · obtain ⟨ad, x0, rfl, hbl, hx, hc⟩ := HA.out.at_ (k := k) (by omega)
      have hc' : wr.cell? (ad.add k) = some (.int .i64 x0) := ((K3.out.tr hk.out).cell (by rw [block_of_add]; exact hbl)).trans hc
      have HX0 := Lib.hid hx
      clear hx hc hbl
      by_cases h1 : x0 = 1
      · subst h1
        have hzl : zs.length = n := (TnF.plen hr.out).trans LY.out
        obtain ⟨gd, hA1, hg1, hg2⟩ := hown.out.addr (by omega)
        subst hA1
        obtain ⟨u, hu⟩ : ∃ u, zs[k]? = some u := ⟨zs[k]'(by omega), List.getElem?_eq_getElem _⟩
        have hcz := hown.out.cell_ hu
        have hfz := hown.out.froz_ k
        have HN : Hid (zs.set k 0 = if (1 : Int) = 1 then zs.set (0 + k) 0 else zs) := by show _ = _; rw [if_pos rfl, Nat.zero_add]
        clear hu hzl HSL
        go_wp2
        go_roundw
        case rel => exact ⟨k + 1, zs.set k 0, by go_num, TnF.pstep hr.out HX0.out HN.out, hown.out.set_ _ _, hk.out.setCell (p := ⟨gd, k, none⟩) hg1 _⟩
        case measure => simp [intOf]; omega
      · have h2 : (x0 == 1) = false := by simpa using h1
        have HN : Hid (zs = if x0 = 1 then zs.set (0 + k) 0 else zs) := by show zs = _; rw [if_neg h1]
        clear h1 HSL
        go_wp2
        go_roundw
        case rel => exact ⟨k + 1, zs, by go_num, TnF.pstep hr.out HX0.out HN.out, hown.out, hk.out⟩
        case measure => simp [intOf]; omega
    · have hz : zs = maskL s y := by simpa using TnF.pend hr.out (by omega)
      have RZ : Hid (Rd wr A4 (maskL s y)) := by show Rd wr A4 _; rw [← hz]; exact hown.out.sl.rd
      clear hz HSL
      go_wp2_with fail
      refine (C3.out _ _ _ (K3.out.tr hk.out) RZ.out).mono ?_; rintro e0 w5 ⟨rfl, k5⟩
      go_wp2
      go_ret
      exact ⟨rfl, (K3.out.tr hk.out).tr k5⟩

theorem tindex_walk (A B C D : Option Addr) (c d e h : Nat) (s xs g t : List Int) (w : World) (hT : TR w A s B xs) (hC : Rd w C g) (hD : Rd w D t) (hc : t.length ≤ h) :
    Calls Try.prog 8 #[.agg #[.slice A s.length c, .slice B xs.length d], .slice C g.length e, .slice D t.length h] w fun e w' => e = .returned (.bool true) ∧ Kp w w' := by
  by_cases hf : 100 < s.length ∨ 100 < xs.length ∨ 100 < g.length ∨ 100 < t.length
  · exact tindex_far A B C D c d e h _ _ _ _ w hT.s.len hT.d.len hC.len hD.len hf
  · obtain ⟨l3, k3, e3, r3⟩ : ∃ l k e, spreadV s xs g = (l, k, e) := ⟨_, _, _, rfl⟩
    obtain ⟨v3, f3, r4⟩ : ∃ v f, atV l3 k3 t = (v, f) := ⟨_, _, rfl⟩
    have C1 : Hid (∀ W, Kp w W → Calls Try.prog 16 #[.agg #[.slice A s.length c, .slice B xs.length d], .slice C g.length e] W (RetU l3 k3 l3.length k3.length e3 W)) :=
      Lib.hid fun W k => spread_u s xs g (hT.kp k) (hC.kp k) rfl rfl rfl r3 rfl rfl
    have C2 : Hid (∀ W A0 B0 c0 d0, Kp w W → TR W A0 l3 B0 k3 → Calls Try.prog 20 #[.agg #[.slice A0 l3.length c0, .slice B0 k3.length d0], .slice D t.length h] W (RetK v3 f3 W)) :=
      Lib.hid fun W A0 B0 c0 d0 k r => at_u l3 k3 t r (hD.kp k) rfl rfl rfl r4
    rcases spread_cases s xs g with ⟨_, q⟩ | ⟨_, _, q⟩ | ⟨hk, hfit, q⟩
    · rw [q] at r3
      simp only [Prod.mk.injEq] at r3
      exact tindex_none A B C D c d e h _ _ _ _ w (by omega) (by omega) (by omega) (by omega) _ _ _ _ _ _ _ (Lib.hid fun h => by omega) C1 C2
    · rw [q] at r3
      simp only [Prod.mk.injEq] at r3
      exact tindex_none A B C D c d e h _ _ _ _ w (by omega) (by omega) (by omega) (by omega) _ _ _ _ _ _ _ (Lib.hid fun h => by omega) C1 C2
    · rw [q] at r3
      simp only [Prod.mk.injEq] at r3
      obtain ⟨q1, q2, q3⟩ := r3
      subst q1 q2 q3
      cases hin : inIdx g t with
      | false =>
        rw [at_no (tok_spread hfit) hin] at r4
        simp only [Prod.mk.injEq] at r4
        exact tindex_none A B C D c d e h _ _ _ _ w (by omega) (by omega) (by omega) (by omega) _ _ _ _ _ _ _ (Lib.hid fun _ => r4.2.symm) C1 C2
      | true =>
        obtain ⟨z1, z2⟩ := at_spread (d := xs) hfit hk hin
        have hl := in_len hin
        have hle := (fits_al hfit).2.2.1
        rw [z1] at r4
        rw [r4] at z2
        simp only at z2
        subst z2
        obtain ⟨j, hj⟩ : ∃ j, g.length = s.length + j := ⟨g.length - s.length, by omega⟩
        rw [show g.length - s.length = j by omega] at r4
        exact tindex_some A B C D c d e h _ _ _ _ w (by omega) (by omega) (by omega) (by omega) _ _ _ _ v3 s (t.drop j) j (Lib.hid rfl) (Lib.hid (show (t.drop j).length = s.length by simp; omega)) (Lib.hid (show t.length = s.length + j by omega)) (Lib.hid hT.s) (Lib.hid (hD.cut hc)) C1 C2
          (Lib.hid fun W A1 c1 k r => at_u s xs (maskL s (t.drop j)) (hT.kp k) r rfl rfl (TnF.mask_len s (by simp; omega)).symm r4)

end Go.Proofs.Ytdekchfapblgeaa
