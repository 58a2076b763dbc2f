/- WireCuts, over the contracts of the calls. -/
import Derived.Test.YtdcgmnkoomhocaaWiTells
import Derived.BigQuiet
import Derived.Deep.QuietTactic
namespace Go.Proofs.Ytdcgmnkoomhocaa
open Go.RowKit Go.Proofs.ShM Go.Proofs.GrM Go.Proofs.PkM Go.Proofs.WiM
set_option linter.unusedVariables false
set_option maxHeartbeats 8000000

theorem B8.Rd.take12 {W : World} {A : Option Addr} {xs : List Int} (h : B8.Rd W A xs) (k : Nat) : B8.Rd W A (xs.take k) :=
  ⟨by rw [List.length_take]; have := h.1; omega, fun hp => by
    rw [List.length_take] at hp
    obtain ⟨ad, e, hb, hc⟩ := h.2 (by omega)
    refine ⟨ad, e, hb, fun j u hu => hc j u ?_⟩
    rw [List.getElem?_take] at hu
    split at hu
    · exact hu
    · cases hu⟩
theorem lenN_take {l : List Nd} {k : Nat} {t : Nd} (h : l[k]? = some t) : lenN (l.take (k + 1)) = lenN (l.take k) + (3 + t.2.1.length + 8 * t.2.2.length) := by
  rw [take_of h]; unfold lenN; rw [List.map_append, List.sum_append]; simp
set_option maxRecDepth 100000 in
theorem wcuts_far (HW : ∀ w : World, Calls Try.prog 7 #[] w fun e w' => e = .returned (.bool true) ∧ Kp w w') (A : Option Addr) (c p : Nat) (cut more : Int) (w : World) (h : FewN A c p w false) :
    Calls Try.prog 5 #[.slice A p c, .int .u16 cut, .int .u8 more] w fun e w' => e = .returned (.bool true) ∧ Kp w w' := by
  have HAW := Lib.hid HW
  have H := Lib.hid h
  clear HW h
  go_enter Try.func5, Try.ntmps5
  go_wp2_with fail
  refine (HAW.out _).mono ?_; rintro e0 w1 ⟨rfl, k1⟩
  have K1 := Lib.hid k1
  clear k1
  go_wp2_with fail
  refine (H.out _ K1.out).mono ?_; rintro e0 w2 ⟨rfl, rfl⟩
  go_wp2
  go_ret
  exact ⟨rfl, K1.out⟩
set_option maxRecDepth 100000 in
theorem wcuts_none (HW : ∀ w : World, Calls Try.prog 7 #[] w fun e w' => e = .returned (.bool true) ∧ Kp w w') (A : Option Addr) (c p : Nat) (cut more : Int) (w : World) (h : FewN A c p w true)
    (C1 : Hid (∀ W, Kp w W → Calls Try.prog 9 #[.slice A p c] W (RetB [] 100 0 W))) :
    Calls Try.prog 5 #[.slice A p c, .int .u16 cut, .int .u8 more] w fun e w' => e = .returned (.bool true) ∧ Kp w w' := by
  have HAW := Lib.hid HW
  have H := Lib.hid h
  clear HW h
  go_enter Try.func5, Try.ntmps5
  go_wp2_with fail
  refine (HAW.out _).mono ?_; rintro e0 w1 ⟨rfl, k1⟩
  have K1 := Lib.hid k1
  clear k1
  go_wp2_with fail
  refine (H.out _ K1.out).mono ?_; rintro e0 w2 ⟨rfl, rfl⟩
  go_wp2_with fail
  refine (C1.out _ K1.out).mono ?_; rintro e0 w4 ⟨A4, c4, rfl, r4, _, k_⟩
  have K := Lib.hid (K1.out.tr k_)
  clear k_
  go_wp2
  go_ret
  exact ⟨rfl, K.out⟩
set_option maxRecDepth 100000 in
theorem wcuts_with (A : Option Addr) (c p q N : Nat) (l : List Nd) (x : List Int) (cut more : Int) (w : World) (FA : Hid (FewN A c p w true)) (RA : Hid (RdG w A l)) (LL : Hid (x.length = N ∧ l.length = p ∧ N = 1 + lenN l ∧ N ≤ 1000))
    (hp : p ≤ 24) (hN1 : 1 ≤ N) (hN2 : N ≤ 1000) (hq : q < N) (HM : Hid (∀ (k : Nat) (t : Nd), l[k]? = some t → t.2.1.length ≤ 2 ∧ t.2.2.length ≤ 4))
    (g0 : 0 ≤ cut) (g1 : cut ≤ 65535) (t1 : Int.tmod cut (N : Int) = (q : Int))
    (HW : Hid (∀ w : World, Calls Try.prog 7 #[] w fun e w' => e = .returned (.bool true) ∧ Kp w w'))
    (C1 : Hid (∀ W, Kp w W → Calls Try.prog 9 #[.slice A p c] W (RetB x 0 N W)))
    (C2 : Hid (∀ W E c0, B8.Rd W E x → x.length ≤ c0 ∧ c0 ≤ 9223372036854775807 → Calls Try.prog 11 #[.slice E q c0] W (RetNs [] 120 0 W)))
    (C3 : Hid (∀ W E c0 z m, z = x ++ [more] → m = z.length → B8.Rd W E z → z.length ≤ c0 ∧ c0 ≤ 9223372036854775807 → Calls Try.prog 11 #[.slice E m c0] W (RetNs [] 120 0 W))) :
    Calls Try.prog 5 #[.slice A p c, .int .u16 cut, .int .u8 more] w fun e w' => e = .returned (.bool true) ∧ Kp w w' := by
  have n0 : ((N : Int) == 0) = false := by rw [beq_eq_false_iff_ne]; omega
  have n1 : ¬ (N : Int) = 0 := by omega
  have HT1 := Lib.hid t1
  clear t1
  go_enter Try.func5, Try.ntmps5
  go_wp2_with fail
  refine (HW.out _).mono ?_; rintro e0 w1 ⟨rfl, k_⟩
  have K := Lib.hid k_
  clear k_
  go_wp2_with fail
  refine (FA.out _ K.out).mono ?_; rintro e0 w2 ⟨rfl, rfl⟩
  go_wp2_with fail
  refine (C1.out _ K.out).mono ?_; rintro e0 w4 ⟨A4, c4, rfl, r4, l4, k_⟩
  have K := Lib.hid (K.out.tr k_)
  have j3 : q ≤ c4 := by have h1 := l4.out.1; have h2 := LL.out.1; omega
  have j4 : c4 ≤ 9223372036854775807 := l4.out.2
  clear k_
  go_wp2
  go_loopw [10, 11] (fun v i wx => ∃ k n : Nat, v = .int .i64 (n : Int) ∧ i = .int .i64 (k : Int) ∧ Hid (k ≤ p) ∧ Hid (n = 1 + lenN (l.take k)) ∧ n ≤ 1 + 40 * k ∧ Hid (Kp w4 wx)) (fun _ i _ => p - (intOf i).toNat)
  case atStart => exact ⟨0, 1, rfl, rfl, Nat.zero_le _, (by show 1 = _; simp [lenN]), Nat.le_refl _, Kp.refl _⟩
  case round =>
    obtain ⟨k, n, rfl, rfl, hk, hT, hn, hK⟩ := hrel
    have KW := Lib.hid (K.out.tr hK.out)
    by_cases hj : k < p
    · have hj' : (k : Int) < (p : Int) := by omega
      obtain ⟨ad, t, P, e, Q, f, rfl, hlt, ht, hc0, hc1, hc2, hN, _, _⟩ := (RA.out.kp KW.out).at_ (show k < l.length by rw [LL.out.2.1]; exact hj)
      have hst := Lib.hid (lenN_take ht)
      obtain ⟨b1, b2⟩ := HM.out k t ht
      obtain ⟨op, la, nu⟩ := t
      dsimp only at hc1 hc2 b1 b2 hst
      obtain ⟨m1, hm1⟩ : ∃ m1, m1 = la.length := ⟨_, rfl⟩
      obtain ⟨m2, hm2⟩ : ∃ m2, m2 = nu.length := ⟨_, rfl⟩
      rw [← hm1] at hc1 b1
      rw [← hm2] at hc2 b2
      have HST : Hid (lenN (l.take (k + 1)) = lenN (l.take k) + (3 + m1 + 8 * m2)) := by show _ = _; rw [hst.out, hm1, hm2]
      have g1 : IntKind.i64.wrap ((n : Int) + 3) = ((n + 3 : Nat) : Int) := by rw [IntKind.wrap_i64]; omega
      have g2 : IntKind.i64.wrap (((n + 3 : Nat) : Int) + (m1 : Int)) = ((n + 3 + m1 : Nat) : Int) := by rw [IntKind.wrap_i64]; omega
      have g3 : IntKind.i64.wrap (8 * (m2 : Int)) = ((8 * m2 : Nat) : Int) := by rw [IntKind.wrap_i64]; omega
      have g4 : IntKind.i64.wrap (((n + 3 + m1 : Nat) : Int) + ((8 * m2 : Nat) : Int)) = ((n + 3 + m1 + 8 * m2 : Nat) : Int) := by rw [IntKind.wrap_i64]; omega
      have hnn : n + 3 + m1 + 8 * m2 ≤ 1 + 40 * (k + 1) := by omega
      have HNN := Lib.hid hnn
      obtain ⟨z4, hz4⟩ : ∃ z : Nat, z = n + 3 + m1 + 8 * m2 := ⟨_, rfl⟩
      rw [← hz4] at g4
      obtain ⟨z2, hz2⟩ : ∃ z : Nat, z = n + 3 + m1 := ⟨_, rfl⟩
      rw [← hz2] at g2 g4
      obtain ⟨z1, hz1⟩ : ∃ z : Nat, z = n + 3 := ⟨_, rfl⟩
      rw [← hz1] at g1 g2
      obtain ⟨z3, hz3⟩ : ∃ z : Nat, z = 8 * m2 := ⟨_, rfl⟩
      rw [← hz3] at g3 g4
      have HZ4 := Lib.hid hz4
      clear ht hN hst hm1 hm2 hz1 hz2 hz3 hz4 hnn hc0
      go_wp2_with fail
      go_quiet (fail)
      go_wp2
      go_roundw
      case rel => exact ⟨k + 1, z4, rfl, by go_num, (by show k + 1 ≤ p; omega), (by show z4 = _; have h1 := HST.out; have h2 := hT.out; have h3 := HZ4.out; omega), (by have h2 := HZ4.out; have h3 := HNN.out; omega), hK.out.tr (Kp.drewN_ _ _)⟩
      case measure => simp [intOf]; omega
    · have hj' : ¬ (k : Int) < (p : Int) := by omega
      have hnN : n = N := by
        have h1 := hT.out
        have h2 := LL.out.2.2.1
        rw [List.take_of_length_le (by rw [LL.out.2.1]; omega)] at h1
        omega
      subst hnN
      have nn : ((n : Int) == (n : Int)) = true := by simp
      have R4 := Lib.hid (r4.out.kp hK.out)
      have t1 := HT1.out
      have j1 : (0 : Int) ≤ (q : Int) := by omega
      have j2 : q ≤ n := by omega
      clear hT hn hk hj
      go_wp2_with fail
      refine (C2.out _ _ _ R4.out l4.out).mono ?_; rintro e0 w5 ⟨A5, c5, rfl, _, _, k_⟩
      have K5 := Lib.hid (KW.out.tr k_)
      have R5 := Lib.hid (R4.out.kp k_)
      have OB := Lib.hid (B8.Own.zero (B := w5.heap.size) w5 (Nat.le_refl _))
      have RB := Lib.hid (R5.out.alloc_ (.cells #[] 5))
      have HXN : Hid (x.length = n) := LL.out.1
      clear k_
      go_wp2_with (first
        | (at_builtin; (refine B8.wpList_app (B := w5.heap.size) rfl (.tmp 73) (.tmp 74) rfl _ [] rfl OB.out A4 c4 x _ rfl HXN.out.symm RB.out (by rw [HXN.out]; simp; omega) (by simp) ?_; intro z1 D1 f1 u1 HZ1 o1 b1; have O1 := Lib.hid (o1.kp (Kp.alloc_ u1 (.cells #[.int .u8 more] 5))); have KB : Hid (Kp w5 u1) := (Kp.alloc_ w5 _).trans b1; have RM := Lib.hid (B8.Rd.one u1 more 5); have LZ : Hid (z1.length ≤ 1000) := (by show _ ≤ _; rw [HZ1.out, List.nil_append, HXN.out]; exact hN2); clear o1 b1))
        | (at_builtin; refine B8.wpList_app (B := w5.heap.size) rfl (.tmp 75) (.tmp 77) rfl _ z1 rfl O1.out _ 1 [more] 1 rfl rfl RM.out (by have := LZ.out; simp; omega) (by have := KB.out.size; simp; omega) ?_; intro z2 D2 f2 u2 HZ2 o2 b2; have O2 := Lib.hid o2; have KC : Hid (Kp w5 u2) := (kp_al KB.out _).trans b2; clear o2 b2))
      refine (C3.out _ _ _ z2 _ (by rw [HZ2.out, HZ1.out, List.nil_append]) rfl (B8.own_room O2.out).1 (B8.own_room O2.out).2).mono ?_; rintro e0 w6 ⟨A6, c6, rfl, _, _, k_⟩
      have K6 := Lib.hid ((K5.out.tr KC.out).tr k_)
      clear k_
      go_wp2
      go_ret
      exact ⟨rfl, K6.out⟩
theorem wcuts_walk (C : WiC) (A : Option Addr) (c : Nat) (l : List Nd) (cut more : Int) (w : World) (R : RdG w A l) (N : ∀ t ∈ l, Nd64 t) (L : l.length ≤ c) (M : c ≤ 9223372036854775807) (g0 : 0 ≤ cut) (g1 : cut ≤ 65535) (m0 : 0 ≤ more) (m1 : more ≤ 255) :
    Calls Try.prog 5 #[.slice A l.length c, .int .u16 cut, .int .u8 more] w fun e w' => e = .returned (.bool true) ∧ Kp w w' := by
  cases hf : fewN l with
  | false => exact wcuts_far (wiawake_any C) A c _ cut more w (few_n R hf)
  | true =>
  have hs := small_few hf N
  obtain ⟨x, e, hx⟩ : ∃ x e, writeV l = (x, e) := ⟨_, _, rfl⟩
  obtain ⟨x1, x2, x3⟩ := small_write hs hx
  rcases write_err hx with ⟨h1, h2, h3⟩ | ⟨h1, h2, h3⟩
  · subst h1
    have wf := (x3 rfl).1
    have hl24 := (check_iff.1 h2).2.1
    have hxl : x.length = 1 + lenN l := by rw [h3, List.length_cons, enc_len]; omega
    have hN1 : 1 ≤ x.length := by omega
    obtain ⟨q, hq⟩ : ∃ q : Nat, cut % (x.length : Int) = (q : Int) := ⟨(cut % (x.length : Int)).toNat, by have := Int.emod_nonneg cut (show (x.length : Int) ≠ 0 by omega); omega⟩
    have hqN : q < x.length := by have := Int.emod_lt_of_pos cut (show (0 : Int) < x.length by omega); omega
    have htl : (x.take q).length = q := by rw [List.length_take]; omega
    refine wcuts_with A c l.length q x.length l x cut more w (few_n R hf) R ⟨rfl, rfl, hxl, x1⟩ hl24 hN1 x1 hqN (fun k t ht => ?_) g0 g1 ?_ (wiawake_any C)
      (fun W k => C.write A c l.length l x 0 x.length W (R.kp k) L M hs rfl hx rfl)
      (fun W E c0 h4 h5 => C.read E c0 q (x.take q) [] 120 0 W (h4.take12 q) (by omega) h5.2 (by omega) (fun y hy => x2 y (List.mem_of_mem_take hy)) htl.symm (read_cut hx wf x2 hqN) rfl)
      (fun W E c0 z m hz hm h4 h5 => C.read E c0 m z [] 120 0 W h4 h5.1 h5.2 (by rw [hz, List.length_append]; simp; omega) (fun y hy => ?_) hm (by rw [hz]; exact read_more hx wf x2 ⟨m0, m1⟩) rfl)
    · obtain ⟨_, _, b1, b2, _⟩ := small_nd h2 ht
      exact ⟨b1, b2⟩
    · rw [IntWalk.rem_in _ _ g0]; exact hq
    · rw [hz] at hy
      rcases List.mem_append.1 hy with hy | hy
      · exact x2 y hy
      · rw [List.mem_singleton.1 hy]; exact ⟨m0, m1⟩
  · subst h1 h3
    exact wcuts_none (wiawake_any C) A c _ cut more w (few_n R hf) (fun W k => C.write A c l.length l [] 100 0 W (R.kp k) L M hs rfl hx rfl)
end Go.Proofs.Ytdcgmnkoomhocaa
