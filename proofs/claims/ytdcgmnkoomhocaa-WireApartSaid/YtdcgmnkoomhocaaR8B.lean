/- The document's layer 8: List. -/
import Derived.Test.YtdcgmnkoomhocaaR8A
namespace Go.Proofs.Ytdcgmnkoomhocaa
open Go.RowKit Go.Proofs.ShM Go.Proofs.PkM
set_option linter.unusedVariables false
set_option maxHeartbeats 4000000

theorem B8.Own.weak {B C : Nat} {w : World} {v : Value} {xs : List Int} (h : B8.Own C w v xs) (hB : B ≤ C) : B8.Own B w v xs := by
  refine ⟨h.1, ?_⟩
  rcases h.2 with h0 | ⟨g, cap, cur, e, hb, r⟩
  · exact .inl h0
  · exact .inr ⟨g, cap, cur, e, by omega, r⟩
theorem rlist8_no (A L : Option Addr) (c d : Nat) (bs l : List Int) (size : Int) (w : World) (hl : l.length ≤ 9223372036854775807) (h : ¬ (l.length ≤ 255 ∧ sizB size = true)) :
    Calls Try.prog 19 #[.slice A bs.length c, .slice L l.length d, .int .i64 size] w (RetBE [] 40 w) := by
  by_cases hq : l.length ≤ 255
  · have hs : sizB size = false := by
      cases e : sizB size with
      | false => rfl
      | true => exact absurd ⟨hq, e⟩ h
    have hq' : (l.length : Int) ≤ 255 := by omega
    have h3 : size ≠ 1 ∧ size ≠ 2 ∧ size ≠ 8 := by unfold sizB at hs; simp at hs; omega
    have e1 : (size != 1) = true := by simpa using h3.1
    have e2 : (size != 2) = true := by simpa using h3.2.1
    have e8 : (size != 8) = true := by simpa using h3.2.2
    clear hs h3 h
    go_enter Try.func19, Try.ntmps19
    go_wp2
    go_ret2
    exact ⟨none, 0, rfl, B8.Own.nil_ _ _, Kp.refl _⟩
  · have hq' : (255 : Int) < (l.length : Int) := by omega
    clear h
    go_enter Try.func19, Try.ntmps19
    go_wp2
    go_ret2
    exact ⟨none, 0, rfl, B8.Own.nil_ _ _, Kp.refl _⟩
theorem rlist8_yes1 (A L : Option Addr) (c d : Nat) (bs l : List Int) (w : World) (hA : B8.Rd w A bs) (hL : Rd w L l) (hbl : bs.length ≤ 200000) (hl : l.length ≤ 255) (h : Ok l 1) :
    Calls Try.prog 19 #[.slice A bs.length c, .slice L l.length d, .int .i64 1] w (RetBE (bs ++ [(l.length : Int)] ++ allB l (1 : Int).toNat) 0 w) := by
  have hl0 : (l.length : Int) ≤ 255 := by omega
  have hl1 : (l.length : Int) % 256 = (l.length : Int) := by omega
  obtain ⟨n0, hn0⟩ : ∃ n0 : Int, n0 = (l.length : Int) := ⟨_, rfl⟩
  obtain ⟨r, hr⟩ : ∃ r, r = bs ++ [(l.length : Int)] ++ allB l (1 : Int).toNat := ⟨_, rfl⟩
  have H0 : Hid (Wl r (bs ++ [(l.length : Int)]) l 0 (1 : Int).toNat) := hr
  have hr' : Hid (r.length ≤ 300000) := by
    show r.length ≤ 300000
    rw [hr, List.length_append, List.length_append, all_len, show (1 : Int).toNat = 1 from rfl]
    simp; omega
  rw [← hr]
  clear hr
  have HLR := Lib.hid hL
  have HOK := Lib.hid (show Ok (l.drop 0) 1 from h)
  have HPW : Hid (∀ (E : Option Addr) (f : Nat) (cur : List Int) (x : Int) (W : World), B8.Rd W E cur → cur.length ≤ 300000 → Calls Try.prog 36 #[.slice E cur.length f, .int .i64 x, .int .i64 1] W (RetBE (putV cur x 1).1 (putV cur x 1).2 W)) := fun E f cur x W h1 h2 => rput8_any E f cur x 1 W h1 h2
  have hO1 := Lib.hid (B8.Own.zero (B := w.heap.size) w (Nat.le_refl _))
  have hR1 := Lib.hid (hA.alloc_ (.cells #[] 5))
  clear h hL hA
  go_enter Try.func19, Try.ntmps19
  go_wp2_with (first
    | (at_builtin; refine B8.wpList_app rfl (.tmp 27) (.tmp 28) rfl _ [] rfl hO1.out A c bs _ rfl rfl hR1.out (by simp; omega) (by simp) ?_; intro z1 A1 c1 w1 HZ o1 b1; have hzb : Hid (z1 = bs) := HZ.out.trans (List.nil_append _); have K1 : Hid (Kp w w1) := ((Below.alloc (Below.refl _ _) (Nat.le_refl _) _).trans b1); have O2 := Lib.hid (o1.kp (Kp.alloc_ w1 (.cells #[.int .u8 (l.length : Int)] 5))); have R2 := Lib.hid (B8.Rd.one w1 (l.length : Int) 5); clear o1 b1)
    | (at_builtin; refine B8.wpList_app rfl (.tmp 29) (.tmp 33) rfl _ z1 rfl O2.out _ _ [(l.length : Int)] 1 rfl rfl R2.out (by rw [hzb.out]; simp; omega) (by have := K1.out.size; simp; omega) ?_; intro z2 A2 c2 w2 HZ2 o2 b2; have K2 : Hid (Kp w w2) := ((Below.alloc K1.out K1.out.size _).trans b2); have O3 := Lib.hid o2; have hz2 : Hid (z2 = bs ++ [(l.length : Int)]) := (by show z2 = _; rw [HZ2.out, hzb.out]); clear o2 b2))
  have hz2' := hz2.out
  rw [← hz2'] at H0
  clear hz2' hz2 HZ2
  go_loopw [8, 9] (fun v i wx => ∃ (k : Nat) (E : Option Addr) (f : Nat) (cur : List Int), v = .slice E cur.length f ∧ i = .int .i64 (k : Int) ∧ Hid (k ≤ l.length) ∧ Hid (Wl r cur l k (1 : Int).toNat) ∧ Hid (Ok (l.drop k) 1) ∧ Hid (B8.Own w.heap.size wx (.slice E cur.length f) cur) ∧ Hid (Kp w wx)) (fun _ i _ => l.length - (intOf i).toNat)
  case atStart => exact ⟨0, A2, c2, z2, rfl, rfl, Nat.zero_le _, H0.out, HOK.out, O3.out, K2.out⟩
  case round =>
    obtain ⟨k, E, f, cur, rfl, rfl, hk, hT, hOk, hO, hK⟩ := hrel
    by_cases hj : k < l.length
    · have hj' : (k : Int) < (l.length : Int) := by omega
      obtain ⟨ad, x, rfl, hlt, hx, hc⟩ := (HLR.out.kp hK.out).at_ hj
      have hRc : B8.Rd wr E cur := by
        obtain ⟨A', c', e, hr⟩ := hO.out.form
        injection e with e1 e2 e3
        rw [e1]; exact hr
      have HC := Lib.hid (HPW.out E f cur x wr hRc (by have := wl_len hT.out; have := hr'.out; omega))
      have hm := ok_hd hOk.out hx
      have HT2 := Lib.hid (wl_step hT.out hx)
      have HK2 := Lib.hid ((ok_tl hx hm).1 hOk.out)
      rw [show putV cur x 1 = (cur ++ byteL x (1 : Int).toNat, 0) by unfold putV; rw [if_pos hm]] at HC
      generalize cur ++ byteL x (1 : Int).toNat = cur2 at HT2 HC
      clear hx hm hRc
      go_wp2_with fail
      refine (Hid.out HC).mono ?_; rintro e w5 ⟨E5, f5, rfl, o5, k5⟩
      have O5 := Lib.hid (o5.weak hK.out.size)
      have K5 := Lib.hid (hK.out.tr k5)
      clear o5 k5 HC
      go_wp2
      go_roundw
      case rel => exact ⟨k + 1, E5, f5, cur2, rfl, by go_num, (by show k + 1 ≤ l.length; omega), HT2.out, HK2.out, O5.out, K5.out⟩
      case measure => simp [intOf]; omega
    · have hj' : ¬ (k : Int) < (l.length : Int) := by omega
      obtain rfl := wl_end hT.out (by omega)
      go_wp2
      go_ret2
      exact ⟨E, f, rfl, hO.out, hK.out⟩
theorem rlist8_bad1 (A L : Option Addr) (c d : Nat) (bs l : List Int) (w : World) (hA : B8.Rd w A bs) (hL : Rd w L l) (hbl : bs.length ≤ 200000) (hl : l.length ≤ 255) (h : ¬ Ok l 1) :
    Calls Try.prog 19 #[.slice A bs.length c, .slice L l.length d, .int .i64 1] w (RetBE [] 40 w) := by
  have hl0 : (l.length : Int) ≤ 255 := by omega
  have hl1 : (l.length : Int) % 256 = (l.length : Int) := by omega
  obtain ⟨n0, hn0⟩ : ∃ n0 : Int, n0 = (l.length : Int) := ⟨_, rfl⟩
  have HLR := Lib.hid hL
  have HOK := Lib.hid (show ¬ Ok (l.drop 0) 1 from h)
  have HPW : Hid (∀ (E : Option Addr) (f : Nat) (cur : List Int) (x : Int) (W : World), B8.Rd W E cur → cur.length ≤ 300000 → Calls Try.prog 36 #[.slice E cur.length f, .int .i64 x, .int .i64 1] W (RetBE (putV cur x 1).1 (putV cur x 1).2 W)) := fun E f cur x W h1 h2 => rput8_any E f cur x 1 W h1 h2
  have hO1 := Lib.hid (B8.Own.zero (B := w.heap.size) w (Nat.le_refl _))
  have hR1 := Lib.hid (hA.alloc_ (.cells #[] 5))
  clear h hL hA
  go_enter Try.func19, Try.ntmps19
  go_wp2_with (first
    | (at_builtin; refine B8.wpList_app rfl (.tmp 27) (.tmp 28) rfl _ [] rfl hO1.out A c bs _ rfl rfl hR1.out (by simp; omega) (by simp) ?_; intro z1 A1 c1 w1 HZ o1 b1; have hzb : Hid (z1 = bs) := HZ.out.trans (List.nil_append _); have K1 : Hid (Kp w w1) := ((Below.alloc (Below.refl _ _) (Nat.le_refl _) _).trans b1); have O2 := Lib.hid (o1.kp (Kp.alloc_ w1 (.cells #[.int .u8 (l.length : Int)] 5))); have R2 := Lib.hid (B8.Rd.one w1 (l.length : Int) 5); clear o1 b1)
    | (at_builtin; refine B8.wpList_app rfl (.tmp 29) (.tmp 33) rfl _ z1 rfl O2.out _ _ [(l.length : Int)] 1 rfl rfl R2.out (by rw [hzb.out]; simp; omega) (by have := K1.out.size; simp; omega) ?_; intro z2 A2 c2 w2 HZ2 o2 b2; have K2 : Hid (Kp w w2) := ((Below.alloc K1.out K1.out.size _).trans b2); have O3 := Lib.hid o2; have hz2 : Hid (z2 = bs ++ [(l.length : Int)]) := (by show z2 = _; rw [HZ2.out, hzb.out]); clear o2 b2))
  have hz2' := hz2.out
  have H0 : Hid (z2.length ≤ 200001 + 8 * 0) := by show z2.length ≤ 200001 + 8 * 0; rw [hz2', List.length_append, List.length_singleton]; omega
  clear hz2' hz2 HZ2
  go_loopw [8, 9] (fun v i wx => ∃ (k : Nat) (E : Option Addr) (f : Nat) (cur : List Int), v = .slice E cur.length f ∧ i = .int .i64 (k : Int) ∧ Hid (k ≤ l.length) ∧ Hid (cur.length ≤ 200001 + 8 * k) ∧ Hid (¬ Ok (l.drop k) 1) ∧ Hid (B8.Own w.heap.size wx (.slice E cur.length f) cur) ∧ Hid (Kp w wx)) (fun _ i _ => l.length - (intOf i).toNat)
  case atStart => exact ⟨0, A2, c2, z2, rfl, rfl, Nat.zero_le _, H0.out, HOK.out, O3.out, K2.out⟩
  case round =>
    obtain ⟨k, E, f, cur, rfl, rfl, hk, hT, hOk, hO, hK⟩ := hrel
    by_cases hj : k < l.length
    · have hj' : (k : Int) < (l.length : Int) := by omega
      obtain ⟨ad, x, rfl, hlt, hx, hc⟩ := (HLR.out.kp hK.out).at_ hj
      have hRc : B8.Rd wr E cur := by
        obtain ⟨A', c', e, hr⟩ := hO.out.form
        injection e with e1 e2 e3
        rw [e1]; exact hr
      have HC := Lib.hid (HPW.out E f cur x wr hRc (by have := hT.out; omega))
      by_cases hm : mayB x 1 = true
      · have HT2 := Lib.hid (show (cur ++ byteL x (1 : Int).toNat).length ≤ 200001 + 8 * (k + 1) by rw [List.length_append, byte_len, show (1 : Int).toNat = 1 from rfl]; have := hT.out; omega)
        have HK2 := Lib.hid (fun g => hOk.out ((ok_tl hx hm).2 g))
        rw [show putV cur x 1 = (cur ++ byteL x (1 : Int).toNat, 0) by unfold putV; rw [if_pos hm]] at HC
        generalize cur ++ byteL x (1 : Int).toNat = cur2 at HT2 HC
        clear hx hm hRc
        go_wp2_with fail
        refine (Hid.out HC).mono ?_; rintro e w5 ⟨E5, f5, rfl, o5, k5⟩
        have O5 := Lib.hid (o5.weak hK.out.size)
        have K5 := Lib.hid (hK.out.tr k5)
        clear o5 k5 HC
        go_wp2
        go_roundw
        case rel => exact ⟨k + 1, E5, f5, cur2, rfl, by go_num, (by show k + 1 ≤ l.length; omega), HT2.out, HK2.out, O5.out, K5.out⟩
        case measure => simp [intOf]; omega
      · rw [show putV cur x 1 = ([], 40) by unfold putV; rw [if_neg hm]] at HC
        clear hx hm hRc
        go_wp2_with fail
        refine (Hid.out HC).mono ?_; rintro e w5 ⟨E5, f5, rfl, o5, k5⟩
        have K5 := Lib.hid (hK.out.tr k5)
        clear o5 k5 HC
        go_wp2
        go_ret2
        exact ⟨none, 0, rfl, B8.Own.nil_ _ _, K5.out⟩
    · have hj' : ¬ (k : Int) < (l.length : Int) := by omega
      exact absurd (ok_end 1 (by omega)) hOk.out
theorem rlist8_yes2 (A L : Option Addr) (c d : Nat) (bs l : List Int) (w : World) (hA : B8.Rd w A bs) (hL : Rd w L l) (hbl : bs.length ≤ 200000) (hl : l.length ≤ 255) (h : Ok l 2) :
    Calls Try.prog 19 #[.slice A bs.length c, .slice L l.length d, .int .i64 2] w (RetBE (bs ++ [(l.length : Int)] ++ allB l (2 : Int).toNat) 0 w) := by
  have hl0 : (l.length : Int) ≤ 255 := by omega
  have hl1 : (l.length : Int) % 256 = (l.length : Int) := by omega
  obtain ⟨n0, hn0⟩ : ∃ n0 : Int, n0 = (l.length : Int) := ⟨_, rfl⟩
  obtain ⟨r, hr⟩ : ∃ r, r = bs ++ [(l.length : Int)] ++ allB l (2 : Int).toNat := ⟨_, rfl⟩
  have H0 : Hid (Wl r (bs ++ [(l.length : Int)]) l 0 (2 : Int).toNat) := hr
  have hr' : Hid (r.length ≤ 300000) := by
    show r.length ≤ 300000
    rw [hr, List.length_append, List.length_append, all_len, show (2 : Int).toNat = 2 from rfl]
    simp; omega
  rw [← hr]
  clear hr
  have HLR := Lib.hid hL
  have HOK := Lib.hid (show Ok (l.drop 0) 2 from h)
  have HPW : Hid (∀ (E : Option Addr) (f : Nat) (cur : List Int) (x : Int) (W : World), B8.Rd W E cur → cur.length ≤ 300000 → Calls Try.prog 36 #[.slice E cur.length f, .int .i64 x, .int .i64 2] W (RetBE (putV cur x 2).1 (putV cur x 2).2 W)) := fun E f cur x W h1 h2 => rput8_any E f cur x 2 W h1 h2
  have hO1 := Lib.hid (B8.Own.zero (B := w.heap.size) w (Nat.le_refl _))
  have hR1 := Lib.hid (hA.alloc_ (.cells #[] 5))
  clear h hL hA
  go_enter Try.func19, Try.ntmps19
  go_wp2_with (first
    | (at_builtin; refine B8.wpList_app rfl (.tmp 27) (.tmp 28) rfl _ [] rfl hO1.out A c bs _ rfl rfl hR1.out (by simp; omega) (by simp) ?_; intro z1 A1 c1 w1 HZ o1 b1; have hzb : Hid (z1 = bs) := HZ.out.trans (List.nil_append _); have K1 : Hid (Kp w w1) := ((Below.alloc (Below.refl _ _) (Nat.le_refl _) _).trans b1); have O2 := Lib.hid (o1.kp (Kp.alloc_ w1 (.cells #[.int .u8 (l.length : Int)] 5))); have R2 := Lib.hid (B8.Rd.one w1 (l.length : Int) 5); clear o1 b1)
    | (at_builtin; refine B8.wpList_app rfl (.tmp 29) (.tmp 33) rfl _ z1 rfl O2.out _ _ [(l.length : Int)] 1 rfl rfl R2.out (by rw [hzb.out]; simp; omega) (by have := K1.out.size; simp; omega) ?_; intro z2 A2 c2 w2 HZ2 o2 b2; have K2 : Hid (Kp w w2) := ((Below.alloc K1.out K1.out.size _).trans b2); have O3 := Lib.hid o2; have hz2 : Hid (z2 = bs ++ [(l.length : Int)]) := (by show z2 = _; rw [HZ2.out, hzb.out]); clear o2 b2))
  have hz2' := hz2.out
  rw [← hz2'] at H0
  clear hz2' hz2 HZ2
  go_loopw [8, 9] (fun v i wx => ∃ (k : Nat) (E : Option Addr) (f : Nat) (cur : List Int), v = .slice E cur.length f ∧ i = .int .i64 (k : Int) ∧ Hid (k ≤ l.length) ∧ Hid (Wl r cur l k (2 : Int).toNat) ∧ Hid (Ok (l.drop k) 2) ∧ Hid (B8.Own w.heap.size wx (.slice E cur.length f) cur) ∧ Hid (Kp w wx)) (fun _ i _ => l.length - (intOf i).toNat)
  case atStart => exact ⟨0, A2, c2, z2, rfl, rfl, Nat.zero_le _, H0.out, HOK.out, O3.out, K2.out⟩
  case round =>
    obtain ⟨k, E, f, cur, rfl, rfl, hk, hT, hOk, hO, hK⟩ := hrel
    by_cases hj : k < l.length
    · have hj' : (k : Int) < (l.length : Int) := by omega
      obtain ⟨ad, x, rfl, hlt, hx, hc⟩ := (HLR.out.kp hK.out).at_ hj
      have hRc : B8.Rd wr E cur := by
        obtain ⟨A', c', e, hr⟩ := hO.out.form
        injection e with e1 e2 e3
        rw [e1]; exact hr
      have HC := Lib.hid (HPW.out E f cur x wr hRc (by have := wl_len hT.out; have := hr'.out; omega))
      have hm := ok_hd hOk.out hx
      have HT2 := Lib.hid (wl_step hT.out hx)
      have HK2 := Lib.hid ((ok_tl hx hm).1 hOk.out)
      rw [show putV cur x 2 = (cur ++ byteL x (2 : Int).toNat, 0) by unfold putV; rw [if_pos hm]] at HC
      generalize cur ++ byteL x (2 : Int).toNat = cur2 at HT2 HC
      clear hx hm hRc
      go_wp2_with fail
      refine (Hid.out HC).mono ?_; rintro e w5 ⟨E5, f5, rfl, o5, k5⟩
      have O5 := Lib.hid (o5.weak hK.out.size)
      have K5 := Lib.hid (hK.out.tr k5)
      clear o5 k5 HC
      go_wp2
      go_roundw
      case rel => exact ⟨k + 1, E5, f5, cur2, rfl, by go_num, (by show k + 1 ≤ l.length; omega), HT2.out, HK2.out, O5.out, K5.out⟩
      case measure => simp [intOf]; omega
    · have hj' : ¬ (k : Int) < (l.length : Int) := by omega
      obtain rfl := wl_end hT.out (by omega)
      go_wp2
      go_ret2
      exact ⟨E, f, rfl, hO.out, hK.out⟩
theorem rlist8_bad2 (A L : Option Addr) (c d : Nat) (bs l : List Int) (w : World) (hA : B8.Rd w A bs) (hL : Rd w L l) (hbl : bs.length ≤ 200000) (hl : l.length ≤ 255) (h : ¬ Ok l 2) :
    Calls Try.prog 19 #[.slice A bs.length c, .slice L l.length d, .int .i64 2] w (RetBE [] 40 w) := by
  have hl0 : (l.length : Int) ≤ 255 := by omega
  have hl1 : (l.length : Int) % 256 = (l.length : Int) := by omega
  obtain ⟨n0, hn0⟩ : ∃ n0 : Int, n0 = (l.length : Int) := ⟨_, rfl⟩
  have HLR := Lib.hid hL
  have HOK := Lib.hid (show ¬ Ok (l.drop 0) 2 from h)
  have HPW : Hid (∀ (E : Option Addr) (f : Nat) (cur : List Int) (x : Int) (W : World), B8.Rd W E cur → cur.length ≤ 300000 → Calls Try.prog 36 #[.slice E cur.length f, .int .i64 x, .int .i64 2] W (RetBE (putV cur x 2).1 (putV cur x 2).2 W)) := fun E f cur x W h1 h2 => rput8_any E f cur x 2 W h1 h2
  have hO1 := Lib.hid (B8.Own.zero (B := w.heap.size) w (Nat.le_refl _))
  have hR1 := Lib.hid (hA.alloc_ (.cells #[] 5))
  clear h hL hA
  go_enter Try.func19, Try.ntmps19
  go_wp2_with (first
    | (at_builtin; refine B8.wpList_app rfl (.tmp 27) (.tmp 28) rfl _ [] rfl hO1.out A c bs _ rfl rfl hR1.out (by simp; omega) (by simp) ?_; intro z1 A1 c1 w1 HZ o1 b1; have hzb : Hid (z1 = bs) := HZ.out.trans (List.nil_append _); have K1 : Hid (Kp w w1) := ((Below.alloc (Below.refl _ _) (Nat.le_refl _) _).trans b1); have O2 := Lib.hid (o1.kp (Kp.alloc_ w1 (.cells #[.int .u8 (l.length : Int)] 5))); have R2 := Lib.hid (B8.Rd.one w1 (l.length : Int) 5); clear o1 b1)
    | (at_builtin; refine B8.wpList_app rfl (.tmp 29) (.tmp 33) rfl _ z1 rfl O2.out _ _ [(l.length : Int)] 1 rfl rfl R2.out (by rw [hzb.out]; simp; omega) (by have := K1.out.size; simp; omega) ?_; intro z2 A2 c2 w2 HZ2 o2 b2; have K2 : Hid (Kp w w2) := ((Below.alloc K1.out K1.out.size _).trans b2); have O3 := Lib.hid o2; have hz2 : Hid (z2 = bs ++ [(l.length : Int)]) := (by show z2 = _; rw [HZ2.out, hzb.out]); clear o2 b2))
  have hz2' := hz2.out
  have H0 : Hid (z2.length ≤ 200001 + 8 * 0) := by show z2.length ≤ 200001 + 8 * 0; rw [hz2', List.length_append, List.length_singleton]; omega
  clear hz2' hz2 HZ2
  go_loopw [8, 9] (fun v i wx => ∃ (k : Nat) (E : Option Addr) (f : Nat) (cur : List Int), v = .slice E cur.length f ∧ i = .int .i64 (k : Int) ∧ Hid (k ≤ l.length) ∧ Hid (cur.length ≤ 200001 + 8 * k) ∧ Hid (¬ Ok (l.drop k) 2) ∧ Hid (B8.Own w.heap.size wx (.slice E cur.length f) cur) ∧ Hid (Kp w wx)) (fun _ i _ => l.length - (intOf i).toNat)
  case atStart => exact ⟨0, A2, c2, z2, rfl, rfl, Nat.zero_le _, H0.out, HOK.out, O3.out, K2.out⟩
  case round =>
    obtain ⟨k, E, f, cur, rfl, rfl, hk, hT, hOk, hO, hK⟩ := hrel
    by_cases hj : k < l.length
    · have hj' : (k : Int) < (l.length : Int) := by omega
      obtain ⟨ad, x, rfl, hlt, hx, hc⟩ := (HLR.out.kp hK.out).at_ hj
      have hRc : B8.Rd wr E cur := by
        obtain ⟨A', c', e, hr⟩ := hO.out.form
        injection e with e1 e2 e3
        rw [e1]; exact hr
      have HC := Lib.hid (HPW.out E f cur x wr hRc (by have := hT.out; omega))
      by_cases hm : mayB x 2 = true
      · have HT2 := Lib.hid (show (cur ++ byteL x (2 : Int).toNat).length ≤ 200001 + 8 * (k + 1) by rw [List.length_append, byte_len, show (2 : Int).toNat = 2 from rfl]; have := hT.out; omega)
        have HK2 := Lib.hid (fun g => hOk.out ((ok_tl hx hm).2 g))
        rw [show putV cur x 2 = (cur ++ byteL x (2 : Int).toNat, 0) by unfold putV; rw [if_pos hm]] at HC
        generalize cur ++ byteL x (2 : Int).toNat = cur2 at HT2 HC
        clear hx hm hRc
        go_wp2_with fail
        refine (Hid.out HC).mono ?_; rintro e w5 ⟨E5, f5, rfl, o5, k5⟩
        have O5 := Lib.hid (o5.weak hK.out.size)
        have K5 := Lib.hid (hK.out.tr k5)
        clear o5 k5 HC
        go_wp2
        go_roundw
        case rel => exact ⟨k + 1, E5, f5, cur2, rfl, by go_num, (by show k + 1 ≤ l.length; omega), HT2.out, HK2.out, O5.out, K5.out⟩
        case measure => simp [intOf]; omega
      · rw [show putV cur x 2 = ([], 40) by unfold putV; rw [if_neg hm]] at HC
        clear hx hm hRc
        go_wp2_with fail
        refine (Hid.out HC).mono ?_; rintro e w5 ⟨E5, f5, rfl, o5, k5⟩
        have K5 := Lib.hid (hK.out.tr k5)
        clear o5 k5 HC
        go_wp2
        go_ret2
        exact ⟨none, 0, rfl, B8.Own.nil_ _ _, K5.out⟩
    · have hj' : ¬ (k : Int) < (l.length : Int) := by omega
      exact absurd (ok_end 2 (by omega)) hOk.out
theorem rlist8_yes8 (A L : Option Addr) (c d : Nat) (bs l : List Int) (w : World) (hA : B8.Rd w A bs) (hL : Rd w L l) (hbl : bs.length ≤ 200000) (hl : l.length ≤ 255) (h : Ok l 8) :
    Calls Try.prog 19 #[.slice A bs.length c, .slice L l.length d, .int .i64 8] w (RetBE (bs ++ [(l.length : Int)] ++ allB l (8 : Int).toNat) 0 w) := by
  have hl0 : (l.length : Int) ≤ 255 := by omega
  have hl1 : (l.length : Int) % 256 = (l.length : Int) := by omega
  obtain ⟨n0, hn0⟩ : ∃ n0 : Int, n0 = (l.length : Int) := ⟨_, rfl⟩
  obtain ⟨r, hr⟩ : ∃ r, r = bs ++ [(l.length : Int)] ++ allB l (8 : Int).toNat := ⟨_, rfl⟩
  have H0 : Hid (Wl r (bs ++ [(l.length : Int)]) l 0 (8 : Int).toNat) := hr
  have hr' : Hid (r.length ≤ 300000) := by
    show r.length ≤ 300000
    rw [hr, List.length_append, List.length_append, all_len, show (8 : Int).toNat = 8 from rfl]
    simp; omega
  rw [← hr]
  clear hr
  have HLR := Lib.hid hL
  have HOK := Lib.hid (show Ok (l.drop 0) 8 from h)
  have HPW : Hid (∀ (E : Option Addr) (f : Nat) (cur : List Int) (x : Int) (W : World), B8.Rd W E cur → cur.length ≤ 300000 → Calls Try.prog 36 #[.slice E cur.length f, .int .i64 x, .int .i64 8] W (RetBE (putV cur x 8).1 (putV cur x 8).2 W)) := fun E f cur x W h1 h2 => rput8_any E f cur x 8 W h1 h2
  have hO1 := Lib.hid (B8.Own.zero (B := w.heap.size) w (Nat.le_refl _))
  have hR1 := Lib.hid (hA.alloc_ (.cells #[] 5))
  clear h hL hA
  go_enter Try.func19, Try.ntmps19
  go_wp2_with (first
    | (at_builtin; refine B8.wpList_app rfl (.tmp 27) (.tmp 28) rfl _ [] rfl hO1.out A c bs _ rfl rfl hR1.out (by simp; omega) (by simp) ?_; intro z1 A1 c1 w1 HZ o1 b1; have hzb : Hid (z1 = bs) := HZ.out.trans (List.nil_append _); have K1 : Hid (Kp w w1) := ((Below.alloc (Below.refl _ _) (Nat.le_refl _) _).trans b1); have O2 := Lib.hid (o1.kp (Kp.alloc_ w1 (.cells #[.int .u8 (l.length : Int)] 5))); have R2 := Lib.hid (B8.Rd.one w1 (l.length : Int) 5); clear o1 b1)
    | (at_builtin; refine B8.wpList_app rfl (.tmp 29) (.tmp 33) rfl _ z1 rfl O2.out _ _ [(l.length : Int)] 1 rfl rfl R2.out (by rw [hzb.out]; simp; omega) (by have := K1.out.size; simp; omega) ?_; intro z2 A2 c2 w2 HZ2 o2 b2; have K2 : Hid (Kp w w2) := ((Below.alloc K1.out K1.out.size _).trans b2); have O3 := Lib.hid o2; have hz2 : Hid (z2 = bs ++ [(l.length : Int)]) := (by show z2 = _; rw [HZ2.out, hzb.out]); clear o2 b2))
  have hz2' := hz2.out
  rw [← hz2'] at H0
  clear hz2' hz2 HZ2
  go_loopw [8, 9] (fun v i wx => ∃ (k : Nat) (E : Option Addr) (f : Nat) (cur : List Int), v = .slice E cur.length f ∧ i = .int .i64 (k : Int) ∧ Hid (k ≤ l.length) ∧ Hid (Wl r cur l k (8 : Int).toNat) ∧ Hid (Ok (l.drop k) 8) ∧ Hid (B8.Own w.heap.size wx (.slice E cur.length f) cur) ∧ Hid (Kp w wx)) (fun _ i _ => l.length - (intOf i).toNat)
  case atStart => exact ⟨0, A2, c2, z2, rfl, rfl, Nat.zero_le _, H0.out, HOK.out, O3.out, K2.out⟩
  case round =>
    obtain ⟨k, E, f, cur, rfl, rfl, hk, hT, hOk, hO, hK⟩ := hrel
    by_cases hj : k < l.length
    · have hj' : (k : Int) < (l.length : Int) := by omega
      obtain ⟨ad, x, rfl, hlt, hx, hc⟩ := (HLR.out.kp hK.out).at_ hj
      have hRc : B8.Rd wr E cur := by
        obtain ⟨A', c', e, hr⟩ := hO.out.form
        injection e with e1 e2 e3
        rw [e1]; exact hr
      have HC := Lib.hid (HPW.out E f cur x wr hRc (by have := wl_len hT.out; have := hr'.out; omega))
      have hm := ok_hd hOk.out hx
      have HT2 := Lib.hid (wl_step hT.out hx)
      have HK2 := Lib.hid ((ok_tl hx hm).1 hOk.out)
      rw [show putV cur x 8 = (cur ++ byteL x (8 : Int).toNat, 0) by unfold putV; rw [if_pos hm]] at HC
      generalize cur ++ byteL x (8 : Int).toNat = cur2 at HT2 HC
      clear hx hm hRc
      go_wp2_with fail
      refine (Hid.out HC).mono ?_; rintro e w5 ⟨E5, f5, rfl, o5, k5⟩
      have O5 := Lib.hid (o5.weak hK.out.size)
      have K5 := Lib.hid (hK.out.tr k5)
      clear o5 k5 HC
      go_wp2
      go_roundw
      case rel => exact ⟨k + 1, E5, f5, cur2, rfl, by go_num, (by show k + 1 ≤ l.length; omega), HT2.out, HK2.out, O5.out, K5.out⟩
      case measure => simp [intOf]; omega
    · have hj' : ¬ (k : Int) < (l.length : Int) := by omega
      obtain rfl := wl_end hT.out (by omega)
      go_wp2
      go_ret2
      exact ⟨E, f, rfl, hO.out, hK.out⟩
theorem rlist8_bad8 (A L : Option Addr) (c d : Nat) (bs l : List Int) (w : World) (hA : B8.Rd w A bs) (hL : Rd w L l) (hbl : bs.length ≤ 200000) (hl : l.length ≤ 255) (h : ¬ Ok l 8) :
    Calls Try.prog 19 #[.slice A bs.length c, .slice L l.length d, .int .i64 8] w (RetBE [] 40 w) := by
  have hl0 : (l.length : Int) ≤ 255 := by omega
  have hl1 : (l.length : Int) % 256 = (l.length : Int) := by omega
  obtain ⟨n0, hn0⟩ : ∃ n0 : Int, n0 = (l.length : Int) := ⟨_, rfl⟩
  have HLR := Lib.hid hL
  have HOK := Lib.hid (show ¬ Ok (l.drop 0) 8 from h)
  have HPW : Hid (∀ (E : Option Addr) (f : Nat) (cur : List Int) (x : Int) (W : World), B8.Rd W E cur → cur.length ≤ 300000 → Calls Try.prog 36 #[.slice E cur.length f, .int .i64 x, .int .i64 8] W (RetBE (putV cur x 8).1 (putV cur x 8).2 W)) := fun E f cur x W h1 h2 => rput8_any E f cur x 8 W h1 h2
  have hO1 := Lib.hid (B8.Own.zero (B := w.heap.size) w (Nat.le_refl _))
  have hR1 := Lib.hid (hA.alloc_ (.cells #[] 5))
  clear h hL hA
  go_enter Try.func19, Try.ntmps19
  go_wp2_with (first
    | (at_builtin; refine B8.wpList_app rfl (.tmp 27) (.tmp 28) rfl _ [] rfl hO1.out A c bs _ rfl rfl hR1.out (by simp; omega) (by simp) ?_; intro z1 A1 c1 w1 HZ o1 b1; have hzb : Hid (z1 = bs) := HZ.out.trans (List.nil_append _); have K1 : Hid (Kp w w1) := ((Below.alloc (Below.refl _ _) (Nat.le_refl _) _).trans b1); have O2 := Lib.hid (o1.kp (Kp.alloc_ w1 (.cells #[.int .u8 (l.length : Int)] 5))); have R2 := Lib.hid (B8.Rd.one w1 (l.length : Int) 5); clear o1 b1)
    | (at_builtin; refine B8.wpList_app rfl (.tmp 29) (.tmp 33) rfl _ z1 rfl O2.out _ _ [(l.length : Int)] 1 rfl rfl R2.out (by rw [hzb.out]; simp; omega) (by have := K1.out.size; simp; omega) ?_; intro z2 A2 c2 w2 HZ2 o2 b2; have K2 : Hid (Kp w w2) := ((Below.alloc K1.out K1.out.size _).trans b2); have O3 := Lib.hid o2; have hz2 : Hid (z2 = bs ++ [(l.length : Int)]) := (by show z2 = _; rw [HZ2.out, hzb.out]); clear o2 b2))
  have hz2' := hz2.out
  have H0 : Hid (z2.length ≤ 200001 + 8 * 0) := by show z2.length ≤ 200001 + 8 * 0; rw [hz2', List.length_append, List.length_singleton]; omega
  clear hz2' hz2 HZ2
  go_loopw [8, 9] (fun v i wx => ∃ (k : Nat) (E : Option Addr) (f : Nat) (cur : List Int), v = .slice E cur.length f ∧ i = .int .i64 (k : Int) ∧ Hid (k ≤ l.length) ∧ Hid (cur.length ≤ 200001 + 8 * k) ∧ Hid (¬ Ok (l.drop k) 8) ∧ Hid (B8.Own w.heap.size wx (.slice E cur.length f) cur) ∧ Hid (Kp w wx)) (fun _ i _ => l.length - (intOf i).toNat)
  case atStart => exact ⟨0, A2, c2, z2, rfl, rfl, Nat.zero_le _, H0.out, HOK.out, O3.out, K2.out⟩
  case round =>
    obtain ⟨k, E, f, cur, rfl, rfl, hk, hT, hOk, hO, hK⟩ := hrel
    by_cases hj : k < l.length
    · have hj' : (k : Int) < (l.length : Int) := by omega
      obtain ⟨ad, x, rfl, hlt, hx, hc⟩ := (HLR.out.kp hK.out).at_ hj
      have hRc : B8.Rd wr E cur := by
        obtain ⟨A', c', e, hr⟩ := hO.out.form
        injection e with e1 e2 e3
        rw [e1]; exact hr
      have HC := Lib.hid (HPW.out E f cur x wr hRc (by have := hT.out; omega))
      by_cases hm : mayB x 8 = true
      · have HT2 := Lib.hid (show (cur ++ byteL x (8 : Int).toNat).length ≤ 200001 + 8 * (k + 1) by rw [List.length_append, byte_len, show (8 : Int).toNat = 8 from rfl]; have := hT.out; omega)
        have HK2 := Lib.hid (fun g => hOk.out ((ok_tl hx hm).2 g))
        rw [show putV cur x 8 = (cur ++ byteL x (8 : Int).toNat, 0) by unfold putV; rw [if_pos hm]] at HC
        generalize cur ++ byteL x (8 : Int).toNat = cur2 at HT2 HC
        clear hx hm hRc
        go_wp2_with fail
        refine (Hid.out HC).mono ?_; rintro e w5 ⟨E5, f5, rfl, o5, k5⟩
        have O5 := Lib.hid (o5.weak hK.out.size)
        have K5 := Lib.hid (hK.out.tr k5)
        clear o5 k5 HC
        go_wp2
        go_roundw
        case rel => exact ⟨k + 1, E5, f5, cur2, rfl, by go_num, (by show k + 1 ≤ l.length; omega), HT2.out, HK2.out, O5.out, K5.out⟩
        case measure => simp [intOf]; omega
      · rw [show putV cur x 8 = ([], 40) by unfold putV; rw [if_neg hm]] at HC
        clear hx hm hRc
        go_wp2_with fail
        refine (Hid.out HC).mono ?_; rintro e w5 ⟨E5, f5, rfl, o5, k5⟩
        have K5 := Lib.hid (hK.out.tr k5)
        clear o5 k5 HC
        go_wp2
        go_ret2
        exact ⟨none, 0, rfl, B8.Own.nil_ _ _, K5.out⟩
    · have hj' : ¬ (k : Int) < (l.length : Int) := by omega
      exact absurd (ok_end 8 (by omega)) hOk.out
theorem rlist8_any (A L : Option Addr) (c d : Nat) (bs l : List Int) (size : Int) (w : World) (hA : B8.Rd w A bs) (hL : Rd w L l) (hbl : bs.length ≤ 200000) :
    Calls Try.prog 19 #[.slice A bs.length c, .slice L l.length d, .int .i64 size] w (RetBE (listV bs l size).1 (listV bs l size).2 w) := by
  unfold listV
  by_cases h : l.length ≤ 255 ∧ sizB size = true ∧ ∀ n ∈ l, mayB n size = true
  · rw [if_pos h]
    obtain ⟨h0, h1, h2⟩ := h
    rcases siz_cases h1 with rfl | rfl | rfl
    · exact rlist8_yes1 A L c d bs l w hA hL hbl h0 h2
    · exact rlist8_yes2 A L c d bs l w hA hL hbl h0 h2
    · exact rlist8_yes8 A L c d bs l w hA hL hbl h0 h2
  · rw [if_neg h]
    by_cases h1 : l.length ≤ 255 ∧ sizB size = true
    · have h2 : ¬ Ok l size := fun g => h ⟨h1.1, h1.2, g⟩
      obtain ⟨h0, h1⟩ := h1
      rcases siz_cases h1 with rfl | rfl | rfl
      · exact rlist8_bad1 A L c d bs l w hA hL hbl h0 h2
      · exact rlist8_bad2 A L c d bs l w hA hL hbl h0 h2
      · exact rlist8_bad8 A L c d bs l w hA hL hbl h0 h2
    · exact rlist8_no A L c d bs l size w hL.len h1
end Go.Proofs.Ytdcgmnkoomhocaa
