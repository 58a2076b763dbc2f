/- The document's Index, Place and Wide of layer 2: what each answers. -/
import Derived.Test.YtdekchfapblgeaaShapeE
namespace Go.Proofs.Ytdekchfapblgeaa
open Go.RowKit Go.Proofs.ShM

namespace ShF
def Rel (s : List Int) (p0 : Int) (iv : Int) (p : Int) (zs : List Int) : Prop :=
  ∃ j : Nat, iv + 1 = j ∧ j ≤ s.length ∧ p = p0 / prodS (s.drop j) ∧ zs = digs (s.drop j) (p0 % prodS (s.drop j))
theorem start (s : List Int) (p : Int) : Rel s p ((s.length : Int) - 1) p [] := ⟨s.length, by omega, Nat.le_refl _, by simp [prodS], by simp [digs]⟩
theorem bnd {s : List Int} {p0 p iv : Int} {zs : List Int} (h : Rel s p0 iv p zs) (hs : okS s = true) (h0 : 0 ≤ p0) (h1 : p0 < sizeV s) : 0 ≤ p ∧ p ≤ 64 ∧ -1 ≤ iv ∧ iv < (s.length : Int) ∧ zs.length ≤ s.length := by
  obtain ⟨j, hj, hl, rfl, rfl⟩ := h
  have hp := prod_pos (all_drop (ok_iff.1 hs).2.1 j)
  have hsz := size_le s
  have a := Int.ediv_nonneg h0 (show 0 ≤ prodS (s.drop j) by omega)
  have b := Int.ediv_le_self (prodS (s.drop j)) h0
  exact ⟨a, by omega, by omega, by omega, by rw [digs_len]; simp⟩
theorem step {s : List Int} {p0 p x : Int} {m : Nat} {zs ys : List Int} (h : Rel s p0 m p zs) (hs : okS s = true) (hx : s[m]? = some x) (hy : ys = [p % x] ++ zs) :
    Rel s p0 ((m : Int) - 1) (p / x) ys := by
  obtain ⟨j, hj, hl, rfl, rfl⟩ := h
  obtain rfl : j = m + 1 := by omega
  obtain ⟨b1, b2⟩ := digs_back (ok_iff.1 hs).2.1 hx p0
  exact ⟨m, by omega, by omega, b2.symm, by rw [b1, hy]; rfl⟩
theorem end_ {s : List Int} {p0 p iv : Int} {zs : List Int} (h : Rel s p0 iv p zs) (hi : iv < 0) (h0 : 0 ≤ p0) (h1 : p0 < sizeV s) : indexV s p0 = (zs, 0) := by
  obtain ⟨j, hj, hl, rfl, rfl⟩ := h
  obtain rfl : j = 0 := by omega
  have := size_ok (ok_of_lt h0 h1)
  rw [index_yes h0 h1, List.drop_zero, Int.emod_eq_of_lt h0 (by omega)]
end ShF

set_option maxHeartbeats 1000000 in
theorem rindex_any (A : Option Addr) (c : Nat) (s : List Int) (p' : Int) (w : World) (h : Rd w A s) :
    Calls Try.prog 45 #[.slice A s.length c, .int .i64 p'] w (Ret (indexV s p') w) := by
  have hl := h.len
  have HC := Lib.hid (rsize_any A c s w h)
  by_cases hp : p' < 0 ∨ sizeV s ≤ p'
  · have HF := Lib.hid (index_no hp)
    rcases hp with hp | hp
    all_goals
      by_cases hp' : p' < 0
      all_goals
        go_enter Try.func45, Try.ntmps45
        go_wp2_with fail
        refine (Calls.mono (Hid.out HC)) ?_; rintro e w' ⟨rfl, rfl⟩
        go_wp2
        first | exact absurd hp hp' | (go_ret2; exact Ret.err_ HF.out (Kp.refl _))
  · have h0 : 0 ≤ p' := by omega
    have h1 : p' < sizeV s := by omega
    have HO := Lib.hid (ok_of_lt h0 h1)
    have h3 : s.length ≤ 3 := (ok_iff.1 HO.out).1
    have HP := Lib.hid (And.intro h0 h1)
    clear hp
    go_enter Try.func45, Try.ntmps45
    go_wp2_with fail
    refine (Calls.mono (Hid.out HC)) ?_; rintro e w' ⟨rfl, rfl⟩
    go_wp2
    go_loopw [1, 7, 8] (fun p v i wr => ∃ (iv pv : Int) (zs : List Int) (Az : Option Addr) (cz : Nat), i = .int .i64 iv ∧ p = .int .i64 pv ∧ v = .slice Az zs.length cz ∧ Hid (ShF.Rel s p' iv pv zs) ∧
      Hid (Own w.heap.size wr (.slice Az zs.length cz) zs) ∧ Hid (Below w.heap.size w wr)) (fun _ _ i _ => (intOf i + 1).toNat)
    case atStart => exact ⟨_, _, [], none, 0, rfl, rfl, rfl, ShF.start _ _, Own.nil_ _ _, Below.refl _ _⟩
    case round =>
      obtain ⟨iv, pv, zs, Az, cz, rfl, rfl, rfl, hr, hown, hb⟩ := hrel
      obtain ⟨b1, b2, b3, b4, b5⟩ := ShF.bnd hr.out HO.out HP.out.1 HP.out.2
      by_cases hk : 0 ≤ iv
      · obtain ⟨m, rfl⟩ := Int.eq_ofNat_of_zero_le hk
        obtain ⟨ad, x, rfl, hlt, hx, hc⟩ := h.at_ (k := m) (by omega)
        have hc' : wr.cell? (ad.add m) = some (.int .i64 x) := (hb.out.cell (by rw [block_of_add]; exact hlt)).trans hc
        obtain ⟨x1, x2⟩ := side_of (ok_iff.1 HO.out).2.1 hx
        have HX := Lib.hid hx
        have hBs := Lib.hid hb.out.size
        have HCE := Lib.hid hc
        have HLT := Lib.hid hlt
        clear hc hx
        go_wp2_with (at_builtin; refine wpList_app rfl (.tmp 31) (.tmp 32) rfl _ [pv % x] rfl (Own.one _ _ hBs.out) Az cz zs _ rfl rfl ((hown.out.sl).rd.alloc_ _) (by simp; omega) (by have := hBs.out; simp; omega) ?_; intro zs' A' c' w1 HZ hown1 hb1; have HB := Lib.hid ((hb.out.alloc hBs.out _).trans hb1); have hc2 : w1.cell? (ad.add m) = some (.int .i64 x) := (HB.out.cell (by rw [block_of_add]; exact HLT.out)).trans HCE.out; have HW := Lib.hid hown1; clear hown1 hb1)
        go_roundw
        case rel => exact ⟨_, _, zs', A', c', rfl, rfl, rfl, ShF.step hr.out HO.out HX.out HZ.out, HW.out, HB.out⟩
        case measure => simp [intOf]
      · have HF := Lib.hid (ShF.end_ hr.out (by omega) HP.out.1 HP.out.2)
        go_wp2
        go_ret2
        exact Ret.mk_ HF.out rfl hown.out.sl hb.out

namespace ShF
def Tried (s t : List Int) (k : Nat) : Prop := (k : Int) ≤ sizeV s ∧ ∀ j : Int, 0 ≤ j → j < k → digs s j ≠ t
theorem tstart (s t : List Int) : Tried s t 0 := ⟨by have := size_le s; omega, fun j h0 h1 => by omega⟩
theorem tstep {s t : List Int} {k : Nat} (h : Tried s t k) (hk : (k : Int) < sizeV s) (hne : digs s k ≠ t) : Tried s t (k + 1) :=
  ⟨by omega, fun j h0 h1 => by
    by_cases e : j = k
    · subst e; exact hne
    · exact h.2 j h0 (by omega)⟩
end ShF

set_option maxHeartbeats 1000000 in
theorem rplace_any (A B : Option Addr) (c d : Nat) (s t : List Int) (w : World) (h : Rd w A s) (g : Rd w B t) :
    Calls Try.prog 34 #[.slice A s.length c, .slice B t.length d] w (RetK (placeV s t).1 (placeV s t).2 w) := by
  have HC := Lib.hid (rsize_any A c s w h)
  have H := Lib.hid h
  have G := Lib.hid g
  have hsz := size_le s
  clear h g
  go_enter Try.func34, Try.ntmps34
  go_wp2_with fail
  refine (Calls.mono (Hid.out HC)) ?_; rintro e w' ⟨rfl, rfl⟩
  go_wp2
  go_loopw [7] (fun i wr => ∃ k : Nat, i = .int .i64 k ∧ Hid (ShF.Tried s t k) ∧ Hid (Kp w wr)) (fun i _ => (sizeV s - intOf i).toNat)
  case atStart => exact ⟨0, rfl, ShF.tstart _ _, Kp.refl _⟩
  case round =>
    obtain ⟨k, rfl, hr, hb⟩ := hrel
    have hk0 := hr.out.1
    by_cases hk : (k : Int) < sizeV s
    · have HI : Hid (Calls Try.prog 45 #[.slice A s.length c, .int .i64 (k : Int)] wr (RetL (digs s k) 0 wr)) := by
        have hh := rindex_any A c s k wr (H.out.kp hb.out)
        rw [index_yes (by omega) hk] at hh
        exact hh
      obtain ⟨ds, hds⟩ : ∃ ds, ds = digs s k := ⟨_, rfl⟩
      rw [← hds] at HI
      have HD := Lib.hid hds
      clear hds
      go_wp2_with fail
      refine (Calls.mono (Hid.out HI)) ?_; rintro e w1 ⟨A1, c1, rfl, h1, k1⟩
      by_cases hne : ds = t
      · have HF := Lib.hid (place_found (by omega) hk (by rw [← HD.out, hne]))
        have HS : Hid (Calls Try.prog 27 #[.slice A1 ds.length c1, .slice B t.length d] w1 fun e w' => e = .returned (.bool true) ∧ ∃ n, w' = w1.drewN n) := by
          have hh := same_any A1 B c1 d ds t w1 h1.rd (G.out.kp (hb.out.tr k1))
          rw [show (ds == t) = true by simpa using hne] at hh
          exact hh
        have K1 := Lib.hid k1
        clear hne k1 h1
        go_wp2_with fail
        refine (Calls.mono (Hid.out HS)) ?_; rintro e w2 ⟨rfl, n, rfl⟩
        go_wp2
        go_ret2
        exact ⟨ret_ints HF.out, (hb.out.tr K1.out).tr (Kp.drewN_ _ _)⟩
      · have HT := Lib.hid (ShF.tstep hr.out hk (by rw [← HD.out]; exact hne))
        have HS : Hid (Calls Try.prog 27 #[.slice A1 ds.length c1, .slice B t.length d] w1 fun e w' => e = .returned (.bool false) ∧ ∃ n, w' = w1.drewN n) := by
          have hh := same_any A1 B c1 d ds t w1 h1.rd (G.out.kp (hb.out.tr k1))
          rw [show (ds == t) = false by simpa using hne] at hh
          exact hh
        have K1 := Lib.hid k1
        clear hne k1 h1
        go_wp2_with fail
        refine (Calls.mono (Hid.out HS)) ?_; rintro e w2 ⟨rfl, n, rfl⟩
        go_wp2
        go_roundw
        case rel => exact ⟨k + 1, by go_num, HT.out, (hb.out.tr K1.out).tr (Kp.drewN_ _ _)⟩
        case measure => simp [intOf]; omega
    · have HF := Lib.hid (place_tried hr.out.2 (by omega))
      go_wp2
      go_ret2
      exact ⟨ret_ints HF.out, hb.out⟩

namespace ShF
def Wd (s : List Int) (n : Nat) (zs : List Int) : Prop := ∃ j, zs = List.replicate j 1 ++ s ∧ (s.length + j ≤ n ∨ j = 0)
theorem wstep {s : List Int} {n : Nat} {zs ys : List Int} (h : Wd s n zs) (hn : zs.length < n) (hy : ys = [1] ++ zs) : Wd s n ys := by
  obtain ⟨j, rfl, _⟩ := h
  refine ⟨j + 1, by rw [hy, List.replicate_succ]; rfl, .inl ?_⟩
  simp at hn; omega
theorem wend {s : List Int} {n : Nat} {zs : List Int} (h : Wd s n zs) (hn : n ≤ zs.length) : zs = pad n s := by
  obtain ⟨j, rfl, hj⟩ := h
  unfold pad
  simp at hn
  rw [show n - s.length = j by omega]
theorem wlen {s : List Int} {n : Nat} {zs : List Int} (h : Wd s n zs) : zs.length ≤ n + s.length := by
  obtain ⟨j, rfl, hj⟩ := h
  simp; omega
end ShF

set_option maxHeartbeats 1000000 in
theorem wide_any (A : Option Addr) (c : Nat) (s : List Int) (n : Nat) (w : World) (h : Rd w A s) (h1 : s.length ≤ 1000) (h2 : n ≤ 1000) :
    Calls Try.prog 52 #[.slice A s.length c, .int .i64 (n : Int)] w fun e w' => ∃ A' c', e = .returned (.slice A' (pad n s).length c') ∧ Sl w' A' c' (pad n s) ∧ Kp w w' := by
  go_enter Try.func52, Try.ntmps52
  go_wp2_with (at_builtin; refine wpList_app rfl (.tmp 6) (.tmp 7) rfl _ [] rfl (Own.zero _ (Nat.le_refl _)) A c s _ rfl rfl (h.alloc_ _) (by simp; omega) (by simp) ?_; intro zs' A' c' w1 HZ hown1 hb1; have HB := Lib.hid (((Below.refl _ _).alloc (Nat.le_refl _) _).trans hb1); have HW := Lib.hid hown1; clear hown1 hb1)
  go_loopw [5] (fun v wr => ∃ (zs : List Int) (Az : Option Addr) (cz : Nat), v = .slice Az zs.length cz ∧ Hid (ShF.Wd s n zs) ∧ Hid (Own w.heap.size wr (.slice Az zs.length cz) zs) ∧ Hid (Below w.heap.size w wr)) (fun v _ => n - lenOf v)
  case atStart => exact ⟨zs', A', c', rfl, ⟨0, HZ.out, .inr rfl⟩, HW.out, HB.out⟩
  case round =>
    clear HZ HB HW
    obtain ⟨zs, Az, cz, rfl, hr, hown, hb⟩ := hrel
    have hzl := ShF.wlen hr.out
    by_cases hk : zs.length < n
    · have hBs := Lib.hid hb.out.size
      go_wp2_with (at_builtin; refine wpList_app rfl (.tmp 13) (.tmp 14) rfl _ [1] rfl (Own.one _ _ hBs.out) Az cz zs _ rfl rfl ((hown.out.sl).rd.alloc_ _) (by simp; omega) (by have := hBs.out; simp; omega) ?_; intro zs2 A2 c2 w2 HZ hown2 hb2; have HB := Lib.hid ((hb.out.alloc hBs.out _).trans hb2); have HW := Lib.hid hown2; clear hown2 hb2)
      go_roundw
      case rel => exact ⟨zs2, A2, c2, rfl, ShF.wstep hr.out hk HZ.out, HW.out, HB.out⟩
      case measure => have := congrArg List.length HZ.out; simp [lenOf] at this ⊢; omega
    · have HF := Lib.hid (ShF.wend hr.out (by omega))
      go_wp2
      go_ret
      exact ⟨Az, cz, by rw [← HF.out]; rfl, by rw [← HF.out]; exact hown.out.sl, hb.out⟩
end Go.Proofs.Ytdekchfapblgeaa
