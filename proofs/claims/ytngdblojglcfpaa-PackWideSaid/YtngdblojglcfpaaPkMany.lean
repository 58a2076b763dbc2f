/- Numbers that are put one behind the other are taken one by one: the law's call returns true. -/
import Derived.Test.YtngdblojglcfpaaPkBack
import Derived.Deep.QuietTactic
import Derived.BigQuiet
import Derived.Deep.Cut
import Derived.Deep.CutBlock
import Derived.Deep.CutRange
import Derived.Deep.DeepCutAuto
namespace Go.Proofs.Ytngdblojglcfpaa
open Go.RowKit Go.Proofs.ShM Go.Proofs.PkM
set_option linter.unusedVariables false

theorem put_next {l : List Int} {size x : Int} {i : Nat} (hx : l[i]? = some x) (h : mayB x size = true) : putV (allB (l.take i) size.toNat) x size = (allB (l.take (i + 1)) size.toNat, 0) := by
  unfold putV
  rw [if_pos h, List.take_add_one, hx]
  simp [all_snoc]
theorem put_stop {b : List Int} {size x : Int} (h : mayB x size = false) : putV b x size = ([], 40) := by
  unfold putV
  rw [if_neg (by rw [h]; simp)]
theorem take_next {l : List Int} {size x : Int} {i : Nat} (hx : l[i]? = some x) (h : mayB x size = true) (hn : I64 x) : takeV (allB (l.drop i) size.toNat) size = (x, allB (l.drop (i + 1)) size.toNat, 0) := by
  obtain ⟨hi, hx⟩ := List.getElem?_eq_some_iff.1 hx
  rw [List.drop_eq_getElem_cons hi, hx]
  exact take_all h hn

set_option maxHeartbeats 8000000 in
set_option maxRecDepth 100000 in
theorem pmany_with (C : PkC) (A : Option Addr) (c p : Nat) (l : List Int) (size : Int) (w : World) (hs : Hid (I64 size)) (f1 : ¬ (200 : Int) < (p : Int)) (hp : Hid (l.length = p)) (hA : Hid (Rd w A l)) (hl : Hid (I64l l)) :
    Calls Try.prog 6 #[.slice A p c, .int .i64 size] w fun e w' => e = .returned (.bool true) ∧ Kp w w' := by
  have HAW := Lib.hid (pkawake_any C)
  have HC := Lib.hid C
  have nob : Hid (Bytes []) := fun _ h => by cases h
  have hp200 : Hid (p ≤ 200) := by show p ≤ 200; omega
  have hb8 : Hid (∀ i, (allB (l.take i) size.toNat).length ≤ 8 * 200 ∨ size.toNat > 8) := fun i => by
    by_cases h : size.toNat > 8
    · exact Or.inr h
    · refine Or.inl ?_
      rw [all_len, List.length_take]
      have h1 := hp.out
      have h2 := hp200.out
      exact Nat.mul_le_mul (by omega) (by omega)
  clear C
  go_enter Try.func6, Try.ntmps6
  go_wp2_with fail
  refine (HAW.out _).mono ?_; rintro e0 w1 ⟨rfl, k1_⟩
  have K1 := Lib.hid k1_
  clear k1_
  go_wp2_with fail
  go_loopw [6, 7] (fun b i wr => ∃ (D : Option Addr) (nb cb i' : Nat), b = .slice D nb cb ∧ i = .int .i64 i' ∧ Hid (B8.Rd wr D (allB (l.take i') size.toNat)) ∧ Hid (nb = (allB (l.take i') size.toNat).length ∧ (allB (l.take i') size.toNat).length ≤ cb ∧ cb ≤ 9223372036854775807) ∧ Hid (i' ≤ p) ∧ Hid (∀ j x, j < i' → l[j]? = some x → mayB x size = true) ∧ Hid (Kp w1 wr)) (fun _ i _ => p - (intOf i).toNat)
  case atStart => exact ⟨none, 0, 0, 0, rfl, rfl, B8.Rd.nil _ _, ⟨rfl, Nat.le_refl _, by omega⟩, Nat.zero_le _, fun j x hj => absurd hj (Nat.not_lt_zero _), Kp.refl _⟩
  case round =>
    obtain ⟨D, nb, cb, i, rfl, rfl, hD, hn, hip, hmay, hk0⟩ := hrel
    have K := Lib.hid (K1.out.tr hk0.out)
    by_cases hlt : i < p
    · obtain ⟨ad, x, eA, hbl, hx_, hc⟩ := (hA.out.kp K.out).at_ (k := i) (by rw [hp.out]; exact hlt)
      have hx := Lib.hid hx_
      have i1 : (0 : Int) ≤ (i : Int) := by omega
      have i2 : (i : Int) < (p : Int) := by omega
      have hI := Lib.hid (hl.out x (List.mem_of_getElem? hx_))
      subst eA
      clear hx_
      by_cases hm : mayB x size = true
      · have hm := Lib.hid hm
        have hbn : Hid ((allB (l.take i) size.toNat).length ≤ 10000) := by
          have h8 := siz_8 (may_siz hm.out)
          rcases hb8.out i with h | h
          · exact Nat.le_trans h (by decide)
          · omega
        go_wp2_with fail
        refine (HC.out.put D cb nb (allB (l.take i) size.toNat) x size (allB (l.take (i + 1)) size.toNat) 0 _ _ hD.out hn.out.2.1 hn.out.2.2 hbn.out (all_bytes _ _) hI.out hs.out hn.out.1 (put_next hx.out hm.out) rfl).mono ?_; rintro e0 w2 ⟨A2, c2, rfl, r2, l2, k2⟩
        go_wp2
        go_roundw
        case rel => exact ⟨A2, _, c2, i + 1, rfl, by go_num, r2, ⟨rfl, l2.out.1, l2.out.2⟩, Lib.hid hlt, fun j y hj hy => by
          by_cases e : j = i
          · subst e
            have h1 := hx.out
            rw [h1] at hy
            injection hy with hy
            subst hy
            exact hm.out
          · exact hmay.out j y (by omega) hy, hk0.out.tr k2⟩
        case measure => simp [intOf]; omega
      · have hm0 : mayB x size = false := by simpa using hm
        have hm1 := Lib.hid hm0
        have hno := Lib.hid (list_none (b := []) (List.mem_of_getElem? hx.out) hm0)
        have hbn : Hid ((allB (l.take i) size.toNat).length ≤ 10000) := by
          rcases hb8.out i with h | h
          · exact Nat.le_trans h (by decide)
          · show _ ≤ _
            rcases Nat.eq_zero_or_pos i with h0 | h0
            · subst h0; simp [allB]
            · obtain ⟨y, hy⟩ : ∃ y, l[0]? = some y := ⟨_, List.getElem?_eq_getElem (by have := hp.out; omega)⟩
              have := siz_8 (may_siz (hmay.out 0 y h0 hy))
              omega
        clear hm hm0
        go_wp2_with fail
        refine (HC.out.put D cb nb (allB (l.take i) size.toNat) x size [] 40 _ _ hD.out hn.out.2.1 hn.out.2.2 hbn.out (all_bytes _ _) hI.out hs.out hn.out.1 (put_stop hm1.out) rfl).mono ?_; rintro e0 w2 ⟨A2, c2, rfl, _, _, k2⟩
        have K := Lib.hid (K.out.tr k2)
        clear k2
        go_wp2_with fail
        refine (HC.out.list none (some ad) 0 c 0 p [] l size [] 40 _ _ (B8.Rd.nil _ _) (by simp) (by simp) (by simp) nob.out (hA.out.kp K.out) (by have h1 := hp200.out; have h2 := hp.out; omega) hl.out hs.out rfl hp.out.symm hno.out rfl).mono ?_; rintro e0 w3 ⟨A3, c3, rfl, _, _, k3⟩
        have K := Lib.hid (K.out.tr k3)
        clear k3
        go_wp2
        go_ret
        exact ⟨rfl, K.out⟩
    · have hip2 : i = p := by have := hip.out; omega
      subst hip2
      have hall : Hid (∀ y ∈ l, mayB y size = true) := fun y hy => by
        obtain ⟨j, hj⟩ := List.getElem?_of_mem hy
        exact hmay.out j y (by have h1 := (List.getElem?_eq_some_iff.1 hj).1; have h2 := hp.out; omega) hj
      have etk : l.take i = l := by rw [← hp.out]; exact List.take_length
      rw [etk] at hD hn
      clear hmay etk hip
      obtain ⟨lw, g, hlw⟩ : ∃ lw g, listV [] l size = (lw, g) := ⟨_, _, rfl⟩
      have HLW := Lib.hid hlw
      clear hlw
      go_wp2_with fail
      refine (HC.out.list none A 0 c 0 i [] l size lw g _ _ (B8.Rd.nil _ _) (by simp) (by simp) (by simp) nob.out (hA.out.kp K.out) (by have h1 := hp200.out; have h2 := hp.out; omega) hl.out hs.out rfl hp.out.symm HLW.out rfl).mono ?_; rintro e0 w3 ⟨A3, c3, rfl, r3, l3, k3⟩
      have hD := Lib.hid (hD.out.kp k3)
      have K := Lib.hid (K.out.tr k3)
      clear k3
      go_upto_region 14 with fail
      go_cut [78] (fun v wx => v = .bool false ∧ Hid (Kp w3 wx))
      case first =>
        by_cases hi0 : i = 0
        · have d1 : ¬ 0 < i := by omega
          clear hi0
          go_wp2
          go_meet
          exact ⟨rfl, Kp.refl _⟩
        · have d1 : 0 < i := by omega
          obtain ⟨y, hy⟩ : ∃ y, l[0]? = some y := ⟨_, List.getElem?_eq_getElem (by have := hp.out; omega)⟩
          have hsz := may_siz (hall.out y (List.mem_of_getElem? hy))
          have hlw := HLW.out
          unfold listV at hlw
          rw [if_pos ⟨by have h1 := hp200.out; have h2 := hp.out; omega, hsz, hall.out⟩, hp.out] at hlw
          injection hlw with hl1 hl2
          subst hl2
          have g2 : Hid (lw = [(i : Int)] ++ allB l size.toNat) := hl1.symm
          have hal : (allB l size.toNat).length ≤ 8 * 200 := by
            rw [all_len]
            have h1 := hp.out
            have h2 := hp200.out
            have h3 := siz_8 hsz
            exact Nat.mul_le_mul (by omega) (by omega)
          clear hl1 hsz hy hi0 HLW
          have w8 : IntKind.u8.wrap (i : Int) = (i : Int) := by
            have h1 := hp200.out
            exact IntWalk.u8_in _ (by omega)
          have ka : Kp w3 (w3.alloc (.cells #[.int .u8 (i : Int)] 5)) := Kp.alloc_ _ _
          have p8 := run_str c3 r3.out rfl
          have q1 := run_str cb (hD.out.kp ka) hn.out.1
          have q7 := run_str (n := 1) 1 (show B8.Rd (w3.alloc (.cells #[.int .u8 (i : Int)] 5)) (some ⟨w3.heap.size, 0, none⟩) [(i : Int)] from B8.Rd.lit w3 [(i : Int)] (by simp) 5) rfl
          have q6 : strOfNums [(i : Int)] ++ strOfNums (allB l size.toNat) = strOfNums lw := by rw [g2.out]; exact str_add _ _
          have q5 : ((strOfNums lw).toList != (strOfNums lw).toList) = false := by simp
          have q9 : ¬ 9223372036854775807 < (strOfNums [(i : Int)]).size + (strOfNums (allB l size.toNat)).size := by
            rw [strOfNums_size, strOfNums_size]
            show ¬ 9223372036854775807 < 1 + _
            omega
          clear hal
          have HK := Lib.hid ka
          clear ka
          go_wp2
          go_meet
          exact ⟨rfl, HK.out⟩
      case rest =>
        obtain ⟨rfl, k4⟩ := hcut
        have hD := Lib.hid (hD.out.kp k4.out)
        have K := Lib.hid (K.out.tr k4.out)
        clear k4 r3 l3 HLW
        go_wp2_with fail
        go_loopw [6, 14] (fun b i' wr => ∃ (D : Option Addr) (nb cb j : Nat), b = .slice D nb cb ∧ i' = .int .i64 j ∧ Hid (B8.Rd wr D (allB (l.drop j) size.toNat)) ∧ Hid (nb = (allB (l.drop j) size.toNat).length ∧ (allB (l.drop j) size.toNat).length ≤ cb ∧ cb ≤ 9223372036854775807) ∧ Hid (j ≤ i) ∧ Hid (Kp wc wr)) (fun _ i' _ => i - (intOf i').toNat)
        case atStart => exact ⟨D, nb, cb, 0, rfl, rfl, hD, hn, Nat.zero_le _, Kp.refl _⟩
        case round =>
          obtain ⟨D2, nb2, cb2, j, rfl, rfl, hD2, hn2, hji, hk2⟩ := hrel
          have K := Lib.hid (K.out.tr hk2.out)
          by_cases hlt2 : j < i
          · obtain ⟨ad, x, eA, hbl, hx_, hc⟩ := (hA.out.kp K.out).at_ (k := j) (by rw [hp.out]; exact hlt2)
            have hx := Lib.hid hx_
            have i1 : (0 : Int) ≤ (j : Int) := by omega
            have i2 : (j : Int) < (i : Int) := by omega
            have hI := Lib.hid (hl.out x (List.mem_of_getElem? hx_))
            have hm := Lib.hid (hall.out x (List.mem_of_getElem? hx_))
            subst eA
            clear hx_
            have hbn : Hid ((allB (l.drop j) size.toNat).length ≤ 10000) := by
              have h8 := siz_8 (may_siz hm.out)
              have h1 := hp.out
              have h2 := hp200.out
              rw [all_len, List.length_drop]
              exact Nat.le_trans (Nat.mul_le_mul h8 (show l.length - j ≤ 200 by omega)) (by decide)
            go_wp2_with fail
            refine (HC.out.take D2 cb2 nb2 (allB (l.drop j) size.toNat) size x (allB (l.drop (j + 1)) size.toNat) 0 _ _ hD2.out hn2.out.2.1 hn2.out.2.2 hbn.out (all_bytes _ _) hs.out hn2.out.1 (take_next hx.out hm.out hI.out) rfl).mono ?_; rintro e0 w5 ⟨A5, c5, rfl, r5, l5, k5⟩
            have hc : w5.cell? (ad.add j) = some (.int .i64 x) := by
              obtain ⟨ad2, x2, e2, _, h2, hc2⟩ := (hA.out.kp (K.out.tr k5)).at_ (k := j) (by rw [hp.out]; exact hlt2)
              injection e2 with e2
              subst e2
              have h1 := hx.out
              rw [h1] at h2
              injection h2 with h2
              subst h2
              exact hc2
            have hk2 := Lib.hid (hk2.out.tr k5)
            clear k5
            go_wp2
            go_roundw
            case rel => exact ⟨A5, _, c5, j + 1, rfl, by go_num, r5, ⟨rfl, l5.out.1, l5.out.2⟩, Lib.hid hlt2, hk2.out⟩
            case measure => simp [intOf]; omega
          · have hji2 : j = i := by have := hji.out; omega
            subst hji2
            have hd0 : l.drop j = [] := List.drop_eq_nil_of_le (by rw [hp.out]; exact Nat.le_refl _)
            have hn0 : nb2 = 0 := by rw [hn2.out.1, hd0]; rfl
            subst hn0
            clear hd0
            go_wp2
            go_ret
            exact ⟨rfl, K.out⟩

set_option maxHeartbeats 4000000 in
theorem pmany_walk (C : PkC) (A : Option Addr) (c : Nat) (l : List Int) (size : Int) (w : World) (hA : Rd w A l) (hl : I64l l) (hs : I64 size) :
    Calls Try.prog 6 #[.slice A l.length c, .int .i64 size] w fun e w' => e = .returned (.bool true) ∧ Kp w w' := by
  have hlA := hA.len
  have HAW := Lib.hid (pkawake_any C)
  by_cases f0 : 200 < l.length
  · have f1 : (200 : Int) < (l.length : Int) := by omega
    clear f0 C hA hl hs
    go_enter Try.func6, Try.ntmps6
    go_wp2_with fail
    refine (HAW.out _).mono ?_; rintro e0 w1 ⟨rfl, k1⟩
    go_wp2
    go_ret
    exact ⟨rfl, k1⟩
  · exact pmany_with C A c l.length l size w hs (by omega) rfl hA hl
end Go.Proofs.Ytngdblojglcfpaa
