/- ImageBack, over the contracts of the calls. -/
import Derived.Test.YtlbnbamgfffahaaImApart
namespace Go.Proofs.Ytlbnbamgfffahaa
open Go.RowKit Go.Proofs.ShM Go.Proofs.PkM Go.Proofs.ImM
set_option linter.unusedVariables false

set_option maxHeartbeats 4000000 in
theorem imback_far (HW : ∀ w : World, Calls Try.prog 8 #[] w fun e w' => e = .returned (.bool true) ∧ Kp w w') (A B : Option Addr) (c d p q : Nat) (w : World) (h : ((5000 : Int) < (p : Int)) ∨ (¬ (5000 : Int) < (p : Int)) ∧ FewC B d q w false) (hp : p ≤ 9223372036854775807) :
    Calls Try.prog 4 #[.slice A p c, .slice B q d] w fun e w' => e = .returned (.bool true) ∧ Kp w w' := by
  have HAW := Lib.hid HW
  clear HW
  rcases h with h | ⟨h, g⟩
  · go_enter Try.func4, Try.ntmps4
    go_wp2_with fail
    refine (HAW.out _).mono ?_; rintro e0 w1 ⟨rfl, k1⟩
    go_wp2
    go_ret
    exact ⟨rfl, k1⟩
  · have G := Lib.hid g
    clear g
    go_enter Try.func4, Try.ntmps4
    go_wp2_with fail
    refine (HAW.out _).mono ?_; rintro e0 w1 ⟨rfl, k1⟩
    have K1 := Lib.hid k1
    clear k1
    go_wp2_with fail
    refine (G.out _ K1.out).mono ?_; rintro e0 w2 ⟨rfl, k2⟩
    have K2 := Lib.hid (K1.out.tr k2)
    clear k2
    go_wp2
    go_ret
    exact ⟨rfl, K2.out⟩

set_option maxHeartbeats 8000000 in
set_option maxRecDepth 100000 in
theorem imback_with (A B : Option Addr) (c d p q : Nat) (bs rw rv : List Int) (x y l : List T) (e f g h : Int) (k1 k2 k3 k4 : Nat) (w : World)
    (h1 : ¬ (5000 : Int) < (p : Int)) (hp : p ≤ 5000) (FB : Hid (FewC B d q w true)) (RA : Hid (B8.Rd w A bs)) (RB : Hid (RdT w B l)) (LL : Hid (rw.length = k1 ∧ x.length = k2 ∧ y.length = k3 ∧ rv.length = k4 ∧ bs.length = p ∧ l.length = q))
    (HW : Hid (∀ w : World, Calls Try.prog 8 #[] w fun e w' => e = .returned (.bool true) ∧ Kp w w'))
    (H1 : Hid (e = 30 ∧ k1 = 0 ∨ e = 0 ∧ f = 0 ∧ x = l)) (H2 : Hid (g = 50 ∧ k3 = 0 ∨ g = 0 ∧ h = 0 ∧ rv = bs))
    (C1 : Hid (∀ W, Kp w W → Calls Try.prog 13 #[.slice B q d] W (RetB rw e k1 W)))
    (C2 : Hid (∀ W D c0 k, B8.Rd W D rw → rw.length ≤ c0 → c0 ≤ 9223372036854775807 → k = rw.length → Calls Try.prog 17 #[.slice D k c0] W (RetTs x f k2 W)))
    (C3 : Hid (∀ W, Kp w W → Calls Try.prog 17 #[.slice A p c] W (RetTs y g k3 W)))
    (C4 : Hid (∀ W D c0, RdT W D y → y.length ≤ c0 → c0 ≤ 9223372036854775807 → Calls Try.prog 13 #[.slice D k3 c0] W (RetB rv h k4 W)))
    (CS : Hid (∀ W D c0, Kp w W → RdT W D l → Calls Try.prog 20 #[.slice D q c0, .slice B q d] W fun e w' => e = .returned (.bool true) ∧ Kp W w')) :
    Calls Try.prog 4 #[.slice A p c, .slice B q d] w fun e w' => e = .returned (.bool true) ∧ Kp w w' := by
  go_enter Try.func4, Try.ntmps4
  go_wp2_with fail
  refine (HW.out _).mono ?_; rintro e0 w1 ⟨rfl, k_⟩
  have K := Lib.hid k_
  clear k_
  go_wp2_with fail
  refine (FB.out _ K.out).mono ?_; rintro e0 w2 ⟨rfl, k_⟩
  have K := Lib.hid (K.out.tr k_)
  clear k_
  go_wp2_with fail
  refine (C1.out _ K.out).mono ?_; rintro e0 w3 ⟨A3, c3, rfl, r3, l3, k_⟩
  have K := Lib.hid (K.out.tr k_)
  clear k_
  go_wp2_with fail
  refine (C2.out _ A3 c3 k1 r3.out l3.out.1 l3.out.2 LL.out.1.symm).mono ?_; rintro e0 w4 ⟨A4, c4, rfl, r4, l4, k_⟩
  have K := Lib.hid (K.out.tr k_)
  clear k_ r3 l3
  go_wp2_with fail
  refine (C3.out _ K.out).mono ?_; rintro e0 w5 ⟨A5, c5, rfl, r5, l5, k_⟩
  have r4 := Lib.hid (r4.out.kp k_)
  have K := Lib.hid (K.out.tr k_)
  clear k_
  go_wp2_with fail
  refine (C4.out _ A5 c5 r5.out l5.out.1 l5.out.2).mono ?_; rintro e0 w6 ⟨A6, c6, rfl, r6, l6, k_⟩
  have r4 := Lib.hid (r4.out.kp k_)
  have K := Lib.hid (K.out.tr k_)
  clear k_
  have HST : Hid (∀ V, Kp w6 V → ((convert 22 9 (.slice A6 k4 c6)).run Try.prog V = .ok (.string (strOfNums rv)) V) ∧ ((convert 22 9 (.slice A p c)).run Try.prog V = .ok (.string (strOfNums bs)) V)) := fun V kV =>
    ⟨run_str _ (r6.out.kp kV) LL.out.2.2.2.1.symm, run_str _ (RA.out.kp (K.out.tr kV)) LL.out.2.2.2.2.1.symm⟩
  go_upto_region 8 with fail
  go_cut [14] (fun v wx => v = .bool true ∧ Hid (Kp w6 wx))
  case first =>
    rcases H1.out with ⟨h2, h3⟩ | ⟨h2, h3, h4⟩
    · subst h2 h3
      go_wp2
      go_meet
      exact ⟨rfl, Kp.refl _⟩
    · subst h2 h3 h4
      have HKQ : k2 = q := by rw [← LL.out.2.1, LL.out.2.2.2.2.2]
      subst HKQ
      go_wp2_with fail
      refine (CS.out _ _ _ K.out r4.out).mono ?_; rintro e0 w7 ⟨rfl, k7⟩
      go_wp2
      go_meet
      exact ⟨rfl, k7⟩
  case rest =>
    obtain ⟨rfl, hK7⟩ := hcut
    obtain ⟨s1, s2⟩ := HST.out _ hK7.out
    rcases H2.out with ⟨h2, h3⟩ | ⟨h2, h3, h4⟩
    · subst h2 h3
      go_wp2
      go_ret
      exact ⟨rfl, K.out.tr hK7.out⟩
    · subst h2 h3 h4
      have q5 := str_self9 rv
      go_wp2
      go_ret
      exact ⟨rfl, K.out.tr hK7.out⟩

theorem read_few {b : List Int} {l : List T} {e : Int} (hb : Bytes b) (h : ireadV b = (l, e)) : (e = 50 ∧ l = []) ∨ (e = 0 ∧ iwriteV l = (b, 0) ∧ allT l = b ∧ (∀ t ∈ l, t.1.length ≤ 100 ∧ t.2.length ≤ 100 ∧ N64 t.1 ∧ N64 t.2) ∧ l.length ≤ b.length) := by
  cases e1 : ireadO b.length b with
  | none =>
    unfold ireadV at h
    rw [e1] at h
    injection h with h1 h2
    exact .inl ⟨h2.symm, h1.symm⟩
  | some q =>
    have h' := h
    unfold ireadV at h
    rw [e1] at h
    injection h with h1 h2
    have h1' : q = l := h1
    subst h1' h2
    obtain ⟨w1, g1, n1⟩ := write_read hb h'
    have ha : allT q = b := by
      have := good_write g1
      rw [w1] at this
      injection this with this _
      exact this.symm
    refine .inr ⟨rfl, w1, ha, fun t ht => ?_, by rw [← ha]; exact all_t_len q⟩
    obtain ⟨t1, t2⟩ := g1 t ht
    have := tok_size t1
    exact ⟨by omega, by omega, n1 t ht, t2⟩
theorem imback_walk (C : ImC) (A B : Option Addr) (c d : Nat) (bs : List Int) (l : List T) (w : World) (hA : B8.Rd w A bs) (hB : RdT w B l) (hb : Bytes bs) (nl : NT l) (lc : bs.length ≤ c ∧ c ≤ 9223372036854775807) (ld : l.length ≤ d ∧ d ≤ 9223372036854775807) :
    Calls Try.prog 4 #[.slice A bs.length c, .slice B l.length d] w fun e w' => e = .returned (.bool true) ∧ Kp w w' := by
  have hlA := hA.1
  by_cases f0 : 5000 < bs.length
  · exact imback_far (imawake_any C) A B c d bs.length l.length w (.inl (by omega)) (by omega)
  cases fl : fewT l 20 with
  | false => exact imback_far (imawake_any C) A B c d bs.length l.length w (.inr ⟨by omega, few_c hB fl⟩) (by omega)
  | true =>
    obtain ⟨rw, e, hw⟩ : ∃ rw e, iwriteV l = (rw, e) := ⟨_, _, rfl⟩
    obtain ⟨x, f, hx⟩ : ∃ x f, ireadV rw = (x, f) := ⟨_, _, rfl⟩
    obtain ⟨y, g, hy⟩ : ∃ y g, ireadV bs = (y, g) := ⟨_, _, rfl⟩
    obtain ⟨rv, h, hv⟩ : ∃ rv h, iwriteV y = (rv, h) := ⟨_, _, rfl⟩
    obtain ⟨l1, l2⟩ := few_t fl
    have hwl := write_len hw
    have hsm := all_small l2
    have P1 : e = 30 ∧ rw.length = 0 ∨ e = 0 ∧ f = 0 ∧ x = l := by
      rcases write_cases l with ⟨t1, g1⟩ | ⟨_, g1⟩
      · rw [hw] at g1
        injection g1 with g1 g2
        subst g1 g2
        have := read_write t1 (fun t ht => (nl t ht).2)
        rw [hx] at this
        injection this with h1 h2
        exact .inr ⟨rfl, h2, h1⟩
      · rw [hw] at g1
        injection g1 with g1 g2
        subst g1 g2
        exact .inl ⟨rfl, rfl⟩
    have P2 : (g = 50 ∧ y.length = 0 ∨ g = 0 ∧ h = 0 ∧ rv = bs) ∧ (allT y).length ≤ 5000 ∧ y.length ≤ 5000 ∧ (∀ t ∈ y, t.1.length ≤ 100 ∧ t.2.length ≤ 100 ∧ N64 t.1 ∧ N64 t.2) := by
      rcases read_few hb hy with ⟨h1, h2⟩ | ⟨h1, h2, h3, h4, h5⟩
      · subst h2
        exact ⟨.inl ⟨h1, rfl⟩, by simp [allT], by simp, fun t ht => by cases ht⟩
      · rw [hv] at h2
        injection h2 with h6 h7
        exact ⟨.inr ⟨h1, h7, h6⟩, by rw [h3]; omega, by omega, h4⟩
    obtain ⟨P2, P3, P4, P5⟩ := P2
    refine imback_with A B c d bs.length l.length bs rw rv x y l e f g h rw.length x.length y.length rv.length w (by omega) (by omega) (few_c hB fl) hA hB ⟨rfl, rfl, rfl, rfl, rfl, rfl⟩ (imawake_any C) P1 P2 (write_c C hB fl nl ld hw) ?_ ?_ ?_ ?_
    · exact fun W D c0 k r h1 h2 hk => C.read D c0 k rw x f x.length W r h1 h2 (by omega) (write_bytes l2 hw) hk hx rfl
    · exact fun W k => C.read A c bs.length bs y g y.length W (hA.kp k) lc.1 lc.2 (by omega) hb rfl hy rfl
    · exact fun W D c0 r h1 h2 => C.write D c0 y.length y rv h rv.length W r h1 h2 (by omega) (by omega) P5 rfl hv rfl
    · exact fun W D c0 k r => by
        have := rsame9_any D B c0 d l l W r (hB.kp k)
        simpa using this
end Go.Proofs.Ytlbnbamgfffahaa
