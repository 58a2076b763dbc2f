/- The landed infer: another shape of as many numbers, the shape of a product of tables. -/
import Derived.Test.YtnkkkpanlnencaaInZb
namespace Go.Proofs.Ytnkkkpanlnencaa.Iz
open Go.RowKit Go.Shelf Go.Proofs.ShM Go.Proofs.GrM Go.Proofs.InM
set_option linter.unusedVariables false
set_option linter.unusedSimpArgs false
set_option maxHeartbeats 4000000

def formV (a b : List Int) : Sh := if sizeV b = sizeV a then (b, 0) else ([], 20)
theorem reshaped_i (A B : Option Addr) (n c m d : Nat) (a b : List Int) (r : Sh) (w : World) (hn : n = a.length) (hm : m = b.length) (h : Rd w A a) (g : Rd w B b) (hl : b.length ≤ 1000) (hr : formV a b = r) :
    Calls Try.prog 45 #[.slice A n c, .slice B m d] w (RetI r w) := by
  subst hn hm
  have HA := Lib.hid (size_any A c a w h)
  have HB := Lib.hid (size_any B d b w g)
  have HC := Lib.hid (clone_i B d b w g (by omega))
  obtain ⟨p, hp⟩ : ∃ p, p = sizeV a := ⟨_, rfl⟩
  obtain ⟨q, hq⟩ : ∃ q, q = sizeV b := ⟨_, rfl⟩
  unfold formV at hr
  rw [← hp] at HA hr
  rw [← hq] at HB hr
  clear hp hq h g
  by_cases hpq : q = p
  · rw [if_pos hpq] at hr
    subst hr
    have e1 : (q != p) = false := by simpa using hpq
    clear hpq
    go_enter Try.func45, Try.ntmps45
    go_wp2_with fail
    refine HB.out.mono ?_; rintro e w1 ⟨rfl, rfl⟩
    go_wp2_with fail
    refine HA.out.mono ?_; rintro e w1 ⟨rfl, rfl⟩
    go_wp2_with fail
    refine HC.out.mono ?_; rintro e w2 ⟨A2, c2, rfl, o2, k2⟩
    have HO := Lib.hid o2
    have K2 := Lib.hid k2
    clear o2 k2
    go_wp2
    go_ret2
    exact RetI.mk_ rfl rfl HO.out K2.out
  · rw [if_neg hpq] at hr
    subst hr
    have e1 : (q != p) = true := by simpa using hpq
    clear hpq
    go_enter Try.func45, Try.ntmps45
    go_wp2_with fail
    refine HB.out.mono ?_; rintro e w1 ⟨rfl, rfl⟩
    go_wp2_with fail
    refine HA.out.mono ?_; rintro e w1 ⟨rfl, rfl⟩
    go_wp2
    go_ret2
    exact RetI.err_ rfl (Kp.refl _)

theorem two_list {a : List Int} (h : a.length = 2) : ∃ x y, a = [x, y] := by
  match a, h with
  | [x, y], _ => exact ⟨x, y, rfl⟩
theorem product_i (A B : Option Addr) (n c m d : Nat) (a b : List Int) (r : Sh) (w : World) (hn : n = a.length) (hm : m = b.length) (h : Rd w A a) (g : Rd w B b) (hr : tableV a b = r) :
    Calls Try.prog 43 #[.slice A n c, .slice B m d] w (RetI r w) := by
  have la := h.len
  have lb := g.len
  rw [← hn] at la
  rw [← hm] at lb
  by_cases h1 : n = 2
  · have e1 : ((n : Int) != 2) = false := by rw [bne_eq_false_iff_eq]; omega
    by_cases h2 : m = 2
    · have e2 : ((m : Int) != 2) = false := by rw [bne_eq_false_iff_eq]; omega
      obtain ⟨a0, a1, rfl⟩ := two_list (hn.symm.trans h1)
      obtain ⟨b0, b1, rfl⟩ := two_list (hm.symm.trans h2)
      obtain ⟨ad, rfl, hlt, hc⟩ := h.2 (by simp)
      obtain ⟨ae, rfl, hlt2, hc2⟩ := g.2 (by simp)
      have hca0 := hc 0 a0 rfl
      have hca1 := hc 1 a1 rfl
      have hcb0 := hc2 0 b0 rfl
      have hcb1 := hc2 1 b1 rfl
      have q1 : w.cell? ⟨ad.block, ad.off + 1, none⟩ = some (.int .i64 a1) := hca1
      have q2 : w.cell? ⟨ae.block, ae.off + 1, none⟩ = some (.int .i64 b1) := hcb1
      have q3 : w.cell? ad = some (.int .i64 a0) := by simpa [Addr.add] using hca0
      have q4 : w.cell? ae = some (.int .i64 b0) := by simpa [Addr.add] using hcb0
      subst h1 h2
      clear hn hm h g hc hc2 hca0 hca1 hcb0 hcb1 e1 e2
      have hv : r = if a1 = b0 then toldV [a0, b1] true else ([], 20) := by
        rw [← hr]; unfold tableV; simp
      clear hr
      by_cases h3 : a1 = b0
      · rw [if_pos h3] at hv
        have e3 : (a1 != b0) = false := by rw [bne_eq_false_iff_eq]; exact h3
        have HC : Hid (∀ V, Kp w V → Calls Try.prog 64 #[.slice (some ⟨V.heap.size, 0, none⟩) 2 2] (V.alloc (.cells #[.int .i64 a0, .int .i64 b1] 3)) (RetI r w)) := fun V kV => by
          have hh := checked_i (some ⟨V.heap.size, 0, none⟩) 2 2 w.heap.size [a0, b1] _ rfl (Own.two V a0 b1 kV.size)
          rw [← hv] at hh
          refine hh.mono ?_
          rintro e2 w2 ⟨⟨A3, c3, rfl, o3⟩, rfl⟩
          exact RetI.mk_ rfl rfl o3 (kV.tr (Kp.alloc_ _ _))
        clear h3 hv
        go_enter Try.func43, Try.ntmps43
        go_wp2_with fail
        go_quiet (fail)
        have K4 : Hid (Kp w (w.drewN nq).drew) := Below.drew (Kp.drewN_ w nq)
        go_wp2_with fail
        go_region_with (refine (HC.out _ K4.out).mono ?_; rintro e w2 ⟨A2, c2, rfl, S2, N2, K2⟩; have S3 := Lib.hid S2; have N3 := Lib.hid N2; have K3 := Lib.hid K2; clear S2 N2 K2)
        all_goals
          go_wp2
          go_ret2
          exact ⟨A2, c2, rfl, S3.out, N3.out, K3.out⟩
      · rw [if_neg h3] at hv
        subst hv
        have e3 : (a1 != b0) = true := by rw [bne_iff_ne]; exact h3
        clear h3
        go_enter Try.func43, Try.ntmps43
        go_wp2_with fail
        go_quiet (fail)
        go_wp2
        go_ret2
        exact RetI.err_ rfl (Kp.drewN_ _ _)
    · have e2 : ((m : Int) != 2) = true := by rw [bne_iff_ne]; omega
      have hv : r = ([], 20) := by rw [← hr]; unfold tableV; rw [if_neg (by omega)]
      subst hv
      clear hr hn hm h g h1 h2
      go_enter Try.func43, Try.ntmps43
      go_wp2_with fail
      go_quiet (fail)
      go_wp2
      go_ret2
      exact RetI.err_ rfl (Kp.drewN_ _ _)
  · have e1 : ((n : Int) != 2) = true := by rw [bne_iff_ne]; omega
    have hv : r = ([], 20) := by rw [← hr]; unfold tableV; rw [if_neg (by omega)]
    subst hv
    clear hr hn hm h g h1
    go_enter Try.func43, Try.ntmps43
    go_wp2_with fail
    go_quiet (fail)
    go_wp2
    go_ret2
    exact RetI.err_ rfl (Kp.drewN_ _ _)
end Go.Proofs.Ytnkkkpanlnencaa.Iz
