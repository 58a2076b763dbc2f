/- The landed infer: a shape without a side, a part of one, one laid behind another, another shape of as many numbers, the shape of a product of tables. -/
import Derived.Test.YtnkkkpanlnencaaInZa
import Derived.Deep.RegionWith
import Derived.Deep.RegionHeld3
namespace Go.Proofs.Ytnkkkpanlnencaa.Iz
open Go.RowKit Go.Shelf Go.Proofs.ShM Go.Proofs.GrM Go.Proofs.InM
set_option linter.unusedVariables false
set_option linter.unusedSimpArgs false
set_option maxHeartbeats 4000000

theorem at_get {l : List Int} {k : Nat} {x : Int} (h : l[k]? = some x) : l.getD k 0 = x := by rw [List.getD, h]; rfl

/-- What is left of a shape without a side. -/
def lessV (a : List Int) (x : Int) : Sh := if axisB a x = true then (a.eraseIdx x.toNat, 0) else ([], 20)
theorem without_i (A : Option Addr) (n c : Nat) (l : List Int) (x : Int) (r : Sh) (w : World) (hn : n = l.length) (h : Rd w A l) (hl : l.length ≤ 1000) (hr : lessV l x = r) :
    Calls Try.prog 38 #[.slice A n c, .int .i64 x] w (RetI r w) := by
  subst hn
  have HS := Lib.hid (hasside_i A l.length c l x w rfl (by omega))
  cases ha : axisB l x with
  | false =>
    rw [ha] at HS
    have hv : r = ([], 20) := by rw [← hr]; unfold lessV; rw [if_neg (by simp [ha])]
    subst hv
    clear hr ha h
    go_enter Try.func38, Try.ntmps38
    go_wp2_with fail
    refine HS.out.mono ?_; rintro e w1 ⟨rfl, rfl⟩
    go_wp2
    go_ret2
    exact RetI.err_ rfl (Kp.refl _)
  | true =>
    rw [ha] at HS
    obtain ⟨x0, x1⟩ := axis_iff.1 ha
    obtain ⟨k, rfl⟩ : ∃ k : Nat, x = (k : Int) := ⟨x.toNat, by omega⟩
    have hk : k < l.length := by omega
    have HV : Hid (r = (l.eraseIdx k, 0)) := by show r = _; rw [← hr]; unfold lessV; rw [if_pos ha, Int.toNat_natCast]
    have HC := Lib.hid (clone_i A c l w h (by omega))
    have HL : Hid (l.length ≤ 1000) := hl
    have hwr : IntKind.i64.wrap ((k : Int) + 1) = (k : Int) + 1 := IntWalk.i64_in _ (by omega)
    clear hr ha h
    go_enter Try.func38, Try.ntmps38
    go_wp2_with fail
    refine HS.out.mono ?_; rintro e w1 ⟨rfl, rfl⟩
    go_wp2_with fail
    refine HC.out.mono ?_; rintro e w2 ⟨A2, c2, rfl, o2, k2⟩
    have K2 := Lib.hid k2
    obtain ⟨g, rfl, hg1, _⟩ := o2.addrI (by omega)
    have HG : Hid (w1.heap.size ≤ g) := hg1
    have HD := Lib.hid (delete_i _ c2 w1.heap.size k l w2 o2 hk HL.out)
    clear k2 o2 hg1
    go_wp2_with fail
    refine HD.out.mono ?_; rintro e w3 ⟨rfl, o3, b3⟩
    have HO := Lib.hid o3
    have HB := Lib.hid b3
    clear o3 b3
    go_wp2
    go_ret2
    rw [HV.out]
    exact ⟨_, c2, rfl, HO.out, fun ad e _ => by injection e with e; subst e; exact HG.out, K2.out.trans HB.out⟩

/-! ### A part of a side -/
def cutV (a : List Int) (x f t : Int) : Sh := if axisB a x = true then partV a x f t else ([], 20)
theorem sliced_i (A : Option Addr) (n c : Nat) (l : List Int) (x f t : Int) (r : Sh) (w : World) (hn : n = l.length) (h : Rd w A l) (hl : l.length ≤ 1000) (h64 : W64 l) (hr : cutV l x f t = r) :
    Calls Try.prog 49 #[.slice A n c, .int .i64 x, .int .i64 f, .int .i64 t] w (RetI r w) := by
  subst hn
  have HS := Lib.hid (hasside_i A l.length c l x w rfl (by omega))
  cases ha : axisB l x with
  | false =>
    rw [ha] at HS
    have hv : r = ([], 20) := by rw [← hr]; unfold cutV; rw [if_neg (by simp [ha])]
    subst hv
    clear hr ha h h64
    go_enter Try.func49, Try.ntmps49
    go_wp2_with fail
    refine HS.out.mono ?_; rintro e w1 ⟨rfl, rfl⟩
    go_wp2
    go_ret2
    exact RetI.err_ rfl (Kp.refl _)
  | true =>
    rw [ha] at HS
    obtain ⟨x0, x1⟩ := axis_iff.1 ha
    obtain ⟨k, rfl⟩ : ∃ k : Nat, x = (k : Int) := ⟨x.toNat, by omega⟩
    have hk : k < l.length := by omega
    obtain ⟨ad, y, rfl, hlt, hy, hc⟩ := h.at_ hk
    have hv0 : r = partV l k f t := by rw [← hr]; unfold cutV; rw [if_pos ha]
    unfold partV at hv0
    rw [Int.toNat_natCast, at_get hy] at hv0
    clear hr ha
    by_cases f0 : f < 0
    · rw [if_neg (by omega)] at hv0
      subst hv0
      clear h h64
      go_enter Try.func49, Try.ntmps49
      go_wp2_with fail
      refine HS.out.mono ?_; rintro e w1 ⟨rfl, rfl⟩
      go_wp2
      go_ret2
      exact RetI.err_ rfl (Kp.refl _)
    · by_cases f1 : t ≤ f
      · rw [if_neg (by omega)] at hv0
        subst hv0
        clear h h64
        go_enter Try.func49, Try.ntmps49
        go_wp2_with fail
        refine HS.out.mono ?_; rintro e w1 ⟨rfl, rfl⟩
        go_wp2
        go_ret2
        exact RetI.err_ rfl (Kp.refl _)
      · by_cases f2 : y < t
        · rw [if_neg (by omega)] at hv0
          subst hv0
          clear h h64
          go_enter Try.func49, Try.ntmps49
          go_wp2_with fail
          refine HS.out.mono ?_; rintro e w1 ⟨rfl, rfl⟩
          go_wp2
          go_ret2
          exact RetI.err_ rfl (Kp.refl _)
        · rw [if_pos (by omega)] at hv0
          have hy64 := h64 y (List.mem_of_getElem? hy)
          obtain ⟨d, hd⟩ : ∃ d, d = t - f := ⟨_, rfl⟩
          have hwr : IntKind.i64.wrap (t - f) = d := by rw [hd]; exact IntWalk.i64_in _ (by omega)
          have HW := Lib.hid (with_i (some ad) c l k d w h hl hk)
          have HV : Hid (r = (l.set k d, 0)) := by show _ = _; rw [hv0, hd]
          clear h h64 hv0 hd hy hy64
          go_enter Try.func49, Try.ntmps49
          go_wp2_with fail
          refine HS.out.mono ?_; rintro e w1 ⟨rfl, rfl⟩
          go_wp2_with fail
          refine HW.out.mono ?_; rintro e w2 ⟨A2, c2, rfl, o2, k2⟩
          have HO := Lib.hid o2
          have K2 := Lib.hid k2
          clear o2 k2
          go_wp2
          go_ret2
          exact RetI.mk_ HV.out (by simp) HO.out K2.out

/-! ### One behind another -/
def layV (a b : List Int) (x : Int) : Sh := if axisB a x = true then glueS a b x else ([], 20)
theorem set_is {a b : List Int} {k : Nat} (hk : k < a.length) (hl : a.length = b.length) (he : a.eraseIdx k = b.eraseIdx k) : b.set k (a.getD k 0) = a := by
  have h1 : (b.set k (a.getD k 0)).eraseIdx k = a.eraseIdx k := by rw [erase_set, he]
  have h2 : (b.set k (a.getD k 0))[k]? = a[k]? := by rw [List.getElem?_set_self (by omega), List.getElem?_eq_getElem hk, List.getD, List.getElem?_eq_getElem hk]; rfl
  apply List.ext_getElem?
  intro i
  rcases Nat.lt_trichotomy i k with hi | rfl | hi
  · have := congrArg (fun l => l[i]?) h1
    simp only [List.getElem?_eraseIdx, hi, if_true] at this
    exact this
  · exact h2
  · obtain ⟨j, rfl⟩ : ∃ j, i = j + 1 := ⟨i - 1, by omega⟩
    have := congrArg (fun l => l[j]?) h1
    simp only [List.getElem?_eraseIdx, show ¬ j < k by omega, if_false] at this
    exact this
theorem lay_no {a b : List Int} {k : Nat} (h : ¬ k < b.length) (hk : k < a.length) : layV a b k = ([], 20) := by
  unfold layV
  split
  · unfold glueS
    rw [if_neg (fun g => by have := g.1; omega)]
  · rfl
theorem lay_off {a b : List Int} {k : Nat} (hk : k < a.length) (h : (b.set k (a.getD k 0) == a) = false) : layV a b k = ([], 20) := by
  unfold layV
  split
  · unfold glueS
    rw [if_neg (fun g => by
      rw [Int.toNat_natCast] at g
      rw [set_is hk g.1 g.2, beq_self_eq_true] at h; cases h)]
  · rfl
theorem lay_on {a b : List Int} {k : Nat} (hk : k < a.length) (h : (b.set k (a.getD k 0) == a) = true) : layV a b k = toldV (a.set k (a.getD k 0 + b.getD k 0)) true := by
  have e : b.set k (a.getD k 0) = a := by simpa using h
  have hl : a.length = b.length := by rw [← e]; simp
  unfold layV
  rw [if_pos (axis_iff.2 ⟨by omega, by omega⟩)]
  unfold glueS
  rw [Int.toNat_natCast, if_pos ⟨hl, by
    have := erase_set (s := b) (a := k) (y := a.getD k 0)
    rw [e] at this; exact this⟩]
theorem laid_i (A B : Option Addr) (n c m d : Nat) (a b : List Int) (x : Int) (r : Sh) (w : World) (hn : n = a.length) (hm : m = b.length) (h : Rd w A a) (g : Rd w B b) (ha : okS a = true) (hb : okS b = true) (hr : layV a b x = r) :
    Calls Try.prog 51 #[.slice A n c, .slice B m d, .int .i64 x] w (RetI r w) := by
  subst hn hm
  have la := (ok_iff.1 ha).1
  have lb := (ok_iff.1 hb).1
  have HS := Lib.hid (hasside_i A a.length c a x w rfl (by omega))
  have HT := Lib.hid (hasside_i B b.length d b x w rfl (by omega))
  cases hx : axisB a x with
  | false =>
    rw [hx] at HS
    have hv : r = ([], 20) := by rw [← hr]; unfold layV; rw [if_neg (by simp [hx])]
    subst hv
    clear hr hx h g ha hb HT
    go_enter Try.func51, Try.ntmps51
    go_wp2_with fail
    refine HS.out.mono ?_; rintro e w1 ⟨rfl, rfl⟩
    go_wp2
    go_ret2
    exact RetI.err_ rfl (Kp.refl _)
  | true =>
    rw [hx] at HS
    obtain ⟨x0, x1⟩ := axis_iff.1 hx
    obtain ⟨k, rfl⟩ : ∃ k : Nat, x = (k : Int) := ⟨x.toNat, by omega⟩
    have hk : k < a.length := by omega
    cases hy : axisB b (k : Int) with
    | false =>
      rw [hy] at HT
      have hkb : ¬ k < b.length := fun g => by
        have : axisB b (k : Int) = true := axis_iff.2 ⟨by omega, by omega⟩
        rw [this] at hy; cases hy
      have hv : r = ([], 20) := by rw [← hr]; exact lay_no hkb hk
      subst hv
      clear hr hx hy h g ha hb
      go_enter Try.func51, Try.ntmps51
      go_wp2_with fail
      refine HS.out.mono ?_; rintro e w1 ⟨rfl, rfl⟩
      go_wp2_with fail
      refine HT.out.mono ?_; rintro e w1 ⟨rfl, rfl⟩
      go_wp2
      go_ret2
      exact RetI.err_ rfl (Kp.refl _)
    | true =>
      rw [hy] at HT
      have hkb : k < b.length := by have := (axis_iff.1 hy).2; omega
      obtain ⟨ad, y, rfl, hlt, hya, hc⟩ := h.at_ hk
      obtain ⟨ae, z, rfl, hlt2, hzb, hc2⟩ := g.at_ hkb
      have sy := side_of (ok_iff.1 ha).2.1 hya
      have sz := side_of (ok_iff.1 hb).2.1 hzb
      have HW := Lib.hid (with_i (some ae) d b k y w g (by omega) hkb)
      have k1 : (k : Int) < (a.length : Int) := by omega
      have k2 : (k : Int) < (b.length : Int) := by omega
      have k0 : (0 : Int) ≤ (k : Int) := by omega
      have HA := Lib.hid h
      have HB := Lib.hid g
      have HCA : Hid (∀ V, Kp w V → V.cell? (ad.add k) = some (.int .i64 y)) := fun V kV => (kV.cell (by rw [block_of_add]; exact hlt)).trans hc
      have HCB : Hid (∀ V, Kp w V → V.cell? (ae.add k) = some (.int .i64 z)) := fun V kV => (kV.cell (by rw [block_of_add]; exact hlt2)).trans hc2
      obtain ⟨q, hq⟩ : ∃ q, q = (b.set k y == a) := ⟨_, rfl⟩
      have HQ := Lib.hid hq
      have hl2 : Hid (b.length = (b.set k y).length) := by show _ = _; simp
      cases q with
      | false =>
        have hv : r = ([], 20) := by rw [← hr]; exact lay_off hk (by rw [at_get hya]; exact hq.symm)
        subst hv
        clear hr hx hy h g ha hb hq hc2
        go_enter Try.func51, Try.ntmps51
        go_wp2_with fail
        refine HS.out.mono ?_; rintro e w1 ⟨rfl, rfl⟩
        go_wp2_with fail
        refine HT.out.mono ?_; rintro e w1 ⟨rfl, rfl⟩
        go_wp2_with fail
        refine HW.out.mono ?_; rintro e w2 ⟨A2, c2, rfl, o2, k2'⟩
        have K2 := Lib.hid k2'
        have HE0 := equal_any A2 (some ad) c2 c _ a w2 o2.sl.rd (HA.out.kp k2')
        rw [List.length_set] at HE0
        have HE := Lib.hid HE0
        clear HE0
        rw [← HQ.out] at HE
        clear k2' o2
        go_wp2_with fail
        refine HE.out.mono ?_; rintro e w3 ⟨rfl, m3, rfl⟩
        have K3 := Lib.hid (K2.out.tr (Kp.drewN_ w2 m3))
        go_wp2
        go_ret2
        exact RetI.err_ rfl K3.out
      | true =>
        have HV : Hid (toldV (a.set k (y + z)) true = r) := by
          show _ = r
          rw [← hr, lay_on hk (by rw [at_get hya]; exact hq.symm), at_get hya, at_get hzb]
        obtain ⟨s, hs⟩ : ∃ s, s = y + z := ⟨_, rfl⟩
        have hwr : IntKind.i64.wrap (y + z) = s := by rw [hs]; exact IntWalk.i64_in _ (by omega)
        rw [← hs] at HV
        have HX : Hid (∀ V, Kp w V → Calls Try.prog 66 #[.slice (some ad) a.length c, .int .i64 (k : Int), .int .i64 s] V fun e V' => ∃ A' c', e = .returned (.slice A' a.length c') ∧ Hid (Calls Try.prog 64 #[.slice A' a.length c'] V' (RetI r w)) ∧ Hid (Kp w V')) := fun V kV =>
          (with_i (some ad) c a k s V (h.kp kV) (by omega) hk).mono fun e V' ⟨A', c', e1, o1, k1⟩ => ⟨A', c', e1, by
            have hh := checked_i A' a.length c' w.heap.size (a.set k s) V' (by simp) (Own.monoI o1 kV.size)
            rw [HV.out] at hh
            refine hh.mono ?_
            rintro e2 w2 ⟨⟨A3, c3, rfl, o3⟩, rfl⟩
            exact RetI.mk_ rfl rfl o3 (kV.tr k1), kV.tr k1⟩
        clear hr hx hy h g ha hb hq hc2 hs sy sz
        go_enter Try.func51, Try.ntmps51
        go_wp2_with fail
        refine HS.out.mono ?_; rintro e w1 ⟨rfl, rfl⟩
        go_wp2_with fail
        refine HT.out.mono ?_; rintro e w1 ⟨rfl, rfl⟩
        go_wp2_with fail
        refine HW.out.mono ?_; rintro e w2 ⟨A2, c2, rfl, o2, k2'⟩
        have K2 := Lib.hid k2'
        have HE0 := equal_any A2 (some ad) c2 c _ a w2 o2.sl.rd (HA.out.kp k2')
        rw [List.length_set] at HE0
        have HE := Lib.hid HE0
        clear HE0
        rw [← HQ.out] at HE
        clear k2' o2
        go_wp2_with fail
        refine HE.out.mono ?_; rintro e w3 ⟨rfl, m3, rfl⟩
        have K3 := Lib.hid (K2.out.tr (Kp.drewN_ w2 m3))
        have p1 := HCA.out _ K3.out
        have p2 := HCB.out _ K3.out
        have K4 : Hid (Kp _ (w2.drewN m3).drew) := Below.drew K3.out
        go_wp2
        go_region_held3 (fun V => V.cell? (ad.add k) = some (.int .i64 y) ∧ V.cell? (ae.add k) = some (.int .i64 z)) (first | exact ⟨p1, p2⟩ | exact ⟨q1, q2⟩ | exact ⟨q3, q4⟩)
          (first
          | (go_at_call 66; refine (HX.out _ K4.out).mono ?_; rintro e w4 ⟨A4, c4, rfl, HC4, K5⟩; have q1 := HCA.out _ K5.out; have q2 := HCB.out _ K5.out)
          | (go_at_call 64; refine HC4.out.mono ?_; rintro e w5 ⟨A5, c5, rfl, S5, N5, K6⟩; have S6 := Lib.hid S5; have N6 := Lib.hid N5; have K7 := Lib.hid K6; have q3 := HCA.out _ K6; have q4 := HCB.out _ K6; clear S5 N5 K6))
        all_goals
          go_wp2
          go_ret2
          exact ⟨A5, c5, rfl, S6.out, N6.out, K7.out⟩
end Go.Proofs.Ytnkkkpanlnencaa.Iz
