/- The document's layer 11: Node: turned, products and parts. -/
import Derived.Test.YtnkkkpanlnencaaR11D
namespace Go.Proofs.Ytnkkkpanlnencaa
open Go.RowKit Go.Proofs.ShM Go.Proofs.GrM Go.Proofs.InM
set_option linter.unusedVariables false
set_option linter.unusedSimpArgs false
set_option maxHeartbeats 8000000

set_option maxRecDepth 100000 in
theorem rnode_41 (X : Nat → Prop) (P Q : Option Addr) (n c m d : Nat) (A : Option Addr) (na e : Nat) (gs : List (List Int)) (w : World) (hml : m ≤ 9223372036854775807) (HG : Hid (RdLX w X A gs)) (HNG : Hid (na = gs.length)) (HN : Hid (NC w 41 (na : Int) true P n c Q m d)) (hok : gs.all okS = true) (ad : Addr) (hA : A = some ad) (hlt : ad.block < w.heap.size) (a : List Int) (Pa : Option Addr) (ca : Nat) (h0 : w.cell? ad = some (.slice Pa a.length ca)) (RA : Hid (Rd w Pa a)) (hca : a.length ≤ ca ∧ ca ≤ 9223372036854775807) (XA : Hid (∀ ad, Pa = some ad → 0 < a.length → X ad.block)) (i0 : (0 : Int) < (na : Int)) (hoa : okS a = true) :
    Calls Try.prog 12 #[.agg #[.int .i64 41, .slice P n c, .slice Q m d], .slice A na e] w (RetM X (a.reverse, 0) w) := by
  have t1 : ((na : Int) != (na : Int)) = false := by simp
  have hnl : na ≤ 9223372036854775807 := by rw [HNG.out]; exact HG.out.len
  have HOK : Hid (∀ s ∈ gs, okS s = true) := fun s hs => List.all_eq_true.1 hok s hs
  clear hok
  subst hA
  have hal := RA.out.len
  have HKC : Hid (∀ V, Kp w V → V.cell? ad = some (.slice Pa a.length ca)) := fun V k => (k.cell hlt).trans h0
  clear h0
  have HNL : Hid (a.length ≤ 3) := (ok_iff.1 hoa).1
  clear hoa
  have F0 := Lib.hid (Nb.new (W := w) (b := w.heap.size) (op := 41) (P := P) (n := n) (c := c) (Q := Q) (m := m) (d := d) rfl)
  have K0 : Hid (Kp w (w.alloc (.cells #[.int .i64 41, .slice P n c, .slice Q m d] 25))) := Kp.alloc_ _ _
  go_enter Try.func12, Try.ntmps12
  go_wp2_with fail
  refine (HN.out.al _ K0.out).mono ?_; rintro e1 w1 ⟨rfl, k1⟩
  have K1 := Lib.hid (K0.out.tr k1)
  have F1 := Lib.hid (F0.out.kp k1)
  have p0 := F1.out.c0
  have p1 := F1.out.c1
  have p2 := F1.out.c2
  clear k1
  go_wp2_with fail
  refine (HN.out.ar _).mono ?_; rintro e2 w2 ⟨rfl, rfl⟩
  go_wp2
  go_loopw [7, 8] (fun i _ wx => ∃ k : Nat, i = .int .i64 (k : Int) ∧ Hid (k ≤ na) ∧ wx = w1) (fun i _ _ => na - (intOf i).toNat)
  case atStart => exact ⟨0, rfl, Nat.zero_le _, rfl⟩
  case round =>
    obtain ⟨k, rfl, hk, rfl⟩ := hrel
    by_cases hj : k < na
    · have hj' : (k : Int) < (na : Int) := by omega
      obtain ⟨ad9, s9, Pv, cv, ea9, hlt9, hs, hc, hr, _, _, _⟩ := (HG.out.kp K1.out).at_ (k := k) (by rw [← HNG.out]; exact hj)
      have HCK := Lib.hid (rcheck_any Pv cv s9 wr hr)
      rw [HOK.out s9 (List.mem_of_getElem? hs)] at HCK
      clear hs hr
      injection ea9 with ea9
      subst ea9
      go_wp2_with fail
      refine (Hid.out HCK).mono ?_; rintro e3 w3 ⟨rfl, rfl⟩
      go_wp2
      go_roundw
      case rel => exact ⟨k + 1, by go_num, (by show k + 1 ≤ na; omega), (by first | rfl | trivial)⟩
      case measure => simp [intOf]; omega
    · have hj' : ¬ (k : Int) < (na : Int) := by omega
      have i2 : IntKind.i64.wrap ((a.length : Int) - 1) = (a.length : Int) - 1 := by have := HNL.out; rw [IntKind.wrap_i64]; omega
      have q0 := HKC.out _ K1.out
      obtain ⟨wo, hwo⟩ : ∃ wo, wo = wr := ⟨_, rfl⟩
      subst hwo
      go_wp2
      go_loopw [9, 10] (fun v i wx => ∃ k : Nat, ∃ zs : List Int, ∃ j : Int, Hid (Own wo.heap.size wx v zs) ∧ i = .int .i64 j ∧ Hid (j = (k : Int) - 1) ∧ Hid (k ≤ a.length) ∧ Hid (zs = (a.drop k).reverse) ∧ Hid (Kp wo wx)) (fun _ i _ => (intOf i + 1).toNat)
      case atStart => exact ⟨a.length, [], _, Own.nil_ _ _, rfl, rfl, Nat.le_refl _, (by show _ = _; rw [List.drop_length]; rfl), Kp.refl _⟩
      case round =>
        obtain ⟨k, zs, j, hO, rfl, hJ, hk2, hZ, hK⟩ := hrel
        have q0 := HKC.out _ (K1.out.tr hK.out)
        have hz3 : Hid (zs.length ≤ 3) := by show _ ≤ _; rw [hZ.out, List.length_reverse, List.length_drop]; have := HNL.out; omega
        obtain ⟨A9, c9, rfl, _⟩ := hO.out.form
        cases k with
        | succ k =>
          have hjk : j = (k : Int) := by rw [hJ.out]; omega
          subst hjk
          obtain ⟨aa, x, rfl, hla, hx, hcx⟩ := (RA.out.kp (K1.out.tr hK.out)).at_ (k := k) (by have := hk2.out; omega)
          have hwk : IntKind.i64.wrap ((k : Int) - 1) = (k : Int) - 1 := by have := HNL.out; have := hk2.out; rw [IntKind.wrap_i64]; omega
          have hk0 : (0 : Int) ≤ (k : Int) := by omega
          have hka : (k : Int) < (a.length : Int) := by have := hk2.out; omega
          have HX := Lib.hid hx
          clear hx
          go_wp2_with (at_builtin; refine wpList_app (B := wo.heap.size) rfl (.tmp 97) (.tmp 104) rfl _ zs rfl (hO.out.kp (Kp.alloc_ _ _)) _ _ [x] 1 rfl rfl (Rd.one _ _ _) (by have := hz3.out; simp; omega) (by have := hK.out.size; simp; omega) ?_; intro z1 A1 c1 w6 HZ1 o1 b1; have O1 := Lib.hid o1; have K6 : Hid (Kp wo w6) := (gal hK.out _).trans b1; clear o1 b1)
          have hz2 : Hid (z1 = (a.drop k).reverse) := by
            show _ = _
            rw [HZ1.out, hZ.out, drop_of HX.out, List.reverse_cons]
          go_roundw
          case rel => exact ⟨k, z1, (k : Int) - 1, O1.out, rfl, rfl, (by show k ≤ a.length; have := hk2.out; omega), hz2.out, K6.out⟩
          case measure => simp [intOf] <;> omega
        | zero =>
          have hjk : j = -1 := by have := hJ.out; simpa using this
          subst hjk
          have hzr : zs = a.reverse := by rw [hZ.out, List.drop_zero]
          subst hzr
          go_wp2
          go_ret2
          exact RetM.own rfl hO.out (Nat.le_trans K1.out.size (Nat.le_refl _)) (K1.out.tr hK.out) 0

set_option maxRecDepth 100000 in
theorem rnode_m (X : Nat → Prop) (P Q : Option Addr) (n c m d : Nat) (A : Option Addr) (na e : Nat) (gs : List (List Int)) (w : World) (hml : m ≤ 9223372036854775807) (HG : Hid (RdLX w X A gs)) (HNG : Hid (na = gs.length)) (op : Int) (HN : Hid (NC w op (na : Int) true P n c Q m d)) (hok : gs.all okS = true) (e1 : (op == 1) = false) (e2 : (op == 2) = false) (e3 : (op == 3) = false) (e10 : (op == 10) = false) (e11 : (op == 11) = false) (e12 : (op == 12) = false) (e13 : (op == 13) = false) (e20 : (op == 20) = false) (e21 : (op == 21) = false) (e22 : (op == 22) = false) (e23 : (op == 23) = false) (e40 : (op == 40) = false) (e41 : (op == 41) = false) (r : Sh) (HMO : Hid (∀ V, Kp w V → Calls Try.prog 28 #[.agg #[.int .i64 op, .slice P n c, .slice Q m d], .slice A na e] V (RetM X r V))) :
    Calls Try.prog 12 #[.agg #[.int .i64 op, .slice P n c, .slice Q m d], .slice A na e] w (RetM X r w) := by
  have t1 : ((na : Int) != (na : Int)) = false := by simp
  have hnl : na ≤ 9223372036854775807 := by rw [HNG.out]; exact HG.out.len
  have HOK : Hid (∀ s ∈ gs, okS s = true) := fun s hs => List.all_eq_true.1 hok s hs
  clear hok
  have F0 := Lib.hid (Nb.new (W := w) (b := w.heap.size) (op := op) (P := P) (n := n) (c := c) (Q := Q) (m := m) (d := d) rfl)
  have K0 : Hid (Kp w (w.alloc (.cells #[.int .i64 op, .slice P n c, .slice Q m d] 25))) := Kp.alloc_ _ _
  go_enter Try.func12, Try.ntmps12
  go_wp2_with fail
  refine (HN.out.al _ K0.out).mono ?_; rintro e1 w1 ⟨rfl, k1⟩
  have K1 := Lib.hid (K0.out.tr k1)
  have F1 := Lib.hid (F0.out.kp k1)
  have p0 := F1.out.c0
  have p1 := F1.out.c1
  have p2 := F1.out.c2
  clear k1
  go_wp2_with fail
  refine (HN.out.ar _).mono ?_; rintro e2 w2 ⟨rfl, rfl⟩
  go_wp2
  go_loopw [7, 8] (fun i _ wx => ∃ k : Nat, i = .int .i64 (k : Int) ∧ Hid (k ≤ na) ∧ wx = w1) (fun i _ _ => na - (intOf i).toNat)
  case atStart => exact ⟨0, rfl, Nat.zero_le _, rfl⟩
  case round =>
    obtain ⟨k, rfl, hk, rfl⟩ := hrel
    by_cases hj : k < na
    · have hj' : (k : Int) < (na : Int) := by omega
      obtain ⟨ad9, s9, Pv, cv, ea9, hlt9, hs, hc, hr, _, _, _⟩ := (HG.out.kp K1.out).at_ (k := k) (by rw [← HNG.out]; exact hj)
      have HCK := Lib.hid (rcheck_any Pv cv s9 wr hr)
      rw [HOK.out s9 (List.mem_of_getElem? hs)] at HCK
      clear hs hr
      subst ea9
      go_wp2_with fail
      refine (Hid.out HCK).mono ?_; rintro e3 w3 ⟨rfl, rfl⟩
      go_wp2
      go_roundw
      case rel => exact ⟨k + 1, by go_num, (by show k + 1 ≤ na; omega), (by first | rfl | trivial)⟩
      case measure => simp [intOf]; omega
    · have hj' : ¬ (k : Int) < (na : Int) := by omega
      go_wp2_with fail
      refine (Calls.mono (HMO.out _ K1.out) (fun e W h => RetM.up K1.out h)).mono ?_; rintro e3 w3 ⟨A3, c3, rfl, r3, l3, x3, k3⟩
      go_wp2
      go_ret2
      exact ⟨A3, c3, rfl, r3, l3, x3, k3⟩

end Go.Proofs.Ytnkkkpanlnencaa
