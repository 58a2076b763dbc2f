/- The landed wire: Write. -/
import Derived.Test.YtdcgmnkoomhocaaWiZb
import Derived.Test.YtdcgmnkoomhocaaGrZk
import Derived.Test.YtdcgmnkoomhocaaWiC
namespace Go.Proofs.Ytdcgmnkoomhocaa
open Go.RowKit Go.Proofs.ShM Go.Proofs.GrM Go.Proofs.PkM Go.Proofs.WiM
set_option linter.unusedVariables false
set_option maxHeartbeats 8000000

theorem pt_own {B : Nat} {w w' : World} {v : Value} {xs ys : List Int} {A : Option Addr} {c : Nat} (hv : B8.Own B w v xs) (ho : B8.Own w.heap.size w' (.slice A ys.length c) ys) (hy : 0 < ys.length) : B8.Pt w' v.ownBlock A ys := by
  refine ⟨(B8.own_room ho).1, hy, fun ad e => ?_⟩
  subst e
  intro h
  have h1 : ad.block < w.heap.size := by
    have hl := hv
    rcases hv.2 with ⟨rfl, _⟩ | ⟨g, cap, cur, rfl, hb, hh, _⟩
    · cases h
    · have hg : g = ad.block := by simpa [Value.ownBlock] using h
      subst hg
      exact (Array.getElem?_eq_some_iff.1 hh).1
  have h2 := ho.from_ (k := ad.block) rfl
  omega
theorem pt_kp {w w' : World} {row : Option Nat} {A : Option Addr} {ys : List Int} (h : B8.Pt w row A ys) (k : Kp w w') : B8.Pt w' row A ys := ⟨h.1.kp k, h.2.1, h.2.2⟩
theorem row_lt8 {B : Nat} {w : World} {v : Value} {xs : List Int} (h : B8.Own B w v xs) {g : Nat} (hg : w.heap.size ≤ g) : v.ownBlock ≠ some g := by
  intro e
  rcases h.2 with ⟨rfl, _⟩ | ⟨g', cap, cur, rfl, hb, hh, _⟩
  · cases e
  · have : g' = g := by simpa [Value.ownBlock] using e
    subst this
    have := (Array.getElem?_eq_some_iff.1 hh).1
    omega
set_option maxRecDepth 100000 in
theorem write_z (A : Option Addr) (c : Nat) (l : List Nd) (w : World) (h : RdG w A l) (hc1 : l.length ≤ c) (hc2 : c ≤ 9223372036854775807) :
    Calls Try.prog 9 #[.slice A l.length c] w (RetBow (writeV l).1 (writeV l).2 w) := by
  have hl := h.len
  have HRD := Lib.hid h
  cases hck : checkB l with
  | false =>
    have HC := Lib.hid (Gz.check_z A c _ l false w h hc1 hc2 rfl hck)
    rw [show writeV l = ([], 100) by unfold writeV; rw [if_neg (by simp [hck])]]
    clear hck h hc1 hc2
    go_enter Try.func9, Try.ntmps9
    go_wp2_with fail
    refine (Hid.out HC).mono ?_; rintro e w1 ⟨rfl, k1⟩
    have K1 := Lib.hid k1
    clear k1
    go_wp2
    go_ret2
    exact ⟨none, 0, rfl, B8.Own.nil_ _ _, K1.out⟩
  | true =>
    have HC := Lib.hid (Gz.check_z A c _ l true w h hc1 hc2 rfl hck)
    obtain ⟨r, hr⟩ : ∃ r, r = (l.length : Int) :: encN l := ⟨_, rfl⟩
    rw [show writeV l = (r, 0) by unfold writeV; rw [if_pos hck, hr]]
    have HR := Lib.hid hr
    have h24 := (check_iff.1 hck).2.1
    have HSM : Hid (∀ (k : Nat) (t : Nd), l[k]? = some t → 0 ≤ t.1 ∧ t.1 ≤ 255 ∧ t.2.1.length ≤ 2 ∧ t.2.2.length ≤ 4 ∧ ∀ n ∈ t.2.1, 0 ≤ n ∧ n ≤ 255) := fun k t ht => small_nd hck ht
    have HES : Hid (∀ k : Nat, k ≤ l.length → (encN (l.take k)).length ≤ 40 * k) := enc_small hck
    have HPU : Hid (∀ (n : Int) (y : List Int) (V : World), 0 ≤ n → n ≤ 255 → y = [n] → Calls Try.prog 15 #[.slice none 0 0, .int .i64 n, .int .i64 1] V (RetBow y 0 V)) := fun n y V h1 h2 hy => by
      have h := put_w n 1 V (by unfold mayB; simp; omega)
      rw [show (1 : Int).toNat = 1 from rfl, byte_one ⟨h1, h2⟩] at h
      rw [hy]; exact h
    have HLA : Hid (∀ (P : Option Addr) (e n0 : Nat) (la x : List Int) (V : World), Rd V P la → n0 = la.length → la.length ≤ 255 → (∀ n ∈ la, 0 ≤ n ∧ n ≤ 255) → x = (la.length : Int) :: allB la 1 → Calls Try.prog 16 #[.slice none 0 0, .slice P n0 e, .int .i64 1] V (RetBow x 0 V)) := fun P e n0 la x V h3 h4 h5 h6 h7 => by
      rw [h7]; exact list_w P n0 e la 1 V h3 h4 h5 (by decide) (fun n hn => by unfold mayB; have := h6 n hn; simp; omega)
    have HLB : Hid (∀ (P : Option Addr) (e n0 : Nat) (la x : List Int) (V : World), Rd V P la → n0 = la.length → la.length ≤ 255 → x = (la.length : Int) :: allB la 8 → Calls Try.prog 16 #[.slice none 0 0, .slice P n0 e, .int .i64 8] V (RetBow x 0 V)) := fun P e n0 la x V h3 h4 h5 h7 => by
      rw [h7]; exact list_w P n0 e la 8 V h3 h4 h5 (by decide) (fun n hn => by unfold mayB; simp)
    obtain ⟨y0, hy0⟩ : ∃ y0, y0 = [(l.length : Int)] := ⟨_, rfl⟩
    have HY0 := Lib.hid hy0
    clear hck h hr hy0 hc1 hc2
    go_enter Try.func9, Try.ntmps9
    go_wp2_with fail
    refine (Hid.out HC).mono ?_; rintro e w1 ⟨rfl, k1⟩
    have K1 := Lib.hid k1
    clear k1
    go_wp2_with fail
    refine (HPU.out _ y0 _ (by omega) (by omega) HY0.out).mono ?_; rintro e w2 ⟨E0, f0, rfl, o2, k2⟩
    have O2 := Lib.hid o2
    have K2 := Lib.hid k2
    clear o2 k2
    go_wp2
    go_loopw [4, 25] (fun v i wx => ∃ (k : Nat) (E : Option Addr) (f : Nat) (cur : List Int), v = .slice E cur.length f ∧ i = .int .i64 (k : Int) ∧ Hid (k ≤ l.length) ∧ Hid (cur = (l.length : Int) :: encN (l.take k)) ∧ Hid (B8.Own w1.heap.size wx (.slice E cur.length f) cur) ∧ Hid (Kp w1 wx)) (fun _ i _ => l.length - (intOf i).toNat)
    case atStart => exact ⟨0, _, _, y0, rfl, rfl, Nat.zero_le _, (by show _ = _; rw [HY0.out]; simp [encN]), O2.out, K2.out⟩
    case round =>
      obtain ⟨k, E, f, cur, rfl, rfl, hk, hcur, hO, hK⟩ := hrel
      by_cases hj : k < l.length
      · have hj' : (k : Int) < (l.length : Int) := by omega
        have KW := Lib.hid (K1.out.tr hK.out)
        obtain ⟨ad, t, P, e, Q, g, rfl, hlt, ht, hc0, hc1, hc2, hN, _, _⟩ := (HRD.out.kp KW.out).at_ hj
        obtain ⟨o0, o1, s1, s2, s3⟩ := HSM.out k t ht
        have HET := Lib.hid (enc_take ht)
        have hes := HES.out k (by omega)
        obtain ⟨op, la, nums⟩ := t
        have ra : Hid (Rd wr P la) := hN.ra
        have rn : Hid (Rd wr Q nums) := hN.rn
        replace o0 : 0 ≤ op := o0
        replace o1 : op ≤ 255 := o1
        replace s1 : la.length ≤ 2 := s1
        replace s2 : nums.length ≤ 4 := s2
        replace hc0 : wr.cell? (ad.add (k * 3)) = some (.int .i64 op) := hc0
        replace hc1 : wr.cell? ⟨(ad.add (k * 3)).block, (ad.add (k * 3)).off + 1, none⟩ = some (.slice P la.length e) := hc1
        replace hc2 : wr.cell? ⟨(ad.add (k * 3)).block, (ad.add (k * 3)).off + 2, none⟩ = some (.slice Q nums.length g) := hc2
        have S3 : Hid (∀ n ∈ la, 0 ≤ n ∧ n ≤ 255) := s3
        have hcl : Hid (cur.length ≤ 1000) := by
          show cur.length ≤ 1000
          rw [hcur.out, List.length_cons]; omega
        obtain ⟨x0, hx0⟩ : ∃ x0, x0 = [op] := ⟨_, rfl⟩
        obtain ⟨x1, hx1⟩ : ∃ x1, x1 = (la.length : Int) :: allB la 1 := ⟨_, rfl⟩
        obtain ⟨x2, hx2⟩ : ∃ x2, x2 = (nums.length : Int) :: allB nums 8 := ⟨_, rfl⟩
        have HL3 : Hid ((0 < x0.length ∧ 0 < x1.length ∧ 0 < x2.length) ∧ cur.length + x0.length + x1.length + x2.length ≤ 100000) := by
          show _ ∧ _
          have := hcl.out
          rw [hx0, hx1, hx2]
          simp only [List.length_cons, List.length_nil, all_len]
          omega
        have HZ : Hid (cur ++ x0 ++ x1 ++ x2 = (l.length : Int) :: encN (l.take (k + 1))) := by
          show _ = _
          rw [HET.out, hcur.out, hx0, hx1, hx2]
          unfold nodeW
          simp
        have HX0 := Lib.hid hx0
        have HX1 := Lib.hid hx1
        have HX2 := Lib.hid hx2
        have S12 : Hid (la.length ≤ 255 ∧ nums.length ≤ 255) := ⟨by omega, by omega⟩
        obtain ⟨W5, hW5⟩ : ∃ W5, W5 = wr.alloc (.cells #[.int .i64 op, .slice P la.length e, .slice Q nums.length g] 36) := ⟨_, rfl⟩
        have HW5 := Lib.hid hW5
        have NB : Hid (Nb W5 wr.heap.size op P la.length e Q nums.length g) := by show Nb _ _ _ _ _ _ _ _ _; rw [hW5]; exact Nb.new rfl
        have KW5 : Hid (Kp wr W5) := by show Kp _ _; rw [hW5]; exact Kp.alloc_ _ _
        obtain ⟨G, hG⟩ : ∃ G, G = wr.heap.size := ⟨_, rfl⟩
        have HG := Lib.hid hG
        rw [← hG] at NB
        have hn0 := NB.out.c0
        clear hN ht s3 hx0 hx1 hx2 hes hW5 hG HET
        go_wp2_with fail
        rw [← HW5.out, ← HG.out]
        refine (HPU.out op x0 _ o0 o1 HX0.out).mono ?_; rintro e0 w5 ⟨A0, q0, rfl, o5, k5⟩
        have K5 := Lib.hid (KW5.out.tr k5)
        have NB5 := Lib.hid (NB.out.kp k5)
        have P0 := Lib.hid (pt_own (hO.out.kp KW5.out) o5 HL3.out.1.1)
        have hn1 := NB5.out.c1
        clear o5 k5 hn0 hc0 hc1 hc2
        go_wp2_with fail
        refine (HLA.out P e _ la x1 _ (ra.out.kp K5.out) rfl S12.out.1 S3.out HX1.out).mono ?_; rintro e0 w6 ⟨A1, q1, rfl, o6, k6⟩
        have K6 := Lib.hid (K5.out.tr k6)
        have NB6 := Lib.hid (NB5.out.kp k6)
        have P1 := Lib.hid (pt_own (hO.out.kp K5.out) o6 HL3.out.1.2.1)
        have P0 := Lib.hid (pt_kp P0.out k6)
        have hn2 := NB6.out.c2
        clear o6 k6 hn1
        go_wp2_with fail
        refine (HLB.out Q g _ nums x2 _ (rn.out.kp K6.out) rfl S12.out.2 HX2.out).mono ?_; rintro e0 w7 ⟨A2, q2, rfl, o7, k7⟩
        have K7 := Lib.hid (K6.out.tr k7)
        have P2 := Lib.hid (pt_own (hO.out.kp K6.out) o7 HL3.out.1.2.2)
        have P0 := Lib.hid (pt_kp P0.out k7)
        have P1 := Lib.hid (pt_kp P1.out k7)
        clear o7 k7 hn2
        go_wp2_with fail
        refine (put_z w1.heap.size w7.heap.size f q0 q1 q2 E A0 A1 A2 cur x0 x1 x2 _ (hO.out.kp (gal K7.out _)) (by have h1 := hK.out.size; have h2 := K7.out.size; simp; omega) (by simp) (row_lt8 (hO.out.kp K7.out) (Nat.le_refl _)) (pt_kp P0.out (Kp.alloc_ _ _)) (pt_kp P1.out (Kp.alloc_ _ _)) (pt_kp P2.out (Kp.alloc_ _ _)) ⟨by simp [go_sem], by simp [go_sem], by simp [go_sem]⟩ HL3.out.2).mono ?_; rintro e0 w9 ⟨A9, q9, z9, rfl, hz9, o9, b9⟩
        have O9 := Lib.hid o9.out
        have K9 := Lib.hid ((gal (hK.out.tr K7.out) _).trans b9.out)
        clear o9 b9
        go_wp2
        go_roundw
        case rel => exact ⟨k + 1, A9, q9, z9, rfl, by go_num, (by show k + 1 ≤ l.length; omega), (by show z9 = _; rw [hz9.out, HZ.out]), O9.out, K9.out⟩
        case measure => simp [intOf]; omega
      · have hj' : ¬ (k : Int) < (l.length : Int) := by omega
        have hcr : cur = r := by rw [hcur.out, HR.out, List.take_of_length_le (by omega)]
        subst hcr
        go_wp2
        go_ret2
        exact ⟨E, f, rfl, hO.out.weakW K1.out.size, K1.out.tr hK.out⟩
end Go.Proofs.Ytdcgmnkoomhocaa
