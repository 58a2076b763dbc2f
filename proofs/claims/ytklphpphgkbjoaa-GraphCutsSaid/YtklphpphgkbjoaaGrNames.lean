/- GraphNames, over the contracts of the calls. -/
import Derived.Test.YtklphpphgkbjoaaGrLives
import Derived.Deep.RegionHeld3
import Derived.BigQuiet
namespace Go.Proofs.Ytklphpphgkbjoaa
open Go.RowKit Go.Proofs.ShM Go.Proofs.GrM
set_option linter.unusedVariables false
set_option maxHeartbeats 8000000

/-- Is a node among the first ones given? -/
def given (l : List Nd) (k : Nat) : Bool := (l.take k).any fun n => decide (n.1 = 1)
theorem given_step {l : List Nd} {k : Nat} {t : Nd} (h : l[k]? = some t) : given l (k + 1) = (given l k || decide (t.1 = 1)) := by
  unfold given
  rw [List.take_add_one, h, List.any_append]; simp
theorem given_all {l : List Nd} (h : checkB l = true) : given l l.length = (inputsV l).2 := by
  unfold given
  rw [List.take_length]
  cases e : l.any (fun n => decide (n.1 = 1)) with
  | true =>
    rw [List.any_eq_true] at e
    obtain ⟨n, hn, h1⟩ := e
    obtain ⟨i, hi⟩ := List.mem_iff_getElem?.1 hn
    rw [input_of h hi (of_decide_eq_true h1)]
  | false =>
    rw [List.any_eq_false] at e
    rw [input_none h (fun i n hn h1 => e n (List.mem_of_getElem? hn) (decide_eq_true h1))]
def named (l : List Nd) (k : Nat) (p : Int) : Bool := (l.take k).any fun n => decide (n.1 = 2 ∧ n.2.2.getD 0 0 = p)
theorem named_step {l : List Nd} {k : Nat} {t : Nd} {p : Int} (h : l[k]? = some t) : named l (k + 1) p = (named l k p || decide (t.1 = 2 ∧ t.2.2.getD 0 0 = p)) := by
  unfold named
  rw [List.take_add_one, h, List.any_append]; simp
theorem named_all {l : List Nd} {p : Int} (h : checkB l = true) (hp : p ∈ paramsV l) : named l l.length p = true := by
  unfold named
  rw [List.take_length]
  exact ((mem_params h).1 hp).2
theorem rise_at {xs : List Int} (h : List.Pairwise (· < ·) xs) {k : Nat} {x y : Int} (h1 : xs[k]? = some x) (h2 : xs[k + 1]? = some y) : x < y := by
  obtain ⟨g1, e1⟩ := List.getElem?_eq_some_iff.1 h1
  obtain ⟨g2, e2⟩ := List.getElem?_eq_some_iff.1 h2
  have := (List.pairwise_iff_getElem.1 h) k (k + 1) g1 g2 (by omega)
  omega
/-- A parameter's number stands first. -/
theorem par_cell {w : World} {X : Nat → Prop} {P Q : Option Addr} {t : Nd} (h : NR w X P t.2.1 Q t.2.2) (hne : t.2.2 ≠ []) : ∃ aq, Q = some aq ∧ aq.block < w.heap.size ∧ w.cell? aq = some (.int .i64 (t.2.2.getD 0 0)) ∧ 0 < t.2.2.length := by
  have hl : 0 < t.2.2.length := List.length_pos_iff.2 hne
  obtain ⟨aq, x, rfl, hlt, hx, hc⟩ := h.rn.at_ hl
  refine ⟨aq, rfl, hlt, ?_, hl⟩
  rw [List.getD_eq_getElem?_getD, hx]
  have h := hc
  simpa [Addr.add] using h

set_option maxRecDepth 100000 in
theorem gnames_main (C : GrC) (A : Option Addr) (c : Nat) (l : List Nd) (W : World) (R : RdG W A l) (N : ∀ t ∈ l, Nd64 t) (L : l.length ≤ c) (M : c ≤ 9223372036854775807) (hS : SmallG l) (hf : fewN l = true) (hc : checkB l = true) :
    Calls Try.prog 6 #[.slice A l.length c] W fun e w' => e = .returned (.bool true) ∧ Below W.heap.size W w' := by
  have HRD := Lib.hid R
  have HAW : Hid (Calls Try.prog 9 #[] W fun e w' => e = .returned (.bool true) ∧ Kp W w') := grawake_any C W
  have HF : Hid (∀ V, Kp W V → Calls Try.prog 10 #[.slice A l.length c] V fun e w' => e = .returned (.bool true) ∧ w' = V) := fun V k => by
    have := rfew10_any A c l V (R.kp k)
    rw [hf] at this; exact this
  have HCK := guard_none C A c l W R L M hS
  rw [hc] at HCK
  have hl24 := (check_iff.1 hc).2.1
  obtain ⟨pa, hpa⟩ : ∃ pa, paramsV l = pa := ⟨_, rfl⟩
  obtain ⟨s, is, hin⟩ : ∃ s is, inputsV l = (s, is) := ⟨_, _, rfl⟩
  have H1 : Hid (∀ V, Kp W V → Calls Try.prog 18 #[.slice A l.length c] V (RetG pa pa.length V)) := fun V k => C.params A c l.length pa.length l pa V (R.kp k) L M hS rfl hpa rfl
  have H2 : Hid (∀ V, Kp W V → Calls Try.prog 11 #[.slice A l.length c] V (RetSh s is s.length V)) := fun V k => C.inputs A c l.length s.length l (s, is) V (R.kp k) L M hS rfl hin rfl
  have H3 : Hid (∀ (P : Option Addr) (d : Nat) (x : Int) (V : World), Rd V P pa → Calls Try.prog 24 #[.slice P pa.length d, .int .i64 x] V fun e w' => e = .returned (.bool (pa.contains x)) ∧ w' = V) := fun P d x V h => rin_any10 P d pa x V h
  have H4 : Hid (∀ (op v : Int) (V : World), I64 op → arityV op = v → Calls Try.prog 15 #[.int .i64 op] V fun e w' => e = .returned (.int .i64 v) ∧ Kp V w') := fun op v V h1 h2 => C.arity op v V h1 h2
  -- plain facts, node by node
  have H5 : Hid (∀ (j : Nat) (t : Nd), l[j]? = some t → arityV t.1 = (t.2.1.length : Int) ∧ I64 t.1 ∧ (t.1 = 2 → t.2.2 ≠ [] ∧ pa.contains (t.2.2.getD 0 0) = true) ∧ (t.1 = 1 → s = t.2.2 ∧ is = true)) := fun j t ht => by
    refine ⟨arity_of hc ht, (N t (List.mem_of_getElem? ht)).1 t.1 (by simp), fun h2 => ?_, fun h1 => ?_⟩
    · have := par_of hc ht h2
      rw [hpa] at this
      exact ⟨this.1, by simpa using this.2⟩
    · have := input_of hc ht h1
      rw [hin] at this
      injection this with g1 g2
      exact ⟨g1, g2⟩
  have H6 : Hid (given l l.length = is) := by show _ = _; rw [given_all hc, hin]
  have H7 : Hid (∀ p ∈ pa, named l l.length p = true) := fun p hp => named_all hc (by rw [hpa]; exact hp)
  have H8 : Hid (List.Pairwise (· < ·) pa) := by show List.Pairwise _ _; rw [← hpa]; exact params_rise
  have H9 : Hid (pa.length ≤ 8) := by show _ ≤ _; rw [← hpa]; exact params_few l
  clear C R N hS hf hc hpa hin
  go_enter Try.func6, Try.ntmps6
  go_wp2_with fail
  refine (Hid.out HAW).mono ?_; rintro e w1 ⟨rfl, k1⟩
  have K := Lib.hid k1
  clear k1
  go_wp2_with fail
  refine (HF.out _ K.out).mono ?_; rintro e w2 ⟨rfl, rfl⟩
  go_wp2_with fail
  refine (HCK.out _ K.out).mono ?_; rintro e w3 ⟨rfl, k3⟩
  have K3 := Lib.hid (K.out.tr k3)
  clear k3
  go_wp2_with fail
  refine (H1.out _ K3.out).mono ?_; rintro e w4 ⟨A4, c4, rfl, r4, _, k4⟩
  have K4 := Lib.hid (K3.out.tr k4)
  clear k4
  go_wp2_with fail
  refine (H2.out _ K4.out).mono ?_; rintro e w5 ⟨A5, c5, rfl, r5, _, k5⟩
  have K5 := Lib.hid (K4.out.tr k5)
  have r4 := Lib.hid (r4.out.kp k5)
  clear k5 HAW HF HCK H1 H2
  go_wp2
  go_loopw [7, 8] (fun m i wx => ∃ (j : Nat) (q : Int), m = .int .i64 q ∧ i = .int .i64 (j : Int) ∧ Hid (j ≤ l.length) ∧ Hid (0 ≤ q ∧ q ≤ (j : Int) ∧ decide (0 < q) = given l j) ∧ Hid (Kp w5 wx)) (fun _ i _ => l.length - (intOf i).toNat)
  case atStart => exact ⟨0, 0, rfl, rfl, Nat.zero_le _, ⟨by omega, by omega, rfl⟩, Kp.refl _⟩
  case round =>
    obtain ⟨j, q, rfl, rfl, hj, hq, hK⟩ := hrel
    have r6 := Lib.hid (r4.out.kp hK.out)
    have r7 := Lib.hid (r5.out.kp hK.out)
    have K6 := Lib.hid (K5.out.tr hK.out)
    by_cases hjl : j < l.length
    · have hj' : (j : Int) < (l.length : Int) := by omega
      obtain ⟨ad, t, P, e, Q, f, rfl, hlt, ht, hc0, hc1, hc2, hNR, _, _⟩ := (HRD.out.kp K6.out).at_ hjl
      obtain ⟨f1, f2, f3, f4⟩ := H5.out j t ht
      have hgs := given_step ht
      clear ht
      obtain ⟨op, la, lb⟩ := t
      dsimp only at hc0 hc1 hc2 f1 f2 f3 f4 hgs
      by_cases h2 : op = 2
      · subst h2
        obtain ⟨g1, g2⟩ := f3 rfl
        obtain ⟨aq, rfl, haq, hcq, hlb⟩ := par_cell (t := (2, la, lb)) hNR g1
        have hlb' : (0 : Int) < (lb.length : Int) := by have : 0 < lb.length := hlb; omega
        obtain ⟨p, hp⟩ : ∃ p, p = lb.getD 0 0 := ⟨_, rfl⟩
        have hcq' : wr.cell? aq = some (.int .i64 p) := by rw [hp]; exact hcq
        have HIN : Hid (Calls Try.prog 24 #[.slice A4 pa.length c4, .int .i64 p] wr fun e w' => e = .returned (.bool true) ∧ w' = wr) := by
          have h := H3.out A4 c4 p wr r6.out
          rw [show pa.contains p = true by rw [hp]; exact g2] at h; exact h
        have HG : Hid (0 ≤ q ∧ q ≤ ((j + 1 : Nat) : Int) ∧ decide (0 < q) = given l (j + 1)) := ⟨hq.out.1, by have := hq.out.2.1; push_cast; omega, by rw [hgs, hq.out.2.2]; simp⟩
        clear g1 g2 f3 f4 hcq hp hlb hgs
        go_wp2_with fail
        refine (Hid.out HIN).mono ?_; rintro e0 w8 ⟨rfl, h8⟩
        have h8 := h8.symm
        subst h8
        have hAR : Hid (∀ V, Calls Try.prog 15 #[.int .i64 2] V fun e w' => e = .returned (.int .i64 (la.length : Int)) ∧ Kp V w') := fun V => H4.out 2 _ V f2 f1
        have hKV : Hid (∀ V, Kp wr.drew V → V.cell? (ad.add (j * 3)) = some (.int .i64 2) ∧ V.cell? ⟨(ad.add (j * 3)).block, (ad.add (j * 3)).off + 1, none⟩ = some (.slice P la.length e) ∧ Kp w5 V) := fun V k => by
          have k' : Kp wr V := ⟨k.os, k.tape, k.output, k.size, k.block⟩
          exact ⟨(k'.cell (by rw [block_of_add]; exact hlt)).trans hc0, (k'.cell (p := ⟨(ad.add (j * 3)).block, (ad.add (j * 3)).off + 1, none⟩) (by show (ad.add (j * 3)).block < _; rw [block_of_add]; exact hlt)).trans hc1, hK.out.tr k'⟩
        obtain ⟨x0, x1, _⟩ := hKV.out _ (Kp.refl _)
        have hnn : ((la.length : Int) != (la.length : Int)) = false := by simp
        clear f1
        go_wp2
        go_region_held3 (fun V => V.cell? (ad.add (j * 3)) = some (.int .i64 2) ∧ V.cell? ⟨(ad.add (j * 3)).block, (ad.add (j * 3)).off + 1, none⟩ = some (.slice P la.length e)) (first | exact ⟨x0, x1⟩ | exact ⟨q0, q1⟩)
          (first
          | (go_at_call 15; refine (hAR.out _).mono ?_; rintro e0 w9 ⟨rfl, k9⟩; obtain ⟨q0, q1, K9⟩ := hKV.out _ k9; have K9 := Lib.hid K9; clear k9))
        go_wp2
        go_roundw
        case rel => exact ⟨j + 1, q, by go_num, by go_num, (by show j + 1 ≤ l.length; omega), HG.out, K9.out⟩
        case measure => simp [intOf]; omega
      · have e2 : (op == 2) = false := by simpa using h2
        by_cases h1 : op = 1
        · subst h1
          obtain ⟨g1, g2⟩ := f4 rfl
          subst g1 g2
          have HG : Hid (0 ≤ q + 1 ∧ q + 1 ≤ ((j + 1 : Nat) : Int) ∧ decide (0 < q + 1) = given l (j + 1)) := ⟨by have := hq.out.1; omega, by have := hq.out.2.1; push_cast; omega, by rw [hgs]; have := hq.out.1; simp; omega⟩
          have hq0 := hq.out.1
          have hq1 := hq.out.2.1
          have hnb := hNR.rn
          clear f3 f4 hgs h2 e2
          go_wp2_with fail
          refine (same_g s s r7.out hnb rfl rfl (r := true) (by simp)).mono ?_; rintro e0 w8 ⟨rfl, k8⟩
          have K8 := Lib.hid (hK.out.tr k8)
          have hc0 := (k8.cell (by rw [block_of_add]; exact hlt)).trans hc0
          have hc1 := (k8.cell (p := ⟨(ad.add (j * 3)).block, (ad.add (j * 3)).off + 1, none⟩) (by show (ad.add (j * 3)).block < _; rw [block_of_add]; exact hlt)).trans hc1
          have hlt := Nat.lt_of_lt_of_le hlt k8.size
          clear k8
          have hAR : Hid (∀ V, Calls Try.prog 15 #[.int .i64 1] V fun e w' => e = .returned (.int .i64 (la.length : Int)) ∧ Kp V w') := fun V => H4.out 1 _ V f2 f1
          have hKV : Hid (∀ V, Kp w8.drew V → V.cell? (ad.add (j * 3)) = some (.int .i64 1) ∧ V.cell? ⟨(ad.add (j * 3)).block, (ad.add (j * 3)).off + 1, none⟩ = some (.slice P la.length e) ∧ Kp w5 V) := fun V k => by
            have k' : Kp w8 V := ⟨k.os, k.tape, k.output, k.size, k.block⟩
            exact ⟨(k'.cell (by rw [block_of_add]; exact hlt)).trans hc0, (k'.cell (p := ⟨(ad.add (j * 3)).block, (ad.add (j * 3)).off + 1, none⟩) (by show (ad.add (j * 3)).block < _; rw [block_of_add]; exact hlt)).trans hc1, K8.out.tr k'⟩
          obtain ⟨x0, x1, _⟩ := hKV.out _ (Kp.refl _)
          have hnn : ((la.length : Int) != (la.length : Int)) = false := by simp
          clear f1
          go_wp2
          go_region_held3 (fun V => V.cell? (ad.add (j * 3)) = some (.int .i64 1) ∧ V.cell? ⟨(ad.add (j * 3)).block, (ad.add (j * 3)).off + 1, none⟩ = some (.slice P la.length e)) (first | exact ⟨x0, x1⟩ | exact ⟨q0, q1⟩)
            (first
            | (go_at_call 15; refine (hAR.out _).mono ?_; rintro e0 w9 ⟨rfl, k9⟩; obtain ⟨q0, q1, K9⟩ := hKV.out _ k9; have K9 := Lib.hid K9; clear k9))
          go_wp2
          go_roundw
          case rel => exact ⟨j + 1, q + 1, by go_num, by go_num, (by show j + 1 ≤ l.length; omega), HG.out, K9.out⟩
          case measure => simp [intOf]; omega
        · have e1 : (op == 1) = false := by simpa using h1
          have HG : Hid (0 ≤ q ∧ q ≤ ((j + 1 : Nat) : Int) ∧ decide (0 < q) = given l (j + 1)) := ⟨hq.out.1, by have := hq.out.2.1; push_cast; omega, by rw [hgs, hq.out.2.2]; simp [h1]⟩
          clear f3 f4 hgs h1 h2
          have hAR : Hid (∀ V, Calls Try.prog 15 #[.int .i64 op] V fun e w' => e = .returned (.int .i64 (la.length : Int)) ∧ Kp V w') := fun V => H4.out op _ V f2 f1
          have hKV : Hid (∀ V, Kp wr.drew V → V.cell? (ad.add (j * 3)) = some (.int .i64 op) ∧ V.cell? ⟨(ad.add (j * 3)).block, (ad.add (j * 3)).off + 1, none⟩ = some (.slice P la.length e) ∧ Kp w5 V) := fun V k => by
            have k' : Kp wr V := ⟨k.os, k.tape, k.output, k.size, k.block⟩
            exact ⟨(k'.cell (by rw [block_of_add]; exact hlt)).trans hc0, (k'.cell (p := ⟨(ad.add (j * 3)).block, (ad.add (j * 3)).off + 1, none⟩) (by show (ad.add (j * 3)).block < _; rw [block_of_add]; exact hlt)).trans hc1, hK.out.tr k'⟩
          obtain ⟨x0, x1, _⟩ := hKV.out _ (Kp.refl _)
          have hnn : ((la.length : Int) != (la.length : Int)) = false := by simp
          clear f1
          go_wp2
          go_region_held3 (fun V => V.cell? (ad.add (j * 3)) = some (.int .i64 op) ∧ V.cell? ⟨(ad.add (j * 3)).block, (ad.add (j * 3)).off + 1, none⟩ = some (.slice P la.length e)) (first | exact ⟨x0, x1⟩ | exact ⟨q0, q1⟩)
            (first
            | (go_at_call 15; refine (hAR.out _).mono ?_; rintro e0 w9 ⟨rfl, k9⟩; obtain ⟨q0, q1, K9⟩ := hKV.out _ k9; have K9 := Lib.hid K9; clear k9))
          go_wp2
          go_roundw
          case rel => exact ⟨j + 1, q, by go_num, by go_num, (by show j + 1 ≤ l.length; omega), HG.out, K9.out⟩
          case measure => simp [intOf]; omega
    · have hj' : ¬ (j : Int) < (l.length : Int) := by omega
      have hjl2 : j = l.length := by have := hj.out; omega
      have hq3 : (is == decide (0 < q)) = true := by
        have := hq.out.2.2
        rw [hjl2, H6.out] at this
        rw [this]; simp
      have HQ3 := Lib.hid hq3
      clear hjl2 hq3
      obtain ⟨wo, hwo⟩ : ∃ wo, wo = wr := ⟨_, rfl⟩
      subst hwo
      go_wp2
      go_loopw [9] (fun i wx => ∃ j2 : Nat, i = .int .i64 (j2 : Int) ∧ Hid (j2 ≤ pa.length) ∧ Hid (Kp wo wx)) (fun i _ => pa.length - (intOf i).toNat)
      case atStart => exact ⟨0, rfl, Nat.zero_le _, Kp.refl _⟩
      case round =>
        obtain ⟨j2, rfl, hj2, hK2⟩ := hrel
        by_cases hjp : j2 < pa.length
        · have hjp' : (j2 : Int) < (pa.length : Int) := by omega
          obtain ⟨an, p, had, hnlt, hp, hcn⟩ := (r6.out.kp hK2.out).at_ hjp
          have HNM := Lib.hid (H7.out p (List.mem_of_getElem? hp))
          have HP := Lib.hid hp
          have r8 := Lib.hid (r6.out.kp hK2.out)
          clear hp
          obtain ⟨w2, hw2⟩ : ∃ w2, w2 = wr := ⟨_, rfl⟩
          subst hw2
          subst had
          go_wp2
          go_loopw [10, 11] (fun u i wx => ∃ (k : Nat) (b : Bool), u = .bool b ∧ i = .int .i64 (k : Int) ∧ Hid (k ≤ l.length) ∧ Hid (b = named l k p) ∧ Hid (Kp w2 wx)) (fun _ i _ => l.length - (intOf i).toNat)
          case atStart => exact ⟨0, false, rfl, rfl, Nat.zero_le _, rfl, Kp.refl _⟩
          case round =>
            obtain ⟨k, b, rfl, rfl, hk, hb, hK3⟩ := hrel
            have hcn3 : wr.cell? (an.add j2) = some (.int .i64 p) := (hK3.out.cell (by rw [block_of_add]; exact hnlt)).trans hcn
            by_cases hkl : k < l.length
            · have hk' : (k : Int) < (l.length : Int) := by omega
              obtain ⟨ad, t, P, e, Q, f, rfl, hlt, ht, hc0, hc1, hc2, hNR, _, _⟩ := (HRD.out.kp (K6.out.tr (hK2.out.tr hK3.out))).at_ hkl
              obtain ⟨_, _, f3, _⟩ := H5.out k t ht
              have hns := named_step (p := p) ht
              clear ht
              obtain ⟨op, la, lb⟩ := t
              dsimp only at hc0 hc1 hc2 f3 hns
              cases b with
              | true =>
                have HG : Hid (true = named l (k + 1) p) := by show _ = _; rw [hns, ← hb.out]; rfl
                clear f3 hns
                go_wp2
                go_quiet (fail)
                go_wp2
                go_roundw
                case rel => exact ⟨k + 1, true, rfl, by go_num, (by show k + 1 ≤ l.length; omega), HG.out, hK3.out.tr (Kp.drewN_ _ _)⟩
                case measure => simp [intOf]; omega
              | false =>
                by_cases h2 : op = 2
                · subst h2
                  obtain ⟨g1, _⟩ := f3 rfl
                  obtain ⟨aq, rfl, haq, hcq, hlb⟩ := par_cell (t := (2, la, lb)) hNR g1
                  have hlb' : (0 : Int) < (lb.length : Int) := by have : 0 < lb.length := hlb; omega
                  obtain ⟨v, hv⟩ : ∃ v, v = lb.getD 0 0 := ⟨_, rfl⟩
                  have hcq' : wr.cell? aq = some (.int .i64 v) := by rw [hv]; exact hcq
                  obtain ⟨y, hy⟩ : ∃ y, (v == p) = y := ⟨_, rfl⟩
                  have HG : Hid (y = named l (k + 1) p) := by
                    show _ = _
                    rw [hns, ← hb.out, ← hv, ← hy, Bool.eq_iff_iff]; simp
                  clear g1 f3 hns hcq hlb hv
                  go_wp2
                  go_quiet (fail)
                  go_wp2
                  go_roundw
                  case rel => exact ⟨k + 1, y, rfl, by go_num, (by show k + 1 ≤ l.length; omega), HG.out, hK3.out.tr (Kp.drewN_ _ _)⟩
                  case measure => simp [intOf]; omega
                · have e2 : (op == 2) = false := by simpa using h2
                  have HG : Hid (false = named l (k + 1) p) := by show _ = _; rw [hns, ← hb.out]; simp [h2]
                  clear f3 hns h2
                  go_wp2
                  go_quiet (fail)
                  go_wp2
                  go_roundw
                  case rel => exact ⟨k + 1, false, rfl, by go_num, (by show k + 1 ≤ l.length; omega), HG.out, hK3.out.tr (Kp.drewN_ _ _)⟩
                  case measure => simp [intOf]; omega
            · have hk' : ¬ (k : Int) < (l.length : Int) := by omega
              obtain rfl : k = l.length := by have := hk.out; omega
              have hbt : b = true := by rw [hb.out]; exact HNM.out
              subst hbt
              by_cases h0 : j2 = 0
              · subst h0
                have h0' : decide (0 < (0 : Nat)) = false := by decide
                clear hcn hcn3
                go_wp2
                go_quiet (fail)
                go_wp2
                go_roundw
                case rel => exact ⟨0 + 1, by go_num, (by show 0 + 1 ≤ pa.length; omega), hK2.out.tr (hK3.out.tr (Kp.drewN_ _ _))⟩
                case measure => simp [intOf]; omega
              · obtain ⟨k', hk1⟩ : ∃ k', j2 = k' + 1 := ⟨j2 - 1, by omega⟩
                obtain ⟨an2, p', had2, _, hp', hcp'⟩ := (r8.out.kp hK3.out).at_ (k := k') (by omega)
                injection had2 with had2
                subst had2
                have hso := rise_at H8.out hp' (by rw [← hk1]; exact HP.out)
                have h0' : 0 < j2 := by omega
                have hxx : decide (p ≤ p') = false := by simp; omega
                have hkm : (j2 : Int) - 1 = (k' : Int) := by omega
                have hk9 : (k' : Int) < (pa.length : Int) := by omega
                have h9 := H9.out
                clear hp' hso h0 hk1 hcn
                go_wp2
                go_quiet (fail)
                go_wp2
                go_roundw
                case rel => exact ⟨j2 + 1, by go_num, (by show j2 + 1 ≤ pa.length; omega), hK2.out.tr (hK3.out.tr (Kp.drewN_ _ _))⟩
                case measure => simp [intOf]; omega
        · have hjp' : ¬ (j2 : Int) < (pa.length : Int) := by omega
          have hq3 := HQ3.out
          have K9 := Lib.hid (K6.out.tr hK2.out)
          go_wp2
          go_ret
          exact ⟨by first | rfl | simp [hq3], K9.out⟩
set_option maxRecDepth 100000 in
theorem gnames_walk (C : GrC) (A : Option Addr) (c : Nat) (l : List Nd) (W : World) (R : RdG W A l) (N : ∀ t ∈ l, Nd64 t) (L : l.length ≤ c) (M : c ≤ 9223372036854775807) :
    Calls Try.prog 6 #[.slice A l.length c] W fun e w' => e = .returned (.bool true) ∧ Below W.heap.size W w' := by
  have HAW : Hid (Calls Try.prog 9 #[] W fun e w' => e = .returned (.bool true) ∧ Kp W w') := grawake_any C W
  have HF : Hid (∀ V, Kp W V → Calls Try.prog 10 #[.slice A l.length c] V fun e w' => e = .returned (.bool (fewN l)) ∧ w' = V) := fun V k => rfew10_any A c l V (R.kp k)
  cases hf : fewN l with
  | false =>
    rw [hf] at HF
    clear hf C R N
    go_enter Try.func6, Try.ntmps6
    go_wp2_with fail
    refine (Hid.out HAW).mono ?_; rintro e w1 ⟨rfl, k1⟩
    have K := Lib.hid k1
    clear k1
    go_wp2_with fail
    refine (HF.out _ K.out).mono ?_; rintro e w2 ⟨rfl, rfl⟩
    go_wp2
    go_ret
    exact ⟨rfl, K.out⟩
  | true =>
    rw [hf] at HF
    have HCK := guard_none C A c l W R L M (small_few hf N)
    cases hc : checkB l with
    | false =>
      rw [hc] at HCK
      clear hf hc C R N
      go_enter Try.func6, Try.ntmps6
      go_wp2_with fail
      refine (Hid.out HAW).mono ?_; rintro e w1 ⟨rfl, k1⟩
      have K := Lib.hid k1
      clear k1
      go_wp2_with fail
      refine (HF.out _ K.out).mono ?_; rintro e w2 ⟨rfl, rfl⟩
      go_wp2_with fail
      refine (HCK.out _ K.out).mono ?_; rintro e w3 ⟨rfl, k3⟩
      have K := Lib.hid (K.out.tr k3)
      clear k3
      go_wp2
      go_ret
      exact ⟨rfl, K.out⟩
    | true => exact gnames_main C A c l W R N L M (small_few hf N) hf hc
end Go.Proofs.Ytklphpphgkbjoaa
