/- GraphLives, over the contracts of the calls. -/
import Derived.Test.YtklphpphgkbjoaaGrCuts
import Derived.BigQuiet
namespace Go.Proofs.Ytklphpphgkbjoaa
open Go.RowKit Go.Proofs.ShM Go.Proofs.GrM
set_option linter.unusedVariables false
set_option maxHeartbeats 8000000

theorem live_used {l : List Nd} {i : Nat} (h : checkB l = true) (hi : i < l.length) : (liveV l).contains (i : Int) = (decide (i = l.length - 1) || (usesV l (i : Int)).any (liveV l).contains) := by
  rw [Bool.eq_iff_iff, Bool.or_eq_true, decide_eq_true_iff, List.any_eq_true, List.contains_iff_mem, live_iff h hi]
  constructor
  · rintro (h | ⟨u, h1, h2⟩)
    · exact .inl h
    · exact .inr ⟨u, h1, by rw [List.contains_iff_mem]; exact h2⟩
  · rintro (h | ⟨u, h1, h2⟩)
    · exact .inl h
    · exact .inr ⟨u, h1, by rw [List.contains_iff_mem] at h2; exact h2⟩
theorem any_take {xs : List Int} {k : Nat} {x : Int} {p : Int → Bool} (h : xs[k]? = some x) : (xs.take (k + 1)).any p = ((xs.take k).any p || p x) := by
  rw [List.take_add_one, h, List.any_append]; simp
theorem sort_at {xs : List Int} (h : List.Pairwise (· ≤ ·) xs) {k : Nat} {x y : Int} (h1 : xs[k]? = some x) (h2 : xs[k + 1]? = some y) : x ≤ y := by
  obtain ⟨g1, e1⟩ := List.getElem?_eq_some_iff.1 h1
  obtain ⟨g2, e2⟩ := List.getElem?_eq_some_iff.1 h2
  have := (List.pairwise_iff_getElem.1 h) k (k + 1) g1 g2 (by omega)
  omega

set_option maxRecDepth 100000 in
theorem glives_main (C : GrC) (A : Option Addr) (c : Nat) (l : List Nd) (W : World) (R : RdG W A l) (L : l.length ≤ c) (M : c ≤ 9223372036854775807) (hS : SmallG l) (hf : fewN l = true) (hc : checkB l = true) :
    Calls Try.prog 5 #[.slice A l.length c] W fun e w' => e = .returned (.bool true) ∧ Below W.heap.size W w' := by
  have HAW : Hid (Calls Try.prog 9 #[] W fun e w' => e = .returned (.bool true) ∧ Kp W w') := grawake_any C W
  have HF : Hid (∀ V, Kp W V → Calls Try.prog 10 #[.slice A l.length c] V fun e w' => e = .returned (.bool true) ∧ w' = V) := fun V k => by
    have := rfew10_any A c l V (R.kp k)
    rw [hf] at this; exact this
  have HCK := guard_none C A c l W R L M hS
  rw [hc] at HCK
  have hl1 := (check_iff.1 hc).1
  have hl24 := (check_iff.1 hc).2.1
  obtain ⟨lv, hlv⟩ : ∃ lv, liveV l = lv := ⟨_, rfl⟩
  obtain ⟨r0, hr0⟩ := live_last hc
  rw [hlv] at hr0
  obtain ⟨n1, hn1⟩ : ∃ n1, lv.length = n1 + 1 := ⟨r0.length, by rw [hr0, List.length_append]; rfl⟩
  have hlast : lv[n1]? = some ((l.length : Int) - 1) := by
    have : n1 = r0.length := by rw [hr0, List.length_append, List.length_singleton] at hn1; omega
    rw [this, hr0, List.getElem?_append_right (Nat.le_refl _), Nat.sub_self]; rfl
  have hn30 : n1 ≤ 30 := by have := live_few l; rw [hlv] at this; omega
  have H1 : Hid (∀ V, Kp W V → Calls Try.prog 22 #[.slice A l.length c] V (RetG lv lv.length V)) := fun V k => C.live A c l.length lv.length l lv V (R.kp k) L M hS rfl hlv rfl
  have H2 : Hid (∀ (i : Nat) (V : World), i < l.length → Kp W V → Calls Try.prog 20 #[.slice A l.length c, .int .i64 (i : Int)] V (RetG (usesV l (i : Int)) (usesV l (i : Int)).length V)) := fun i V hi k => C.uses A c l.length _ l (i : Int) _ V (R.kp k) L M hS (by unfold I64; omega) rfl rfl rfl
  have H3 : Hid (∀ (P : Option Addr) (d : Nat) (x : Int) (V : World), Rd V P lv → Calls Try.prog 24 #[.slice P lv.length d, .int .i64 x] V fun e w' => e = .returned (.bool (lv.contains x)) ∧ w' = V) := fun P d x V h => rin_any10 P d lv x V h
  have H4 : Hid (∀ i : Nat, i < l.length → (∀ x ∈ usesV l (i : Int), (i : Int) < x) ∧ List.Pairwise (· ≤ ·) (usesV l (i : Int)) ∧ lv.contains (i : Int) = (decide (i = l.length - 1) || (usesV l (i : Int)).any lv.contains)) := fun i hi => by
    refine ⟨fun x hx => (uses_behind hc hx).1, ?_, by rw [← hlv]; exact live_used hc hi⟩
    unfold usesV
    rw [if_pos hc]
    exact uses_sorted l _ _
  have HLA := Lib.hid (And.intro hn1 hlast)
  clear C R hS hf hc hlv hr0 hlast hn1
  go_enter Try.func5, Try.ntmps5
  go_wp2_with fail
  refine (Hid.out HAW).mono ?_; rintro e w1 ⟨rfl, k1⟩
  have K := Lib.hid k1
  clear k1
  go_wp2_with fail
  refine (HF.out _ K.out).mono ?_; rintro e w2 ⟨rfl, rfl⟩
  go_wp2_with fail
  refine (HCK.out _ K.out).mono ?_; rintro e w3 ⟨rfl, k3⟩
  have K3 := Lib.hid (K.out.tr k3)
  clear k3
  go_wp2_with fail
  refine (H1.out _ K3.out).mono ?_; rintro e w4 ⟨A4, c4, rfl, r4, _, k4⟩
  have K4 := Lib.hid (K3.out.tr k4)
  clear k4 HAW HF HCK H1
  go_wp2
  go_loopw [5] (fun i wx => ∃ j : Nat, i = .int .i64 (j : Int) ∧ Hid (j ≤ l.length) ∧ Hid (Kp w4 wx)) (fun i _ => l.length - (intOf i).toNat)
  case atStart => exact ⟨0, rfl, Nat.zero_le _, Kp.refl _⟩
  case round =>
    obtain ⟨j, rfl, hj, hK⟩ := hrel
    have r5 := Lib.hid (r4.out.kp hK.out)
    by_cases hjl : j < l.length
    · have hj' : (j : Int) < (l.length : Int) := by omega
      obtain ⟨hb1, hb2, hb3⟩ := H4.out j hjl
      have HU := Lib.hid (H2.out j wr hjl (K4.out.tr hK.out))
      obtain ⟨ui, hui⟩ : ∃ ui, ui = usesV l (j : Int) := ⟨_, rfl⟩
      rw [← hui] at HU hb1 hb2 hb3
      obtain ⟨u0, hu0⟩ : ∃ u0, u0 = decide (j = l.length - 1) := ⟨_, rfl⟩
      rw [← hu0] at hb3
      have eu0 : ((j : Int) == (l.length : Int) - 1) = u0 := by
        rw [hu0, Bool.eq_iff_iff, beq_iff_eq, decide_eq_true_iff]; omega
      have HB := Lib.hid (And.intro hb1 (And.intro hb2 hb3))
      clear hui hb1 hb2 hb3 hu0
      go_wp2_with fail
      refine (Hid.out HU).mono ?_; rintro e w5 ⟨A5, c5, rfl, q5, l5, k5⟩
      have K5 := Lib.hid (hK.out.tr k5)
      have r5 := Lib.hid (r5.out.kp k5)
      clear k5 HU
      have hul := l5.out
      go_wp2
      go_loopw [7, 8] (fun u i wx => ∃ (k : Nat) (b : Bool), u = .bool b ∧ i = .int .i64 (k : Int) ∧ Hid (k ≤ ui.length) ∧ Hid (b = (u0 || (ui.take k).any lv.contains)) ∧ Hid (Kp w5 wx)) (fun _ i _ => ui.length - (intOf i).toNat)
      case atStart => exact ⟨0, u0, rfl, rfl, Nat.zero_le _, (by show u0 = _; simp), Kp.refl _⟩
      case round =>
        obtain ⟨k, b, rfl, rfl, hk, hb, hKi⟩ := hrel
        have q6 := Lib.hid (q5.out.kp hKi.out)
        have r6 := Lib.hid (r5.out.kp hKi.out)
        have K6 := Lib.hid (K5.out.tr hKi.out)
        by_cases hkl : k < ui.length
        · have hk' : (k : Int) < (ui.length : Int) := by omega
          obtain ⟨ad, x, rfl, hlt, hx, hcl⟩ := q6.out.at_ hkl
          have hxl := HB.out.1 x (List.mem_of_getElem? hx)
          have hle : decide (x ≤ (j : Int)) = false := by simp; omega
          have HIN : Hid (Calls Try.prog 24 #[.slice A4 lv.length c4, .int .i64 x] wr fun e w' => e = .returned (.bool (lv.contains x)) ∧ w' = wr) := H3.out A4 c4 x wr r6.out
          have hnx := any_take (p := lv.contains) hx
          obtain ⟨y, hy⟩ : ∃ y, y = lv.contains x := ⟨_, rfl⟩
          rw [← hy] at HIN hnx
          have HNX : Hid ((b || y) = (u0 || (ui.take (k + 1)).any lv.contains)) := by show _ = _; rw [hb.out, hnx, Bool.or_assoc]
          clear hnx hy hxl
          by_cases hk0 : k = 0
          · subst hk0
            have hk0' : decide ((0 : Int) < ((0 : Nat) : Int)) = false := by decide
            have hcl0 : wr.cell? ad = some (.int .i64 x) := by have h := hcl; simpa [Addr.add] using h
            clear hx
            cases b with
            | true =>
              go_wp2
              go_quiet (fail)
              go_wp2
              go_roundw
              case rel => exact ⟨0 + 1, true, rfl, by go_num, (by show _ ≤ ui.length; omega), (by first | exact HNX.out | (have := HNX.out; simpa using this)), hKi.out.tr (Kp.drewN_ _ _)⟩
              case measure => simp [intOf]; omega
            | false =>
              go_wp2_with fail
              refine (Hid.out HIN).mono ?_; rintro e w6 ⟨rfl, rfl⟩
              go_wp2
              go_quiet (fail)
              go_wp2
              go_roundw
              case rel => exact ⟨0 + 1, y, rfl, by go_num, (by show _ ≤ ui.length; omega), (by first | exact HNX.out | (have := HNX.out; simpa using this)), hKi.out.tr (Kp.drewN_ _ _)⟩
              case measure => simp [intOf]; omega
          · obtain ⟨k', hk1⟩ : ∃ k', k = k' + 1 := ⟨k - 1, by omega⟩
            obtain ⟨ad2, x', had, _, hx', hcl'⟩ := q6.out.at_ (k := k') (by omega)
            injection had with had
            subst had
            have hso := sort_at HB.out.2.1 hx' (by rw [← hk1]; exact hx)
            have hk0' : 0 < k := by omega
            have hxx : decide (x < x') = false := by simp; omega
            have hkm : (k : Int) - 1 = (k' : Int) := by omega
            have hk9 : (k' : Int) < (ui.length : Int) := by omega
            clear hx hx' hso hk0 hk1
            cases b with
            | true =>
              go_wp2
              go_quiet (fail)
              go_wp2
              go_roundw
              case rel => exact ⟨k + 1, true, rfl, by go_num, (by show _ ≤ ui.length; omega), (by first | exact HNX.out | (have := HNX.out; simpa using this)), hKi.out.tr (Kp.drewN_ _ _)⟩
              case measure => simp [intOf]; omega
            | false =>
              go_wp2_with fail
              refine (Hid.out HIN).mono ?_; rintro e w6 ⟨rfl, rfl⟩
              go_wp2
              go_quiet (fail)
              go_wp2
              go_roundw
              case rel => exact ⟨k + 1, y, rfl, by go_num, (by show _ ≤ ui.length; omega), (by first | exact HNX.out | (have := HNX.out; simpa using this)), hKi.out.tr (Kp.drewN_ _ _)⟩
              case measure => simp [intOf]; omega
        · have hk' : ¬ (k : Int) < (ui.length : Int) := by omega
          have hbe : Hid (b = lv.contains (j : Int)) := by show _ = _; rw [hb.out, HB.out.2.2, List.take_of_length_le (by omega)]
          have HIN : Hid (Calls Try.prog 24 #[.slice A4 lv.length c4, .int .i64 (j : Int)] wr fun e w' => e = .returned (.bool b) ∧ w' = wr) := by
            have := H3.out A4 c4 (j : Int) wr r6.out
            rw [← hbe.out] at this; exact this
          have hbb : (b != b) = false := by simp
          go_wp2_with fail
          refine (Hid.out HIN).mono ?_; rintro e w6 ⟨rfl, rfl⟩
          go_wp2
          go_roundw
          case rel => exact ⟨j + 1, by go_num, (by show j + 1 ≤ l.length; omega), K6.out⟩
          case measure => simp [intOf]; omega
    · have hj' : ¬ (j : Int) < (l.length : Int) := by omega
      obtain ⟨hn1, hlast⟩ := HLA.out
      obtain ⟨ad, x, rfl, _, hx, hcl⟩ := r5.out.at_ (k := n1) (by omega)
      rw [hlast] at hx
      injection hx with hx
      have hv0 : (0 : Int) < (lv.length : Int) := by omega
      have hv00 : 0 < lv.length := by omega
      have hvm : (lv.length : Int) - 1 = (n1 : Int) := by omega
      have hvn : (n1 : Int) < (lv.length : Int) := by omega
      have hlm : (l.length : Int) - 1 = x := hx
      have hxx : (x == x) = true := by simp
      have K9 := Lib.hid (K4.out.tr hK.out)
      clear hn1 hlast hx
      go_wp2
      go_ret
      exact ⟨rfl, K9.out⟩
set_option maxRecDepth 100000 in
theorem glives_walk (C : GrC) (A : Option Addr) (c : Nat) (l : List Nd) (W : World) (R : RdG W A l) (N : ∀ t ∈ l, Nd64 t) (L : l.length ≤ c) (M : c ≤ 9223372036854775807) :
    Calls Try.prog 5 #[.slice A l.length c] W fun e w' => e = .returned (.bool true) ∧ Below W.heap.size W w' := by
  have HAW : Hid (Calls Try.prog 9 #[] W fun e w' => e = .returned (.bool true) ∧ Kp W w') := grawake_any C W
  have HF : Hid (∀ V, Kp W V → Calls Try.prog 10 #[.slice A l.length c] V fun e w' => e = .returned (.bool (fewN l)) ∧ w' = V) := fun V k => rfew10_any A c l V (R.kp k)
  cases hf : fewN l with
  | false =>
    rw [hf] at HF
    clear hf C R N
    go_enter Try.func5, Try.ntmps5
    go_wp2_with fail
    refine (Hid.out HAW).mono ?_; rintro e w1 ⟨rfl, k1⟩
    have K := Lib.hid k1
    clear k1
    go_wp2_with fail
    refine (HF.out _ K.out).mono ?_; rintro e w2 ⟨rfl, rfl⟩
    go_wp2
    go_ret
    exact ⟨rfl, K.out⟩
  | true =>
    rw [hf] at HF
    have HCK := guard_none C A c l W R L M (small_few hf N)
    cases hc : checkB l with
    | false =>
      rw [hc] at HCK
      clear hf hc C R N
      go_enter Try.func5, Try.ntmps5
      go_wp2_with fail
      refine (Hid.out HAW).mono ?_; rintro e w1 ⟨rfl, k1⟩
      have K := Lib.hid k1
      clear k1
      go_wp2_with fail
      refine (HF.out _ K.out).mono ?_; rintro e w2 ⟨rfl, rfl⟩
      go_wp2_with fail
      refine (HCK.out _ K.out).mono ?_; rintro e w3 ⟨rfl, k3⟩
      have K := Lib.hid (K.out.tr k3)
      clear k3
      go_wp2
      go_ret
      exact ⟨rfl, K.out⟩
    | true => exact glives_main C A c l W R L M (small_few hf N) hf hc
end Go.Proofs.Ytklphpphgkbjoaa
