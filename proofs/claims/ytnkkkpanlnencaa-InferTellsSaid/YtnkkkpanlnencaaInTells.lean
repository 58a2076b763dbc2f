/- InferTells, over the contracts of the calls. -/
import Derived.Test.YtnkkkpanlnencaaInAw
namespace Go.Proofs.Ytnkkkpanlnencaa
open Go.RowKit Go.Proofs.ShM Go.Proofs.GrM Go.Proofs.InM
set_option linter.unusedVariables false
set_option maxHeartbeats 8000000

theorem fewL_iff {l : List (List Int)} : fewL l = true ↔ (∀ s ∈ l, s.length ≤ 100) ∧ l.length ≤ 10 := by
  unfold fewL
  rw [Bool.and_eq_true, List.all_eq_true, decide_eq_true_iff]
  constructor
  · rintro ⟨h1, h2⟩; exact ⟨fun t ht => of_decide_eq_true (h1 t ht), h2⟩
  · rintro ⟨h1, h2⟩; exact ⟨fun t ht => decide_eq_true (h1 t ht), h2⟩
set_option maxRecDepth 100000 in
theorem itells_main (C : InC) (A P Q B : Option Addr) (c d f e : Nat) (l : List Nd) (t : Nd) (gs : List (List Int)) (W : World) (R : RdG W A l) (L : l.length ≤ c) (M : c ≤ 9223372036854775807) (hS : SmallG l) (hf : fewN l = true)
    (RP : Rd W P t.2.1) (RQ : Rd W Q t.2.2) (LP : t.2.1.length ≤ d ∧ d ≤ 9223372036854775807) (LQ : t.2.2.length ≤ f ∧ f ≤ 9223372036854775807) (hT : SmallN t) (hn1 : t.2.1.length ≤ 30) (hn2 : t.2.2.length ≤ 30)
    (RB : RdL W B gs) (LB : gs.length ≤ e ∧ e ≤ 9223372036854775807) (hG : SmallL gs) (hf2 : fewL gs = true) :
    Calls Try.prog 3 #[.slice A l.length c, .agg #[.int .i64 t.1, .slice P t.2.1.length d, .slice Q t.2.2.length f], .slice B gs.length e] W fun e w' => e = .returned (.bool true) ∧ Below W.heap.size W w' := by
  obtain ⟨op, la, nums⟩ := t
  have RP : Rd W P la := RP
  have RQ : Rd W Q nums := RQ
  have hn1 : la.length ≤ 30 := hn1
  have hn2 : nums.length ≤ 30 := hn2
  show Calls Try.prog 3 #[.slice A l.length c, .agg #[.int .i64 op, .slice P la.length d, .slice Q nums.length f], .slice B gs.length e] W fun e w' => e = .returned (.bool true) ∧ Below W.heap.size W w'
  have HAW : Hid (∀ V, Calls Try.prog 8 #[] V fun e w' => e = .returned (.bool true) ∧ Kp V w') := fun V => inawake_any C V
  have HF : Hid (∀ V, Kp W V → Calls Try.prog 9 #[.slice A l.length c] V fun e w' => e = .returned (.bool true) ∧ w' = V) := fun V k => by
    have := rfew10_any A c l V (R.kp k)
    rw [hf] at this; exact this
  have HF2 : Hid (∀ V, Kp W V → Calls Try.prog 10 #[.slice B gs.length e] V fun e w' => e = .returned (.bool true) ∧ w' = V) := fun V k => by
    have := rfew11_any B e gs V (RB.kp k)
    rw [hf2] at this; exact this
  obtain ⟨s, x, hn⟩ : ∃ s x, nodeV op nums gs = (s, x) := ⟨_, _, rfl⟩
  obtain ⟨ss, y, z, hs⟩ : ∃ ss y z, shapesV l = (ss, y, z) := ⟨_, _, _, rfl⟩
  obtain ⟨n0, hn0⟩ : ∃ n0, n0 = la.length := ⟨_, rfl⟩
  obtain ⟨m0, hm0⟩ : ∃ m0, m0 = nums.length := ⟨_, rfl⟩
  have H1 : Hid (∀ V, Kp W V → Calls Try.prog 11 #[.agg #[.int .i64 op, .slice P n0 d, .slice Q m0 f], .slice B gs.length e] V (RetE (s, x) s.length V)) := fun V k => C.node (op, la, nums) P Q B n0 m0 gs.length d f e s.length gs (s, x) V (RP.kp k) (RQ.kp k) LP LQ hT (RB.kp k) LB hG hn0 hm0 rfl hn rfl
  have H2 : Hid (∀ V, Kp W V → Calls Try.prog 12 #[.agg #[.int .i64 op, .slice P n0 d, .slice Q m0 f], .slice B gs.length e] V (RetM (fun _ => True) (s, x) V)) := fun V k => by
    have h := rnode11 (fun _ => True) (op, la, nums) P Q d f B e gs V (RQ.kp k) LQ (fun _ _ _ => trivial) hT.2.2.2.2 (RB.kp k)
    have h' : Calls Try.prog 12 #[.agg #[.int .i64 op, .slice P la.length d, .slice Q nums.length f], .slice B gs.length e] V (RetM (fun _ => True) (nodeV op nums gs) V) := h
    rw [hn, ← hn0, ← hm0] at h'
    exact h'
  have H3 : Hid (∀ V, Kp W V → Calls Try.prog 13 #[.slice A l.length c] V (RetE3 (ss, y, z) ss.length V)) := fun V k => C.shapes A c l.length ss.length l (ss, y, z) V (R.kp k) L M hS rfl hs rfl
  have H4 : Hid (∀ V, Kp W V → Calls Try.prog 14 #[.slice A l.length c] V (RetSS (ss, y, z) V)) := fun V k => by
    have h := rshapes11 A c l V (R.kp k) (fun t ht => (hS.2 t ht).2.2)
    rw [hs] at h; exact h
  have i1 : ¬ (30 : Int) < (n0 : Int) := by omega
  have i2 : ¬ (30 : Int) < (m0 : Int) := by omega
  have hxx : (x == x) = true := by simp
  have hyy : (y == y) = true := by simp
  have hzz : (z == z) = true := by simp
  have F0 := Lib.hid (Nb.new (W := W) (b := W.heap.size) (op := op) (P := P) (n := n0) (c := d) (Q := Q) (m := m0) (d := f) rfl)
  have K0 : Hid (Kp W (W.alloc (.cells #[.int .i64 op, .slice P n0 d, .slice Q m0 f] 25))) := Kp.alloc_ _ _
  rw [← hn0, ← hm0]
  clear C R hS hf L M RP RQ LP LQ hT hn1 hn2 RB LB hG hf2 hn hs hn0 hm0
  go_enter Try.func3, Try.ntmps3
  go_wp2_with fail
  refine (HAW.out _).mono ?_; rintro e0 w1 ⟨rfl, k1⟩
  have K1 := Lib.hid (K0.out.tr k1)
  have F1 := Lib.hid (F0.out.kp k1)
  clear k1 F0
  go_wp2_with fail
  refine (HF.out _ K1.out).mono ?_; rintro e0 w2 ⟨rfl, hw2⟩
  obtain rfl : w2 = w1 := hw2
  have p1 := F1.out.c1
  have p2 := F1.out.c2
  have p0 := F1.out.c0
  go_wp2_with fail
  refine (HF2.out _ K1.out).mono ?_; rintro e0 w3 ⟨rfl, hw3⟩
  obtain rfl : w3 = w2 := hw3
  go_wp2_with fail
  refine (H1.out _ K1.out).mono ?_; rintro e0 w4 ⟨A4, c4, rfl, r4, _, k4⟩
  have K4 := Lib.hid (K1.out.tr k4)
  have F4 := Lib.hid (F1.out.kp k4)
  have p1 := F4.out.c1
  have p2 := F4.out.c2
  have p0 := F4.out.c0
  clear k4 F1
  go_wp2_with fail
  refine (H2.out _ K4.out).mono ?_; rintro e0 w5 ⟨A5, c5, rfl, r5, _, _, k5⟩
  have K5 := Lib.hid (K4.out.tr k5)
  have r4 := Lib.hid (r4.out.kp k5)
  clear k5
  go_wp2_with fail
  refine (H3.out _ K5.out).mono ?_; rintro e0 w6 ⟨A6, c6, rfl, r6, _, k6⟩
  have K6 := Lib.hid (K5.out.tr k6)
  have r4 := Lib.hid (r4.out.kp k6)
  have r5 := Lib.hid (r5.out.kp k6)
  clear k6
  go_wp2_with fail
  refine (H4.out _ K6.out).mono ?_; rintro e0 w7 ⟨A7, c7, rfl, r7, _, k7⟩
  have K7 := Lib.hid (K6.out.tr k7)
  have r4 := Lib.hid (r4.out.kp k7)
  have r5 := Lib.hid (r5.out.kp k7)
  have r6 := Lib.hid (r6.out.kp k7)
  clear k7
  go_wp2_with fail
  refine (same_g s s r4.out r5.out rfl rfl (r := true) (by simp)).mono ?_; rintro e0 w8 ⟨rfl, k8⟩
  have K8 := Lib.hid (K7.out.tr k8)
  have r6 := Lib.hid (r6.out.kp k8)
  have r7 := Lib.hid (r7.out.kp k8)
  clear k8 r4 r5
  have HSM : Hid (Calls Try.prog 16 #[.slice A6 ss.length c6, .slice A7 ss.length c7] w8 fun e w' => e = .returned (.bool true) ∧ Kp w8 w') := by
    have h := rsame11_any A6 A7 c6 c7 ss ss w8 r6.out r7.out
    rw [show (ss == ss) = true by simp] at h
    exact h
  go_wp2_with fail
  refine (Hid.out HSM).mono ?_; rintro e0 w9 ⟨rfl, k9⟩
  have K9 := Lib.hid (K8.out.tr k9)
  clear k9 r6 r7 HSM
  go_wp2
  go_ret
  exact ⟨rfl, K9.out⟩
/-- What is not asked for. -/
theorem itells_far (HAW : Hid (∀ V, Calls Try.prog 8 #[] V fun e w' => e = .returned (.bool true) ∧ Kp V w')) (A P Q B : Option Addr) (c d f e n m na nb : Nat) (op : Int) (q1 q2 : Bool) (W : World)
    (HF : Hid (∀ V, Kp W V → Calls Try.prog 9 #[.slice A na c] V fun e w' => e = .returned (.bool q1) ∧ w' = V))
    (HF2 : Hid (∀ V, Kp W V → Calls Try.prog 10 #[.slice B nb e] V fun e w' => e = .returned (.bool q2) ∧ w' = V)) (hn : n ≤ 9223372036854775807) (hm : m ≤ 9223372036854775807)
    (h : q1 = false ∨ 30 < n ∨ 30 < m ∨ q2 = false) :
    Calls Try.prog 3 #[.slice A na c, .agg #[.int .i64 op, .slice P n d, .slice Q m f], .slice B nb e] W fun e w' => e = .returned (.bool true) ∧ Below W.heap.size W w' := by
  have F0 := Lib.hid (Nb.new (W := W) (b := W.heap.size) (op := op) (P := P) (n := n) (c := d) (Q := Q) (m := m) (d := f) rfl)
  have K0 : Hid (Kp W (W.alloc (.cells #[.int .i64 op, .slice P n d, .slice Q m f] 25))) := Kp.alloc_ _ _
  cases q1 with
  | false =>
    clear h
    go_enter Try.func3, Try.ntmps3
    go_wp2_with fail
    refine (HAW.out _).mono ?_; rintro e0 w1 ⟨rfl, k1⟩
    have K1 := Lib.hid (K0.out.tr k1)
    clear k1
    go_wp2_with fail
    refine (HF.out _ K1.out).mono ?_; rintro e0 w2 ⟨rfl, hw2⟩
    obtain rfl : w2 = w1 := hw2
    go_wp2
    go_ret
    exact ⟨rfl, K1.out⟩
  | true =>
    by_cases h1 : 30 < n
    · have i1 : (30 : Int) < (n : Int) := by omega
      clear h h1
      go_enter Try.func3, Try.ntmps3
      go_wp2_with fail
      refine (HAW.out _).mono ?_; rintro e0 w1 ⟨rfl, k1⟩
      have K1 := Lib.hid (K0.out.tr k1)
      have F1 := Lib.hid (F0.out.kp k1)
      clear k1
      go_wp2_with fail
      refine (HF.out _ K1.out).mono ?_; rintro e0 w2 ⟨rfl, hw2⟩
      obtain rfl : w2 = w1 := hw2
      have p1 := F1.out.c1
      go_wp2
      go_ret
      exact ⟨rfl, K1.out⟩
    · have i1 : ¬ (30 : Int) < (n : Int) := by omega
      by_cases h2 : 30 < m
      · have i2 : (30 : Int) < (m : Int) := by omega
        clear h h1 h2
        go_enter Try.func3, Try.ntmps3
        go_wp2_with fail
        refine (HAW.out _).mono ?_; rintro e0 w1 ⟨rfl, k1⟩
        have K1 := Lib.hid (K0.out.tr k1)
        have F1 := Lib.hid (F0.out.kp k1)
        clear k1
        go_wp2_with fail
        refine (HF.out _ K1.out).mono ?_; rintro e0 w2 ⟨rfl, hw2⟩
        obtain rfl : w2 = w1 := hw2
        have p1 := F1.out.c1
        have p2 := F1.out.c2
        go_wp2
        go_ret
        exact ⟨rfl, K1.out⟩
      · have i2 : ¬ (30 : Int) < (m : Int) := by omega
        have hq : q2 = false := by
          rcases h with h | h | h | h
          · cases h
          · exact absurd h h1
          · exact absurd h h2
          · exact h
        subst hq
        clear h h1 h2
        go_enter Try.func3, Try.ntmps3
        go_wp2_with fail
        refine (HAW.out _).mono ?_; rintro e0 w1 ⟨rfl, k1⟩
        have K1 := Lib.hid (K0.out.tr k1)
        have F1 := Lib.hid (F0.out.kp k1)
        clear k1
        go_wp2_with fail
        refine (HF.out _ K1.out).mono ?_; rintro e0 w2 ⟨rfl, hw2⟩
        obtain rfl : w2 = w1 := hw2
        have p1 := F1.out.c1
        have p2 := F1.out.c2
        go_wp2_with fail
        refine (HF2.out _ K1.out).mono ?_; rintro e0 w3 ⟨rfl, hw3⟩
        obtain rfl : w3 = w2 := hw3
        go_wp2
        go_ret
        exact ⟨rfl, K1.out⟩
theorem itells_walk (C : InC) (A P Q B : Option Addr) (c d f e : Nat) (l : List Nd) (t : Nd) (gs : List (List Int)) (W : World) (R : RdG W A l) (N : ∀ t ∈ l, Nd64 t) (L : l.length ≤ c) (M : c ≤ 9223372036854775807)
    (RP : Rd W P t.2.1) (RQ : Rd W Q t.2.2) (LP : t.2.1.length ≤ d ∧ d ≤ 9223372036854775807) (LQ : t.2.2.length ≤ f ∧ f ≤ 9223372036854775807) (NT : Nd64 t)
    (RB : RdL W B gs) (LB : gs.length ≤ e ∧ e ≤ 9223372036854775807) (NG : ∀ s ∈ gs, W64 s) :
    Calls Try.prog 3 #[.slice A l.length c, .agg #[.int .i64 t.1, .slice P t.2.1.length d, .slice Q t.2.2.length f], .slice B gs.length e] W fun e w' => e = .returned (.bool true) ∧ Below W.heap.size W w' := by
  by_cases h : fewN l = false ∨ 30 < t.2.1.length ∨ 30 < t.2.2.length ∨ fewL gs = false
  · exact itells_far (fun V => inawake_any C V) A P Q B c d f e _ _ _ _ t.1 (fewN l) (fewL gs) W (fun V k => rfew10_any A c l V (R.kp k)) (fun V k => rfew11_any B e gs V (RB.kp k)) (by omega) (by omega) h
  · have h1 : fewN l = true := by
      cases hf : fewN l with
      | true => rfl
      | false => exact absurd (.inl hf) h
    have h2 : fewL gs = true := by
      cases hf : fewL gs with
      | true => rfl
      | false => exact absurd (.inr (.inr (.inr hf))) h
    have h3 : ¬ 30 < t.2.1.length := fun g => h (.inr (.inl g))
    have h4 : ¬ 30 < t.2.2.length := fun g => h (.inr (.inr (.inl g)))
    obtain ⟨g1, g2⟩ := fewL_iff.1 h2
    exact itells_main C A P Q B c d f e l t gs W R L M (small_few h1 N) h1 RP RQ LP LQ ⟨by omega, by omega, NT⟩ (by omega) (by omega) RB LB ⟨by omega, fun s hs => ⟨g1 s hs, NG s hs⟩⟩ h2
end Go.Proofs.Ytnkkkpanlnencaa
