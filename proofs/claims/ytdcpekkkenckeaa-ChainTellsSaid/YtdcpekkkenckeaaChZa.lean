/- The landed chain: upTo over any closure, mayStand, Check. -/
import Derived.Test.YtdcpekkkenckeaaTk
import Derived.Test.YtdcpekkkenckeaaChC
import Derived.Conc.MuLone
namespace Go.Proofs.Ytdcpekkkenckeaa.Cz
open Go.RowKit Go.Proofs.ShM Go.Proofs.GrM Go.Proofs.ImM Go.Proofs.ChM
set_option linter.unusedVariables false
set_option linter.unusedSimpArgs false
set_option maxRecDepth 100000
set_option maxHeartbeats 8000000

/-- How many stand ahead of the first one that ends them. -/
theorem upTo_any (F : Nat) (L : List Value) (p : Nat → Bool) (A : Option Addr) (n c q : Nat) (w : World) (hn : n ≤ 9223372036854775807) (hq : q ≤ n) (h1 : ∀ j, j < q → p j = false) (h2 : q < n → p q = true)
    (HF : ∀ args W, (callFunc F args).run Try.prog W = .ok (.enter F args) W)
    (HT : Hid (∀ (k : Nat) W, k < n → Kp w W → Calls Try.prog F (Value.int .i64 (k : Int) :: L).toArray W fun e W' => e = .returned (.bool (p k)) ∧ Kp W W')) :
    Calls Try.prog 32 #[.slice A n c, .func (.func F) #[] L.toArray] w fun e w' => e = .returned (.int .i64 (q : Int)) ∧ Kp w w' := by
  have H1 := Lib.hid h1
  have H2 := Lib.hid h2
  have HQ := Lib.hid hq
  clear h1 h2 hq
  go_enter Try.func32, Try.ntmps32
  go_wp2
  go_step3
  go_wp2
  go_step3
  go_wp2
  go_loopw [5, 9] (fun x i wx => ∃ k : Nat, x = .int .i64 (k : Int) ∧ i = .int .i64 (k : Int) ∧ Hid (k ≤ q) ∧ Hid (Kp w wx)) (fun _ i _ => n - (intOf i).toNat)
  case atStart => exact ⟨0, rfl, rfl, Nat.zero_le _, Kp.refl _⟩
  case round =>
    obtain ⟨k, rfl, rfl, hk, hK⟩ := hrel
    by_cases hj : k < n
    · have hj' : (k : Int) < (n : Int) := by omega
      have HC := Lib.hid (HT.out k wr hj hK.out)
      by_cases hkq : k < q
      · rw [H1.out k hkq] at HC
        have HK2 : Hid (k + 1 ≤ q) := hkq
        clear hkq
        go_wp2_with fail
        refine HC.out.mono ?_; rintro e0 w1 ⟨rfl, k1⟩
        have K1 : Hid (Kp w w1) := hK.out.tr k1
        clear k1
        go_wp2
        go_roundw
        case rel => exact ⟨k + 1, by go_num, by go_num, HK2.out, K1.out⟩
        case measure => simp [intOf]; omega
      · obtain rfl : k = q := by have := hk.out; omega
        rw [H2.out hj] at HC
        clear hkq
        go_wp2_with fail
        refine HC.out.mono ?_; rintro e0 w1 ⟨rfl, k1⟩
        have K1 : Hid (Kp w w1) := hK.out.tr k1
        clear k1
        go_wp2
        rw [Exit.noGoto_ret]
        go_ret
        exact ⟨rfl, K1.out⟩
    · have hj' : ¬ (k : Int) < (n : Int) := by omega
      obtain rfl : k = q := by have := hk.out; have := HQ.out; omega
      go_wp2
      go_ret
      exact ⟨rfl, hK.out⟩

/-- Whether a version may stand behind others. -/
def mayB (v : Nd) (l : List Nd) : Bool := decide (0 ≤ v.1) && tokT v.2 && (decide (l.length = 0) || (decide ((l.getD (l.length - 1) nd0).1 < v.1) && (v.2.1 == (l.getD (l.length - 1) nd0).2.1)))
theorem mayStand_any (P Q A : Option Addr) (a e b f n c : Nat) (v : Nd) (l : List Nd) (q : Bool) (w : World) (hT : TR w P v.2.1 Q v.2.2) (ha : a = v.2.1.length) (hb : b = v.2.2.length) (h : RdG w A l) (hn : n = l.length) (hq : mayB v l = q) :
    Calls Try.prog 31 #[.agg #[.int .i64 v.1, .slice P a e, .slice Q b f], .slice A n c] w fun e w' => e = .returned (.bool q) ∧ Kp w w' := by
  have hl := h.len
  obtain ⟨s, t⟩ := v
  unfold mayB at hq
  dsimp only at *
  obtain ⟨k, hk⟩ := eX (tokT t)
  rw [← hk] at hq
  have K0 : Hid (Kp w (w.alloc (.cells #[.int .i64 s, .slice P a e, .slice Q b f] 41))) := Kp.alloc_ _ _
  have HC : Hid (∀ W, Kp w W → Calls Try.prog 35 #[.agg #[.slice P a e, .slice Q b f]] W fun e w' => e = .returned (.bool k) ∧ Kp W w') := fun W kW => tcheck_u t.1 t.2 (hT.kp kW) ha hb hk.symm
  by_cases hs : s < 0
  · obtain rfl : false = q := by rw [← hq, show decide (0 ≤ s) = false from decide_eq_false (by omega)]; rfl
    have hs' : decide (s < 0) = true := decide_eq_true hs
    clear hq hs hk hl hn h hT ha hb
    go_enter Try.func31, Try.ntmps31
    go_wp2
    go_ret
    exact ⟨rfl, K0.out⟩
  · have hs' : decide (s < 0) = false := decide_eq_false hs
    have hs2 : decide (0 ≤ s) = true := decide_eq_true (by omega)
    rw [hs2] at hq
    cases k with
    | false =>
      obtain rfl : false = q := hq
      clear hs hs2 hk hl hn h hT ha hb
      go_enter Try.func31, Try.ntmps31
      go_wp2_with fail
      refine (HC.out _ K0.out).mono ?_; rintro e0 w1 ⟨rfl, k1⟩
      have K1 := lH (K0.out.tr k1)
      clear k1
      go_wp2
      go_ret
      exact ⟨rfl, K1.out⟩
    | true =>
      by_cases h0 : n = 0
      · subst h0
        obtain rfl : true = q := by rw [← hq, show decide (l.length = 0) = true from decide_eq_true hn.symm]; rfl
        clear hq hs hs2 hk hl hn h hT ha hb
        go_enter Try.func31, Try.ntmps31
        go_wp2_with fail
        refine (HC.out _ K0.out).mono ?_; rintro e0 w1 ⟨rfl, k1⟩
        have K1 := lH (K0.out.tr k1)
        clear k1
        go_wp2
        go_ret
        exact ⟨rfl, K1.out⟩
      · obtain ⟨m, rfl⟩ : ∃ m, n = m + 1 := ⟨n - 1, by omega⟩
        have hm : m < l.length := by omega
        have hn9 : m + 1 ≤ 9223372036854775807 := by omega
        rw [show decide (l.length = 0) = false from decide_eq_false (by omega), show l.length - 1 = m by omega] at hq
        obtain ⟨ad, P1, c1, Q1, d1, rfl, hlt, y0, y1, y2, hR⟩ := h.atv hm
        obtain ⟨x, hx⟩ := eX (l.getD m nd0).1
        obtain ⟨sz, hsz⟩ := eX (l.getD m nd0).2.1
        rw [← hx] at hq y0
        rw [← hsz] at hq y1
        obtain ⟨n1, hn1⟩ := eX sz.length
        obtain ⟨n2, hn2⟩ := eX (l.getD m nd0).2.2.length
        rw [← hn1] at y1
        rw [← hn2] at y2
        have HQ : Hid (∀ V, Kp w V → V.cell? (ad.add (m * 3)) = some (.int .i64 x) ∧ V.cell? ⟨(ad.add (m * 3)).block, (ad.add (m * 3)).off + 1, none⟩ = some (.slice P1 n1 c1) ∧ V.cell? ⟨(ad.add (m * 3)).block, (ad.add (m * 3)).off + 2, none⟩ = some (.slice Q1 n2 d1)) := fun V kV =>
          ⟨(kV.cell (by rw [block_of_add]; exact hlt)).trans y0, (kV.cell (by rw [block_of_add]; exact hlt)).trans y1, (kV.cell (by rw [block_of_add]; exact hlt)).trans y2⟩
        obtain ⟨y, hy⟩ := eX (t.1 == sz)
        have HE : Hid (∀ W, Kp w W → Calls Try.prog 36 #[.slice P a e, .slice P1 n1 c1] W fun e w' => e = .returned (.bool y) ∧ Kp W w') := fun W kW => by
          rw [ha, hn1, hy, hsz]
          exact (equal_any _ _ _ _ _ _ _ (hT.s.kp kW) (hR.r.s.kp kW)).mono fun _ _ ⟨h1, k, h2⟩ => ⟨h1, by rw [h2]; exact Kp.drewN_ _ _⟩
        rw [← hy] at hq
        clear hs hs2 hk hl hn h hT ha hb h0 hm hR hx hsz hn1 hn2 hy y0 y1 y2 hlt
        by_cases hc : x < s
        · have hc' : decide (x < s) = true := decide_eq_true hc
          rw [hc'] at hq
          obtain rfl : y = q := hq
          clear hc
          go_enter Try.func31, Try.ntmps31
          go_wp2_with fail
          refine (HC.out _ K0.out).mono ?_; rintro e0 w1 ⟨rfl, k1⟩
          have K1 := lH (K0.out.tr k1)
          obtain ⟨z0, z1, z2⟩ := HQ.out _ K1.out
          have jb : w.heap.size < w1.heap.size := by have := k1.size; rw [World.size_alloc] at this; omega
          have j0 : w1.cell? ⟨w.heap.size, 0, none⟩ = some (.int .i64 s) := (k1.cell (by simp)).trans (by rw [World.cell?_alloc_at _ _ _ _ rfl]; rfl)
          have j1 : w1.cell? ⟨w.heap.size, 1, none⟩ = some (.slice P a e) := (k1.cell (by simp)).trans (by rw [World.cell?_alloc_at _ _ _ _ rfl]; rfl)
          have K2 : Hid (Kp w (w1.alloc (.cells #[.int .i64 x, .slice P1 n1 c1, .slice Q1 n2 d1] 41))) := K1.out.tr (Kp.alloc_ _ _)
          clear k1
          go_wp2_with fail
          refine (HE.out _ K2.out).mono ?_; rintro e0 w2 ⟨rfl, k2⟩
          have K3 := lH (K2.out.tr k2)
          clear k2
          go_wp2
          go_ret
          exact ⟨rfl, K3.out⟩
        · have hc' : decide (x < s) = false := decide_eq_false hc
          rw [hc'] at hq
          obtain rfl : false = q := hq
          clear hc
          go_enter Try.func31, Try.ntmps31
          go_wp2_with fail
          refine (HC.out _ K0.out).mono ?_; rintro e0 w1 ⟨rfl, k1⟩
          have K1 := lH (K0.out.tr k1)
          obtain ⟨z0, z1, z2⟩ := HQ.out _ K1.out
          have jb : w.heap.size < w1.heap.size := by have := k1.size; rw [World.size_alloc] at this; omega
          have j0 : w1.cell? ⟨w.heap.size, 0, none⟩ = some (.int .i64 s) := (k1.cell (by simp)).trans (by rw [World.cell?_alloc_at _ _ _ _ rfl]; rfl)
          have K2 : Hid (Kp w (w1.alloc (.cells #[.int .i64 x, .slice P1 n1 c1, .slice Q1 n2 d1] 41))) := K1.out.tr (Kp.alloc_ _ _)
          clear k1
          go_wp2
          go_ret
          exact ⟨rfl, K2.out⟩
end Go.Proofs.Ytdcpekkkenckeaa.Cz
