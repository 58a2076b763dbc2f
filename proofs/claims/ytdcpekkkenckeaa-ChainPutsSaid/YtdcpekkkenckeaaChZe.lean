/- The landed chain: Put. -/
import Derived.Test.YtdcpekkkenckeaaChZd
import Derived.BigQuiet
namespace Go.Proofs.Ytdcpekkkenckeaa.Cz
open Go.RowKit Go.Proofs.ShM Go.Proofs.GrM Go.Proofs.ImM Go.Proofs.ChM
set_option linter.unusedVariables false
set_option linter.unusedSimpArgs false
set_option maxRecDepth 100000
set_option maxHeartbeats 8000000

def errC (l : List Nd) (s : Int) (t : T) : Int := (putC l s t).2
theorem quiet_e {f : FuncId} {args : Array Value} {w : World} {n : Nat} {v : Value} (h : Calls Try.prog f args (w.drewN n) fun e w' => e = .returned v ∧ ∃ m, w' = (w.drewN n).drewN m) : Calls Try.prog f args (w.drewN n) fun e w' => e = .returned v ∧ ∃ m, w' = w.drewN m :=
  h.mono fun _ _ ⟨he, m, hm⟩ => ⟨he, n + m, by rw [hm]; exact World.drewN_drewN _ _ _⟩
theorem refused_v (A P Q : Option Addr) (c n a e b f : Nat) (l : List Nd) (s err : Int) (t : T) (w : World) (h : RdG w A l) (hc : l.length ≤ c ∧ c ≤ 9223372036854775807) (hn : n = l.length) (hs : In64 s) (hT : TRm w P e Q f t) (ha : a = t.1.length) (hb : b = t.2.length) (hq : errC l s t = err) :
    Calls Try.prog 27 #[.slice A n c, .int .i64 s, .agg #[.slice P a e, .slice Q b f]] w fun x w' => x = .returned (.int .i64 err) ∧ Kp w w' := by
  have F0 : Hid (Bk (w.alloc (.cells #[.slice P a e, .slice Q b f] 25)) w.heap.size P a e Q b f) := Bk.new rfl
  have K0 : Hid (Kp w (w.alloc (.cells #[.slice P a e, .slice Q b f] 25))) := Kp.alloc_ _ _
  obtain ⟨u, hu⟩ := eX (chkV l)
  obtain ⟨v, hv⟩ := eX (tokT t)
  obtain ⟨r, hr⟩ := eX (newerC l (s - 1))
  have HC : Hid (∀ W, Kp w W → Calls Try.prog 17 #[.slice A n c] W fun e W' => e = .returned (.bool u) ∧ Kp W W') := fun W kW => check_v A c n l u W (h.kp kW) hc hn hu.symm
  have HN : Hid (∀ W, Kp w W → Calls Try.prog 19 #[.slice A n c, .int .i64 (s - 1)] W fun e W' => e = .returned (.bool r) ∧ Kp W W') := fun W kW => newer_v A c n l (s - 1) r W (h.kp kW) hc hn hr.symm
  have HT : Hid (∀ W, Kp w W → Calls Try.prog 35 #[.agg #[.slice P a e, .slice Q b f]] W fun e W' => e = .returned (.bool v) ∧ Kp W W') := fun W kW => tcheck_u t.1 t.2 (hT.r.kp kW) ha hb hv.symm
  have hn9 : n ≤ 9223372036854775807 := by omega
  have hs9 := hs.2
  have HR := lH h
  have HTR := lH (And.intro hT (And.intro ha hb))
  have HNL := lH hn
  unfold errC putC at hq
  rw [← hu, ← hv] at hq
  cases u with
  | false =>
    obtain rfl : 170 = err := by rw [← hq, if_pos (.inl rfl)]
    clear hu hv hr hq h hc hn hs hT ha hb
    go_enter Try.func27, Try.ntmps27
    go_wp2_with fail
    refine (HC.out _ K0.out).mono ?_; rintro e0 w1 ⟨rfl, k1⟩
    have K1 := lH (K0.out.tr k1)
    clear k1
    go_wp2
    go_ret
    exact ⟨rfl, K1.out⟩
  | true =>
    by_cases h0 : s < 0
    · obtain rfl : 170 = err := by rw [← hq, if_pos (.inr (.inl h0))]
      have h0' : decide (s < 0) = true := decide_eq_true h0
      clear hu hv hr hq h hc hn hs hT ha hb h0
      go_enter Try.func27, Try.ntmps27
      go_wp2_with fail
      refine (HC.out _ K0.out).mono ?_; rintro e0 w1 ⟨rfl, k1⟩
      have K1 := lH (K0.out.tr k1)
      clear k1
      go_wp2
      go_ret
      exact ⟨rfl, K1.out⟩
    · have h0' : decide (s < 0) = false := decide_eq_false h0
      have hw : IntKind.i64.wrap (s - 1) = s - 1 := IntWalk.i64_in _ (by omega)
      have hnl : r = true ↔ (0 < l.length ∧ s ≤ (l.getD (l.length - 1) nd0).1) := by
        rw [hr]
        unfold newerC
        rw [← hu, Bool.true_and, Bool.and_eq_true, decide_eq_true_iff, decide_eq_true_iff]
        exact ⟨fun ⟨a, b⟩ => ⟨a, by omega⟩, fun ⟨a, b⟩ => ⟨a, by omega⟩⟩
      cases r with
      | true =>
        obtain rfl : 170 = err := by rw [← hq, if_pos (.inr (.inr (hnl.1 rfl)))]
        clear hu hv hr hq h hc hn hs hT ha hb h0 hnl
        go_enter Try.func27, Try.ntmps27
        go_wp2_with fail
        refine (HC.out _ K0.out).mono ?_; rintro e0 w1 ⟨rfl, k1⟩
        have K1 := lH (K0.out.tr k1)
        clear k1
        go_wp2_with fail
        refine (HN.out _ K1.out).mono ?_; rintro e0 w2 ⟨rfl, k2⟩
        have K2 := lH (K1.out.tr k2)
        clear k2
        go_wp2
        go_ret
        exact ⟨rfl, K2.out⟩
      | false =>
        rw [if_neg (by rintro (g | g | g); cases g; exact h0 g; cases hnl.2 g)] at hq
        cases v with
        | false =>
          obtain rfl : 30 = err := by rw [← hq, if_pos rfl]
          clear hu hv hr hq h hc hn hs hT ha hb h0 hnl
          go_enter Try.func27, Try.ntmps27
          go_wp2_with fail
          refine (HC.out _ K0.out).mono ?_; rintro e0 w1 ⟨rfl, k1⟩
          have K1 := lH (K0.out.tr k1)
          have F1 := lH (F0.out.kp k1)
          clear k1
          go_wp2_with fail
          refine (HN.out _ K1.out).mono ?_; rintro e0 w2 ⟨rfl, k2⟩
          have K2 := lH (K1.out.tr k2)
          have F2 := lH (F1.out.kp k2)
          have p0 := F2.out.c0
          have p1 := F2.out.c1
          clear k2
          go_wp2_with fail
          refine (HT.out _ K2.out).mono ?_; rintro e0 w3 ⟨rfl, k3⟩
          have K3 := lH (K2.out.tr k3)
          clear k3
          go_wp2
          go_ret
          exact ⟨rfl, K3.out⟩
        | true =>
          rw [if_neg (by simp)] at hq
          by_cases hz : n = 0
          · subst hz
            obtain rfl : 0 = err := by rw [← hq, if_neg (fun g => by omega), if_neg (by omega)]
            clear hu hv hr hq h hc hn hs hT ha hb h0 hnl
            go_enter Try.func27, Try.ntmps27
            go_wp2_with fail
            refine (HC.out _ K0.out).mono ?_; rintro e0 w1 ⟨rfl, k1⟩
            have K1 := lH (K0.out.tr k1)
            have F1 := lH (F0.out.kp k1)
            clear k1
            go_wp2_with fail
            refine (HN.out _ K1.out).mono ?_; rintro e0 w2 ⟨rfl, k2⟩
            have K2 := lH (K1.out.tr k2)
            have F2 := lH (F1.out.kp k2)
            have p0 := F2.out.c0
            have p1 := F2.out.c1
            clear k2
            go_wp2_with fail
            refine (HT.out _ K2.out).mono ?_; rintro e0 w3 ⟨rfl, k3⟩
            have K3 := lH (K2.out.tr k3)
            clear k3 p0 p1
            go_wp2_with fail
            go_quiet (fail)
            go_wp2
            go_ret
            exact ⟨rfl, K3.out.tr (Kp.drewN_ _ _)⟩
          · have hlen : 0 < l.length := by omega
            obtain ⟨ad, P1, c1, Q1, d1, rfl, had, _, y1, _, hR⟩ := h.atv hlen
            have e0 : ad.add (0 * 3) = ad := by unfold Addr.add; simp
            rw [e0] at y1
            obtain ⟨sz, hsz⟩ := eX (l.getD 0 nd0).2.1
            rw [← hsz] at y1 hq
            obtain ⟨nz, hnz⟩ := eX sz.length
            rw [← hnz] at y1
            obtain ⟨y, hy⟩ := eX (sz == t.1)
            have HE : Hid (∀ V n, Kp w V → Calls Try.prog 36 #[.slice P1 nz c1, .slice P a e] (V.drewN n) fun e w'' => e = .returned (.bool y) ∧ ∃ m, w'' = V.drewN m) := fun V n kV => by
              refine quiet_e ?_
              rw [ha, hnz, hy, hsz]
              exact equal_any _ _ _ _ _ _ _ ((hR.r.s.kp kV).drewN n) ((hT.r.s.kp kV).drewN n)
            have HQ : Hid (∀ V, Kp w V → V.cell? ⟨ad.block, ad.off + 1, none⟩ = some (.slice P1 nz c1)) := fun V kV => (kV.cell (show (⟨ad.block, ad.off + 1, none⟩ : Addr).block < _ from had)).trans y1
            have hd0 : decide ((0 : Int) < (n : Int)) = true := decide_eq_true (by omega)
            have hd1 : decide (0 < n) = true := decide_eq_true (by omega)
            have hd2 : 0 < n := by omega
            have hd3 : (0 : Int) < (n : Int) := by omega
            cases y with
            | false =>
              obtain rfl : 20 = err := by rw [← hq, if_pos ⟨hlen, by intro g; rw [g] at hy; simp at hy⟩]
              clear hu hv hr hq h hc hn hs hT ha hb h0 hnl hz hlen had y1 hR e0 hsz hnz hy
              go_enter Try.func27, Try.ntmps27
              go_wp2_with fail
              refine (HC.out _ K0.out).mono ?_; rintro e0 w1 ⟨rfl, k1⟩
              have K1 := lH (K0.out.tr k1)
              have F1 := lH (F0.out.kp k1)
              clear k1
              go_wp2_with fail
              refine (HN.out _ K1.out).mono ?_; rintro e0 w2 ⟨rfl, k2⟩
              have K2 := lH (K1.out.tr k2)
              have F2 := lH (F1.out.kp k2)
              have p0 := F2.out.c0
              have p1 := F2.out.c1
              clear k2
              go_wp2_with fail
              refine (HT.out _ K2.out).mono ?_; rintro e0 w3 ⟨rfl, k3⟩
              have K3 := lH (K2.out.tr k3)
              have F3 := lH (F2.out.kp k3)
              clear k3 p0 p1
              have p0 := F3.out.c0
              have p1 := F3.out.c1
              have p2 := HQ.out _ K3.out
              go_wp2_with fail
              go_quiet ((go_at_call 36; exact HE.out _ _ K3.out))
              go_wp2
              go_ret
              exact ⟨rfl, K3.out.tr (Kp.drewN_ _ _)⟩
            | true =>
              have hst : sz = t.1 := by simpa using hy.symm
              rw [if_neg (fun g => g.2 hst)] at hq
              by_cases h16 : n = 16
              · obtain rfl : 171 = err := by rw [← hq, if_pos (by omega)]
                subst h16
                clear hu hv hr hq h hc hn hs hT ha hb h0 hnl hz hlen had y1 hR e0 hsz hnz hy hst
                go_enter Try.func27, Try.ntmps27
                go_wp2_with fail
                refine (HC.out _ K0.out).mono ?_; rintro e0 w1 ⟨rfl, k1⟩
                have K1 := lH (K0.out.tr k1)
                have F1 := lH (F0.out.kp k1)
                clear k1
                go_wp2_with fail
                refine (HN.out _ K1.out).mono ?_; rintro e0 w2 ⟨rfl, k2⟩
                have K2 := lH (K1.out.tr k2)
                have F2 := lH (F1.out.kp k2)
                have p0 := F2.out.c0
                have p1 := F2.out.c1
                clear k2
                go_wp2_with fail
                refine (HT.out _ K2.out).mono ?_; rintro e0 w3 ⟨rfl, k3⟩
                have K3 := lH (K2.out.tr k3)
                have F3 := lH (F2.out.kp k3)
                clear k3 p0 p1
                have p0 := F3.out.c0
                have p1 := F3.out.c1
                have p2 := HQ.out _ K3.out
                go_wp2_with fail
                go_quiet ((go_at_call 36; exact HE.out _ _ K3.out))
                go_wp2
                go_ret
                exact ⟨rfl, K3.out.tr (Kp.drewN_ _ _)⟩
              · obtain rfl : 0 = err := by rw [← hq, if_neg (by omega)]
                have h16' : ((n : Int) == 16) = false := by rw [beq_eq_false_iff_ne]; omega
                have h16'' : (n == 16) = false := by rw [beq_eq_false_iff_ne]; omega
                clear hu hv hr hq h hc hn hs hT ha hb h0 hnl hz hlen had y1 hR e0 hsz hnz hy hst
                go_enter Try.func27, Try.ntmps27
                go_wp2_with fail
                refine (HC.out _ K0.out).mono ?_; rintro e0 w1 ⟨rfl, k1⟩
                have K1 := lH (K0.out.tr k1)
                have F1 := lH (F0.out.kp k1)
                clear k1
                go_wp2_with fail
                refine (HN.out _ K1.out).mono ?_; rintro e0 w2 ⟨rfl, k2⟩
                have K2 := lH (K1.out.tr k2)
                have F2 := lH (F1.out.kp k2)
                have p0 := F2.out.c0
                have p1 := F2.out.c1
                clear k2
                go_wp2_with fail
                refine (HT.out _ K2.out).mono ?_; rintro e0 w3 ⟨rfl, k3⟩
                have K3 := lH (K2.out.tr k3)
                have F3 := lH (F2.out.kp k3)
                clear k3 p0 p1
                have p0 := F3.out.c0
                have p1 := F3.out.c1
                have p2 := HQ.out _ K3.out
                go_wp2_with fail
                go_quiet ((go_at_call 36; exact HE.out _ _ K3.out))
                go_wp2
                go_ret
                exact ⟨rfl, K3.out.tr (Kp.drewN_ _ _)⟩
end Go.Proofs.Ytdcpekkkenckeaa.Cz
